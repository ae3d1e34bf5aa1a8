/- close: between, Valid's closure, Valid, Across. -/
import Derived.Test.YtimndpmbgfoofaaDoorClosePlain
import Derived.Test.YtimndpmbgfoofaaDoorUtA
import Derived.Lib.BufferWrite
import Derived.Lib.UnsafeStr
import Derived.Test.YtimndpmbgfoofaaDoorHeld
import Derived.Deep.DeepCutAuto
set_option maxRecDepth 100000
namespace Go.Proofs.YtimndpmbgfoofaaDoor.Cls
open Go.RowKit UtfPlain ClosePlain Utf

/-- Does a value lie between two? -/
def btw (lo n hi : Int) : Bool := decide (lo ≤ n) && decide (n ≤ hi)
theorem between_any (lo n hi : Int) (r : Bool) (hr : btw lo n hi = r) (w : World) : Calls Tryd.prog 80 #[.int .i64 lo, .int .i64 n, .int .i64 hi] w fun e w' => e = .returned (.bool r) ∧ w = w' := by
  subst hr
  unfold btw
  by_cases h1 : lo ≤ n
  · have e1 : (lo ≤ n) = True := eq_true h1
    by_cases h2 : n ≤ hi
    · have e2 : (n ≤ hi) = True := eq_true h2
      rw [decide_eq_true h1, decide_eq_true h2]
      clear h1 h2
      go_enter Tryd.func80, Tryd.ntmps80
      go_wp2
      go_ret
      exact ⟨rfl, rfl⟩
    · have e2 : (n ≤ hi) = False := eq_false h2
      rw [decide_eq_true h1, decide_eq_false h2]
      clear h1 h2
      go_enter Tryd.func80, Tryd.ntmps80
      go_wp2
      go_ret
      exact ⟨rfl, rfl⟩
  · have e1 : (lo ≤ n) = False := eq_false h1
    rw [decide_eq_false h1]
    clear h1
    go_enter Tryd.func80, Tryd.ntmps80
    go_wp2
    go_ret
    exact ⟨rfl, rfl⟩
theorem cell_of_one {W : World} {g : Nat} {v : Value} {t : TypeId} (h : W.heap[g]? = some (.cells #[v] t (0, 0))) : W.cell? ⟨g, 0, none⟩ = some v := by rw [cell_of_row _ _ _ _ _ _ h]; rfl
theorem from_any (lo n hi : Int) (C : Nat) (r : Bool) (hr : btw lo n hi = r) (W : World) (hC : W.heap[C]? = some (.cells #[.int .i64 n] 3 (0, 0))) :
    Calls Tryd.prog 79 #[.int .i64 lo, .int .i64 hi, .pointer (some ⟨C, 0, none⟩)] W fun e w' => e = .returned (.bool r) ∧ W = w' := by
  have hc := cell_of_one hC
  have B := between_any lo n hi r hr W
  clear hr hC
  go_enter Tryd.func79, Tryd.ntmps79
  go_wp2_with fail
  refine B.mono ?_
  rintro e w1 ⟨rfl, rfl⟩
  go_wp2
  go_ret
  exact ⟨rfl, rfl⟩
theorem valid_btw (n : Int) : valid n = (btw 1000 n 1003 || (btw 1007 n 1011 || btw 3000 n 4999)) := rfl
theorem codeValid_any (n : Int) (w : World) : Calls Tryd.prog 75 #[.int .i64 n] w fun e w' => e = .returned (.bool (valid n)) ∧ Sl (Below w.heap.size w w') := by
  rw [valid_btw]
  obtain ⟨a, ha⟩ : ∃ x, btw 1000 n 1003 = x := ⟨_, rfl⟩
  obtain ⟨b, hb⟩ : ∃ x, btw 1007 n 1011 = x := ⟨_, rfl⟩
  obtain ⟨c, hc⟩ : ∃ x, btw 3000 n 4999 = x := ⟨_, rfl⟩
  rw [ha, hb, hc]
  obtain ⟨wa, hwa⟩ : ∃ w1, w.alloc (.cells #[.int .i64 n] 3) = w1 := ⟨_, rfl⟩
  have HB : Sl (Below w.heap.size w wa) := ⟨by rw [← hwa]; exact (Below.refl _ _).alloc (Nat.le_refl _) _⟩
  have F1 := from_any 1000 n 1003 w.heap.size a ha wa (by rw [← hwa]; exact alloc_new _ _ _ rfl)
  have F2 := from_any 1007 n 1011 w.heap.size b hb wa (by rw [← hwa]; exact alloc_new _ _ _ rfl)
  have F3 := from_any 3000 n 4999 w.heap.size c hc wa (by rw [← hwa]; exact alloc_new _ _ _ rfl)
  clear ha hb hc
  cases a with
  | true =>
    go_enter Tryd.func75, Tryd.ntmps75
    go_wp2_with fail
    refine F1.mono ?_
    rintro e w1 ⟨rfl, rfl⟩
    clear F1 F2 F3
    go_wp2
    go_ret
    exact ⟨rfl, HB⟩
  | false =>
    cases b with
    | true =>
      go_enter Tryd.func75, Tryd.ntmps75
      go_wp2_with fail
      refine F1.mono ?_
      rintro e w1 ⟨rfl, rfl⟩
      go_wp2_with fail
      refine F2.mono ?_
      rintro e w1 ⟨rfl, rfl⟩
      clear F1 F2 F3
      go_wp2
      go_ret
      exact ⟨rfl, HB⟩
    | false =>
      go_enter Tryd.func75, Tryd.ntmps75
      go_wp2_with fail
      refine F1.mono ?_
      rintro e w1 ⟨rfl, rfl⟩
      go_wp2_with fail
      refine F2.mono ?_
      rintro e w1 ⟨rfl, rfl⟩
      go_wp2_with fail
      refine F3.mono ?_
      rintro e w1 ⟨rfl, rfl⟩
      clear F1 F2 F3
      go_wp2
      go_ret
      exact ⟨rfl, HB⟩
end Go.Proofs.YtimndpmbgfoofaaDoor.Cls
/- close: Across, Index, Contains, Code. -/
set_option maxRecDepth 100000
namespace Go.Proofs.YtimndpmbgfoofaaDoor.Cls
open Go.RowKit UtfPlain ClosePlain Utf

/-- A row of numbers of 64 bits. -/
def IntsAt (W : World) (g : Nat) (l : List Int) : Prop := W.heap[g]? = some (.cells (l.map (Value.int .i64)).toArray 24 (0, 0))
theorem IntsAt.cell {W : World} {g : Nat} {l : List Int} (h : IntsAt W g l) (k : Nat) (hk : k < l.length) : W.cell? ⟨g, k, none⟩ = some (.int .i64 (l.getD k 0)) := by
  rw [cell_of_row _ _ _ _ _ _ h]
  rw [List.getElem?_toArray, List.getElem?_map, List.getElem?_eq_getElem hk, List.getD_eq_getElem?_getD, List.getElem?_eq_getElem hk]
  rfl
theorem codeC_in (e : Int) : codeC e = if decide (e ∈ [0]) = true then 1000 else if decide (e ∈ [91, 100, 110, 120]) = true then 1002 else if decide (e ∈ [111, 122]) = true then 1007 else if decide (e ∈ [92, 121]) = true then 1009 else 1011 := by
  unfold codeC
  simp only [decide_eq_true_eq, List.mem_cons, List.not_mem_nil, or_false]
end Go.Proofs.YtimndpmbgfoofaaDoor.Cls
/- close: a string's clone; check. -/
set_option maxRecDepth 100000
namespace Go.Proofs.YtimndpmbgfoofaaDoor.Cls
open Go.RowKit UtfPlain ClosePlain Utf

theorem size_zero {s : ByteArray} (h : s.size = 0) : s = { data := #[] } := ByteArray.ext (Array.eq_empty_of_size_eq_zero h)
theorem newClone_any (s : ByteArray) (w : World) (hm : s.size ≤ 1000000) : Calls Tryd.prog 52 #[.string s] w fun e w' => e = .returned (.string s) ∧ Sl (Below w.heap.size w w') := by
  by_cases h0 : s.size = 0
  · obtain rfl := size_zero h0
    clear h0 hm
    go_enter Tryd.func52, Tryd.ntmps52
    go_wp2
    go_ret
    exact ⟨rfl, ⟨Below.refl _ _⟩⟩
  · have hq : (((s.size : Nat) : Int) == 0) = false := beq_eq_false_iff_ne.2 (by omega)
    have hi5 : (Tryd.prog.info? 5).map (·.size) = some 1 := size5
    have hc5 : Tryd.prog.cellsOf 5 = 1 := by kernel_rfl
    have mk := make_u8 (s.size : Int) s.size rfl hm
    obtain ⟨M, hM⟩ : ∃ M, (u8s (zs s.size)).toArray = M := ⟨_, rfl⟩
    rw [hM] at mk
    have hMs : M.size = s.size := by rw [← hM, List.size_toArray, u8s_length]; simp [zs]
    obtain ⟨wa, hwa⟩ : ∃ w1, w.alloc (.cells M 5) = w1 := ⟨_, rfl⟩
    have ha : wa.heap[w.heap.size]? = some (.cells M 5 (0, 0)) := by rw [← hwa]; exact alloc_new _ _ _ rfl
    have hmk : (Instr.makeSlice 36 (.int .i64 (s.size : Int)) (.int .i64 (s.size : Int))).run Tryd.prog w = .ok (.slice (some ⟨w.heap.size, 0, none⟩) s.size s.size) wa := by rw [← hwa]; exact mk w
    have hcp := Lib.run_copy_row_string (P := Tryd.prog) wa 36 9 3 5 w.heap.size 0 s.size s.size s M 5 Tryd.underlying36 hi5 ha (Nat.le_refl _) (by omega)
    rw [List.take_zero, List.nil_append, List.drop_of_length_le (by rw [Array.length_toList]; omega), List.append_nil] at hcp
    obtain ⟨wb, hwb⟩ : ∃ w1, wa.setRow w.heap.size (Lib.byteCells s.data.toList).toArray = w1 := ⟨_, rfl⟩
    rw [hwb] at hcp
    have hb : wb.heap[w.heap.size]? = some (.cells (Lib.byteCells s.data.toList).toArray 5 (0, 0)) := by rw [← hwb]; exact setRow_heap _ _ M _ 5 (0, 0) ha
    have hne : s.data.toList ≠ [] := fun e => h0 (by rw [Lib.size_eq, e]; rfl)
    have hus := Lib.run_unsafeString_row (P := Tryd.prog) wb 108 3 9 5 Tryd.underlying108 hc5 w.heap.size s.size (by unfold World.shape?; rw [hb]; simp [Lib.byteCells_length]) s.data.toList hne (by rw [← Lib.size_eq]; omega) (by rw [← Lib.size_eq]; omega)
      (fun j x hx => by
        rw [Addr.add_mid, Nat.zero_add, cell_of_row _ _ _ _ _ _ hb, List.getElem?_toArray]
        simp [Lib.byteCells, hx])
    rw [← Lib.size_eq] at hus
    have HB : Sl (Below w.heap.size w (wb.freeze ⟨w.heap.size, 0, none⟩ s.size)) := ⟨by
      refine Lib.below_freeze (p := ⟨w.heap.size, 0, none⟩) ?_ (Nat.le_refl _) _
      have h1 : Below w.heap.size w wa := by rw [← hwa]; exact (Below.refl _ _).alloc (Nat.le_refl _) _
      refine h1.trans ?_
      rw [← hwb]
      exact ⟨rfl, rfl, rfl, by simp, fun k hk => setRow_other _ _ _ _ (by omega)⟩⟩
    clear hwa hwb ha hb hM hMs mk hne
    go_enter Tryd.func52, Tryd.ntmps52
    go_wp2
    go_ret
    exact ⟨rfl, HB⟩
theorem clone_any (s : ByteArray) (w : World) (hm : s.size ≤ 1000000) : Calls Tryd.prog 38 #[.string s] w fun e w' => e = .returned (.string s) ∧ Sl (Below w.heap.size w w') := by
  have C := newClone_any s w hm
  clear hm
  go_enter Tryd.func38, Tryd.ntmps38
  go_wp2_with fail
  refine C.mono ?_
  rintro e w1 ⟨rfl, HB⟩
  clear C
  go_wp2
  go_ret
  exact ⟨rfl, HB⟩
/-- What is wrong with a code and words. -/
def chkE (n : Int) (l : List Nat) : Nat := if valid n = false ∨ 123 < l.length then 110 else if ClosePlain.lets l = false then 111 else 0
theorem lets_vb (l : List Nat) : ClosePlain.lets l = vb l := rfl
theorem check_any (n : Int) (s : ByteArray) (w : World) (hg : Globs w) : Calls Tryd.prog 70 #[.int .i64 n, .string s] w fun e w' => e = .returned (.int .i64 (chkE n (bytes s) : Nat)) ∧ Sl (Below w.heap.size w w') := by
  have HG := Sl.mk hg
  have V := codeValid_any n w
  unfold chkE
  rw [bytes_length, lets_vb]
  obtain ⟨r, hr⟩ : ∃ r, valid n = r := ⟨_, rfl⟩
  rw [hr] at V ⊢
  clear hr hg
  cases r with
  | false =>
    rw [if_pos (.inl rfl)]
    go_enter Tryd.func70, Tryd.ntmps70
    go_wp2_with fail
    refine V.mono ?_
    rintro e w1 ⟨rfl, HB⟩
    clear V
    go_wp2
    go_ret
    exact ⟨rfl, HB⟩
  | true =>
    by_cases hs : s.size > 123
    · have hq : ((s.size : Int) > 123) = True := eq_true (by omega)
      rw [if_pos (.inr hs)]
      clear hs
      go_enter Tryd.func70, Tryd.ntmps70
      go_wp2_with fail
      refine V.mono ?_
      rintro e w1 ⟨rfl, HB⟩
      clear V
      go_wp2
      go_ret
      exact ⟨rfl, HB⟩
    · have hq : ((s.size : Int) > 123) = False := eq_false (by omega)
      rw [if_neg (by rintro (h | h); cases h; exact hs h)]
      have LB : Sl ((bytes s).length ≤ 100000) := ⟨by rw [bytes_length]; omega⟩
      obtain ⟨d, hd⟩ : ∃ d, vb (bytes s) = d := ⟨_, rfl⟩
      have HD := Sl.mk hd
      rw [hd]
      clear hs hd
      cases d with
      | true =>
        go_enter Tryd.func70, Tryd.ntmps70
        go_wp2_with fail
        refine V.mono ?_
        rintro e w1 ⟨rfl, HB⟩
        clear V
        obtain ⟨c2, w2, hc2, HV2, HX2⟩ := conv_str s w1
        have HB2 : Sl (Below w.heap.size w w2) := ⟨HB.out.trans (HX2.out.mono HB.out.size)⟩
        go_wp2_with fail
        refine (valid_ex w w2 (bytes s) _ _ HD.out HB2.out HG.out HV2.out LB.out).mono ?_
        rintro e w3 ⟨rfl, HX3, HB3⟩
        clear hc2
        go_wp2
        go_ret
        exact ⟨rfl, HB3⟩
      | false =>
        go_enter Tryd.func70, Tryd.ntmps70
        go_wp2_with fail
        refine V.mono ?_
        rintro e w1 ⟨rfl, HB⟩
        clear V
        obtain ⟨c2, w2, hc2, HV2, HX2⟩ := conv_str s w1
        have HB2 : Sl (Below w.heap.size w w2) := ⟨HB.out.trans (HX2.out.mono HB.out.size)⟩
        go_wp2_with fail
        refine (valid_ex w w2 (bytes s) _ _ HD.out HB2.out HG.out HV2.out LB.out).mono ?_
        rintro e w3 ⟨rfl, HX3, HB3⟩
        clear hc2
        go_wp2
        go_ret
        exact ⟨rfl, HB3⟩
end Go.Proofs.YtimndpmbgfoofaaDoor.Cls
/- close: Put, Get. -/
set_option maxRecDepth 100000
namespace Go.Proofs.YtimndpmbgfoofaaDoor.Cls
open Go.RowKit UtfPlain ClosePlain Utf

theorem bytes_nil {s : ByteArray} (h : s.size = 0) : bytes s = [] := List.eq_nil_of_length_eq_zero (by rw [bytes_length, h])
theorem nil_size {s : ByteArray} (h : bytes s = []) : s.size = 0 := by rw [← bytes_length, h]; rfl
theorem empty_no {s : ByteArray} (h : s.size ≠ 0) : (s.toList == []) = false := by
  rw [beq_bytes, decide_eq_false]
  intro e
  exact h (by rw [← bytes_length, e]; rfl)
theorem put_chk {n : Int} {l : List Nat} (h : ¬ (n = 0 ∧ l = [])) : putC n l = if chkE n l = 0 then (two n.toNat ++ l, 0) else ([], chkE n l) := by
  unfold putC chkE
  rw [if_neg h]
  by_cases h1 : valid n = false ∨ 123 < l.length
  · rw [if_pos h1, if_pos h1]; rfl
  rw [if_neg h1, if_neg h1]
  by_cases h2 : ClosePlain.lets l = false
  · rw [if_pos h2, if_pos h2]; rfl
  · rw [if_neg h2, if_neg h2]; rfl
theorem chk_zero {n : Int} {l : List Nat} (h : chkE n l = 0) : valid n = true ∧ l.length ≤ 123 ∧ ClosePlain.lets l = true := by
  unfold chkE at h
  by_cases h1 : valid n = false ∨ 123 < l.length
  · rw [if_pos h1] at h; cases h
  rw [if_neg h1] at h
  by_cases h2 : ClosePlain.lets l = false
  · rw [if_pos h2] at h; cases h
  · exact ⟨by by_cases hv : valid n = true; exact hv; exact absurd (.inl (by simpa using hv)) h1, by omega, by simpa using h2⟩
end Go.Proofs.YtimndpmbgfoofaaDoor.Cls
/- close: Get. -/
set_option maxRecDepth 100000
namespace Go.Proofs.YtimndpmbgfoofaaDoor.Cls
open Go.RowKit UtfPlain ClosePlain Utf

theorem or_two (x y : Nat) (hx : x < 256) (hy : y < 256) : bits .or .i64 ((256 * x : Nat) : Int) (y : Int) = ((256 * x + y : Nat) : Int) := by
  have h : 256 * x ||| y = 256 * x + y := nat_join 8 (256 * x) y (by omega) (by omega)
  show IntKind.i64.wrap ((BitVec.ofInt 64 ((256 * x : Nat) : Int) ||| BitVec.ofInt 64 (y : Int)).toNat : Int) = _
  rw [BitVec.toNat_or, ofInt_u64 _ (by omega), ofInt_u64 _ (by omega), h, IntKind.wrap_i64]
  omega
theorem get_chk (x y : Nat) (l : List Nat) : getC (x :: y :: l) = if chkE ((256 * x + y : Nat) : Int) l = 0 then (((256 * x + y : Nat) : Int), l, 0) else (0, [], chkE ((256 * x + y : Nat) : Int) l) := by
  rw [getC_two]
  by_cases h1 : 123 < l.length ∨ valid ((256 * x + y : Nat) : Int) = false
  · rw [if_pos h1, show chkE ((256 * x + y : Nat) : Int) l = 110 from if_pos h1.symm]; rfl
  have n1 : ¬ (valid ((256 * x + y : Nat) : Int) = false ∨ 123 < l.length) := fun h => h1 h.symm
  rw [if_neg h1]
  by_cases h2 : ClosePlain.lets l = false
  · rw [if_pos h2, show chkE ((256 * x + y : Nat) : Int) l = 111 from by unfold chkE; rw [if_neg n1, if_pos h2]]; rfl
  · rw [if_neg h2, show chkE ((256 * x + y : Nat) : Int) l = 0 from by unfold chkE; rw [if_neg n1, if_neg h2]]; rfl
/-- What Get answers, as a value. -/
def gotV (r : Int × List Nat × Nat) : Value := .tuple #[.int .i64 r.1, .string (strOf r.2.1), .int .i64 (r.2.2 : Nat)]
theorem two_bytes {s : ByteArray} (h : 2 ≤ s.size) : ∃ x y, bytes s = x :: y :: bytes (s.extract 2 s.size) ∧ x < 256 ∧ y < 256 ∧ (s[0]'(by omega)).toNat = x ∧ (s[1]'(by omega)).toNat = y := by
  have he : bytes (s.extract 2 s.size) = (bytes s).drop 2 := by
    rw [bytes_extract, List.take_of_length_le (by rw [bytes_length]; exact Nat.le_refl _)]
  have hs := bytes_small s
  have g0 := bytes_getD s 0 (by omega)
  have g1 := bytes_getD s 1 (by omega)
  have hl := bytes_length s
  rw [he]
  match hb : bytes s with
  | [] => rw [hb] at hl; simp at hl; omega
  | [_] => rw [hb] at hl; simp at hl; omega
  | x :: y :: r =>
    rw [hb] at hs g0 g1
    exact ⟨x, y, rfl, hs x (by simp), hs y (by simp), g0.symm, g1.symm⟩
theorem get_any (s : ByteArray) (w : World) (hg : Globs w) (hm : s.size ≤ 1000000) : Calls Tryd.prog 64 #[.string s] w fun e w' => e = .returned (gotV (getC (bytes s))) ∧ Sl (Below w.heap.size w w') := by
  by_cases h0 : s.size = 0
  · obtain rfl := size_zero h0
    clear h0 hm
    go_enter Tryd.func64, Tryd.ntmps64
    go_wp2
    go_ret3
    exact ⟨rfl, ⟨Below.refl _ _⟩⟩
  have hse := empty_no h0
  by_cases h1 : s.size < 2
  · have hq : ((s.size : Int) < 2) = True := eq_true (by omega)
    have HR : Sl (getC (bytes s) = (0, [], 110)) := ⟨by
      have := bytes_length s
      match hb : bytes s with
      | [] => rw [hb] at this; simp at this; omega
      | [_] => rfl
      | _ :: _ :: _ => rw [hb] at this; simp at this; omega⟩
    clear h0 h1 hm
    go_enter Tryd.func64, Tryd.ntmps64
    go_wp2
    go_ret3
    exact ⟨by rw [HR.out]; rfl, ⟨Below.refl _ _⟩⟩
  have hq : ((s.size : Int) < 2) = False := eq_false (by omega)
  obtain ⟨x, y, hb, hx, hy, hx0, hy0⟩ := two_bytes (s := s) (by omega)
  have h0s : 0 < s.size := by omega
  have h1s : 1 < s.size := by omega
  have hi0 : (s[0]'h0s).toNat = x := hx0
  have hi1 : (s[1]'h1s).toNat = y := hy0
  clear hx0 hy0
  obtain ⟨t, ht⟩ : ∃ t, s.extract 2 s.size = t := ⟨_, rfl⟩
  have htm : t.size ≤ 1000000 := by rw [← ht, ByteArray.size_extract]; omega
  rw [ht] at hb
  rw [hb, get_chk]
  obtain ⟨X, hX⟩ : ∃ X, 256 * x = X := ⟨_, rfl⟩
  have e1 : (x : Int) * 256 = (X : Int) := by omega
  obtain ⟨K, hK⟩ : ∃ K, 256 * x + y = K := ⟨_, rfl⟩
  have e2 : bits .or .i64 (X : Int) (y : Int) = (K : Int) := by rw [← hX, ← hK]; exact or_two x y hx hy
  have BD : Below w.heap.size w w.drew := (Below.refl _ _).drew
  have CH := check_any (K : Int) t w.drew (hg.below BD hg.size)
  have HD := Sl.mk BD
  clear BD
  rw [hK]
  obtain ⟨k, hk⟩ : ∃ k, chkE (K : Int) (bytes t) = k := ⟨_, rfl⟩
  rw [hk] at CH ⊢
  have hXs : X < 65536 := by omega
  have z1 : IntKind.i64.wrap (x : Int) = (x : Int) := by rw [IntKind.wrap_i64]; omega
  have z2 : IntKind.i64.wrap (y : Int) = (y : Int) := by rw [IntKind.wrap_i64]; omega
  have z3 : IntKind.i64.wrap (X : Int) = (X : Int) := by rw [IntKind.wrap_i64]; omega
  have k1 : ((1 : Int) < (s.size : Int)) = True := eq_true (by omega)
  have k2 : ((2 : Int) ≤ (s.size : Int)) = True := eq_true (by omega)
  have HM := Sl.mk htm
  clear hb hX hK hx hy hk htm h1 h0 hm hg
  by_cases hk0 : k = 0
  · subst hk0
    rw [if_pos rfl, gotV, strOf_bytes]
    go_enter Tryd.func64, Tryd.ntmps64
    go_upto_region 5 with fail
    go_still (by kernel_rfl)
    go_wp2_with fail
    refine CH.mono ?_
    rintro e w1 ⟨rfl, HX⟩
    have HB : Sl (Below w.heap.size w w1) := ⟨HD.out.trans HX.out⟩
    clear CH HX
    have CL := clone_any t w1 HM.out
    go_wp2_with fail
    refine CL.mono ?_
    rintro e w2 ⟨rfl, HB2⟩
    clear CL
    go_wp2
    go_ret3
    exact ⟨rfl, ⟨HB.out.trans (HB2.out.mono HB.out.size)⟩⟩
  · rw [if_neg hk0, gotV, show strOf [] = { data := #[] } from rfl]
    have hkq : ((k : Int) == 0) = false := beq_eq_false_iff_ne.2 (by omega)
    clear hk0
    go_enter Tryd.func64, Tryd.ntmps64
    go_upto_region 5 with fail
    go_still (by kernel_rfl)
    go_wp2_with fail
    refine CH.mono ?_
    rintro e w1 ⟨rfl, HX⟩
    have HB : Sl (Below w.heap.size w w1) := ⟨HD.out.trans HX.out⟩
    clear CH HX
    go_wp2
    go_ret3
    exact ⟨rfl, HB⟩
end Go.Proofs.YtimndpmbgfoofaaDoor.Cls
/- close: forms for use; awake. -/
set_option maxRecDepth 100000
namespace Go.Proofs.YtimndpmbgfoofaaDoor.Cls
open Go.RowKit UtfPlain ClosePlain Utf

theorem valid_ex' (w0 W : World) (n : Int) (r : Bool) (hr : valid n = r) (hB : Below w0.heap.size w0 W) : Calls Tryd.prog 75 #[.int .i64 n] W fun e w' => e = .returned (.bool r) ∧ Sl (Below w0.heap.size w0 w') :=
  (codeValid_any n W).mono fun _ _ ⟨he, h1⟩ => ⟨by rw [he, hr], ⟨hB.trans (h1.out.mono hB.size)⟩⟩
theorem get_ex (w0 W : World) (s t : ByteArray) (n : Int) (k : Nat) (h : getC (bytes s) = (n, bytes t, k)) (hm : s.size ≤ 1000000) (hB : Below w0.heap.size w0 W) (hg : Globs w0) :
    Calls Tryd.prog 64 #[.string s] W fun e w' => e = .returned (.tuple #[.int .i64 n, .string t, .int .i64 (k : Int)]) ∧ Sl (Below w0.heap.size w0 w') :=
  (get_any s W (hg.below hB hg.size) hm).mono fun _ _ ⟨he, h1⟩ => ⟨by rw [he, h, gotV, strOf_bytes], ⟨hB.trans (h1.out.mono hB.size)⟩⟩
/-- What Put answers, as a string. -/
theorem put_str (n : Int) (s : ByteArray) : ∃ t k, putC n (bytes s) = (bytes t, k) := by
  refine ⟨strOf (putC n (bytes s)).1, (putC n (bytes s)).2, ?_⟩
  rw [bytes_strOf _ (put_small (bytes_small s) (s := (putC n (bytes s)).1) (e := (putC n (bytes s)).2) rfl)]
/-- What Get answers, as strings. -/
theorem get_str (s : ByteArray) : ∃ n t k, getC (bytes s) = (n, bytes t, k) := by
  have h : ∃ n l k, getC (bytes s) = (n, l, k) ∧ ∀ y ∈ l, y < 256 := by
    have hs := bytes_small s
    match hb : bytes s with
    | [] => exact ⟨_, _, _, rfl, fun y hy => by cases hy⟩
    | [_] => exact ⟨_, _, _, rfl, fun y hy => by cases hy⟩
    | x :: y :: r =>
      rw [hb] at hs
      rw [get_chk]
      by_cases h : chkE ((256 * x + y : Nat) : Int) r = 0
      · rw [if_pos h]; exact ⟨_, _, _, rfl, fun z hz => hs z (by simp [hz])⟩
      · rw [if_neg h]; exact ⟨_, _, _, rfl, fun y hy => by cases hy⟩
  obtain ⟨n, l, k, h1, h2⟩ := h
  exact ⟨n, strOf l, k, by rw [h1, bytes_strOf l h2]⟩
end Go.Proofs.YtimndpmbgfoofaaDoor.Cls
