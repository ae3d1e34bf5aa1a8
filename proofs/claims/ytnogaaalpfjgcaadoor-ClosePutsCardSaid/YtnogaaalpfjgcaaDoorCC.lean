/- close: a string's clone; check. -/
import Derived.Test.YtnogaaalpfjgcaaDoorCB
import Derived.Lib.BufferWrite
import Derived.Lib.UnsafeStr
set_option maxRecDepth 100000
namespace Go.Proofs.YtnogaaalpfjgcaaDoor
open Go.RowKit UtfPlain ClosePlain Utf

theorem size_zero {s : ByteArray} (h : s.size = 0) : s = { data := #[] } := ByteArray.ext (Array.eq_empty_of_size_eq_zero h)
theorem newClone_any (s : ByteArray) (w : World) (hm : s.size ≤ 1000000) : Calls Tryd.prog 29 #[.string s] w fun e w' => e = .returned (.string s) ∧ Sl (Below w.heap.size w w') := by
  by_cases h0 : s.size = 0
  · obtain rfl := size_zero h0
    clear h0 hm
    go_enter Tryd.func29, Tryd.ntmps29
    go_wp2
    go_ret
    exact ⟨rfl, ⟨Below.refl _ _⟩⟩
  · have hq : (((s.size : Nat) : Int) == 0) = false := beq_eq_false_iff_ne.2 (by omega)
    have hi5 : (Tryd.prog.info? 5).map (·.size) = some 1 := size5
    have hc5 : Tryd.prog.cellsOf 5 = 1 := by kernel_rfl
    have mk := make_u8 (s.size : Int) s.size rfl hm
    obtain ⟨M, hM⟩ : ∃ M, (u8s (zs s.size)).toArray = M := ⟨_, rfl⟩
    rw [hM] at mk
    have hMs : M.size = s.size := by rw [← hM, List.size_toArray, u8s_length]; simp [zs]
    obtain ⟨wa, hwa⟩ : ∃ w1, w.alloc (.cells M 5) = w1 := ⟨_, rfl⟩
    have ha : wa.heap[w.heap.size]? = some (.cells M 5 (0, 0)) := by rw [← hwa]; exact alloc_new _ _ _ rfl
    have hmk : (Instr.makeSlice 36 (.int .i64 (s.size : Int)) (.int .i64 (s.size : Int))).run Tryd.prog w = .ok (.slice (some ⟨w.heap.size, 0, none⟩) s.size s.size) wa := by rw [← hwa]; exact mk w
    have hcp := Lib.run_copy_row_string (P := Tryd.prog) wa 36 9 3 5 w.heap.size 0 s.size s.size s M 5 Tryd.underlying36 hi5 ha (Nat.le_refl _) (by omega)
    rw [List.take_zero, List.nil_append, List.drop_of_length_le (by rw [Array.length_toList]; omega), List.append_nil] at hcp
    obtain ⟨wb, hwb⟩ : ∃ w1, wa.setRow w.heap.size (Lib.byteCells s.data.toList).toArray = w1 := ⟨_, rfl⟩
    rw [hwb] at hcp
    have hb : wb.heap[w.heap.size]? = some (.cells (Lib.byteCells s.data.toList).toArray 5 (0, 0)) := by rw [← hwb]; exact setRow_heap _ _ M _ 5 (0, 0) ha
    have hne : s.data.toList ≠ [] := fun e => h0 (by rw [Lib.size_eq, e]; rfl)
    have hus := Lib.run_unsafeString_row (P := Tryd.prog) wb 54 3 9 5 Tryd.underlying54 hc5 w.heap.size s.size (by unfold World.shape?; rw [hb]; simp [Lib.byteCells_length]) s.data.toList hne (by rw [← Lib.size_eq]; omega) (by rw [← Lib.size_eq]; omega)
      (fun j x hx => by
        rw [Addr.add_mid, Nat.zero_add, cell_of_row _ _ _ _ _ _ hb, List.getElem?_toArray]
        simp [Lib.byteCells, hx])
    rw [← Lib.size_eq] at hus
    have HB : Sl (Below w.heap.size w (wb.freeze ⟨w.heap.size, 0, none⟩ s.size)) := ⟨by
      refine Lib.below_freeze (p := ⟨w.heap.size, 0, none⟩) ?_ (Nat.le_refl _) _
      have h1 : Below w.heap.size w wa := by rw [← hwa]; exact (Below.refl _ _).alloc (Nat.le_refl _) _
      refine h1.trans ?_
      rw [← hwb]
      exact ⟨rfl, rfl, rfl, by simp, fun k hk => setRow_other _ _ _ _ (by omega)⟩⟩
    clear hwa hwb ha hb hM hMs mk hne
    go_enter Tryd.func29, Tryd.ntmps29
    go_wp2
    go_ret
    exact ⟨rfl, HB⟩
theorem clone_any (s : ByteArray) (w : World) (hm : s.size ≤ 1000000) : Calls Tryd.prog 24 #[.string s] w fun e w' => e = .returned (.string s) ∧ Sl (Below w.heap.size w w') := by
  have C := newClone_any s w hm
  clear hm
  go_enter Tryd.func24, Tryd.ntmps24
  go_wp2_with fail
  refine C.mono ?_
  rintro e w1 ⟨rfl, HB⟩
  clear C
  go_wp2
  go_ret
  exact ⟨rfl, HB⟩
/-- What is wrong with a code and words. -/
def chkE (n : Int) (l : List Nat) : Nat := if valid n = false ∨ 123 < l.length then 110 else if ClosePlain.lets l = false then 111 else 0
theorem lets_vb (l : List Nat) : ClosePlain.lets l = vb l := rfl
theorem check_any (n : Int) (s : ByteArray) (w : World) (hg : Globs w) : Calls Tryd.prog 20 #[.int .i64 n, .string s] w fun e w' => e = .returned (.int .i64 (chkE n (bytes s) : Nat)) ∧ Sl (Below w.heap.size w w') := by
  have HG := Sl.mk hg
  have V := codeValid_any n w
  unfold chkE
  rw [bytes_length, lets_vb]
  obtain ⟨r, hr⟩ : ∃ r, valid n = r := ⟨_, rfl⟩
  rw [hr] at V ⊢
  clear hr hg
  cases r with
  | false =>
    rw [if_pos (.inl rfl)]
    go_enter Tryd.func20, Tryd.ntmps20
    go_wp2_with fail
    refine V.mono ?_
    rintro e w1 ⟨rfl, HB⟩
    clear V
    go_wp2
    go_ret
    exact ⟨rfl, HB⟩
  | true =>
    by_cases hs : s.size > 123
    · have hq : ((s.size : Int) > 123) = True := eq_true (by omega)
      rw [if_pos (.inr hs)]
      clear hs
      go_enter Tryd.func20, Tryd.ntmps20
      go_wp2_with fail
      refine V.mono ?_
      rintro e w1 ⟨rfl, HB⟩
      clear V
      go_wp2
      go_ret
      exact ⟨rfl, HB⟩
    · have hq : ((s.size : Int) > 123) = False := eq_false (by omega)
      rw [if_neg (by rintro (h | h); cases h; exact hs h)]
      have LB : Sl ((bytes s).length ≤ 100000) := ⟨by rw [bytes_length]; omega⟩
      obtain ⟨d, hd⟩ : ∃ d, vb (bytes s) = d := ⟨_, rfl⟩
      have HD := Sl.mk hd
      rw [hd]
      clear hs hd
      cases d with
      | true =>
        go_enter Tryd.func20, Tryd.ntmps20
        go_wp2_with fail
        refine V.mono ?_
        rintro e w1 ⟨rfl, HB⟩
        clear V
        obtain ⟨c2, w2, hc2, HV2, HX2⟩ := conv_str s w1
        have HB2 : Sl (Below w.heap.size w w2) := ⟨HB.out.trans (HX2.out.mono HB.out.size)⟩
        go_wp2_with fail
        refine (valid_ex w w2 (bytes s) _ _ HD.out HB2.out HG.out HV2.out LB.out).mono ?_
        rintro e w3 ⟨rfl, HX3, HB3⟩
        clear hc2
        go_wp2
        go_ret
        exact ⟨rfl, HB3⟩
      | false =>
        go_enter Tryd.func20, Tryd.ntmps20
        go_wp2_with fail
        refine V.mono ?_
        rintro e w1 ⟨rfl, HB⟩
        clear V
        obtain ⟨c2, w2, hc2, HV2, HX2⟩ := conv_str s w1
        have HB2 : Sl (Below w.heap.size w w2) := ⟨HB.out.trans (HX2.out.mono HB.out.size)⟩
        go_wp2_with fail
        refine (valid_ex w w2 (bytes s) _ _ HD.out HB2.out HG.out HV2.out LB.out).mono ?_
        rintro e w3 ⟨rfl, HX3, HB3⟩
        clear hc2
        go_wp2
        go_ret
        exact ⟨rfl, HB3⟩
end Go.Proofs.YtnogaaalpfjgcaaDoor
