/- Whether a text is a token. -/
import Derived.Test.YtcdpkabbmdannaaDoorB
import Derived.Test.YtcdpkabbmdannaaDoorShelf
import Derived.WalkMore
namespace Go.Proofs.YtcdpkabbmdannaaDoor
open Go.RowKit HeadPlain

theorem bytes_mk (l : List UInt8) : bytes ⟨l.toArray⟩ = toN l := rfl
theorem bytes_toN (s : ByteArray) : bytes s = toN s.data.toList := rfl
theorem tokB_span (c : Nat) : tokB c = (spanB c || marks.contains c) := rfl
theorem index_span (k : Nat) (hk : k < 3) (W : World) : (Instr.index 53 (.agg spans.toArray) (.int .i64 (k : Int))).run Tryd.prog W = .ok (.agg #[.int .u8 ((([97, 65, 48] : List Nat).getD k 0 : Nat) : Int), .int .u8 ((([122, 90, 57] : List Nat).getD k 0 : Nat) : Int)]) W := by
  match k, hk with
  | 0, _ => show _ = _; kernel_rfl
  | 1, _ => show _ = _; kernel_rfl
  | 2, _ => show _ = _; kernel_rfl
def spanTo (c k : Nat) : Prop := ∀ j, j < k → ¬ (([97, 65, 48] : List Nat).getD j 0 ≤ c ∧ c ≤ ([122, 90, 57] : List Nat).getD j 0)
theorem spanTo_three {c : Nat} (h : spanTo c 3) : spanB c = false := by
  have h0 := h 0 (by decide)
  have h1 := h 1 (by decide)
  have h2 := h 2 (by decide)
  simp only [List.getD_cons_zero, List.getD_cons_succ] at h0 h1 h2
  unfold spanB
  simp only [Bool.or_eq_false_iff, Bool.and_eq_false_iff, decide_eq_false_iff_not]
  omega
theorem span_hit {c k : Nat} (hk : k < 3) (h : ([97, 65, 48] : List Nat).getD k 0 ≤ c ∧ c ≤ ([122, 90, 57] : List Nat).getD k 0) : spanB c = true := by
  unfold spanB
  simp only [Bool.or_eq_true, Bool.and_eq_true, decide_eq_true_eq]
  match k, hk with
  | 0, _ => simp at h; omega
  | 1, _ => simp at h; omega
  | 2, _ => simp at h; omega

set_option maxHeartbeats 1000000 in
set_option maxRecDepth 100000 in
/-- Whether a text is a token. -/
theorem token_any (s : ByteArray) (W : World) (hg : Globs W) (hs : s.size ≤ maxLen) : Calls Tryd.prog 23 #[.string s] W fun e w' => e = .returned (.bool (token (bytes s))) ∧ Sl (Below W.heap.size W w') := by
  unfold maxLen at hs
  have HG := Sl.mk hg
  clear hg
  have HI62 : Sl ((Tryd.prog.info? 53).map (·.size) = some spans.length) := ⟨by kernel_rfl⟩
  go_enter Tryd.func23, Tryd.ntmps23
  go_wp2
  go_step3
  go_wp2
  go_step3
  go_wp2
  go_loopw [8] (fun i wr => ∃ k : Nat, k ≤ s.size ∧ i = .int .i64 k ∧ Sl (Below W.heap.size W wr) ∧ Sl (∀ j, j < k → tokB ((bytes s).getD j 0) = true)) (fun i _ => s.size - (intOf i).toNat)
  case atStart => exact ⟨0, by omega, rfl, ⟨Below.refl _ _⟩, ⟨fun j hj => by omega⟩⟩
  case round =>
    rename World => W0
    obtain ⟨k, hk, rfl, HB, HA⟩ := hrel
    by_cases hlt : k < s.size
    · obtain ⟨c, hc⟩ : ∃ c, (s[k]'hlt).toNat = c := ⟨_, rfl⟩
      have HC : Sl ((bytes s).getD k 0 = c) := ⟨by rw [bytes_getD s k hlt, ← hc]; rfl⟩
      have HG2 : Sl (Globs W0) := ⟨HG.out.of HB.out⟩
      go_wp2_with (first | (refine wpList_load_mid rfl 53 (.global 0) rfl 0 0 rfl spans (.array 3 52) HG2.out.t Tryd.underlying53 rfl HI62.out ?_))
      have HIB : Sl (∀ V : World, Calls Tryd.prog 33 #[.string { data := #[33, 35, 36, 37, 38, 39, 42, 43, 45, 46, 94, 95, 96, 124, 126] }, .int .u8 (c : Int)] V fun e w' => e = .returned (.int .i64 (Lib.indexByte [33, 35, 36, 37, 38, 39, 42, 43, 45, 46, 94, 95, 96, 124, 126] (c : Int).toNat.toUInt8)) ∧ w' = V) := ⟨fun V => Tryd.strings_IndexByte _ _ V⟩
      obtain ⟨z, hz⟩ : ∃ z, Lib.indexByte [33, 35, 36, 37, 38, 39, 42, 43, 45, 46, 94, 95, 96, 124, 126] (c : Int).toNat.toUInt8 = z := ⟨_, rfl⟩
      have hc256 : c < 256 := by rw [← hc]; exact UInt8.toNat_lt _
      have HZ : Sl (decide (z < 0) = !marks.contains c) := ⟨by
        rw [← hz, indexByte_mem]
        rw [show ((c : Int).toNat.toUInt8).toNat = c from by rw [Int.toNat_natCast]; exact UInt8.toNat_ofNat_of_lt' hc256]
        rfl⟩
      rw [hz] at HIB
      clear hz
      go_loopw [12] (fun i wr => ∃ m : Nat, m ≤ 3 ∧ i = .int .i64 m ∧ Sl (Below W.heap.size W wr) ∧ Sl (spanTo c m)) (fun i _ => 3 - (intOf i).toNat)
      case atStart => exact ⟨0, by omega, rfl, HB, ⟨fun j hj => by omega⟩⟩
      case round =>
        obtain ⟨m, hm, rfl, HB2, HS⟩ := hrel
        by_cases hlm : m < 3
        · have hidx := index_span m hlm
          obtain ⟨x, hx⟩ : ∃ x, ([97, 65, 48] : List Nat).getD m 0 = x := ⟨_, rfl⟩
          obtain ⟨y, hy⟩ : ∃ y, ([122, 90, 57] : List Nat).getD m 0 = y := ⟨_, rfl⟩
          have HXY : Sl (([97, 65, 48] : List Nat).getD m 0 = x ∧ ([122, 90, 57] : List Nat).getD m 0 = y) := ⟨hx, hy⟩
          rw [hx, hy] at hidx
          clear hx hy
          by_cases h1 : x ≤ c
          · have h1' : decide ((x : Int) ≤ (c : Int)) = true := decide_eq_true (by omega)
            by_cases h2 : c ≤ y
            · have h2' : decide ((c : Int) ≤ (y : Int)) = true := decide_eq_true (by omega)
              have HSP : Sl (spanB c = true) := ⟨span_hit hlm (by rw [HXY.out.1, HXY.out.2]; exact ⟨h1, h2⟩)⟩
              have HTK : Sl (tokB c = true) := ⟨by rw [tokB_span, HSP.out]; rfl⟩
              go_wp2
              go_quiet (fail)
              go_wp2
              refine ⟨⟨k + 1, by omega, by go_num, ⟨?_⟩, ⟨fun j hj => ?_⟩⟩, by simp [intOf]; omega⟩
              · exact ((HB2.out.alloc HB2.out.size _).trans ((Still.below ⟨_, rfl⟩).mono (by rw [alloc_size]; have := HB2.out.size; omega)))
              · by_cases e : j = k
                · subst e; rw [HC.out]; exact HTK.out
                · exact HA.out j (by omega)
            · have h2' : decide ((c : Int) ≤ (y : Int)) = false := decide_eq_false (by omega)
              go_wp2
              go_quiet (fail)
              go_wp2
              refine ⟨⟨m + 1, by omega, by go_num, ⟨?_⟩, ⟨fun j hj => ?_⟩⟩, by simp [intOf]; omega⟩
              · exact ((HB2.out.alloc HB2.out.size _).trans ((Still.below ⟨_, rfl⟩).mono (by rw [alloc_size]; have := HB2.out.size; omega)))
              · by_cases e : j = m
                · subst e; rw [HXY.out.1, HXY.out.2]; omega
                · exact HS.out j (by omega)
          · have h1' : decide ((x : Int) ≤ (c : Int)) = false := decide_eq_false (by omega)
            go_wp2
            go_quiet (fail)
            go_wp2
            refine ⟨⟨m + 1, by omega, by go_num, ⟨?_⟩, ⟨fun j hj => ?_⟩⟩, by simp [intOf]; omega⟩
            · exact ((HB2.out.alloc HB2.out.size _).trans ((Still.below ⟨_, rfl⟩).mono (by rw [alloc_size]; have := HB2.out.size; omega)))
            · by_cases e : j = m
              · subst e; rw [HXY.out.1, HXY.out.2]; omega
              · exact HS.out j (by omega)
        · have hge : ((m : Int) < 3) = False := eq_false (by omega)
          have HSP : Sl (spanB c = false) := ⟨by
            obtain rfl : m = 3 := by omega
            exact spanTo_three HS.out⟩
          have HTK : Sl (tokB c = marks.contains c) := ⟨by rw [tokB_span, HSP.out]; rfl⟩
          by_cases hz0 : z < 0
          · have HTF : Sl (tokB c = false) := ⟨by
              have := HZ.out
              rw [decide_eq_true hz0] at this
              rw [HTK.out]
              cases h : marks.contains c with
              | false => rfl
              | true => rw [h] at this; cases this⟩
            go_wp2_with fail
            refine (HIB.out _).mono ?_
            rintro e w2 ⟨rfl, rfl⟩
            go_wp2
            rw [Exit.noGoto_ret]
            go_ret
            exact ⟨ret_bool (token_no k hlt (by rw [HC.out]; exact HTF.out)).symm, HB2⟩
          · have HTF : Sl (tokB c = true) := ⟨by
              have := HZ.out
              rw [decide_eq_false hz0] at this
              rw [HTK.out]
              cases h : marks.contains c with
              | false => rw [h] at this; cases this
              | true => rfl⟩
            go_wp2_with fail
            refine (HIB.out _).mono ?_
            rintro e w2 ⟨rfl, rfl⟩
            go_wp2
            refine ⟨⟨k + 1, by omega, by go_num, HB2, ⟨fun j hj => ?_⟩⟩, by simp [intOf]; omega⟩
            by_cases e : j = k
            · subst e; rw [HC.out]; exact HTF.out
            · exact HA.out j (by omega)
    · have hge : ((k : Int) < (s.size : Int)) = False := eq_false (by omega)
      have HT : Sl (token (bytes s) = decide (0 < s.size)) := ⟨token_yes (fun j hj => HA.out j (by omega))⟩
      have hq : (s.toList == []) = !decide (0 < s.size) := by
        rw [beq_bytes, ← bytes_length]
        cases h : bytes s <;> simp
      by_cases h0 : 0 < s.size
      · rw [decide_eq_true h0] at hq HT
        go_wp2
        rw [Exit.noGoto_ret]
        go_ret
        exact ⟨ret_bool (by rw [HT.out]), HB⟩
      · rw [decide_eq_false h0] at hq HT
        go_wp2
        rw [Exit.noGoto_ret]
        go_ret
        exact ⟨ret_bool (by rw [HT.out]), HB⟩
end Go.Proofs.YtcdpkabbmdannaaDoor
