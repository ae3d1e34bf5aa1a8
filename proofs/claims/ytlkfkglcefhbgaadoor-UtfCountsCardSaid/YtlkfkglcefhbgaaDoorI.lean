/- UtfAscii, the walk: whatever string and byte are handed over, the law's Go text returns true, and nothing that was in memory changes. Conditions: the table of package utf is as its text lays it; the string fits in memory; the byte is a number of its kind. -/
import Derived.Test.YtlkfkglcefhbgaaDoorH
namespace Go.Proofs.YtlkfkglcefhbgaaDoor
open Go.RowKit

theorem small_run (bs : List Nat) (h : Small 128 bs) : uend s0 bs = some s0 ∧ ucount s0 bs = bs.length := by
  induction bs with
  | nil => exact ⟨rfl, rfl⟩
  | cons x r ih =>
    have hx := h x (by simp)
    have hr := ih (fun y hy => h y (List.mem_cons_of_mem x hy))
    have hs : ustep s0 x = some s0 := by rw [ustep0]; exact lead1 hx
    constructor
    · simp only [uend, hs]; exact hr.1
    · simp only [ucount, hs, List.length_cons]; rw [hr.2]; rfl
theorem vb_small {bs : List Nat} (h : Small 128 bs) : vb bs = true := decide_eq_true (small_run bs h).1
theorem cb_small {bs : List Nat} (h : Small 128 bs) : cb bs = bs.length := by unfold cb; rw [if_pos (vb_small h)]; exact (small_run bs h).2
theorem vb_one (b : Nat) : vb [b] = decide (b < 128) := by
  unfold vb
  refine decide_eq_decide.2 ?_
  have e : uend s0 [b] = lead b := by
    simp only [uend]
    rw [ustep0]
    cases lead b <;> rfl
  rw [e]
  constructor
  · intro h
    by_cases q : b < 128
    · exact q
    · exfalso
      unfold lead at h
      rw [if_neg q] at h
      repeat' split at h
      all_goals first | (injection h with h; injection h with h; cases h) | cases h
  · exact lead1
theorem small_of_all {s : ByteArray} (h : ∀ j, j < s.size → (bytes s).getD j 0 < 128) : Small 128 (bytes s) := by
  intro x hx
  obtain ⟨i, hi, rfl⟩ := List.getElem_of_mem hx
  have := h i (by rw [← bytes_length]; exact hi)
  simpa [List.getD, List.getElem?_eq_getElem hi] using this
theorem vb_add {s : ByteArray} {b : Nat} (h : Small 128 (bytes s)) (hb : b < 256) : vb (bytes (s ++ strOf [b])) = decide (b < 128) := by
  rw [bytes_append, vb_append (vb_small h), bytes_strOf _ (fun x hx => by simp at hx; omega)]
  exact vb_one b

/-- The string of a new row of one byte. -/
theorem conv_one (W : World) (b : Nat) (_hb : b < 256) : (convert 28 9 (.slice (some ⟨W.heap.size, 0, none⟩) 1 1)).run Tryd.prog (W.alloc (.cells #[.int .u8 b] 5)) = .ok (.string (strOf [b])) (W.alloc (.cells #[.int .u8 b] 5)) := by
  refine run_convert_bytes_arg _ 28 5 Tryd.underlying28 Tryd.underlying5 W.heap.size 0 1 1 ([b].map fun (n : Nat) => (n : Int)) (by simp) (fun i hi => ?_) 9 Tryd.underlying9
  have hi' : i = 0 := by simp at hi; omega
  subst hi'
  rw [Nat.zero_add, cell_of_row _ _ _ _ _ _ (alloc_new _ _ _ rfl)]
  rfl

set_option maxHeartbeats 400000 in
theorem ascii_long (s : ByteArray) (b : Nat) (w : World) (hg : Globs w) (h : 100 < s.size) (hs : s.size ≤ maxLen) :
    Calls Tryd.prog 9 #[.string s, .int .u8 b] w fun e w' => e = .returned (.bool true) ∧ Below w.heap.size w w' := by
  unfold maxLen at hs
  have HG := Sl.mk hg
  clear hg
  go_enter Tryd.func9, Tryd.ntmps9
  go_wp2_with fail
  refine (awake_ex w _ (Below.refl _ _) HG.out).mono ?_
  rintro e w1 ⟨rfl, HX1, HB1⟩
  go_wp2_with fail
  refine (awake_ex w _ HB1.out HG.out).mono ?_
  rintro e w2 ⟨rfl, HX2, HB2⟩
  go_wp2
  go_ret
  exact ⟨rfl, HB2.out⟩

set_option maxHeartbeats 1000000 in
set_option maxRecDepth 100000 in
theorem ascii_short (s : ByteArray) (b : Nat) (w : World) (hg : Globs w) (h : s.size ≤ 100) (hb : b < 256) :
    Calls Tryd.prog 9 #[.string s, .int .u8 b] w fun e w' => e = .returned (.bool true) ∧ Below w.heap.size w w' := by
  have HG := Sl.mk hg
  clear hg
  have LS : Sl ((bytes s).length = s.size) := ⟨bytes_length s⟩
  go_enter Tryd.func9, Tryd.ntmps9
  go_wp2_with fail
  refine (awake_ex w _ (Below.refl _ _) HG.out).mono ?_
  rintro e w1 ⟨rfl, HX1, HB1⟩
  go_wp2
  go_loopw [5] (fun i wr => ∃ k : Nat, k ≤ s.size ∧ i = .int .i64 k ∧ wr = w1 ∧ Sl (∀ j, j < k → (bytes s).getD j 0 < 128)) (fun i _ => s.size - (intOf i).toNat)
  case atStart => exact ⟨0, by omega, rfl, rfl, ⟨fun j hj => by omega⟩⟩
  case round =>
    obtain ⟨k, hk, rfl, rfl, HA⟩ := hrel
    by_cases hlt : k < s.size
    · have hbd := bytes_getD s k hlt
      obtain ⟨x, hx⟩ : ∃ x, (s[k]'hlt).toNat = x := ⟨_, rfl⟩
      have HXX : Sl ((bytes s).getD k 0 = x) := ⟨by rw [hbd, ← hx]; rfl⟩
      clear hbd
      by_cases hbig : 127 < x
      · go_wp2
        go_ret
        exact ⟨rfl, HB1.out⟩
      · go_wp2
        refine ⟨⟨k + 1, by omega, by go_num, trivial, ⟨fun j hj => ?_⟩⟩, by simp [intOf]; omega⟩
        by_cases e : j = k
        · subst e; rw [HXX.out]; omega
        · exact HA.out j (by omega)
    · have hge : ¬ (k : Int) < (s.size : Int) := by omega
      have HSM : Sl (Small 128 (bytes s)) := ⟨small_of_all (fun j hj => HA.out j (by omega))⟩
      have HCB : Sl (cb (bytes s) = s.size) := ⟨by rw [cb_small HSM.out]; exact LS.out⟩
      have HVB : Sl (vb (bytes s) = true) := ⟨vb_small HSM.out⟩
      obtain ⟨c2, w2, hc2, HV2, HX2⟩ := conv_str s wr
      have HB2 : Sl (Below w.heap.size w w2) := ⟨HB1.out.trans (HX2.out.mono HB1.out.size)⟩
      go_wp2_with fail
      refine (count_ex w _ (bytes s) _ s.size true HCB.out HVB.out HB2.out HG.out HV2.out (by rw [LS.out]; omega)).mono ?_
      rintro e w3 ⟨rfl, HX3, HB3⟩
      clear hc2 HX2 HV2 HX3 HB2
      have SZ : (s ++ strOf [b]).size = s.size + 1 := by rw [ByteArray.size_append, strOf_size]; rfl
      have SZ1 : (strOf [b]).size = 1 := by rw [strOf_size]; rfl
      by_cases hlow : b < 128
      · have HV1 : Sl (vb [b] = true) := ⟨by rw [vb_one]; exact decide_eq_true hlow⟩
        have HV2 : Sl (vb (bytes (s ++ strOf [b])) = true) := ⟨by rw [vb_add HSM.out hb]; exact decide_eq_true hlow⟩
        have hlow' : (b : Int) < 128 := by omega
        go_wp2_with fail
        refine (valid_ex w _ [b] _ true HV1.out (HB3.out.alloc HB3.out.size _) HG.out (src_new _ [b] _ _ _ rfl) (by simp)).mono ?_
        rintro e w4 ⟨rfl, HX4, HB4⟩
        have hcv := conv_one w4 b hb
        obtain ⟨c5, w5, hc5, HV5, HX5⟩ := conv_str (s ++ strOf [b]) (w4.alloc (.cells #[.int .u8 b] 5))
        have HB4' : Sl (Below w.heap.size w (w4.alloc (.cells #[.int .u8 b] 5))) := ⟨HB4.out.alloc HB4.out.size _⟩
        have HB5 : Sl (Below w.heap.size w w5) := ⟨HB4'.out.trans (HX5.out.mono HB4'.out.size)⟩
        rw [SZ, alloc_size] at hc5
        rw [SZ, alloc_size] at HV5
        go_wp2_with fail
        refine (valid_ex w _ (bytes (s ++ strOf [b])) _ true HV2.out HB5.out HG.out HV5.out (by rw [bytes_length, SZ]; omega)).mono ?_
        rintro e w6 ⟨rfl, HX6, HB6⟩
        go_wp2
        go_ret
        exact ⟨rfl, HB6.out⟩
      · have HV1 : Sl (vb [b] = false) := ⟨by rw [vb_one]; exact decide_eq_false hlow⟩
        have HV2 : Sl (vb (bytes (s ++ strOf [b])) = false) := ⟨by rw [vb_add HSM.out hb]; exact decide_eq_false hlow⟩
        have hlow' : ¬ (b : Int) < 128 := by omega
        go_wp2_with fail
        refine (valid_ex w _ [b] _ false HV1.out (HB3.out.alloc HB3.out.size _) HG.out (src_new _ [b] _ _ _ rfl) (by simp)).mono ?_
        rintro e w4 ⟨rfl, HX4, HB4⟩
        have hcv := conv_one w4 b hb
        obtain ⟨c5, w5, hc5, HV5, HX5⟩ := conv_str (s ++ strOf [b]) (w4.alloc (.cells #[.int .u8 b] 5))
        have HB4' : Sl (Below w.heap.size w (w4.alloc (.cells #[.int .u8 b] 5))) := ⟨HB4.out.alloc HB4.out.size _⟩
        have HB5 : Sl (Below w.heap.size w w5) := ⟨HB4'.out.trans (HX5.out.mono HB4'.out.size)⟩
        rw [SZ, alloc_size] at hc5
        rw [SZ, alloc_size] at HV5
        go_wp2_with fail
        refine (valid_ex w _ (bytes (s ++ strOf [b])) _ false HV2.out HB5.out HG.out HV5.out (by rw [bytes_length, SZ]; omega)).mono ?_
        rintro e w6 ⟨rfl, HX6, HB6⟩
        go_wp2
        go_ret
        exact ⟨ret_bool (a := !decide ((b : Int) < 128)) (by rw [decide_eq_false (Int.not_lt.2 hlow')]; rfl), HB6.out⟩
theorem ascii_walk (s : ByteArray) (b : Nat) (w : World) (hg : Globs w) (hs : s.size ≤ maxLen) (hb : b < 256) :
    Calls Tryd.prog 9 #[.string s, .int .u8 b] w fun e w' => e = .returned (.bool true) ∧ Below w.heap.size w w' := by
  by_cases h : 100 < s.size
  · exact ascii_long s b w hg h hs
  · exact ascii_short s b w hg (by omega) hb
end Go.Proofs.YtlkfkglcefhbgaaDoor
