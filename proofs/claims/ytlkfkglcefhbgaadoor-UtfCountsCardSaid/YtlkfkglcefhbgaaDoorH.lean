/- UtfBegins, the walk: whatever string is handed over, the law's Go text returns true, and nothing that was in memory changes. Conditions: the table of package utf is as its text lays it; the string fits in memory. -/
import Derived.Test.YtlkfkglcefhbgaaDoorG
namespace Go.Proofs.YtlkfkglcefhbgaaDoor
open Go.RowKit

theorem uright_take (l : List Nat) : ∀ (s : St) (i : Nat), uright s (l.take i) = min i (uright s l) := by
  induction l with
  | nil => intro s i; simp [uright]
  | cons b r ih =>
    intro s i
    match i with
    | 0 => simp [uright]
    | i + 1 =>
      simp only [List.take_succ_cons, uright]
      cases ustep s b with
      | none => simp
      | some t => simp only [ih t i]; omega
theorem uend_take_iff (l : List Nat) (s : St) (i : Nat) (hi : i ≤ l.length) : (uend s (l.take i)).isSome = decide (i ≤ uright s l) := by
  rw [Bool.eq_iff_iff, uend_iff, uright_take, List.length_take, decide_eq_true_eq]
  omega

set_option maxHeartbeats 400000 in
theorem begins_long (s : ByteArray) (w : World) (hg : Globs w) (h : 100 < s.size) (hs : s.size ≤ maxLen) :
    Calls Tryd.prog 7 #[.string s] w fun e w' => e = .returned (.bool true) ∧ Below w.heap.size w w' := by
  unfold maxLen at hs
  have HG := Sl.mk hg
  clear hg
  go_enter Tryd.func7, Tryd.ntmps7
  go_wp2_with fail
  refine (awake_ex w _ (Below.refl _ _) HG.out).mono ?_
  rintro e w1 ⟨rfl, HX1, HB1⟩
  go_wp2_with fail
  refine (awake_ex w _ HB1.out HG.out).mono ?_
  rintro e w2 ⟨rfl, HX2, HB2⟩
  go_wp2
  go_ret
  exact ⟨rfl, HB2.out⟩

set_option maxHeartbeats 1000000 in
theorem begins_short (s : ByteArray) (w : World) (hg : Globs w) (h : s.size ≤ 100) :
    Calls Tryd.prog 7 #[.string s] w fun e w' => e = .returned (.bool true) ∧ Below w.heap.size w w' := by
  have HG := Sl.mk hg
  clear hg
  have LS : Sl ((bytes s).length = s.size) := ⟨bytes_length s⟩
  obtain ⟨n, hn⟩ : ∃ n, rt (some s0) (bytes s) = n := ⟨_, rfl⟩
  have HN := Sl.mk hn
  have hn100 : n ≤ 100 := by rw [← hn]; exact Nat.le_trans (uright_le _ _) (by rw [LS.out]; exact h)
  clear hn
  go_enter Tryd.func7, Tryd.ntmps7
  go_wp2_with fail
  refine (awake_ex w _ (Below.refl _ _) HG.out).mono ?_
  rintro e w1 ⟨rfl, HX1, HB1⟩
  go_wp2_with fail
  refine (new_ex w _ HB1.out).mono ?_
  rintro e w2 ⟨rfl, HC2, HX2, HB2⟩
  obtain ⟨c3, w3, hc3, HV3, HX3⟩ := conv_str s w2
  have HB3 : Sl (Below w.heap.size w w3) := ⟨HB2.out.trans (HX3.out.mono HB2.out.size)⟩
  have HC3 : Sl (ChkO w3 w1.heap.size (some s0)) := ⟨chk_below HC2.out HX3.out⟩
  have HW1 : Sl (w.heap.size ≤ w1.heap.size) := ⟨HB1.out.size⟩
  go_wp2_with fail
  refine (feed_ex w _ w1.heap.size (some s0) (bytes s) _ n HN.out HW1.out HB3.out HG.out HC3.out okO0 (HV3.out.offs (chk_lt HC2.out)) (by rw [LS.out]; omega)).mono ?_
  rintro e w4 ⟨rfl, HC4, HX4, HB4⟩
  clear hc3 HC2 HC3 HV3 HX3 HC4 HX4 HX2 HX1 HB1 HB2 HB3
  go_wp2
  go_loopw [5] (fun i wr => ∃ k : Nat, k ≤ s.size + 1 ∧ i = .int .i64 k ∧ Below w.heap.size w wr) (fun i _ => s.size + 1 - (intOf i).toNat)
  case atStart => exact ⟨0, by omega, rfl, HB4.out⟩
  case round =>
    obtain ⟨k, hk, rfl, hbr⟩ := hrel
    have HBR := Sl.mk hbr
    clear hbr
    by_cases hlt : k ≤ s.size
    · have hle : (k : Int) ≤ (s.size : Int) := by omega
      have EB : Sl (bytes (s.extract 0 k) = (bytes s).take k) := ⟨by rw [bytes_extract, List.drop_zero]⟩
      have ES : (s.extract 0 k).size = k := by rw [ByteArray.size_extract]; omega
      have HL : Sl ((bytes (s.extract 0 k)).length ≤ 100000) := ⟨by rw [bytes_length, ES]; omega⟩
      by_cases hkn : k ≤ n
      · have hkn2 : (k : Int) ≤ (n : Int) := by omega
        have HM : Sl (rt (some s0) (bytes (s.extract 0 k)) = k) := ⟨by rw [EB.out, show rt (some s0) ((bytes s).take k) = min k n by rw [← HN.out]; exact uright_take _ _ _]; omega⟩
        have HI : Sl ((en (some s0) (bytes (s.extract 0 k))).isSome = true) := ⟨by
          have h := uend_take_iff (bytes s) s0 k (by rw [LS.out]; exact hlt)
          rw [EB.out]
          refine Eq.trans h ?_
          rw [show uright s0 (bytes s) = n from HN.out]
          simp; omega⟩
        clear hkn
        go_wp2_with fail
        refine (new_ex w _ HBR.out).mono ?_
        rintro e w5 ⟨rfl, HC5, HX5, HB5⟩
        obtain ⟨c6, w6, hc6, HV6, HX6⟩ := conv_str (s.extract 0 k) w5
        have HB6 : Sl (Below w.heap.size w w6) := ⟨HB5.out.trans (HX6.out.mono HB5.out.size)⟩
        have HC6 : Sl (ChkO w6 wr.heap.size (some s0)) := ⟨chk_below HC5.out HX6.out⟩
        rw [ES] at hc6 HV6
        go_wp2_with fail
        refine (feed_ex w _ wr.heap.size (some s0) (bytes (s.extract 0 k)) _ k HM.out HBR.out.size HB6.out HG.out HC6.out okO0 (HV6.out.offs (chk_lt HC5.out)) HL.out).mono ?_
        rintro e w7 ⟨rfl, HC7, HX7, HB7⟩
        clear hc6
        go_wp2_with fail
        refine (right_ex wr.heap.size _ _ true HC7.out HI.out).mono ?_
        rintro e w8 ⟨rfl, rfl⟩
        go_wp2
        go_roundw
        case rel => exact ⟨k + 1, by omega, by go_num, HB7.out⟩
        case measure => simp [intOf]; omega
      · have hkn2 : (n : Int) < (k : Int) := by omega
        have HM : Sl (rt (some s0) (bytes (s.extract 0 k)) = n) := ⟨by rw [EB.out, show rt (some s0) ((bytes s).take k) = min k n by rw [← HN.out]; exact uright_take _ _ _]; omega⟩
        have HI : Sl ((en (some s0) (bytes (s.extract 0 k))).isSome = false) := ⟨by
          have h := uend_take_iff (bytes s) s0 k (by rw [LS.out]; exact hlt)
          rw [EB.out]
          refine Eq.trans h ?_
          rw [show uright s0 (bytes s) = n from HN.out]
          simp; omega⟩
        clear hkn
        go_wp2_with fail
        refine (new_ex w _ HBR.out).mono ?_
        rintro e w5 ⟨rfl, HC5, HX5, HB5⟩
        obtain ⟨c6, w6, hc6, HV6, HX6⟩ := conv_str (s.extract 0 k) w5
        have HB6 : Sl (Below w.heap.size w w6) := ⟨HB5.out.trans (HX6.out.mono HB5.out.size)⟩
        have HC6 : Sl (ChkO w6 wr.heap.size (some s0)) := ⟨chk_below HC5.out HX6.out⟩
        rw [ES] at hc6 HV6
        go_wp2_with fail
        refine (feed_ex w _ wr.heap.size (some s0) (bytes (s.extract 0 k)) _ n HM.out HBR.out.size HB6.out HG.out HC6.out okO0 (HV6.out.offs (chk_lt HC5.out)) HL.out).mono ?_
        rintro e w7 ⟨rfl, HC7, HX7, HB7⟩
        clear hc6
        go_wp2_with fail
        refine (right_ex wr.heap.size _ _ false HC7.out HI.out).mono ?_
        rintro e w8 ⟨rfl, rfl⟩
        go_wp2
        go_roundw
        case rel => exact ⟨k + 1, by omega, by go_num, HB7.out⟩
        case measure => simp [intOf]; omega
    · have hge : ¬ (k : Int) ≤ (s.size : Int) := by omega
      go_wp2
      go_ret
      exact ⟨rfl, HBR.out⟩
theorem begins_walk (s : ByteArray) (w : World) (hg : Globs w) (hs : s.size ≤ maxLen) :
    Calls Tryd.prog 7 #[.string s] w fun e w' => e = .returned (.bool true) ∧ Below w.heap.size w w' := by
  by_cases h : 100 < s.size
  · exact begins_long s w hg h hs
  · exact begins_short s w hg (by omega)
end Go.Proofs.YtlkfkglcefhbgaaDoor
