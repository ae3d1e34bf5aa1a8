/- UtfReads, the walk: whatever string is handed over, the law's Go text returns true, and nothing that was in memory changes. Conditions: the table of package utf is as its text lays it; the string fits in memory. -/
import Derived.Test.YtlkfkglcefhbgaaDoorQ
namespace Go.Proofs.YtlkfkglcefhbgaaDoor
open Go.RowKit

theorem read_r (w0 W : World) (s : ByteArray) (R L : Nat) (v : Bool) (h1 : rt (some s0) (bytes s) = R) (h2 : ucount s0 (bytes s) = L) (h3 : vb (bytes s) = v) (hL : s.size ≤ 100000) (hB : Below w0.heap.size w0 W) :
    Calls Tryd.prog 12 #[.string s] W fun e w' => e = .returned (.tuple #[.int .i64 R, .int .i64 L, .bool v]) ∧ Sl (Below W.heap.size W w') ∧ Sl (Below w0.heap.size w0 w') :=
  (read_any s W hL).mono fun _ _ ⟨he, hb⟩ => ⟨by rw [he, h2, h3, show uright s0 (bytes s) = R from h1], ⟨hb⟩, ⟨hB.trans (hb.mono hB.size)⟩⟩

set_option maxHeartbeats 400000 in
theorem reads_long (s : ByteArray) (w : World) (hg : Globs w) (h : 300 < s.size) (hs : s.size ≤ maxLen) :
    Calls Tryd.prog 3 #[.string s] w fun e w' => e = .returned (.bool true) ∧ Below w.heap.size w w' := by
  unfold maxLen at hs
  have HG := Sl.mk hg
  clear hg
  go_enter Tryd.func3, Tryd.ntmps3
  go_wp2_with fail
  refine (new_ex w _ (Below.refl _ _)).mono ?_
  rintro e w0 ⟨rfl, HC0, HX0, HB0⟩
  go_wp2_with fail
  refine (awake_ex w _ HB0.out HG.out).mono ?_
  rintro e w1 ⟨rfl, HX1, HB1⟩
  go_wp2_with fail
  refine (awake_ex w _ HB1.out HG.out).mono ?_
  rintro e w2 ⟨rfl, HX2, HB2⟩
  go_wp2
  go_ret
  exact ⟨rfl, HB2.out⟩

set_option maxHeartbeats 1000000 in
set_option maxRecDepth 100000 in
theorem reads_short (s : ByteArray) (w : World) (hg : Globs w) (h : s.size ≤ 300) :
    Calls Tryd.prog 3 #[.string s] w fun e w' => e = .returned (.bool true) ∧ Below w.heap.size w w' := by
  have HG := Sl.mk hg
  clear hg
  obtain ⟨R, hR⟩ : ∃ R, rt (some s0) (bytes s) = R := ⟨_, rfl⟩
  obtain ⟨L, hL⟩ : ∃ L, ucount s0 (bytes s) = L := ⟨_, rfl⟩
  obtain ⟨P, hP⟩ : ∃ P, (en (some s0) (bytes s)).isSome = P := ⟨_, rfl⟩
  have hRs : ((R : Int) == (s.size : Int)) = P := by
    have h1 := uend_iff (bytes s) s0
    rw [show (uend s0 (bytes s)).isSome = P from hP, show uright s0 (bytes s) = R from hR, bytes_length] at h1
    rw [Bool.eq_iff_iff, h1]
    simp; omega
  have HRR := Sl.mk hR
  have HL := Sl.mk hL
  have HP := Sl.mk hP
  have HLE : Sl ((bytes s).length ≤ 100000) := ⟨by rw [bytes_length]; omega⟩
  clear hR hL hP
  cases hv : vb (bytes s) with
  | true =>
    have HVB : Sl (vb (bytes s) = true) := ⟨hv⟩
    have HCB : Sl (cb (bytes s) = L) := ⟨by unfold cb; rw [hv]; exact HL.out⟩
    clear hv
    go_enter Tryd.func3, Tryd.ntmps3
    go_wp2_with fail
    refine (new_ex w _ (Below.refl _ _)).mono ?_
    rintro e w1 ⟨rfl, HC1, HX1, HB1⟩
    go_wp2_with fail
    refine (awake_ex w _ HB1.out HG.out).mono ?_
    rintro e w2 ⟨rfl, HX2, HB2⟩
    have HC2 : Sl (ChkO w2 w.heap.size (some s0)) := ⟨chk_below HC1.out HX2.out⟩
    clear HC1 HX1 HB1 HX2
    go_wp2_with fail
    refine (read_r w _ s R L true HRR.out HL.out HVB.out (by omega) HB2.out).mono ?_
    rintro e w3 ⟨rfl, HX3, HB3⟩
    have HC3 : Sl (ChkO w3 w.heap.size (some s0)) := ⟨chk_below HC2.out HX3.out⟩
    obtain ⟨c4, w4, hc4, HV4, HX4⟩ := conv_str s w3
    have HB4 : Sl (Below w.heap.size w w4) := ⟨HB3.out.trans (HX4.out.mono HB3.out.size)⟩
    have HC4 : Sl (ChkO w4 w.heap.size (some s0)) := ⟨chk_below HC3.out HX4.out⟩
    clear HC2 HX3 HB2
    go_wp2_with fail
    refine (feed_ex w _ w.heap.size (some s0) (bytes s) _ R HRR.out (Nat.le_refl _) HB4.out HG.out HC4.out okO0 (HV4.out.offs (chk_lt HC3.out)) HLE.out).mono ?_
    rintro e w5 ⟨rfl, HC5, HX5, HB5⟩
    clear hc4 HC4 HC3 HV4 HX4 HB3 HB4 HX5
    obtain ⟨c6, w6, hc6, HV6, HX6⟩ := conv_str s w5
    have HB6 : Sl (Below w.heap.size w w6) := ⟨HB5.out.trans (HX6.out.mono HB5.out.size)⟩
    go_wp2_with fail
    refine (count_ex w _ (bytes s) _ L true HCB.out HVB.out HB6.out HG.out HV6.out HLE.out).mono ?_
    rintro e w7 ⟨rfl, HX7, HB7⟩
    have HC7 : Sl (ChkO w7 w.heap.size (en (some s0) (bytes s))) := ⟨chk_below (chk_below HC5.out HX6.out) HX7.out⟩
    clear hc6 HC5 HV6 HX6 HX7 HB5 HB6
    go_wp2_with fail
    refine (right_ex w.heap.size _ _ P HC7.out HP.out).mono ?_
    rintro e w7' ⟨rfl, rfl⟩
    go_wp2_with fail
    refine (whole_ex w.heap.size _ _ true HC7.out (okO0.en _) HVB.out).mono ?_
    rintro e w7' ⟨rfl, rfl⟩
    obtain ⟨c8, w8, hc8, HV8, HX8⟩ := conv_str s w7
    have HB8 : Sl (Below w.heap.size w w8) := ⟨HB7.out.trans (HX8.out.mono HB7.out.size)⟩
    go_wp2_with fail
    refine (valid_ex w _ (bytes s) _ true HVB.out HB8.out HG.out HV8.out HLE.out).mono ?_
    rintro e w9 ⟨rfl, HX9, HB9⟩
    clear hc8
    go_wp2
    go_ret
    exact ⟨by first | rfl | kernel_rfl, HB9.out⟩
  | false =>
    have HVB : Sl (vb (bytes s) = false) := ⟨hv⟩
    have HCB : Sl (cb (bytes s) = 0) := ⟨by unfold cb; rw [hv]; rfl⟩
    clear hv
    go_enter Tryd.func3, Tryd.ntmps3
    go_wp2_with fail
    refine (new_ex w _ (Below.refl _ _)).mono ?_
    rintro e w1 ⟨rfl, HC1, HX1, HB1⟩
    go_wp2_with fail
    refine (awake_ex w _ HB1.out HG.out).mono ?_
    rintro e w2 ⟨rfl, HX2, HB2⟩
    have HC2 : Sl (ChkO w2 w.heap.size (some s0)) := ⟨chk_below HC1.out HX2.out⟩
    clear HC1 HX1 HB1 HX2
    go_wp2_with fail
    refine (read_r w _ s R L false HRR.out HL.out HVB.out (by omega) HB2.out).mono ?_
    rintro e w3 ⟨rfl, HX3, HB3⟩
    have HC3 : Sl (ChkO w3 w.heap.size (some s0)) := ⟨chk_below HC2.out HX3.out⟩
    obtain ⟨c4, w4, hc4, HV4, HX4⟩ := conv_str s w3
    have HB4 : Sl (Below w.heap.size w w4) := ⟨HB3.out.trans (HX4.out.mono HB3.out.size)⟩
    have HC4 : Sl (ChkO w4 w.heap.size (some s0)) := ⟨chk_below HC3.out HX4.out⟩
    clear HC2 HX3 HB2
    go_wp2_with fail
    refine (feed_ex w _ w.heap.size (some s0) (bytes s) _ R HRR.out (Nat.le_refl _) HB4.out HG.out HC4.out okO0 (HV4.out.offs (chk_lt HC3.out)) HLE.out).mono ?_
    rintro e w5 ⟨rfl, HC5, HX5, HB5⟩
    clear hc4 HC4 HC3 HV4 HX4 HB3 HB4 HX5
    obtain ⟨c6, w6, hc6, HV6, HX6⟩ := conv_str s w5
    have HB6 : Sl (Below w.heap.size w w6) := ⟨HB5.out.trans (HX6.out.mono HB5.out.size)⟩
    go_wp2_with fail
    refine (count_ex w _ (bytes s) _ 0 false HCB.out HVB.out HB6.out HG.out HV6.out HLE.out).mono ?_
    rintro e w7 ⟨rfl, HX7, HB7⟩
    have HC7 : Sl (ChkO w7 w.heap.size (en (some s0) (bytes s))) := ⟨chk_below (chk_below HC5.out HX6.out) HX7.out⟩
    clear hc6 HC5 HV6 HX6 HX7 HB5 HB6
    go_wp2_with fail
    refine (right_ex w.heap.size _ _ P HC7.out HP.out).mono ?_
    rintro e w7' ⟨rfl, rfl⟩
    go_wp2_with fail
    refine (whole_ex w.heap.size _ _ false HC7.out (okO0.en _) HVB.out).mono ?_
    rintro e w7' ⟨rfl, rfl⟩
    obtain ⟨c8, w8, hc8, HV8, HX8⟩ := conv_str s w7
    have HB8 : Sl (Below w.heap.size w w8) := ⟨HB7.out.trans (HX8.out.mono HB7.out.size)⟩
    go_wp2_with fail
    refine (valid_ex w _ (bytes s) _ false HVB.out HB8.out HG.out HV8.out HLE.out).mono ?_
    rintro e w9 ⟨rfl, HX9, HB9⟩
    clear hc8
    go_wp2
    go_ret
    exact ⟨by first | rfl | kernel_rfl, HB9.out⟩
theorem reads_walk (s : ByteArray) (w : World) (hg : Globs w) (hs : s.size ≤ maxLen) :
    Calls Tryd.prog 3 #[.string s] w fun e w' => e = .returned (.bool true) ∧ Below w.heap.size w w' := by
  by_cases h : 300 < s.size
  · exact reads_long s w hg h hs
  · exact reads_short s w hg (by omega)
end Go.Proofs.YtlkfkglcefhbgaaDoor
