/- BaseGets, the walk: whatever string and number are handed over, the law's Go text returns true, and nothing that was in memory changes. Conditions: the table of package base is as its text lays it; the string fits in memory. -/
import Derived.Test.YtdcgddoginaioaaDoorM
namespace Go.Proofs.YtdcgddoginaioaaDoor
open Go.RowKit

theorem refGetNo (w0 : World) (s : ByteArray) (W : World) (hB : Below w0.heap.size w0 W) (hs : s.size ≤ 1000) (hr : rd (bytes s) = none) :
    Calls Tryd.prog 17 #[.string s] W fun e w' => e = .returned (.tuple #[.string { data := #[] }, .bool false]) ∧ Sl (Below W.heap.size W w') ∧ Sl (Below w0.heap.size w0 w') :=
  (ref_get s W hs).mono fun _ _ ⟨he, hb⟩ => ⟨by rw [he, hr]; rfl, ⟨hb⟩, ⟨hB.trans (hb.mono hB.size)⟩⟩
theorem refGetYes (w0 : World) (s : ByteArray) (b : List Nat) (W : World) (hB : Below w0.heap.size w0 W) (hs : s.size ≤ 1000) (hr : rd (bytes s) = some b) :
    Calls Tryd.prog 17 #[.string s] W fun e w' => e = .returned (.tuple #[.string (strOf b), .bool true]) ∧ Sl (Below W.heap.size W w') ∧ Sl (Below w0.heap.size w0 w') :=
  (ref_get s W hs).mono fun _ _ ⟨he, hb⟩ => ⟨by rw [he, hr]; rfl, ⟨hb⟩, ⟨hB.trans (hb.mono hB.size)⟩⟩

set_option maxHeartbeats 400000 in
theorem gets_long (s : ByteArray) (n : Int) (w : World) (hg : Globs w) (h : 400 < s.size) (hs : s.size ≤ maxLen) :
    Calls Tryd.prog 4 #[.string s, .int .i64 n] w fun e w' => e = .returned (.bool true) ∧ Below w.heap.size w w' := by
  unfold maxLen at hs
  have HG := Sl.mk hg
  clear hg
  go_enter Tryd.func4, Tryd.ntmps4
  go_wp2_with fail
  refine (awake_ex w _ (Below.refl _ _) HG.out).mono ?_
  rintro e w1 ⟨rfl, HX1, HB1⟩
  go_wp2
  go_ret
  exact ⟨rfl, HB1.out⟩

set_option maxHeartbeats 1000000 in
theorem gets_short (s : ByteArray) (n : Int) (w : World) (hg : Globs w) (h : s.size ≤ 400) :
    Calls Tryd.prog 4 #[.string s, .int .i64 n] w fun e w' => e = .returned (.bool true) ∧ Below w.heap.size w w' := by
  have HG := Sl.mk hg
  clear hg
  cases hr : rd (bytes s) with
  | none =>
    have HRD := Sl.mk hr
    have HH : Sl (hasB (bytes s) n = false) := ⟨by unfold hasB; rw [hr]⟩
    clear hr
    go_enter Tryd.func4, Tryd.ntmps4
    go_wp2_with fail
    refine (getNoX w s _ (Below.refl _ _) (by omega) HRD.out).mono ?_
    rintro e w1 ⟨rfl, HX1, HB1⟩
    go_wp2_with fail
    refine (refGetNo w s _ HB1.out (by omega) HRD.out).mono ?_
    rintro e w2 ⟨rfl, HX2, HB2⟩
    go_wp2_with fail
    refine (awake_ex w _ HB2.out HG.out).mono ?_
    rintro e w3 ⟨rfl, HX3, HB3⟩
    go_wp2_with fail
    refine (hasX w s n false _ HB3.out (by omega) HH.out).mono ?_
    rintro e w4 ⟨rfl, HX4, HB4⟩
    go_wp2
    go_ret
    exact ⟨rfl, HB4.out⟩
  | some b =>
    have HRD := Sl.mk hr
    have q1 : ((strOf b).toList == (strOf b).toList) = true := by simp
    have HH : Sl (hasB (bytes s) n = (n == ((strOf b).size : Int))) := ⟨by unfold hasB; rw [hr, strOf_size]; simp only; rw [Bool.eq_iff_iff]; simp; exact ⟨fun h => h.symm, fun h => h.symm⟩⟩
    clear hr
    obtain ⟨r, hr⟩ : ∃ r, r = hasB (bytes s) n := ⟨_, rfl⟩
    have HR := Sl.mk hr
    have q2 : (r == (n == ((strOf b).size : Int))) = true := by rw [hr, HH.out]; simp
    clear hr
    go_enter Tryd.func4, Tryd.ntmps4
    go_wp2_with fail
    refine (getYesX w s b _ (Below.refl _ _) (by omega) HRD.out).mono ?_
    rintro e w1 ⟨v, rfl, HO1, HX1, HB1⟩
    go_wp2_with fail
    refine (refGetYes w s b _ HB1.out (by omega) HRD.out).mono ?_
    rintro e w2 ⟨rfl, HX2, HB2⟩
    go_wp2_with fail
    refine (awake_ex w _ HB2.out HG.out).mono ?_
    rintro e w3 ⟨rfl, HX3, HB3⟩
    have hcv := conv_later HO1.out (HX2.out.trans (HX3.out.mono HX2.out.size))
    go_wp2_with fail
    refine (hasX w s n r _ HB3.out (by omega) HR.out.symm).mono ?_
    rintro e w4 ⟨rfl, HX4, HB4⟩
    go_wp2
    go_ret
    exact ⟨by first | rfl | simp, HB4.out⟩

theorem gets_walk (s : ByteArray) (n : Int) (w : World) (hg : Globs w) (hs : s.size ≤ maxLen) :
    Calls Tryd.prog 4 #[.string s, .int .i64 n] w fun e w' => e = .returned (.bool true) ∧ Below w.heap.size w w' := by
  by_cases h : 400 < s.size
  · exact gets_long s n w hg h hs
  · exact gets_short s n w hg (by omega)
end Go.Proofs.YtdcgddoginaioaaDoor
