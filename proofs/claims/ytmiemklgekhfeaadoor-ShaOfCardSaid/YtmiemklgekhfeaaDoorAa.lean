/- The walk of the statement ShaOf. -/
import Derived.Test.YtmiemklgekhfeaaDoorZ
namespace Go.Proofs.YtmiemklgekhfeaaDoor
open Go.RowKit

theorem oflaw_long (a : ByteArray) (w : World) (hg : Globs w) (h1 : 300 < a.size) (ha : a.size ≤ maxLen) :
    Calls Tryd.prog 3 #[.string a] w fun e w' => e = .returned (.bool true) ∧ Below w.heap.size w w' := by
  unfold maxLen at ha
  have HG := Sl.mk hg
  clear hg
  go_enter Tryd.func3, Tryd.ntmps3
  go_wp2_with fail
  refine (awake_ex w _ (Below.refl _ _) HG.out).mono ?_
  rintro e w1 ⟨rfl, HX1, HB1⟩
  go_wp2
  go_ret
  exact ⟨rfl, HB1.out⟩

set_option maxHeartbeats 1000000 in
theorem oflaw_short (a : ByteArray) (w : World) (hg : Globs w) (h1 : a.size ≤ 300) :
    Calls Tryd.prog 3 #[.string a] w fun e w' => e = .returned (.bool true) ∧ Below w.heap.size w w' := by
  have HG := Sl.mk hg
  clear hg
  go_enter Tryd.func3, Tryd.ntmps3
  go_wp2_with fail
  refine (awake_ex w _ (Below.refl _ _) HG.out).mono ?_
  rintro e w1 ⟨rfl, HX1, HB1⟩
  obtain ⟨c4, w4, hc4, HV4, HB4⟩ := conv_str a w1
  have HB04 : Sl (Below w.heap.size w w4) := ⟨HB1.out.trans (HB4.out.mono HB1.out.size)⟩
  obtain ⟨bt, hbt⟩ : ∃ bt, bt = told (feed st0 (bytes a)) := ⟨_, rfl⟩
  have HBT := Sl.mk hbt
  have HBL : Sl (bt.length = 20) := ⟨by rw [hbt]; exact told_length _⟩
  clear hbt HX1 HB1
  go_wp2_with fail
  refine (ofW _ (HG.out.below HB04.out HG.out.size) _ (bytes a) bt ⟨_, HV4.out (w1.heap.size + 1) (by omega)⟩ (bytes_small a) (by rw [bytes_length]; omega) HBT).mono ?_
  rintro e w5 ⟨rfl, hb5⟩
  have HB5 : Sl (Below w.heap.size w w5) := ⟨HB04.out.trans (hb5.mono HB04.out.size)⟩
  clear hb5 hc4 HV4 HB4 HB04
  go_wp2_with fail
  refine (text_any bt _ HBL.out).mono ?_
  rintro e w6 ⟨rfl, hb6⟩
  have HB6 : Sl (Below w.heap.size w w6) := ⟨HB5.out.trans (hb6.mono HB5.out.size)⟩
  clear hb6 HB5
  go_wp2_with fail
  refine (ref_any a _ h1).mono ?_
  rintro e w7 ⟨s, rfl, HS, hb7⟩
  have HB7 : Sl (Below w.heap.size w w7) := ⟨HB6.out.trans (hb7.out.mono HB6.out.size)⟩
  obtain rfl : s = strOf bt := by rw [HS.out, HBT.out]
  clear HS hb7 HB6 HBT
  generalize strOf bt = s at *
  go_wp2
  go_ret
  exact ⟨rfl, HB7.out⟩

theorem oflaw_any (a : ByteArray) (w : World) (hg : Globs w) (ha : a.size ≤ maxLen) :
    Calls Tryd.prog 3 #[.string a] w fun e w' => e = .returned (.bool true) ∧ Below w.heap.size w w' := by
  by_cases h : a.size ≤ 300
  · exact oflaw_short a w hg h
  · exact oflaw_long a w hg (by omega) ha
end Go.Proofs.YtmiemklgekhfeaaDoor
