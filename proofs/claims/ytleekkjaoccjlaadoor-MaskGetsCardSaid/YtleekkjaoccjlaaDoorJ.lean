/- mask: MaskGets' walk. -/
import Derived.Test.YtleekkjaoccjlaaDoorI
set_option maxRecDepth 100000
namespace Go.Proofs.YtleekkjaoccjlaaDoor
open Go.RowKit MaskPlain

set_option maxHeartbeats 2000000 in
theorem gets_walk (a : ByteArray) (w : World) (hg : Globs w) : Calls Tryd.prog 6 #[.string a] w fun e w' => e = .returned (.bool true) ∧ Below w.heap.size w w' := by
  have HG := Sl.mk hg
  clear hg
  go_enter Tryd.func6, Tryd.ntmps6
  go_wp2_with fail
  refine (awake_any w HG.out).mono ?_
  rintro e w1 ⟨rfl, HB1⟩
  have HG1 := Sl.mk (HG.out.below HB1.out HG.out.size)
  by_cases hl : a.size > 100
  · go_wp2_with fail
    refine (awake_any w1 HG1.out).mono ?_
    rintro e w2 ⟨rfl, HX2⟩
    have HB2 : Sl (Below w.heap.size w w2) := ⟨HB1.out.trans (HX2.out.mono HB1.out.size)⟩
    go_wp2
    go_ret
    exact ⟨rfl, HB2.out⟩
  · have hl2 : a.size ≤ 100 := by omega
    obtain ⟨n, k, f, hr⟩ : ∃ n k f, getL (bytes a) = (n, k, f) := ⟨_, _, _, rfl⟩
    have HR := Sl.mk hr
    clear hr hl
    obtain ⟨cap, w2, hconv, HS, HX⟩ := conv_str a w1
    have HB2 : Sl (Below w.heap.size w w2) := ⟨HB1.out.trans (HX.out.mono HB1.out.size)⟩
    have hq1 : ((n : Int) == (n : Int)) = true := by simp
    have hq2 : ((k : Int) == (k : Int)) = true := by simp
    have hq3 : ((f : Int) == (f : Int)) = true := by simp
    go_wp2_with fail
    refine (get_ex _ (bytes a) n k f w2 (HG.out.below HB2.out HG.out.size) HS.out (bytes_small a) (by rw [bytes_length]; omega) HR.out).mono ?_
    rintro e w3 ⟨rfl, HX3⟩
    have HB3 : Sl (Below w.heap.size w w3) := ⟨HB2.out.trans (HX3.out.mono HB2.out.size)⟩
    go_wp2_with fail
    refine (refget_any a w3 (by omega)).mono ?_
    rintro e w4 ⟨rfl, rfl⟩
    rw [HR.out]
    simp only [res3]
    go_wp2
    go_ret
    exact ⟨rfl, HB3.out⟩
end Go.Proofs.YtleekkjaoccjlaaDoor
