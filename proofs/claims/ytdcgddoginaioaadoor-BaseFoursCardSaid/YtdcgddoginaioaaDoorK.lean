/- BaseSizes, the walk: whatever number is handed over, the law's Go text returns true, and nothing that was in memory changes. Condition: the table of package base is as its text lays it. -/
import Derived.Test.YtdcgddoginaioaaDoorG
namespace Go.Proofs.YtdcgddoginaioaaDoor
open Go.RowKit

theorem awake_ex (w0 W : World) (hB : Below w0.heap.size w0 W) (hg : Globs w0) : Calls Tryd.prog 11 #[] W fun e w' => e = .returned (.bool true) ∧ Sl (Below W.heap.size W w') ∧ Sl (Below w0.heap.size w0 w') :=
  (awake_any W (hg.below hB hg.size)).mono fun _ _ ⟨he, hb⟩ => ⟨he, hb, ⟨hB.trans (hb.out.mono hB.size)⟩⟩

set_option maxHeartbeats 400000 in
theorem sizes_walk (n : Int) (w : World) (hg : Globs w) :
    Calls Tryd.prog 6 #[.int .i64 n] w fun e w' => e = .returned (.bool true) ∧ Below w.heap.size w w' := by
  have HG := Sl.mk hg
  clear hg
  by_cases h1 : n < 1
  · have hz : (sizeI n == 0) = true := by unfold sizeI; rw [if_pos (.inl h1)]; rfl
    go_enter Tryd.func6, Tryd.ntmps6
    go_wp2_with fail
    refine (awake_ex w _ (Below.refl _ _) HG.out).mono ?_
    rintro e w1 ⟨rfl, HX1, HB1⟩
    go_wp2_with fail
    refine (size_any n _).mono ?_
    rintro e w2 ⟨rfl, rfl⟩
    go_wp2
    go_ret
    exact ⟨rfl, HB1.out⟩
  · by_cases h2 : 1073741824 < n
    · have hz : (sizeI n == 0) = true := by unfold sizeI; rw [if_pos (.inr h2)]; rfl
      go_enter Tryd.func6, Tryd.ntmps6
      go_wp2_with fail
      refine (awake_ex w _ (Below.refl _ _) HG.out).mono ?_
      rintro e w1 ⟨rfl, HX1, HB1⟩
      go_wp2_with fail
      refine (size_any n _).mono ?_
      rintro e w2 ⟨rfl, rfl⟩
      go_wp2
      go_ret
      exact ⟨rfl, HB1.out⟩
    · obtain ⟨k, hk⟩ : ∃ k, k = (n + 2) / 3 := ⟨_, rfl⟩
      have HM : Sl (sizeI n = 4 * k) := ⟨by unfold sizeI; rw [if_neg (by omega), hk]⟩
      obtain ⟨m, hm⟩ : ∃ m, m = 4 * k := ⟨_, rfl⟩
      rw [← hm] at HM
      have b1 : 4 ≤ m := by omega
      have b2 : m ≤ 2000000000 := by omega
      have q1 : (m % 4 == 0) = true := by simp; omega
      have q2 : n ≤ 3 * m / 4 := by omega
      have q3 : 3 * m / 4 - n ≤ 2 := by omega
      clear hk hm
      go_enter Tryd.func6, Tryd.ntmps6
      go_wp2_with fail
      refine (size_any n _).mono ?_
      rw [HM.out]
      rintro e w0 ⟨rfl, rfl⟩
      go_wp2_with fail
      refine (awake_ex w _ (Below.refl _ _) HG.out).mono ?_
      rintro e w1 ⟨rfl, HX1, HB1⟩
      go_wp2
      go_ret
      exact ⟨rfl, HB1.out⟩
end Go.Proofs.YtdcgddoginaioaaDoor
