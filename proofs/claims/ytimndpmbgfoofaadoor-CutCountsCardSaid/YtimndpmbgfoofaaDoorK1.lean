/- CutCounts' walk. -/
import Derived.Test.YtimndpmbgfoofaaDoorCH
set_option maxRecDepth 100000
namespace Go.Proofs.YtimndpmbgfoofaaDoor.Cut
open Go.RowKit MaskPlain Mas Fra Stm CutPlain
open FramePlain (Fr Fr0 form chk ctl zero4)

set_option maxHeartbeats 4000000 in
theorem counts_walk (size most : Int) (w : World) (hg : Mas.Globs w) (_ : -9223372036854775808 ≤ size ∧ size ≤ 9223372036854775807) (_ : -9223372036854775808 ≤ most ∧ most ≤ 9223372036854775807) : Calls Tryd.prog 6 #[.int .i64 size, .int .i64 most] w fun e w' => e = .returned (.bool true) ∧ Below w.heap.size w w' := by
  have A := awake_any w hg
  obtain ⟨n, hn⟩ : ∃ n, cntI size most = n := ⟨_, rfl⟩
  have C := count_ex size most n hn w
  by_cases hr : 0 ≤ size ∧ size ≤ 1048576 ∧ 1 ≤ most ∧ most ≤ 65536
  · obtain ⟨h1, h2, h3, h4⟩ := hr
    obtain ⟨s, rfl⟩ := Int.eq_ofNat_of_zero_le h1
    obtain ⟨m, rfl⟩ := Int.eq_ofNat_of_zero_le (show 0 ≤ most by omega)
    rw [cntI_yes (by omega) (by omega) (by omega)] at hn
    have hm : 1 ≤ m := by omega
    obtain ⟨e1, e2, e3, e4⟩ := cnt_enough (size := s) hm
    rw [hn] at e1 e2 e3 e4
    have a1 : ((s : Int) < 0) = False := eq_false (by omega)
    have a2 : ((s : Int) > 1048576) = False := eq_false (by omega)
    have a3 : ((m : Int) < 1) = False := eq_false (by omega)
    have a4 : ((m : Int) > 65536) = False := eq_false (by omega)
    have b1 : ((n : Int) ≥ 1) = True := eq_true (by omega)
    obtain ⟨x, hx⟩ : ∃ x, n * m = x := ⟨_, rfl⟩
    obtain ⟨y, hy⟩ : ∃ y, (n - 1) * m = y := ⟨_, rfl⟩
    rw [hx] at e2
    rw [hy] at e3
    have hxl : x ≤ 1048577 * 65536 := by rw [← hx]; exact Nat.mul_le_mul (by omega) (by omega)
    have hyl : y ≤ 1048577 * 65536 := by rw [← hy]; exact Nat.mul_le_mul (by omega) (by omega)
    have p1 : (n : Int) * (m : Int) = (x : Int) := by rw [← hx]; simp
    have p2 : ((n : Int) - 1) * (m : Int) = (y : Int) := by rw [← hy, Int.natCast_mul]; congr 1; omega
    have z1 : IntKind.i64.wrap (x : Int) = (x : Int) := by rw [IntKind.wrap_i64]; omega
    have z2 : IntKind.i64.wrap ((n : Int) - 1) = (n : Int) - 1 := by rw [IntKind.wrap_i64]; omega
    have z3 : IntKind.i64.wrap (y : Int) = (y : Int) := by rw [IntKind.wrap_i64]; omega
    have b2 : ((x : Int) ≥ (s : Int)) = True := eq_true (by omega)
    by_cases h5 : n = 1
    · have b3 : ((n : Int) == 1) = true := by simp [h5]
      have b4 : ((n : Int) = 1) = True := eq_true (by omega)
      clear h1 h2 h3 h4 hm hn e1 e2 e3 e4 hx hy hxl hyl h5
      go_enter Tryd.func6, Tryd.ntmps6
      go_wp2_with fail
      refine C.mono ?_
      rintro e w1 ⟨rfl, rfl⟩
      go_wp2_with fail
      refine A.mono ?_
      rintro e w2 ⟨rfl, HB⟩
      go_wp2
      go_ret
      exact ⟨rfl, HB.out⟩
    · have b3 : ((n : Int) == 1) = false := by simp; omega
      have b4 : ((n : Int) = 1) = False := eq_false (by omega)
      have b5 : ((y : Int) < (s : Int)) = True := eq_true (by rcases e3 with e3 | e3 <;> omega)
      clear h1 h2 h3 h4 hm hn e1 e2 e3 e4 hx hy hxl hyl h5
      go_enter Tryd.func6, Tryd.ntmps6
      go_wp2_with fail
      refine C.mono ?_
      rintro e w1 ⟨rfl, rfl⟩
      go_wp2_with fail
      refine A.mono ?_
      rintro e w2 ⟨rfl, HB⟩
      go_wp2
      go_ret
      exact ⟨rfl, HB.out⟩
  · obtain rfl : n = 0 := by rw [← hn]; exact cntI_no (by omega)
    clear hn
    by_cases h1 : size < 0
    · have a1 : (size < 0) = True := eq_true h1
      clear hr h1
      go_enter Tryd.func6, Tryd.ntmps6
      go_wp2_with fail
      refine C.mono ?_
      rintro e w1 ⟨rfl, rfl⟩
      go_wp2_with fail
      refine A.mono ?_
      rintro e w2 ⟨rfl, HB⟩
      go_wp2
      go_ret
      exact ⟨rfl, HB.out⟩
    have a1 : (size < 0) = False := eq_false h1
    by_cases h2 : size > 1048576
    · have a2 : (size > 1048576) = True := eq_true h2
      clear hr h1 h2
      go_enter Tryd.func6, Tryd.ntmps6
      go_wp2_with fail
      refine C.mono ?_
      rintro e w1 ⟨rfl, rfl⟩
      go_wp2_with fail
      refine A.mono ?_
      rintro e w2 ⟨rfl, HB⟩
      go_wp2
      go_ret
      exact ⟨rfl, HB.out⟩
    have a2 : (size > 1048576) = False := eq_false h2
    by_cases h3 : most < 1
    · have a3 : (most < 1) = True := eq_true h3
      clear hr h1 h2 h3
      go_enter Tryd.func6, Tryd.ntmps6
      go_wp2_with fail
      refine C.mono ?_
      rintro e w1 ⟨rfl, rfl⟩
      go_wp2_with fail
      refine A.mono ?_
      rintro e w2 ⟨rfl, HB⟩
      go_wp2
      go_ret
      exact ⟨rfl, HB.out⟩
    have a3 : (most < 1) = False := eq_false h3
    have a4 : (most > 65536) = True := eq_true (by omega)
    clear hr h1 h2 h3
    go_enter Tryd.func6, Tryd.ntmps6
    go_wp2_with fail
    refine C.mono ?_
    rintro e w1 ⟨rfl, rfl⟩
    go_wp2_with fail
    refine A.mono ?_
    rintro e w2 ⟨rfl, HB⟩
    go_wp2
    go_ret
    exact ⟨rfl, HB.out⟩
end Go.Proofs.YtimndpmbgfoofaaDoor.Cut
