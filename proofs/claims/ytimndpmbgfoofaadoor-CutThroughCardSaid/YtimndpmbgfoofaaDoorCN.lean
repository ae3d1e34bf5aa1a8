/- cut: Count, begins. -/
import Derived.Test.YtimndpmbgfoofaaDoorCutPlain
import Derived.Test.YtimndpmbgfoofaaDoorMaD
set_option maxRecDepth 100000
namespace Go.Proofs.YtimndpmbgfoofaaDoor.Cut
open Go.RowKit MaskPlain Mas CutPlain
open FramePlain (Fr Fr0 form chk ctl zero4)

/-- How many frames a message is, of any numbers. -/
def cntI (size most : Int) : Nat := if size < 0 ∨ 1048576 < size ∨ most < 1 ∨ 65536 < most then 0 else cnt size.toNat most.toNat
theorem cntI_no {size most : Int} (h : size < 0 ∨ 1048576 < size ∨ most < 1 ∨ 65536 < most) : cntI size most = 0 := if_pos h
theorem cntI_yes {size most : Nat} (h1 : size ≤ 1048576) (h2 : 1 ≤ most) (h3 : most ≤ 65536) : cntI (size : Int) (most : Int) = cnt size most := by
  unfold cntI; rw [if_neg (by omega)]; rfl
set_option maxHeartbeats 1000000 in
theorem count_any (size most : Int) (w : World) : Calls Tryd.prog 15 #[.int .i64 size, .int .i64 most] w fun e w' => e = .returned (.int .i64 ((cntI size most : Nat) : Int)) ∧ w = w' := by
  by_cases hr : 0 ≤ size ∧ size ≤ 1048576 ∧ 1 ≤ most ∧ most ≤ 65536
  · obtain ⟨h1, h2, h3, h4⟩ := hr
    obtain ⟨s, rfl⟩ := Int.eq_ofNat_of_zero_le h1
    obtain ⟨m, rfl⟩ := Int.eq_ofNat_of_zero_le (show 0 ≤ most by omega)
    have HC : Sl (cntI (s : Int) (m : Int) = cnt s m) := ⟨cntI_yes (by omega) (by omega) (by omega)⟩
    obtain ⟨q, hq⟩ : ∃ q, (s + m - 1) / m = q := ⟨_, rfl⟩
    have hq1 : ((s : Int) + (m : Int) - 1).tdiv (m : Int) = (q : Int) := by
      rw [← hq, show (s : Int) + (m : Int) - 1 = ((s + m - 1 : Nat) : Int) from by omega]
      rfl
    have hqs : q ≤ s + m := by rw [← hq]; exact Nat.le_trans (Nat.div_le_self _ _) (by omega)
    have z1 : IntKind.i64.wrap ((s : Int) + (m : Int)) = (s : Int) + (m : Int) := by rw [IntKind.wrap_i64]; omega
    have z2 : IntKind.i64.wrap ((s : Int) + (m : Int) - 1) = (s : Int) + (m : Int) - 1 := by rw [IntKind.wrap_i64]; omega
    have z3 : IntKind.i64.wrap (q : Int) = (q : Int) := by rw [IntKind.wrap_i64]; omega
    have a1 : ((s : Int) < 0) = False := eq_false (by omega)
    have a2 : ((s : Int) > 1048576) = False := eq_false (by omega)
    have a3 : ((m : Int) < 1) = False := eq_false (by omega)
    have a4 : ((m : Int) > 65536) = False := eq_false (by omega)
    have a5 : ((m : Int) == 0) = false := by simp; omega
    have a6 : (m = 0) = False := eq_false (by omega)
    have HQ : Sl (cnt s m = if 1 < q then q else 1) := ⟨by
      have hm : 1 ≤ m := by omega
      have h5 := (cnt_enough (size := s) hm).1
      have e : cnt s m = if s = 0 then 1 else q := by unfold cnt; rw [hq]
      rw [e] at h5 ⊢
      by_cases h0 : s = 0
      · rw [if_pos h0, if_neg]
        subst h0
        rw [← hq, Nat.zero_add, Nat.div_eq_of_lt (by omega)]
        omega
      · rw [if_neg h0] at h5 ⊢
        split <;> omega⟩
    by_cases hb : 1 < q
    · have b1 : ((1 : Int) < (q : Int)) = True := eq_true (by omega)
      have b2 : ((q : Int) < 1) = False := eq_false (by omega)
      rw [if_pos hb] at HQ
      clear h1 h2 h3 h4 hq hqs hb
      go_enter Tryd.func15, Tryd.ntmps15
      go_wp2
      go_ret
      exact ⟨by rw [HC.out, HQ.out]; rfl, rfl⟩
    · rw [if_neg hb] at HQ
      have b1 : ((1 : Int) < (q : Int)) = False := eq_false (by omega)
      clear h1 h2 h3 h4 hq hqs hb
      go_enter Tryd.func15, Tryd.ntmps15
      go_wp2
      go_ret
      exact ⟨by rw [HC.out, HQ.out]; rfl, rfl⟩
  · have HC : Sl (cntI size most = 0) := ⟨cntI_no (by omega)⟩
    by_cases h1 : size < 0
    · have a1 : (size < 0) = True := eq_true h1
      clear hr h1
      go_enter Tryd.func15, Tryd.ntmps15
      go_wp2
      go_ret
      exact ⟨by rw [HC.out]; rfl, rfl⟩
    have a1 : (size < 0) = False := eq_false h1
    by_cases h2 : size > 1048576
    · have a2 : (size > 1048576) = True := eq_true h2
      clear hr h1 h2
      go_enter Tryd.func15, Tryd.ntmps15
      go_wp2
      go_ret
      exact ⟨by rw [HC.out]; rfl, rfl⟩
    have a2 : (size > 1048576) = False := eq_false h2
    by_cases h3 : most < 1
    · have a3 : (most < 1) = True := eq_true h3
      clear hr h1 h2 h3
      go_enter Tryd.func15, Tryd.ntmps15
      go_wp2
      go_ret
      exact ⟨by rw [HC.out]; rfl, rfl⟩
    have a3 : (most < 1) = False := eq_false h3
    have a4 : (most > 65536) = True := eq_true (by omega)
    clear hr h1 h2 h3
    go_enter Tryd.func15, Tryd.ntmps15
    go_wp2
    go_ret
    exact ⟨by rw [HC.out]; rfl, rfl⟩
theorem count_ex (size most : Int) (n : Nat) (hn : cntI size most = n) (w : World) : Calls Tryd.prog 15 #[.int .i64 size, .int .i64 most] w fun e w' => e = .returned (.int .i64 (n : Int)) ∧ w = w' := by
  subst hn; exact count_any size most w
theorem begins_any (op : Int) (r : Bool) (hr : decide (op = 1 ∨ op = 2) = r) (w : World) : Calls Tryd.prog 29 #[.int .i64 op] w fun e w' => e = .returned (.bool r) ∧ w = w' := by
  by_cases h1 : op = 1
  · obtain rfl : r = true := by rw [← hr]; exact decide_eq_true (.inl h1)
    subst h1
    clear hr
    go_enter Tryd.func29, Tryd.ntmps29
    go_wp2
    go_ret
    exact ⟨rfl, rfl⟩
  have q1 : (op == 1) = false := by simp [h1]
  by_cases h2 : op = 2
  · obtain rfl : r = true := by rw [← hr]; exact decide_eq_true (.inr h2)
    subst h2
    clear hr h1 q1
    go_enter Tryd.func29, Tryd.ntmps29
    go_wp2
    go_ret
    exact ⟨rfl, rfl⟩
  have q2 : (op == 2) = false := by simp [h2]
  obtain rfl : r = false := by rw [← hr]; exact decide_eq_false (by omega)
  clear hr h1 h2
  go_enter Tryd.func29, Tryd.ntmps29
  go_wp2
  go_ret
  exact ⟨rfl, rfl⟩
end Go.Proofs.YtimndpmbgfoofaaDoor.Cut
