/- The contracts of the document's long, pow and whole; nothing that was in memory changes. -/
import Derived.Test.YtlkfkglcefhbgaaDoorM
namespace Go.Proofs.YtlkfkglcefhbgaaDoor
open Go.RowKit

set_option maxRecDepth 1000000 in
set_option maxHeartbeats 2000000 in
theorem long_any (b : Nat) (w : World) : Calls Tryd.prog 24 #[.int .u8 b] w fun e w' => e = .returned (.int .i64 (long b : Nat)) ∧ w = w' := by
  by_cases a1 : b < 128
  · have e : long b = 1 := by unfold long; rw [if_pos a1]
    rw [e]; clear e
    go_enter Tryd.func24, Tryd.ntmps24
    go_wp2
    go_ret
    exact ⟨rfl, rfl⟩
  · by_cases a2 : b < 192
    · have e : long b = 0 := by unfold long; rw [if_neg a1, if_neg (by omega), if_neg (by omega), if_neg (by omega)]
      rw [e]; clear e
      have c1 : ¬ (b : Int) < 128 := by omega
      have c2 : ¬ (192 : Int) ≤ (b : Int) := by omega
      have c3 : ¬ (224 : Int) ≤ (b : Int) := by omega
      have c4 : ¬ (240 : Int) ≤ (b : Int) := by omega
      go_enter Tryd.func24, Tryd.ntmps24
      go_wp2
      go_ret
      exact ⟨rfl, rfl⟩
    · by_cases a3 : b < 224
      · rw [long2 (by omega) a3]
        go_enter Tryd.func24, Tryd.ntmps24
        go_wp2
        go_ret
        exact ⟨rfl, rfl⟩
      · by_cases a4 : b < 240
        · rw [long3 (by omega) a4]
          go_enter Tryd.func24, Tryd.ntmps24
          go_wp2
          go_ret
          exact ⟨rfl, rfl⟩
        · by_cases a5 : b < 248
          · rw [long4 (by omega) a5]
            go_enter Tryd.func24, Tryd.ntmps24
            go_wp2
            go_ret
            exact ⟨rfl, rfl⟩
          · have e : long b = 0 := by unfold long; rw [if_neg a1, if_neg (by omega), if_neg (by omega), if_neg (by omega)]
            rw [e]; clear e
            go_enter Tryd.func24, Tryd.ntmps24
            go_wp2
            go_ret
            exact ⟨rfl, rfl⟩
/-- By how much a first byte is less than 256. -/
def powOf (n : Nat) : Nat := [0, 1, 8, 16, 32].getD n 0
theorem pow_any (n : Nat) (w : World) (h : n < 5) : Calls Tryd.prog 25 #[.int .i64 n] w fun e w' => e = .returned (.int .i64 (powOf n : Nat)) ∧ Below w.heap.size w w' := by
  match n, h with
  | 0, _ =>
    go_enter Tryd.func25, Tryd.ntmps25
    go_wp2
    go_ret
    exact ⟨rfl, (Below.refl _ _).alloc (Nat.le_refl _) _⟩
  | 1, _ =>
    go_enter Tryd.func25, Tryd.ntmps25
    go_wp2
    go_ret
    exact ⟨rfl, (Below.refl _ _).alloc (Nat.le_refl _) _⟩
  | 2, _ =>
    go_enter Tryd.func25, Tryd.ntmps25
    go_wp2
    go_ret
    exact ⟨rfl, (Below.refl _ _).alloc (Nat.le_refl _) _⟩
  | 3, _ =>
    go_enter Tryd.func25, Tryd.ntmps25
    go_wp2
    go_ret
    exact ⟨rfl, (Below.refl _ _).alloc (Nat.le_refl _) _⟩
  | 4, _ =>
    go_enter Tryd.func25, Tryd.ntmps25
    go_wp2
    go_ret
    exact ⟨rfl, (Below.refl _ _).alloc (Nat.le_refl _) _⟩
theorem long_le (b : Nat) : long b < 5 := by unfold long; repeat' split
                                             all_goals decide
theorem modOf_eq (n : Nat) (h0 : 1 ≤ n) (h : n < 5) : 256 / powOf n = modOf n := by
  match n, h0, h with
  | 1, _, _ => rfl
  | 2, _, _ => rfl
  | 3, _, _ => rfl
  | 4, _, _ => rfl
end Go.Proofs.YtlkfkglcefhbgaaDoor
