/- The contract of hold of package utf: whether a value lies within bounds; nothing that was in memory changes. -/
import Derived.Test.YtlkfkglcefhbgaaDoorA0
namespace Go.Proofs.YtlkfkglcefhbgaaDoor
open Go.RowKit

set_option maxHeartbeats 400000 in
theorem hold_any (lo hi b : Nat) (w : World) :
    Calls Tryd.prog 23 #[.agg #[.int .u8 lo, .int .u8 hi], .int .u8 b] w fun e w' => e = .returned (.bool (decide (lo ≤ b ∧ b ≤ hi))) ∧ Below w.heap.size w w' := by
  go_enter Tryd.func23, Tryd.ntmps23
  go_wp2
  all_goals
    go_ret
    refine ⟨ret_bool ?_, (Below.refl _ _).alloc (Nat.le_refl _) _⟩
    simp [*]
end Go.Proofs.YtlkfkglcefhbgaaDoor
