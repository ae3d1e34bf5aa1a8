/- The sums of abc and of nothing, computed by the kernel out of the plain functions. -/
import Derived.Test.YtmiemklgekhfeaaDoorG
import Derived.KernelRfl
namespace Go.Proofs.YtmiemklgekhfeaaDoor
theorem told_nil : told (feed st0 []) = [218, 57, 163, 238, 94, 107, 75, 13, 50, 85, 191, 239, 149, 96, 24, 144, 175, 216, 7, 9] := by kernel_rfl
theorem told_abc : told (feed st0 [97, 98, 99]) = [169, 153, 62, 54, 71, 6, 129, 106, 186, 62, 37, 113, 120, 80, 194, 108, 156, 208, 216, 157] := by kernel_rfl
end Go.Proofs.YtmiemklgekhfeaaDoor
