/- What the rows' condition on the two tables of package sha gives the walks; the door's own heap meets it. -/
import Derived.Test.YtmiemklgekhfeaaDoorL
import Derived.ProofKit
import Derived.LaidMore
import Derived.Lib.LaidTab
import Derived.Stop.Joined
import Derived.Stop.LaidErr
namespace Go.Proofs.YtmiemklgekhfeaaDoor
open Go.ChangeShapes Go.WideShapes Go.ChangeAt Go.RowKit

theorem ownKnobs : ownKnob Tryd.prog.godebug = none := by kernel_rfl
/-- The list that every row bears. -/
def laidList : List (String × DataW Unit) := Rows.shaNothingRow.laid
theorem door_met (os : Os) (args : Array Value) : laidMetH Tryd.prog laidList ((World.doorLaid Tryd.prog 19 os).forCall (fun _ _ => 0) ⟨#[], args, []⟩).memory :=
  laidMetH_of_parts3 (fuel := 8) (laidMet_of_run' 8 (by kernel_rfl) (by kernel_rfl)) (by kernel_rfl) (by kernel_rfl)
theorem globs_of_laid {W : World} (h : laidMetH Tryd.prog laidList W) : Globs W := by
  rw [MakeChecks.laidMetH_plain _ _ _ (by kernel_rfl)] at h
  have h0 := Lib.tabIs_of_head (k := .u32) (zs := [1732584193, 4023233417, 2562383102, 271733878, 3285377520]) (g := 0) (t := 50) (e := 49) (n := 5) (by kernel_rfl) (by kernel_rfl) Tryd.underlying50 Tryd.underlying49 (by kernel_rfl) (by kernel_rfl) h
  have h1 := Lib.tabIs_of_head (k := .u32) (zs := [1518500249, 1859775393, 2400959708, 3395469782]) (g := 1) (t := 62) (e := 49) (n := 4) (by kernel_rfl) (by kernel_rfl) Tryd.underlying62 Tryd.underlying49 (by kernel_rfl) (by kernel_rfl) (laidMet.tail h)
  refine ⟨fun j v hv => ?_, fun j v hv => ?_⟩
  · have hj : j < 5 := (List.getElem?_eq_some_iff.1 hv).1
    rw [Nat.zero_add, h0.cell (by kernel_rfl) j hj, ← hv, u32s_get start j hj]
    match j, hj with
    | 0, _ | 1, _ | 2, _ | 3, _ | 4, _ => rfl
  · have hj : j < 4 := (List.getElem?_eq_some_iff.1 hv).1
    rw [Nat.zero_add, h1.cell (by kernel_rfl) j hj, ← hv, u32s_get ks j hj]
    match j, hj with
    | 0, _ | 1, _ | 2, _ | 3, _ => rfl
end Go.Proofs.YtmiemklgekhfeaaDoor
