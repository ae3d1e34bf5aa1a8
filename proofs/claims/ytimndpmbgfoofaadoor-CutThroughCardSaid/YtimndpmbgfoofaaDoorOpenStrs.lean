/- A slice of strings that reads as data, opened. -/
import Derived.Test.YtimndpmbgfoofaaDoorBase
import Derived.SliceStrings
import Derived.ProofKit
namespace Go.Proofs.YtimndpmbgfoofaaDoor
open Go.RowKit Go.WideShapes Go.ChangeShapes

/-- The strings l are the elements of the slice v. -/
def StrsAt (W : World) (v : Value) (l : List ByteArray) : Prop :=
  ∃ (a : Option Addr) (cap sb so : Nat), v = .slice a l.length cap ∧ l.length ≤ maxLen ∧ (0 < l.length → a = some ⟨sb, so, none⟩) ∧ (∀ i, i < l.length → W.cell? ⟨sb, so + i, none⟩ = some (.string (l.getD i ByteArray.empty))) ∧
    ∀ i, (l.getD i ByteArray.empty).size ≤ maxLen
end Go.Proofs.YtimndpmbgfoofaaDoor
