/- mask: Put. -/
import Derived.Test.YtpbfabcjkhlanaaDoorMaA
import Derived.Deep.DeepCutAuto
import Derived.Stop.BytesEq
set_option maxRecDepth 100000
namespace Go.Proofs.YtpbfabcjkhlanaaDoor.Mas
open Go.RowKit MaskPlain

section
variable {P : Program} {md : Region.Mode} {ops : Array Oper} {Q : Exit → Act → World → Prop} {S : World → Prop}
end
/-- What Put answers. -/
inductive PutR (w : World) (o : Option (List Nat)) : Ending → World → Prop where
  | yes (s : List Nat) (g cap : Nat) (w' : World) (h : o = some s) (hs : Sl (SrcAt w' (.slice (some ⟨g, 0, none⟩) s.length cap) s)) (hg : Sl (w.heap.size ≤ g)) (hb : Sl (Below w.heap.size w w')) :
      PutR w o (.returned (.tuple #[.slice (some ⟨g, 0, none⟩) s.length cap, .int .i64 0])) w'
  | no (w' : World) (h : o = none) (hb : Sl (Below w.heap.size w w')) : PutR w o (.returned (.tuple #[.slice none 0 0, .int .i64 81])) w'
theorem row_put (k : Nat) (hk : k < 2) (n : Nat) (h0 : ¬ n < 126) (hp : ∀ j, j < k → ¬ n ≤ (row j).most) (h : n ≤ (row k).most) : putL n = some ((row k).first :: be n (row k).behind) := by
  unfold putL
  match k, hk with
  | 0, _ =>
    have h1 : n ≤ 65535 := h
    rw [if_neg (by omega), if_neg h0, if_pos h1]; rfl
  | 1, _ =>
    have h1 : n ≤ 9223372036854775807 := h
    have h2 : ¬ n ≤ 65535 := hp 0 (by decide)
    rw [if_neg (by omega), if_neg h0, if_neg h2]; rfl
theorem put_none (n : Nat) (hp : ∀ j, j < 2 → ¬ n ≤ (row j).most) : putL n = none := by
  have h2 : ¬ n ≤ 9223372036854775807 := hp 1 (by decide)
  unfold putL
  rw [if_pos (by omega)]

end Go.Proofs.YtpbfabcjkhlanaaDoor.Mas
/- mask: Key. -/
set_option maxRecDepth 100000
namespace Go.Proofs.YtpbfabcjkhlanaaDoor.Mas
open Go.RowKit MaskPlain

end Go.Proofs.YtpbfabcjkhlanaaDoor.Mas
/- mask: the contracts in the form in which they are used; arrays compared; awake. -/
set_option maxRecDepth 100000
namespace Go.Proofs.YtpbfabcjkhlanaaDoor.Mas
open Go.RowKit MaskPlain

end Go.Proofs.YtpbfabcjkhlanaaDoor.Mas
