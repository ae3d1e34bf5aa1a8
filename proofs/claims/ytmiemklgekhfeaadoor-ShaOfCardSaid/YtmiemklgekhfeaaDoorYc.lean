/- A store that stands alone; four bytes of a part. -/
import Derived.Test.YtmiemklgekhfeaaDoorYb
namespace Go.Proofs.YtmiemklgekhfeaaDoor
open Go.RowKit

theorem heldStore {P : Program} {md : Region.Mode} {ops : Array Oper} {Q : Exit → Act → World → Prop} {S : World → Prop} {fuel : Nat} {listed : Array Bool} {a : Act} {w : World} {d : Option Tmp} {op : Op} {g : Option (Nat × Bool)} (i : Nat) (w' : World) (hi : opIsG ops i d op g) (hw : lets ops a g = true)
    (hr : Region.ready md ops listed = [i]) (hy : ∀ o : Oper, o.op = op → (execOp a.eval o).run P w = .ok .skip w') (hS : S w')
    (h : wpAnyH P md ops Q S fuel (listed.setIfInBounds i true) (a.put d undef) w') : wpAnyH P md ops Q S (fuel + 1) listed a w := by
  obtain ⟨o, ho, hd, hop, hg⟩ := op_ofG hi
  refine wpAnyH_all hr (by simp) (fun k hk => ?_)
  rw [List.mem_singleton] at hk
  subst hk
  refine wpOp_step ho (fun K hK => ?_)
  rw [if_pos (wanted_of hg hw)]
  unfold Oper.wp
  rw [hy o hop, Oper.upon_skip, hd]
  exact hK _ _ ⟨hS, h⟩
theorem bytesOf_four (H : List Nat) (k : Nat) (h : H.getD k 0 < 4294967296) : bytesOf H (4 * (k + 1)) = bytesOf H (4 * k) ++ [H.getD k 0 / 16777216, H.getD k 0 / 65536 % 256, H.getD k 0 / 256 % 256, H.getD k 0 % 256] := by
  rw [show 4 * (k + 1) = 4 * k + 1 + 1 + 1 + 1 by omega]
  simp only [bytesOf]
  rw [show (4 * k) / 4 = k by omega, show (4 * k + 1) / 4 = k by omega, show (4 * k + 1 + 1) / 4 = k by omega, show (4 * k + 1 + 1 + 1) / 4 = k by omega,
    show (4 * k) % 4 = 0 by omega, show (4 * k + 1) % 4 = 1 by omega, show (4 * k + 1 + 1) % 4 = 2 by omega, show (4 * k + 1 + 1 + 1) % 4 = 3 by omega]
  simp only [List.append_assoc, List.cons_append, List.nil_append]
  generalize H.getD k 0 = n at *
  have e : n / 2 ^ (24 - 8 * 0) % 256 = n / 16777216 := by rw [show 2 ^ (24 - 8 * 0) = 16777216 by decide]; omega
  rw [e]; simp
end Go.Proofs.YtmiemklgekhfeaaDoor
