/- A mask out of the data that comes in. -/
import Derived.Test.YtpbfabcjkhlanaaDoorHeld
import Derived.ChangeSlices
import Derived.SliceStrings
import Derived.ProofKit
import Derived.ChangeArms
import Derived.OpenShut
import Derived.Laws.IdiomArrays
namespace Go.Proofs.YtpbfabcjkhlanaaDoor
open Go.RowKit Go.WideShapes Go.ChangeShapes

theorem agg_of_cells {v : Value} {l : List Value} (h : v.cells.toList = l) (hl : l.length ≠ 1) : v = .agg l.toArray := by
  subst h
  cases v with
  | agg cs => simp [Value.cells]
  | _ => exact absurd rfl hl
theorem keyAt_of_trod {H : Type} {enc : TypeId × Value → H} {W : World} {v : Value} {d : DataW H} {p : List MemPlace} (h : DataW.Trod enc Tryd.prog W 0 (fun _ => true) true 33 v d p) :
    ∃ key : List Nat, v = .agg (u8s key).toArray ∧ key.length = 4 ∧ Small 256 key := by
  obtain ⟨fuel, hf⟩ := h
  obtain ⟨xs, n, _, hx, hl, hlen, hf⟩ := DataW.trod_array Tryd.underlying33 hf
  have c22 : Tryd.prog.cellsOf 33 = 4 := by kernel_rfl
  have c5 : Tryd.prog.cellsOf 5 = 1 := by kernel_rfl
  rw [c22] at hl
  rw [c5] at hf
  match hcs : v.cells.toList, hl with
  | [a0, a1, a2, a3], _ =>
    have e := agg_of_cells hcs (by simp)
    match xs, hlen with
    | [y0, y1, y2, y3], _ =>
      rw [hcs] at hf
      obtain ⟨z0, g0, _, w0⟩ := DataW.trod_int Tryd.underlying5 (hf 0 (by decide))
      obtain ⟨z1, g1, _, w1⟩ := DataW.trod_int Tryd.underlying5 (hf 1 (by decide))
      obtain ⟨z2, g2, _, w2⟩ := DataW.trod_int Tryd.underlying5 (hf 2 (by decide))
      obtain ⟨z3, g3, _, w3⟩ := DataW.trod_int Tryd.underlying5 (hf 3 (by decide))
      simp at g0 g1 g2 g3
      subst g0 g1 g2 g3
      have b0 := bounds_u8 w0
      have b1 := bounds_u8 w1
      have b2 := bounds_u8 w2
      have b3 := bounds_u8 w3
      obtain ⟨n0, rfl⟩ := Int.eq_ofNat_of_zero_le b0.1
      obtain ⟨n1, rfl⟩ := Int.eq_ofNat_of_zero_le b1.1
      obtain ⟨n2, rfl⟩ := Int.eq_ofNat_of_zero_le b2.1
      obtain ⟨n3, rfl⟩ := Int.eq_ofNat_of_zero_le b3.1
      exact ⟨[n0, n1, n2, n3], e, rfl, fun x hx => by simp at hx; omega⟩
end Go.Proofs.YtpbfabcjkhlanaaDoor
