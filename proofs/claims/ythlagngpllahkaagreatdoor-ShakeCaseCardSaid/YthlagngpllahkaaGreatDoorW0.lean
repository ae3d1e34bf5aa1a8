import Derived.Test.YthlagngpllahkaaGreatDoorS16
set_option maxRecDepth 100000
namespace Go.Proofs.YthlagngpllahkaaGreatDoor
open Go.RowKit HeadPlain
/-- To store what is there changes nothing. -/
theorem setCell_there {W : World} {g i : Nat} {cs : Array Value} {t : TypeId} {f : Nat × Nat} {v : Value} (h : W.heap[g]? = some (.cells cs t f)) (hv : cs[i]? = some v) : W.setCell ⟨g, i, none⟩ v = W := by
  have e : ∀ F : Obj → Obj, F (.cells cs t f) = .cells cs t f → W.heap.modify g F = W.heap := fun F hF => by
    apply Array.ext
    · simp
    · intro j h1 h2
      rw [Array.getElem_modify]
      split
      · rename_i hj
        subst hj
        have hg : W.heap[g] = .cells cs t f := by
          have := Array.getElem?_eq_getElem h2
          rw [h] at this
          exact (Option.some.inj this).symm
        rw [hg, hF]
      · rfl
  have e2 : cs.setIfInBounds i v = cs := by
    apply Array.ext
    · simp
    · intro k k1 k2
      rw [Array.getElem_setIfInBounds]
      split
      · rename_i hk
        subst hk
        rw [Array.getElem?_eq_getElem k2] at hv
        exact (Option.some.inj hv).symm
      · rfl
  unfold World.setCell
  rw [e _ (by simp [e2])]
theorem offer_zero {W : World} {g : Nat} (h : W.heap[g]? = some (.cells #[.string { data := #[] }, .string { data := #[] }, .string { data := #[] }, .string { data := #[] }, .slice none 0 0] 30 (0, 0))) :
    (W.cell? ⟨g, 0, none⟩ = some (.string { data := #[] }) ∧ W.cell? ⟨g, 1, none⟩ = some (.string { data := #[] }) ∧ W.cell? ⟨g, 2, none⟩ = some (.string { data := #[] }) ∧ W.cell? ⟨g, 3, none⟩ = some (.string { data := #[] }) ∧ W.cell? ⟨g, 4, none⟩ = some (.slice none 0 0)) ∧
    (W.frozen? ⟨g, 0, none⟩ = false ∧ W.frozen? ⟨g, 1, none⟩ = false ∧ W.frozen? ⟨g, 2, none⟩ = false ∧ W.frozen? ⟨g, 3, none⟩ = false ∧ W.frozen? ⟨g, 4, none⟩ = false) ∧
    (W.setCell ⟨g, 0, none⟩ (.string { data := #[] }) = W ∧ W.setCell ⟨g, 1, none⟩ (.string { data := #[] }) = W ∧ W.setCell ⟨g, 2, none⟩ (.string { data := #[] }) = W ∧ W.setCell ⟨g, 3, none⟩ (.string { data := #[] }) = W ∧ W.setCell ⟨g, 4, none⟩ (.slice none 0 0) = W) :=
  ⟨⟨by rw [cell_of_row _ _ _ _ _ _ h]; rfl, by rw [cell_of_row _ _ _ _ _ _ h]; rfl, by rw [cell_of_row _ _ _ _ _ _ h]; rfl, by rw [cell_of_row _ _ _ _ _ _ h]; rfl, by rw [cell_of_row _ _ _ _ _ _ h]; rfl⟩,
   ⟨frozen_of_row _ _ _ _ _ h, frozen_of_row _ _ _ _ _ h, frozen_of_row _ _ _ _ _ h, frozen_of_row _ _ _ _ _ h, frozen_of_row _ _ _ _ _ h⟩,
   ⟨setCell_there h rfl, setCell_there h rfl, setCell_there h rfl, setCell_there h rfl, setCell_there h rfl⟩⟩
end Go.Proofs.YthlagngpllahkaaGreatDoor
