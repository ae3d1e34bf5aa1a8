/- Regions that draw their order, more: two operations in either order, a store, a load beside a call (heldTake .. heldMore are in XBase). -/
import Derived.Test.YtdndpicfnlcgjaaDoorBase
set_option maxRecDepth 100000
namespace Go.Proofs.YtdndpicfnlcgjaaDoor
open Go.RowKit

section
variable {P : Program} {md : Region.Mode} {ops : Array Oper} {Q : Exit → Act → World → Prop} {S : World → Prop}
def opIsT (ops : Array Oper) (i : Nat) (d : Option Tmp) (op : Op) (g : Option (Nat × Bool)) (t : TypeId) : Prop := (ops[i]?).map (fun o => (o.dst, o.op, o.guard, o.type)) = some (d, op, g, t)
theorem op_ofT {i : Nat} {d : Option Tmp} {op : Op} {g : Option (Nat × Bool)} {t : TypeId} (h : opIsT ops i d op g t) : ∃ o, ops[i]? = some o ∧ o.dst = d ∧ o.op = op ∧ o.guard = g ∧ o.type = t := by
  unfold opIsT at h
  cases ho : ops[i]? with
  | none => rw [ho] at h; cases h
  | some o =>
    rw [ho] at h
    simp only [Option.map_some, Option.some.injEq, Prod.mk.injEq] at h
    exact ⟨o, rfl, h.1, h.2.1, h.2.2.1, h.2.2.2⟩
theorem heldRunT {fuel : Nat} {listed : Array Bool} {a : Act} {w : World} {d : Option Tmp} {op : Op} {g : Option (Nat × Bool)} {t : TypeId} (i : Nat) (v : Value) (w' : World) (hi : opIsT ops i d op g t) (hw : lets ops a g = true)
    (hr : Region.ready md ops listed = [i]) (hy : ∀ o : Oper, o.op = op → o.type = t → (execOp a.eval o).run P w = .ok (.value v) w') (hS : S w')
    (h : wpAnyH P md ops Q S fuel (listed.setIfInBounds i true) (a.put d v) w') : wpAnyH P md ops Q S (fuel + 1) listed a w := by
  obtain ⟨o, ho, hd, hop, hg, ht⟩ := op_ofT hi
  refine wpAnyH_all hr (by simp) (fun k hk => ?_)
  rw [List.mem_singleton] at hk
  subst hk
  refine wpOp_step ho (fun K hK => ?_)
  rw [if_pos (wanted_of hg hw)]
  unfold Oper.wp
  rw [hy o hop ht, Oper.upon_value, hd]
  exact hK _ _ ⟨hS, h⟩
/-- A store. -/
theorem heldStore {fuel : Nat} {listed : Array Bool} {a : Act} {w : World} {d : Option Tmp} {op : Op} {g : Option (Nat × Bool)} {t : TypeId} (i : Nat) (w' : World) (hi : opIsT ops i d op g t) (hw : lets ops a g = true)
    (hr : Region.ready md ops listed = [i]) (hy : ∀ o : Oper, o.op = op → o.type = t → (execOp a.eval o).run P w = .ok .skip w') (hS : S w')
    (h : wpAnyH P md ops Q S fuel (listed.setIfInBounds i true) (a.put d undef) w') : wpAnyH P md ops Q S (fuel + 1) listed a w := by
  obtain ⟨o, ho, hd, hop, hg, ht⟩ := op_ofT hi
  refine wpAnyH_all hr (by simp) (fun k hk => ?_)
  rw [List.mem_singleton] at hk
  subst hk
  refine wpOp_step ho (fun K hK => ?_)
  rw [if_pos (wanted_of hg hw)]
  unfold Oper.wp
  rw [hy o hop ht, Oper.upon_skip, hd]
  exact hK _ _ ⟨hS, h⟩
/-- Two operations, neither of which waits for the other: in either order. -/
theorem heldTwo {fuel : Nat} {listed : Array Bool} {a : Act} {w : World} {di dj : Option Tmp} {opi opj : Op} {gi gj : Option (Nat × Bool)} {ti tj : TypeId} (i j : Nat) (vi : Value) (wi : World) (vj : Value) (wj : World)
    (hi : opIsT ops i di opi gi ti) (hj : opIsT ops j dj opj gj tj) (hwi : lets ops a gi = true) (hwj : lets ops a gj = true) (hr : Region.ready md ops listed = [i, j])
    (yi : ∀ o : Oper, o.op = opi → o.type = ti → (execOp a.eval o).run P w = .ok (.value vi) wi) (yj : ∀ o : Oper, o.op = opj → o.type = tj → (execOp a.eval o).run P w = .ok (.value vj) wj) (hSi : S wi) (hSj : S wj)
    (h1 : wpAnyH P md ops Q S fuel (listed.setIfInBounds i true) (a.put di vi) wi) (h2 : wpAnyH P md ops Q S fuel (listed.setIfInBounds j true) (a.put dj vj) wj) : wpAnyH P md ops Q S (fuel + 1) listed a w := by
  obtain ⟨o, ho, hd, hop, hg, ht⟩ := op_ofT hi
  obtain ⟨o', ho', hd', hop', hg', ht'⟩ := op_ofT hj
  refine wpAnyH_all hr (by simp) (fun k hk => ?_)
  rcases List.mem_cons.1 hk with rfl | hk
  · refine wpOp_step ho (fun K hK => ?_)
    rw [if_pos (wanted_of hg hwi)]
    unfold Oper.wp
    rw [yi o hop ht, Oper.upon_value, hd]
    exact hK _ _ ⟨hSi, h1⟩
  · rw [List.mem_singleton] at hk
    subst hk
    refine wpOp_step ho' (fun K hK => ?_)
    rw [if_pos (wanted_of hg' hwj)]
    unfold Oper.wp
    rw [yj o' hop' ht', Oper.upon_value, hd']
    exact hK _ _ ⟨hSj, h2⟩
/-- A load and a call that changes nothing, neither of which waits for the other: in either order. -/
theorem heldLC {fuel : Nat} {listed : Array Bool} {a : Act} {w : World} {di dj : Option Tmp} {opi opj : Op} {gi gj : Option (Nat × Bool)} (i j : Nat) (vi : Value) (f : FuncId) (args : Array Value)
    (hi : opIsG ops i di opi gi) (hj : opIsG ops j dj opj gj) (hwi : lets ops a gi = true) (hwj : lets ops a gj = true) (hr : Region.ready md ops listed = [i, j])
    (yi : ∀ o : Oper, o.op = opi → (execOp a.eval o).run P w = .ok (.value vi) w) (yj : ∀ o : Oper, o.op = opj → (execOp a.eval o).run P w = .ok (.enter f args) w) (hS : S w)
    (h1 : wpAnyH P md ops Q S fuel (listed.setIfInBounds i true) (a.put di vi) w)
    (h2 : Calls P f args w fun e w' => ∃ v, e = .returned v ∧ S w' ∧ wpAnyH P md ops Q S fuel (listed.setIfInBounds j true) (a.put dj v) w') : wpAnyH P md ops Q S (fuel + 1) listed a w := by
  obtain ⟨o, ho, hd, hop, hg⟩ := op_ofG hi
  obtain ⟨o', ho', hd', hop', hg'⟩ := op_ofG hj
  refine wpAnyH_all hr (by simp) (fun k hk => ?_)
  rcases List.mem_cons.1 hk with rfl | hk
  · refine wpOp_step ho (fun K hK => ?_)
    rw [if_pos (wanted_of hg hwi)]
    unfold Oper.wp
    rw [yi o hop, Oper.upon_value, hd]
    exact hK _ _ ⟨hS, h1⟩
  · rw [List.mem_singleton] at hk
    subst hk
    refine wpOp_step ho' (fun K hK => ?_)
    rw [if_pos (wanted_of hg' hwj)]
    unfold Oper.wp
    rw [yj o' hop', Oper.upon_enter]
    refine h2.mono ?_
    rintro e w' ⟨v, rfl, hS', h'⟩
    rw [hd']
    exact hK _ _ ⟨hS', h'⟩
end
end Go.Proofs.YtdndpicfnlcgjaaDoor
