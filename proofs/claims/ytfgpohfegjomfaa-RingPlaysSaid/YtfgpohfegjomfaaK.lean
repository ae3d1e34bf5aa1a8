/- Laws on a statement whose order Go leaves open, under a fact S that every operation of it keeps: an operation that yields one value in every world that meets S is taken first; one that stands alone is carried out. -/
import Derived.Test.YtfgpohfegjomfaaH
namespace Go.Proofs.Ytfgpohfegjomfaa
open Go.RowKit
section
variable {P : Program} {md : Region.Mode} {ops : Array Oper} {Q : Exit → Act → World → Prop} {S : World → Prop}

/-- What an operation is, without its place and its edges. -/
def opIsG (ops : Array Oper) (i : Nat) (d : Option Tmp) (op : Op) (g : Option (Nat × Bool)) : Prop := (ops[i]?).map (fun o => (o.dst, o.op, o.guard)) = some (d, op, g)
theorem op_ofG {i : Nat} {d : Option Tmp} {op : Op} {g : Option (Nat × Bool)} (h : opIsG ops i d op g) : ∃ o, ops[i]? = some o ∧ o.dst = d ∧ o.op = op ∧ o.guard = g := by
  unfold opIsG at h
  cases ho : ops[i]? with
  | none => rw [ho] at h; cases h
  | some o =>
    rw [ho] at h
    simp only [Option.map_some, Option.some.injEq, Prod.mk.injEq] at h
    exact ⟨o, rfl, h.1, h.2.1, h.2.2⟩
/-- The guard lets the operation run. -/
def lets (ops : Array Oper) (a : Act) : Option (Nat × Bool) → Bool
  | none => true
  | some (j, want) => yielded ops a.tmps j == some want
theorem wanted_of {o : Oper} {a : Act} {g : Option (Nat × Bool)} (hg : o.guard = g) (h : lets ops a g = true) : Region.wanted o (yielded ops a.tmps) = true := by
  unfold Region.wanted
  rw [hg]
  cases g with
  | none => rfl
  | some p => exact h
theorem heldTake {fuel : Nat} {listed : Array Bool} {a : Act} {w : World} {d : Option Tmp} {op : Op} {g : Option (Nat × Bool)} (i : Nat) (v : Value) (hi : opIsG ops i d op g) (hw : lets ops a g = true)
    (hs : Region.noSelect ops = true) (hf : Region.free md ops listed i = true) (hr : (Region.ready md ops listed).contains i = true)
    (hy : ∀ o : Oper, o.op = op → ∀ w, S w → (execOp a.eval o).run P w = .ok (.value v) w) (hS : S w)
    (h : wpAnyH P md ops (NoPanic Q) S fuel (listed.setIfInBounds i true) (a.put d v) w) : wpAnyH P md ops (NoPanic Q) S (fuel + 1) listed a w := by
  obtain ⟨o, ho, hd, hop, hg⟩ := op_ofG hi
  refine wpAnyH_take ho hs hf hr (fun _ _ _ h => h) (Or.inl ⟨wanted_of hg hw, hy o hop⟩) hS ?_
  rw [hd]; exact h
/-- One that its guard passes over. -/
theorem heldSkip {fuel : Nat} {listed : Array Bool} {a : Act} {w : World} {d : Option Tmp} {op : Op} {g : Option (Nat × Bool)} (i : Nat) (hi : opIsG ops i d op g) (hw : lets ops a g = false)
    (hs : Region.noSelect ops = true) (hf : Region.free md ops listed i = true) (hr : (Region.ready md ops listed).contains i = true) (hS : S w)
    (h : wpAnyH P md ops (NoPanic Q) S fuel (listed.setIfInBounds i true) (a.put d undef) w) : wpAnyH P md ops (NoPanic Q) S (fuel + 1) listed a w := by
  obtain ⟨o, ho, hd, hop, hg⟩ := op_ofG hi
  have hwf : Region.wanted o (yielded ops a.tmps) = false := by
    unfold Region.wanted
    rw [hg]
    cases g with
    | none => cases hw
    | some p => exact hw
  refine wpAnyH_take ho hs hf hr (fun _ _ _ h => h) (Or.inr ⟨hwf, rfl⟩) hS ?_
  rw [hd]; exact h
theorem heldRun {fuel : Nat} {listed : Array Bool} {a : Act} {w : World} {d : Option Tmp} {op : Op} {g : Option (Nat × Bool)} (i : Nat) (v : Value) (w' : World) (hi : opIsG ops i d op g) (hw : lets ops a g = true)
    (hr : Region.ready md ops listed = [i]) (hy : ∀ o : Oper, o.op = op → (execOp a.eval o).run P w = .ok (.value v) w') (hS : S w')
    (h : wpAnyH P md ops Q S fuel (listed.setIfInBounds i true) (a.put d v) w') : wpAnyH P md ops Q S (fuel + 1) listed a w := by
  obtain ⟨o, ho, hd, hop, hg⟩ := op_ofG hi
  refine wpAnyH_all hr (by simp) (fun k hk => ?_)
  rw [List.mem_singleton] at hk
  subst hk
  refine wpOp_step ho (fun K hK => ?_)
  rw [if_pos (wanted_of hg hw)]
  unfold Oper.wp
  rw [hy o hop, Oper.upon_value, hd]
  exact hK _ _ ⟨hS, h⟩
theorem heldCall {fuel : Nat} {listed : Array Bool} {a : Act} {w : World} {d : Option Tmp} {op : Op} {g : Option (Nat × Bool)} (i : Nat) (f : FuncId) (args : Array Value) (hi : opIsG ops i d op g) (hw : lets ops a g = true)
    (hr : Region.ready md ops listed = [i]) (hy : ∀ o : Oper, o.op = op → (execOp a.eval o).run P w = .ok (.enter f args) w)
    (h : Calls P f args w fun e w' => ∃ v, e = .returned v ∧ S w' ∧ wpAnyH P md ops Q S fuel (listed.setIfInBounds i true) (a.put d v) w') : wpAnyH P md ops Q S (fuel + 1) listed a w := by
  obtain ⟨o, ho, hd, hop, hg⟩ := op_ofG hi
  refine wpAnyH_all hr (by simp) (fun k hk => ?_)
  rw [List.mem_singleton] at hk
  subst hk
  refine wpOp_step ho (fun K hK => ?_)
  rw [if_pos (wanted_of hg hw)]
  unfold Oper.wp
  rw [hy o hop, Oper.upon_enter]
  refine h.mono ?_
  rintro e w' ⟨v, rfl, hS, h'⟩
  rw [hd]
  exact hK _ _ ⟨hS, h'⟩
/-- A call and an operation that makes memory, neither of which waits for the other: in either order. -/
theorem heldBoth {fuel : Nat} {listed : Array Bool} {a : Act} {w : World} {di dj : Nat} {opi opj : Op} {gi gj : Option (Nat × Bool)} (i j : Nat) (f : FuncId) (args : Array Value) (vi : Value) (T : Value → World → Prop)
    (hi : opIsG ops i (some di) opi gi) (hj : opIsG ops j (some dj) opj gj) (hwi : lets ops a gi = true) (hwi' : ∀ v, lets ops (a.put (some dj) v) gi = true) (hwj : lets ops a gj = true) (hwj' : lets ops (a.put (some di) vi) gj = true)
    (hne : di ≠ dj) (hij : i ≠ j) (hr : Region.ready md ops listed = [i, j]) (hri : Region.ready md ops (listed.setIfInBounds i true) = [j]) (hrj : Region.ready md ops (listed.setIfInBounds j true) = [i])
    (yi : ∀ o : Oper, o.op = opi → ∀ W, (execOp a.eval o).run P W = .ok (.enter f args) W) (yi' : ∀ v, ∀ o : Oper, o.op = opi → ∀ W, (execOp (a.put (some dj) v).eval o).run P W = .ok (.enter f args) W)
    (keepS : ∀ W w', S W → Below W.heap.size W w' → S w') (keepT : ∀ v W w', T v W → Below W.heap.size W w' → T v w')
    (ci : ∀ W, S W → Calls P f args W fun e w' => e = .returned vi ∧ Below W.heap.size W w')
    (yj : ∀ W, ∃ v w', (∀ o : Oper, o.op = opj → (execOp a.eval o).run P W = .ok (.value v) w') ∧ (∀ o : Oper, o.op = opj → (execOp (a.put (some di) vi).eval o).run P W = .ok (.value v) w') ∧ Below W.heap.size W w' ∧ T v w')
    (hS : S w) (tail : ∀ v W, S W → T v W → wpAnyH P md ops Q S fuel ((listed.setIfInBounds i true).setIfInBounds j true) ((a.put (some di) vi).put (some dj) v) W) :
    wpAnyH P md ops Q S (fuel + 2) listed a w := by
  refine wpAnyH_all hr (by simp) (fun k hk => ?_)
  simp only [List.mem_cons, List.not_mem_nil, or_false] at hk
  rcases hk with rfl | rfl
  · obtain ⟨o, ho, hd, hop, hg⟩ := op_ofG hi
    refine wpOp_step ho (fun K hK => ?_)
    rw [if_pos (wanted_of hg hwi)]
    unfold Oper.wp
    rw [yi o hop, Oper.upon_enter]
    refine (ci w hS).mono ?_
    rintro e w1 ⟨rfl, hb1⟩
    rw [hd]
    have hS1 := keepS _ _ hS hb1
    refine hK _ _ ⟨hS1, ?_⟩
    obtain ⟨v, w2, _, y2, hb2, hT⟩ := yj w1
    exact heldRun j v w2 hj hwj' hri y2 (keepS _ _ hS1 hb2) (tail v w2 (keepS _ _ hS1 hb2) hT)
  · obtain ⟨v, w1, y1, _, hb1, hT⟩ := yj w
    obtain ⟨o, ho, hd, hop, hg⟩ := op_ofG hj
    refine wpOp_step ho (fun K hK => ?_)
    rw [if_pos (wanted_of hg hwj)]
    unfold Oper.wp
    rw [y1 o hop, Oper.upon_value, hd]
    have hS1 := keepS _ _ hS hb1
    refine hK _ _ ⟨hS1, ?_⟩
    refine heldCall i f args hi (hwi' v) hrj (fun o ho => yi' v o ho w1) ?_
    refine (ci w1 hS1).mono ?_
    rintro e w2 ⟨rfl, hb2⟩
    refine ⟨_, rfl, keepS _ _ hS1 hb2, ?_⟩
    have ht := tail v w2 (keepS _ _ hS1 hb2) (keepT _ _ _ hT hb2)
    rw [Array.setIfInBounds_comm _ _ hij, Act.put_comm a vi v (by simpa using Ne.symm hne)] at ht
    exact ht
end
end Go.Proofs.Ytfgpohfegjomfaa
