/- Small laws on a statement whose order Go leaves open: an operation that looks at no memory is taken first; two loads in either order; then the rest in its one order. -/
import Derived.Test.YtmiemklgekhfeaaDoorE
import Derived.Deep.RegionHeld3
namespace Go.Proofs.YtmiemklgekhfeaaDoor
open Go.RowKit
section
variable {P : Program} {md : Region.Mode} {ops : Array Oper} {Q : Exit → Act → World → Prop}

/-- What an operation is, without its place and its edges. -/
def opIs (ops : Array Oper) (i d : Nat) (op : Op) : Prop := (ops[i]?).map (fun o => (o.dst, o.op, o.guard)) = some (some d, op, none)
theorem op_of {i d : Nat} {op : Op} (h : opIs ops i d op) : ∃ o, ops[i]? = some o ∧ o.dst = some d ∧ o.op = op ∧ o.guard = none := by
  unfold opIs at h
  cases ho : ops[i]? with
  | none => rw [ho] at h; cases h
  | some o =>
    rw [ho] at h
    simp only [Option.map_some, Option.some.injEq, Prod.mk.injEq] at h
    exact ⟨o, rfl, h.1, h.2.1, h.2.2⟩
theorem take_of {fuel : Nat} {listed : Array Bool} {a : Act} {w : World} (i d : Nat) (op : Op) (v : Value) (hi : opIs ops i d op) (hs : Region.noSelect ops = true) (hf : Region.free md ops listed i = true)
    (hr : (Region.ready md ops listed).contains i = true) (hy : ∀ o : Oper, o.op = op → ∀ w, (execOp a.eval o).run P w = .ok (.value v) w)
    (h : wpAny P md ops (NoPanic Q) fuel (listed.setIfInBounds i true) (a.put (some d) v) w) : wpAny P md ops (NoPanic Q) (fuel + 1) listed a w := by
  obtain ⟨o, ho, hd, hop, hg⟩ := op_of hi
  refine wpAny_take ho hs hf hr (fun _ _ _ h => h) (Or.inl ⟨by simp [Region.wanted, hg], hy o hop⟩) ?_
  rw [hd]; exact h
theorem wpOp_yield {a : Act} {w : World} {K : Act → World → Prop} (i d : Nat) (op : Op) (v : Value) (hi : opIs ops i d op) (hy : ∀ o : Oper, o.op = op → (execOp a.eval o).run P w = .ok (.value v) w)
    (h : K (a.put (some d) v) w) : wpOp P ops Q i K a w := by
  obtain ⟨o, ho, hd, hop, hg⟩ := op_of hi
  refine wpOp_of_stOp (K := fun a' => K a' w) (fun _ h => h) ?_
  exact YieldsAt.stOp ho (Or.inl ⟨by simp [Region.wanted, hg], Or.inl (hy o hop)⟩) (by rw [hd]; exact h)
theorem wpAny_two {fuel : Nat} {listed : Array Bool} {a : Act} {w : World} (i j di dj : Nat) (oi oj : Op) (vi vj : Value) (hi : opIs ops i di oi) (hj : opIs ops j dj oj) (hne : di ≠ dj) (hij : i ≠ j)
    (hr : Region.ready md ops listed = [i, j]) (hri : Region.ready md ops (listed.setIfInBounds i true) = [j]) (hrj : Region.ready md ops (listed.setIfInBounds j true) = [i])
    (yi : ∀ o : Oper, o.op = oi → (execOp a.eval o).run P w = .ok (.value vi) w) (yi' : ∀ o : Oper, o.op = oi → (execOp (a.put (some dj) vj).eval o).run P w = .ok (.value vi) w)
    (yj : ∀ o : Oper, o.op = oj → (execOp a.eval o).run P w = .ok (.value vj) w) (yj' : ∀ o : Oper, o.op = oj → (execOp (a.put (some di) vi).eval o).run P w = .ok (.value vj) w)
    (h : wpAny P md ops Q fuel ((listed.setIfInBounds i true).setIfInBounds j true) ((a.put (some di) vi).put (some dj) vj) w) : wpAny P md ops Q (fuel + 2) listed a w := by
  refine wpAny_all hr (by simp) (fun k hk => ?_)
  simp only [List.mem_cons, List.not_mem_nil, or_false] at hk
  rcases hk with rfl | rfl
  · refine wpOp_yield _ di oi vi hi yi (wpAny_all hri (by simp) (fun k hk => ?_))
    rw [List.mem_singleton] at hk
    subst hk
    exact wpOp_yield _ dj oj vj hj yj' h
  · refine wpOp_yield _ dj oj vj hj yj (wpAny_all hrj (by simp) (fun k hk => ?_))
    rw [List.mem_singleton] at hk
    subst hk
    refine wpOp_yield _ di oi vi hi yi' ?_
    rw [Array.setIfInBounds_comm _ _ hij, Act.put_comm a vi vj (by simpa using Ne.symm hne)] at h
    exact h
theorem seq_tail {l : List Oper} {listed : Array Bool} {a : Act} {w : World} {fuel : Nat} (n : Nat) (hf : fuel = (l.drop n).length) (hB : Region.seqB md l.toArray (l.drop n).length n listed = true)
    (h : wpList P l.toArray Q (l.drop n) a w) : wpAny P md l.toArray Q fuel listed a w := by
  subst hf
  exact wpAny_of_seq (l.drop n) n listed a w (fun j => by simp [List.getElem?_drop]) hB h
theorem load_yields {a : Act} {w : World} (ty : TypeId) (x : Operand) (b o : Nat) (hx : a.eval x = .pointer (some ⟨b, o, none⟩)) (cs : List Value) (d : TypeDesc) (hc : w.rangeAt b o cs)
    (hu : P.underlying ty = some d) (hd : d.isRow = true) (hi : (P.info? ty).map (·.size) = some cs.length) : ∀ op : Oper, op.op = .load ty x → (execOp a.eval op).run P w = .ok (.value (.agg cs.toArray)) w := by
  intro op ho
  unfold execOp
  simp only [ho, hx, Instr.loadAt, Instr.sureAddr, Sem.run_bind, Sem.run_pure, Result.andThen_ok, run_loadVar_mid w b o ty cs d hc hu hd hi]
end
end Go.Proofs.YtmiemklgekhfeaaDoor
