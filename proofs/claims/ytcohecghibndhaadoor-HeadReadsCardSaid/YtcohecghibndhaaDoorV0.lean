/- A field appended to a copy of a head's fields: what HeadFields' drawn region does, step for step. -/
import Derived.Test.YtcohecghibndhaaDoorGets0
namespace Go.Proofs.YtcohecghibndhaaDoor
open Go.RowKit HeadPlain

section
variable {P : Program} {md : Region.Mode} {ops : Array Oper} {Q : Exit → Act → World → Prop} {S : World → Prop}
def opIsT (ops : Array Oper) (i : Nat) (d : Option Tmp) (op : Op) (g : Option (Nat × Bool)) (t : TypeId) : Prop := (ops[i]?).map (fun o => (o.dst, o.op, o.guard, o.type)) = some (d, op, g, t)
theorem op_ofT {i : Nat} {d : Option Tmp} {op : Op} {g : Option (Nat × Bool)} {t : TypeId} (h : opIsT ops i d op g t) : ∃ o, ops[i]? = some o ∧ o.dst = d ∧ o.op = op ∧ o.guard = g ∧ o.type = t := by
  unfold opIsT at h
  cases ho : ops[i]? with
  | none => rw [ho] at h; cases h
  | some o =>
    rw [ho] at h
    simp only [Option.map_some, Option.some.injEq, Prod.mk.injEq] at h
    exact ⟨o, rfl, h.1, h.2.1, h.2.2.1, h.2.2.2⟩
theorem heldRunT {fuel : Nat} {listed : Array Bool} {a : Act} {w : World} {d : Option Tmp} {op : Op} {g : Option (Nat × Bool)} {t : TypeId} (i : Nat) (v : Value) (w' : World) (hi : opIsT ops i d op g t) (hw : lets ops a g = true)
    (hr : Region.ready md ops listed = [i]) (hy : ∀ o : Oper, o.op = op → o.type = t → (execOp a.eval o).run P w = .ok (.value v) w') (hS : S w')
    (h : wpAnyH P md ops Q S fuel (listed.setIfInBounds i true) (a.put d v) w') : wpAnyH P md ops Q S (fuel + 1) listed a w := by
  obtain ⟨o, ho, hd, hop, hg, ht⟩ := op_ofT hi
  refine wpAnyH_all hr (by simp) (fun k hk => ?_)
  rw [List.mem_singleton] at hk
  subst hk
  refine wpOp_step ho (fun K hK => ?_)
  rw [if_pos (wanted_of hg hw)]
  unfold Oper.wp
  rw [hy o hop ht, Oper.upon_value, hd]
  exact hK _ _ ⟨hS, h⟩
/-- A store. -/
theorem heldStore {fuel : Nat} {listed : Array Bool} {a : Act} {w : World} {d : Option Tmp} {op : Op} {g : Option (Nat × Bool)} {t : TypeId} (i : Nat) (w' : World) (hi : opIsT ops i d op g t) (hw : lets ops a g = true)
    (hr : Region.ready md ops listed = [i]) (hy : ∀ o : Oper, o.op = op → o.type = t → (execOp a.eval o).run P w = .ok .skip w') (hS : S w')
    (h : wpAnyH P md ops Q S fuel (listed.setIfInBounds i true) (a.put d undef) w') : wpAnyH P md ops Q S (fuel + 1) listed a w := by
  obtain ⟨o, ho, hd, hop, hg, ht⟩ := op_ofT hi
  refine wpAnyH_all hr (by simp) (fun k hk => ?_)
  rw [List.mem_singleton] at hk
  subst hk
  refine wpOp_step ho (fun K hK => ?_)
  rw [if_pos (wanted_of hg hw)]
  unfold Oper.wp
  rw [hy o hop ht, Oper.upon_skip, hd]
  exact hK _ _ ⟨hS, h⟩
/-- Two operations, neither of which waits for the other: in either order. -/
theorem heldTwo {fuel : Nat} {listed : Array Bool} {a : Act} {w : World} {di dj : Option Tmp} {opi opj : Op} {gi gj : Option (Nat × Bool)} {ti tj : TypeId} (i j : Nat) (vi : Value) (wi : World) (vj : Value) (wj : World)
    (hi : opIsT ops i di opi gi ti) (hj : opIsT ops j dj opj gj tj) (hwi : lets ops a gi = true) (hwj : lets ops a gj = true) (hr : Region.ready md ops listed = [i, j])
    (yi : ∀ o : Oper, o.op = opi → o.type = ti → (execOp a.eval o).run P w = .ok (.value vi) wi) (yj : ∀ o : Oper, o.op = opj → o.type = tj → (execOp a.eval o).run P w = .ok (.value vj) wj) (hSi : S wi) (hSj : S wj)
    (h1 : wpAnyH P md ops Q S fuel (listed.setIfInBounds i true) (a.put di vi) wi) (h2 : wpAnyH P md ops Q S fuel (listed.setIfInBounds j true) (a.put dj vj) wj) : wpAnyH P md ops Q S (fuel + 1) listed a w := by
  obtain ⟨o, ho, hd, hop, hg, ht⟩ := op_ofT hi
  obtain ⟨o', ho', hd', hop', hg', ht'⟩ := op_ofT hj
  refine wpAnyH_all hr (by simp) (fun k hk => ?_)
  rcases List.mem_cons.1 hk with rfl | hk
  · refine wpOp_step ho (fun K hK => ?_)
    rw [if_pos (wanted_of hg hwi)]
    unfold Oper.wp
    rw [yi o hop ht, Oper.upon_value, hd]
    exact hK _ _ ⟨hSi, h1⟩
  · rw [List.mem_singleton] at hk
    subst hk
    refine wpOp_step ho' (fun K hK => ?_)
    rw [if_pos (wanted_of hg' hwj)]
    unfold Oper.wp
    rw [yj o' hop' ht', Oper.upon_value, hd']
    exact hK _ _ ⟨hSj, h2⟩
end

theorem cellsF_get (fs : List FV) (i : Nat) (hi : i < fs.length) : (cellsF fs)[i * 2]? = some (.string (fs.getD i f0).1) ∧ (cellsF fs)[i * 2 + 1]? = some (.string (fs.getD i f0).2) := by
  induction fs generalizing i with
  | nil => cases hi
  | cons f fs ih =>
    have e : cellsF (f :: fs) = .string f.1 :: .string f.2 :: cellsF fs := rfl
    cases i with
    | zero => rw [e]; exact ⟨rfl, rfl⟩
    | succ i =>
      rw [e, show (i + 1) * 2 = i * 2 + 2 by omega]
      simpa using ih i (by simpa using hi)
theorem cellsF_one {fs : List FV} {j : Nat} {u : Value} (h : (cellsF fs)[j]? = some u) : ∃ i, i < fs.length ∧ ((j = i * 2 ∧ u = .string (fs.getD i f0).1) ∨ (j = i * 2 + 1 ∧ u = .string (fs.getD i f0).2)) := by
  have hj : j < (cellsF fs).length := (List.getElem?_eq_some_iff.1 h).1
  rw [cellsF_length] at hj
  have hi : j / 2 < fs.length := by omega
  obtain ⟨g1, g2⟩ := cellsF_get fs (j / 2) hi
  refine ⟨j / 2, hi, ?_⟩
  by_cases e : j % 2 = 0
  · left
    have e2 : j = j / 2 * 2 := by omega
    rw [← e2, h] at g1
    exact ⟨e2, by injection g1⟩
  · right
    have e2 : j = j / 2 * 2 + 1 := by omega
    rw [← e2, h] at g2
    exact ⟨e2, by injection g2⟩
theorem cellsF_oneCell {fs : List FV} : ∀ u ∈ cellsF fs, u.oneCell' = true := fun u hu => by
  simp only [cellsF, List.mem_flatMap] at hu
  obtain ⟨f, _, hf⟩ := hu
  simp at hf
  rcases hf with rfl | rfl <;> rfl
/-- The head's fields, appended to nothing. -/
theorem add_all {Z : World} {base : Nat} {v0 x : Value} {fs : List FV} (hown : Z.ownsRow base 48 2 v0 0 []) (hx : FieldsAt Z x fs) (hl : fs.length ≤ 1000) (hbase : base ≤ Z.heap.size) :
    ∃ v1 w1, (Builtin.append_ #[23, 23] 23 #[v0, x]).run Tryd.prog Z = .ok v1 w1 ∧ w1.ownsRow base 48 2 v1 fs.length (cellsF fs) ∧ Z.grownBy w1 v0.ownBlock := by
  obtain ⟨i0, hi0, hz0, hz1, hz2⟩ := info48
  obtain ⟨ad, cap, sb, so, rfl, hcap, hm, had, hcell⟩ := hx
  have key : ∀ a : Addr, (0 < fs.length → a = ⟨sb, so, none⟩) → ∃ v1 w1, (Builtin.append_ #[23, 23] 23 #[v0, .slice (some a) fs.length cap]).run Tryd.prog Z = .ok v1 w1 ∧ w1.ownsRow base 48 2 v1 fs.length (cellsF fs) ∧ Z.grownBy w1 v0.ownBlock := fun a ha => by
    obtain ⟨v', w', h1, h2, h3, _⟩ := run_append_own (P := Tryd.prog) Z base 23 23 48 i0 _ 2 32 Tryd.underlying23 hi0 hz0 hz1 hz2 rfl (by decide) v0 0 [] hown a fs.length cap (cellsF fs) (cellsF_length fs) (fun j u hu => by
      obtain ⟨i, hi, hh⟩ := cellsF_one hu
      obtain rfl := ha (by omega)
      obtain ⟨g1, g2, _, _⟩ := hcell i hi
      rw [Addr.add_mid]
      rcases hh with ⟨rfl, rfl⟩ | ⟨rfl, rfl⟩
      · exact g1
      · exact g2) cellsF_oneCell (by unfold maxLen; omega) (by omega) hbase
    rw [Nat.zero_add, List.nil_append] at h2
    exact ⟨v', w', h1, h2, h3⟩
  cases ad with
  | some a => exact key a (fun h => by have := had h; injection this)
  | none =>
    have hz : fs.length = 0 := by
      by_cases h : 0 < fs.length
      · have := had h; cases this
      · omega
    have hf : fs = [] := List.eq_nil_of_length_eq_zero hz
    subst hf
    refine ⟨v0, Z, ?_, hown, grown_refl _ _⟩
    rcases hown.2 with ⟨rfl, _⟩ | ⟨g, c, cur, rfl, _, _, hnc, _⟩
    · simp [Builtin.append_, run_underlying Tryd.underlying23, sizeOf, typeInfo, hi0, Builtin.lenOf, Builtin.firstCells]
    · simp [Builtin.append_, run_underlying Tryd.underlying23, sizeOf, typeInfo, hi0, Builtin.lenOf, Builtin.firstCells, storeCells]
/-- One field more. -/
theorem add_one {Z : World} {base : Nat} {v1 : Value} {fs : List FV} {g : Nat} {a b : ByteArray} (hown : Z.ownsRow base 48 2 v1 fs.length (cellsF fs)) (hl : fs.length ≤ 1000) (hbase : base ≤ Z.heap.size)
    (hg : Z.heap[g]? = some (.cells #[.string a, .string b] 48 (0, 0))) :
    ∃ v2 w2, (Builtin.append_ #[23, 23] 23 #[v1, .slice (some ⟨g, 0, none⟩) 1 1]).run Tryd.prog Z = .ok v2 w2 ∧ w2.ownsRow base 48 2 v2 (fs ++ [(a, b)]).length (cellsF (fs ++ [(a, b)])) ∧ Z.grownBy w2 v1.ownBlock := by
  obtain ⟨i0, hi0, hz0, hz1, hz2⟩ := info48
  obtain ⟨v', w', h1, h2, h3, _⟩ := run_append_own (P := Tryd.prog) Z base 23 23 48 i0 _ 2 32 Tryd.underlying23 hi0 hz0 hz1 hz2 rfl (by decide) v1 fs.length (cellsF fs) hown ⟨g, 0, none⟩ 1 1 [.string a, .string b] rfl (fun j u hu => by
    have hj : j < 2 := (List.getElem?_eq_some_iff.1 hu).1
    rw [Addr.add_mid, Nat.zero_add, cell_of_row _ _ _ _ _ _ hg, ← hu]
    exact List.getElem?_toArray) (fun u hu => by simp at hu; rcases hu with rfl | rfl <;> rfl) (by unfold maxLen; omega) (by omega) hbase
  refine ⟨v', w', h1, ?_, h3⟩
  rw [List.length_append, cellsF_append]
  exact h2
theorem owns_slice {w : World} {base n : Nat} {v : Value} {xs : List Value} (ho : w.ownsRow base 48 2 v n xs) : ∃ a m c, v = .slice a m c := by
  obtain ⟨_, h2⟩ := ho
  rcases h2 with ⟨rfl, _⟩ | ⟨g, cap, cur, rfl, _⟩
  · exact ⟨_, _, _, rfl⟩
  · exact ⟨_, _, _, rfl⟩
theorem fieldsAt_owns' {w : World} {base : Nat} {v : Value} {fs : List FV} (ho : w.ownsRow base 48 2 v fs.length (cellsF fs)) (hs : ∀ i, i < fs.length → (fs.getD i f0).1.size ≤ maxLen ∧ (fs.getD i f0).2.size ≤ maxLen) (hl : fs.length < 100000) : FieldsAt w v fs := by
  obtain ⟨h1, h2⟩ := ho
  rcases h2 with ⟨rfl, hz⟩ | ⟨g, cap, cur, rfl, hg, hh, hc1, hc2, hsz, htk⟩
  · refine ⟨none, 0, 0, 0, by rw [hz], by omega, by omega, fun h => by omega, fun i hi => by omega⟩
  · refine ⟨some ⟨g, 0, none⟩, cap, g, 0, rfl, hc1, by unfold maxLen; omega, fun _ => rfl, fun i hi => ?_⟩
    obtain ⟨k1, k2⟩ := cellsF_get fs i hi
    have cell : ∀ j u, (cellsF fs)[j]? = some u → w.cell? ⟨g, j, none⟩ = some u := fun j u hu => by
      rw [cell_of_row _ _ _ _ _ _ hh]
      rw [← htk] at hu
      have hj : j < (cur.toList.take (fs.length * 2)).length := (List.getElem?_eq_some_iff.1 hu).1
      rw [List.length_take] at hj
      rw [List.getElem?_take_of_lt (by omega)] at hu
      simpa using hu
    exact ⟨by rw [Nat.zero_add]; exact cell _ _ k1, by rw [Nat.zero_add]; exact cell _ _ k2, (hs i hi).1, (hs i hi).2⟩
/-- What the region leaves. -/
structure FieldsRel (w : World) (b1 bf b7 : Nat) (h : HdV) (x : Value) (n y : ByteArray) (wx : World) : Prop where
  b : Below w.heap.size w wx
  h1 : wx.heap[b1]? = some (.cells #[.string h.a, .string h.b, .string h.c, x] 25 (0, 0))
  hf : wx.heap[bf]? = some (.cells #[.string n, .string y] 48 (0, 0))
  h7 : ∃ (a : Option Addr) (c : Nat), wx.heap[b7]? = some (.cells #[.string h.a, .string h.b, .string h.c, .slice a (h.fs.length + 1) c] 25 (0, 0)) ∧ FieldsAt wx (.slice a (h.fs.length + 1) c) (h.fs ++ [(n, y)])
theorem fields_rel {w R w2 : World} {b1 bf b7 : Nat} {h : HdV} {x v2 : Value} {n y : ByteArray} (hb : Below w.heap.size w R) (h1 : R.heap[b1]? = some (.cells #[.string h.a, .string h.b, .string h.c, x] 25 (0, 0))) (hf : R.heap[bf]? = some (.cells #[.string n, .string y] 48 (0, 0)))
    (h7 : R.heap[b7]? = some (.cells #[.string h.a, .string h.b, .string h.c, x] 25 (0, 0))) (h17 : b1 ≠ b7) (hf7 : bf ≠ b7) (hw7 : w.heap.size ≤ b7) (hB : Below R.heap.size R w2) (ho : w2.ownsRow R.heap.size 48 2 v2 (h.fs ++ [(n, y)]).length (cellsF (h.fs ++ [(n, y)])))
    (hx : FieldsAt R x h.fs) (hn : n.size ≤ maxLen) (hy : y.size ≤ maxLen) (hl : h.fs.length ≤ 1000) : FieldsRel w b1 bf b7 h x n y (w2.setCell ⟨b7, 3, none⟩ v2) := by
  have hne : v2.ownBlock ≠ some b7 := fun e => by
    have := (ho.lt _ e).1
    have := lt_of_block h7
    omega
  have hF : FieldsAt (w2.setCell ⟨b7, 3, none⟩ v2) v2 (h.fs ++ [(n, y)]) := by
    refine fieldsAt_owns' (ownsRow_setCell_other ho hne _) (fun i hi => ?_) (by rw [List.length_append]; simp; omega)
    by_cases hlt : i < h.fs.length
    · obtain ⟨ad, cap, sb, so, _, _, _, _, hcell⟩ := hx
      obtain ⟨_, _, g3, g4⟩ := hcell i hlt
      have e : (h.fs ++ [(n, y)]).getD i f0 = h.fs.getD i f0 := by
        simp only [List.getD_eq_getElem?_getD]; rw [List.getElem?_append_left hlt]
      rw [e]; exact ⟨g3, g4⟩
    · have e : (h.fs ++ [(n, y)]).getD i f0 = (n, y) := by
        rw [List.length_append] at hi
        simp only [List.length_cons, List.length_nil] at hi
        obtain rfl : i = h.fs.length := by omega
        simp [List.getD_eq_getElem?_getD]
      rw [e]; exact ⟨hn, hy⟩
  refine ⟨(below_trans hb hB).setCell hw7 _, ?_, ?_, ?_⟩
  · rw [Below.heap_setCell _ _ _ _ h17]; exact box_below h1 hB
  · rw [Below.heap_setCell _ _ _ _ hf7]; exact box_below hf hB
  · have hs := hF
    obtain ⟨a, c, sb, so, e, _⟩ := hs
    rw [List.length_append] at e
    simp only [List.length_cons, List.length_nil, Nat.zero_add] at e
    subst e
    exact ⟨a, c, agg_setCell _ (box_below h7 hB), hF⟩
end Go.Proofs.YtcohecghibndhaaDoor
