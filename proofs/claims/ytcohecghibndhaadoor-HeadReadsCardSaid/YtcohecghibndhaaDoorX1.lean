/- The document's Read, its plain side: lines taken one by one. -/
import Derived.Test.YtcohecghibndhaaDoorX0
import Derived.Test.YtcohecghibndhaaDoorV0
namespace Go.Proofs.YtcohecghibndhaaDoor
open Go.RowKit HeadPlain

section
variable {P : Program} {md : Region.Mode} {ops : Array Oper} {Q : Exit → Act → World → Prop} {S : World → Prop}
/-- A load and a call that changes nothing, neither of which waits for the other: in either order. -/
theorem heldLC {fuel : Nat} {listed : Array Bool} {a : Act} {w : World} {di dj : Option Tmp} {opi opj : Op} {gi gj : Option (Nat × Bool)} (i j : Nat) (vi : Value) (f : FuncId) (args : Array Value)
    (hi : opIsG ops i di opi gi) (hj : opIsG ops j dj opj gj) (hwi : lets ops a gi = true) (hwj : lets ops a gj = true) (hr : Region.ready md ops listed = [i, j])
    (yi : ∀ o : Oper, o.op = opi → (execOp a.eval o).run P w = .ok (.value vi) w) (yj : ∀ o : Oper, o.op = opj → (execOp a.eval o).run P w = .ok (.enter f args) w) (hS : S w)
    (h1 : wpAnyH P md ops Q S fuel (listed.setIfInBounds i true) (a.put di vi) w)
    (h2 : Calls P f args w fun e w' => ∃ v, e = .returned v ∧ S w' ∧ wpAnyH P md ops Q S fuel (listed.setIfInBounds j true) (a.put dj v) w') : wpAnyH P md ops Q S (fuel + 1) listed a w := by
  obtain ⟨o, ho, hd, hop, hg⟩ := op_ofG hi
  obtain ⟨o', ho', hd', hop', hg'⟩ := op_ofG hj
  refine wpAnyH_all hr (by simp) (fun k hk => ?_)
  rcases List.mem_cons.1 hk with rfl | hk
  · refine wpOp_step ho (fun K hK => ?_)
    rw [if_pos (wanted_of hg hwi)]
    unfold Oper.wp
    rw [yi o hop, Oper.upon_value, hd]
    exact hK _ _ ⟨hS, h1⟩
  · rw [List.mem_singleton] at hk
    subst hk
    refine wpOp_step ho' (fun K hK => ?_)
    rw [if_pos (wanted_of hg' hwj)]
    unfold Oper.wp
    rw [yj o' hop', Oper.upon_enter]
    refine h2.mono ?_
    rintro e w' ⟨v, rfl, hS', h'⟩
    rw [hd']
    exact hK _ _ ⟨hS', h'⟩
end
/-- One field more, to a row of any length. -/
theorem add_one' {Z : World} {base : Nat} {v1 : Value} {fs : List FV} {g : Nat} {a b : ByteArray} (hown : Z.ownsRow base 48 2 v1 fs.length (cellsF fs)) (hl : fs.length ≤ 100000) (hbase : base ≤ Z.heap.size)
    (hg : Z.heap[g]? = some (.cells #[.string a, .string b] 48 (0, 0))) :
    ∃ v2 w2, (Builtin.append_ #[23, 23] 23 #[v1, .slice (some ⟨g, 0, none⟩) 1 1]).run Tryd.prog Z = .ok v2 w2 ∧ w2.ownsRow base 48 2 v2 (fs ++ [(a, b)]).length (cellsF (fs ++ [(a, b)])) ∧ Z.grownBy w2 v1.ownBlock := by
  obtain ⟨i0, hi0, hz0, hz1, hz2⟩ := info48
  obtain ⟨v', w', h1, h2, h3, _⟩ := run_append_own (P := Tryd.prog) Z base 23 23 48 i0 _ 2 32 Tryd.underlying23 hi0 hz0 hz1 hz2 rfl (by decide) v1 fs.length (cellsF fs) hown ⟨g, 0, none⟩ 1 1 [.string a, .string b] rfl (fun j u hu => by
    have hj : j < 2 := (List.getElem?_eq_some_iff.1 hu).1
    rw [Addr.add_mid, Nat.zero_add, cell_of_row _ _ _ _ _ _ hg, ← hu]
    exact List.getElem?_toArray) (fun u hu => by simp at hu; rcases hu with rfl | rfl <;> rfl) (by unfold maxLen; omega) (by omega) hbase
  refine ⟨v', w', h1, ?_, h3⟩
  rw [List.length_append, cellsF_append]
  exact h2
theorem rd1_idx (l : List Nat) : rd1 l = if idx 32 l = l.length then none else if idx 32 (l.drop (idx 32 l + 1)) = (l.drop (idx 32 l + 1)).length then none else
    some (l.take (idx 32 l), (l.drop (idx 32 l + 1)).take (idx 32 (l.drop (idx 32 l + 1))), (l.drop (idx 32 l + 1)).drop (idx 32 (l.drop (idx 32 l + 1)) + 1)) := by
  unfold rd1
  rw [cut_idx]
  by_cases h : idx 32 l = l.length
  · rw [if_pos h, if_pos h]; rfl
  · rw [if_neg h, if_neg h]
    simp only [Option.bind_some]
    rw [cut_idx]
    split <;> rfl
theorem rdF_idx (l : List Nat) : rdF l = if idx 58 l = l.length then none else some (l.take (idx 58 l), HeadPlain.trim (l.drop (idx 58 l + 1))) := by
  unfold rdF
  rw [cut_idx]
  split <;> rfl
/-- What is read of U by k: nothing, or the head h and what follows. -/
def Cond (U : List Nat) (k : Nat) (first : Bool) (h : HdV) : Prop :=
  (first = true ∧ k = 0 ∧ h = hZ) ∨ (first = false ∧ rdL (lines U) = (rdFs (lines (U.drop k))).map fun gs => ⟨bytes h.a, bytes h.b, bytes h.c, h.fs.map fN ++ gs⟩)
theorem cond_end {U : List Nat} {k : Nat} {first : Bool} {h : HdV} (hc : Cond U k first h) (hk : U.length ≤ k) (h0 : 0 < U.length) : rdL (lines U) = some h.hd := by
  rcases hc with ⟨_, rfl, _⟩ | ⟨_, e⟩
  · omega
  · rw [e, List.drop_of_length_le hk]
    simp [lines, rdFs, HdV.hd]
theorem cond_first {U : List Nat} {i : Nat} {a b c : ByteArray} (he : eol U = some i) (h1 : rd1 (U.take i) = some (bytes a, bytes b, bytes c)) : Cond U (i + 2) false ⟨a, b, c, []⟩ := by
  refine Or.inr ⟨rfl, ?_⟩
  rw [lines_eol he, rdL, h1]
  simp
theorem cond_first_no {U : List Nat} {i : Nat} (he : eol U = some i) (h1 : rd1 (U.take i) = none) : rdL (lines U) = none := by
  rw [lines_eol he, rdL, h1]; rfl
theorem cond_next {U : List Nat} {k i : Nat} {h : HdV} {f : FV} (hc : Cond U k false h) (he : eol (U.drop k) = some i) (h1 : rdF ((U.drop k).take i) = some (fN f)) : Cond U (k + i + 2) false ⟨h.a, h.b, h.c, h.fs ++ [f]⟩ := by
  rcases hc with ⟨e, _⟩ | ⟨_, e⟩
  · cases e
  · refine Or.inr ⟨rfl, ?_⟩
    rw [e, lines_eol he, rdFs, h1, List.drop_drop]
    simp only [Option.bind_some]
    rw [show k + (i + 2) = k + i + 2 by omega]
    cases rdFs (lines (U.drop (k + i + 2))) with
    | none => rfl
    | some gs => simp
theorem cond_next_no {U : List Nat} {k i : Nat} {h : HdV} (hc : Cond U k false h) (he : eol (U.drop k) = some i) (h1 : rdF ((U.drop k).take i) = none) : rdL (lines U) = none := by
  rcases hc with ⟨e, _⟩ | ⟨_, e⟩
  · cases e
  · rw [e, lines_eol he, rdFs, h1]; rfl
/-- The line that begins at k ends with 13 and 10. -/
theorem line_end {s : List Nat} {n k : Nat} (h4 : four (s.drop n) = true) (hk : k ≤ n) : ∃ i, eol ((s.take (n + 2)).drop k) = some i ∧ k + i ≤ n ∧ (k + i + 2 ≤ n ∨ k + i + 2 = n + 2) := by
  have hl := four_length h4
  rw [List.length_drop] at hl
  have e : s.take (n + 2) = s.take n ++ [13, 10] := by
    rw [List.take_add]
    congr 1
    unfold four at h4
    have := beq_iff_eq.1 h4
    have h5 := congrArg (List.take 2) this
    rw [List.take_take] at h5
    exact h5
  have hn : (s.take n).length = n := by rw [List.length_take]; omega
  rw [e, List.drop_append_of_le_length (by rw [hn]; exact hk)]
  obtain ⟨i, h1, h2⟩ := eol_end ((s.take n).drop k)
  rw [List.length_drop, hn] at h2
  exact ⟨i, h1, by omega, by omega⟩
theorem rd_U {s : List Nat} {n : Nat} (h : fnd (s.take 2048) = some n) :
    rd s = match rdL (lines (s.take (n + 2))) with | none => .form | some h => if formB h = true then (if 32 < h.fs.length then .long else .ok h (n + 4)) else .form := by
  obtain ⟨h1, h2⟩ := fnd_take_some h
  unfold rd
  rw [h1]
  simp only
  rw [if_neg (by omega)]
  rfl
/-- What Read keeps on the way. -/
structure RD (W : World) (B2 B7 base : Nat) (h : HdV) (v : Value) (wr : World) : Prop where
  b : Below W.heap.size W wr
  x2 : wr.heap[B2]? = some (.cells #[.string { data := #[] }, .string { data := #[] }, .string { data := #[] }, .slice none 0 0] 25 (0, 0))
  x7 : wr.heap[B7]? = some (.cells #[.string h.a, .string h.b, .string h.c, v] 25 (0, 0))
  o : wr.ownsRow base 48 2 v h.fs.length (cellsF h.fs)
  l2 : B2 < base
  l7 : B7 < base
  w2 : W.heap.size ≤ B2
  w7 : W.heap.size ≤ B7
  n27 : B2 ≠ B7
  sz : base ≤ wr.heap.size
theorem RD.below {W w w' : World} {B2 B7 base : Nat} {h : HdV} {v : Value} (r : RD W B2 B7 base h v w) (hb : Below w.heap.size w w') : RD W B2 B7 base h v w' :=
  ⟨below_trans r.b hb, box_below r.x2 hb, box_below r.x7 hb, own_below r.o hb, r.l2, r.l7, r.w2, r.w7, r.n27, Nat.le_trans r.sz hb.size⟩
/-- The first line's parts are stored. -/
theorem RD.first {W w : World} {B2 B7 base : Nat} {h : HdV} {v : Value} (r : RD W B2 B7 base h v w) (a b c : ByteArray) :
    RD W B2 B7 base ⟨a, b, c, h.fs⟩ v (((w.setCell ⟨B7, 0, none⟩ (.string a)).setCell ⟨B7, 1, none⟩ (.string b)).setCell ⟨B7, 2, none⟩ (.string c)) := by
  have hne : v.ownBlock ≠ some B7 := fun e => by have := (r.o.lt _ e).1; have := r.l7; omega
  refine ⟨((r.b.setCell r.w7 _).setCell r.w7 _).setCell r.w7 _, ?_, ?_, ownsRow_setCell_other (ownsRow_setCell_other (ownsRow_setCell_other r.o hne _) hne _) hne _, r.l2, r.l7, r.w2, r.w7, r.n27, ?_⟩
  · rw [Below.heap_setCell _ _ _ _ r.n27, Below.heap_setCell _ _ _ _ r.n27, Below.heap_setCell _ _ _ _ r.n27]; exact r.x2
  · have h0 := heap_setCell_same w B7 0 _ _ (.string a) r.x7
    have h1 := heap_setCell_same _ B7 1 _ _ (.string b) h0
    have h2 := heap_setCell_same _ B7 2 _ _ (.string c) h1
    exact h2
  · have e : ∀ (w : World) (p : Addr) (v : Value), (w.setCell p v).heap.size = w.heap.size := fun w p v => by simp [World.setCell]
    rw [e, e, e]; exact r.sz
/-- A field more is stored. -/
theorem RD.app {W Z w2 : World} {B2 B7 base : Nat} {h : HdV} {v v2 : Value} (r : RD W B2 B7 base h v Z) (f : FV) (ho : w2.ownsRow base 48 2 v2 (h.fs ++ [f]).length (cellsF (h.fs ++ [f]))) (hg : Z.grownBy w2 v.ownBlock) :
    RD W B2 B7 base ⟨h.a, h.b, h.c, h.fs ++ [f]⟩ v2 (w2.setCell ⟨B7, 3, none⟩ v2) := by
  have hne : v2.ownBlock ≠ some B7 := fun e => by have := (ho.lt _ e).1; have := r.l7; omega
  have hb : Below base Z w2 := (Below.refl _ _).grown hg r.sz (fun k hk => (r.o.lt k hk).1)
  have hbW : Below W.heap.size W w2 := r.b.grown hg r.b.size (fun k hk => by have := (r.o.lt k hk).1; have := r.l2; have := r.w2; omega)
  have e : ∀ (w : World) (p : Addr) (v : Value), (w.setCell p v).heap.size = w.heap.size := fun w p v => by simp [World.setCell]
  refine ⟨hbW.setCell r.w7 _, ?_, ?_, ownsRow_setCell_other ho hne _, r.l2, r.l7, r.w2, r.w7, r.n27, ?_⟩
  · rw [Below.heap_setCell _ _ _ _ r.n27, hb.block _ r.l2]; exact r.x2
  · exact agg_setCell _ (by rw [hb.block _ r.l7]; exact r.x7)
  · rw [e]; have := hg.size; have := r.sz; omega
theorem RD.alloc {W Z : World} {B2 B7 base : Nat} {h : HdV} {v : Value} (r : RD W B2 B7 base h v Z) (o : Obj) : RD W B2 B7 base h v (Z.alloc o) := r.below ((Below.refl _ _).alloc (Nat.le_refl _) _)
theorem RD.cells {W Z : World} {B2 B7 base : Nat} {h : HdV} {v : Value} (r : RD W B2 B7 base h v Z) :
    (Z.cell? ⟨B7, 0, none⟩ = some (.string h.a) ∧ Z.cell? ⟨B7, 1, none⟩ = some (.string h.b) ∧ Z.cell? ⟨B7, 2, none⟩ = some (.string h.c) ∧ Z.cell? ⟨B7, 3, none⟩ = some v) ∧
    (Z.frozen? ⟨B7, 0, none⟩ = false ∧ Z.frozen? ⟨B7, 1, none⟩ = false ∧ Z.frozen? ⟨B7, 2, none⟩ = false ∧ Z.frozen? ⟨B7, 3, none⟩ = false) :=
  ⟨head_cells r.x7, ⟨frozen_of_row _ _ _ _ _ r.x7, frozen_of_row _ _ _ _ _ r.x7, frozen_of_row _ _ _ _ _ r.x7, frozen_of_row _ _ _ _ _ r.x7⟩⟩
end Go.Proofs.YtcohecghibndhaaDoor
