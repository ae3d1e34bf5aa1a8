/- The document's answer: its rows of bytes and its rows of words, how they lie in memory and what append makes of them. -/
import Derived.Test.YtmiemklgekhfeaaDoorW
import Derived.ArgAppend
namespace Go.Proofs.YtmiemklgekhfeaaDoor
open Go.RowKit

/-- An append that stands in its turn. -/
theorem wpList_app {P : Program} {ops : Array Oper} {rest : List Oper} {o : Oper} {a : Act} {Q : Exit → Act → World → Prop} {w : World} (hgd : o.guard = none) (s x : Operand) (t ty : TypeId)
    (ho : o.op = .call { callee := .builtin .append, args := #[s, x], argTypes := #[t, t] }) (hty : o.type = ty) (v v' : Value) (ad : Addr) (m c : Nat) (w' : World)
    (hs : a.eval s = v) (hx : a.eval x = .slice (some ad) m c) (hrun : (Builtin.append_ #[t, t] ty #[v, .slice (some ad) m c]).run P w = .ok v' w')
    (h : wpList P ops Q rest (a.put o.dst v') w') : wpList P ops Q (o :: rest) a w := by
  refine wpList_plain hgd fun K hK => ?_
  unfold Oper.wp
  have hy : (execOp a.eval o).run P w = .ok (.value v') w' := by
    rw [← hty] at hrun
    simp [execOp, ho, resolve, invoke, builtin, hs, hx, hrun, Result.andThen]
  rw [hy, Oper.upon_value]
  exact hK _ _ h

/-- A row of bytes that may be made longer. -/
def BR (base : Nat) (W : World) (v : Value) (l : List Nat) : Prop :=
  ∃ g cap, v = .slice (some ⟨g, 0, none⟩) l.length cap ∧ base ≤ g ∧ g < W.heap.size ∧ l.length ≤ cap ∧ W.rangeAt g 0 (u8s l) ∧ W.there g 0 cap
theorem BR.of_owns {W : World} {base : Nat} {v : Value} {l : List Nat} (h : W.ownsRow base 5 1 v l.length (u8s l)) (hl : 0 < l.length) : BR base W v l := by
  obtain ⟨h1, h2⟩ := h
  rcases h2 with ⟨_, h2⟩ | ⟨g, cap, cur, rfl, hg, hh, hn, hm, hs, ht⟩
  · omega
  · refine ⟨g, cap, rfl, hg, (Array.getElem?_eq_some_iff.1 hh).1, hn, fun j u hu => ?_, fun j hj => ?_⟩
    · rw [Nat.zero_add, cell_of_row _ _ _ _ _ _ hh, ← hu, ← ht]
      have hj : j < l.length := by simpa using (List.getElem?_eq_some_iff.1 hu).1
      simp [hj]
    · rw [Nat.zero_add]
      refine ⟨?_, frozen_of_row _ _ _ _ _ hh⟩
      rw [cell_of_row _ _ _ _ _ _ hh]
      simp; omega
theorem BR.alloc {W : World} {base : Nat} {v : Value} {l : List Nat} (h : BR base W v l) (o : Obj) : BR base (W.alloc o) v l := by
  obtain ⟨g, cap, hv, hg, hlt, hc, hr, ht⟩ := h
  have hb : Below W.heap.size W (W.alloc o) := (Below.refl _ _).alloc (Nat.le_refl _) _
  refine ⟨g, cap, hv, hg, by rw [alloc_size]; omega, hc, fun j u hu => ?_, fun j hj => ?_⟩
  · rw [hb.cell (p := ⟨g, 0 + j, none⟩) hlt]; exact hr j u hu
  · rw [hb.cell (p := ⟨g, 0 + j, none⟩) hlt, hb.frozen (p := ⟨g, 0 + j, none⟩) hlt]; exact ht j hj
theorem app_bytes {W : World} {base : Nat} {v : Value} {l : List Nat} (h : BR base W v l) (x : Nat) (ad : Addr) (c : Nat) (hx : ∀ j u, [v8 x][j]? = some u → W.cell? (ad.add j) = some u) (hl : l.length ≤ 100000) (hbase : base ≤ W.heap.size) :
    ∃ v' w', (Builtin.append_ #[26, 26] 26 #[v, .slice (some ad) 1 c]).run Tryd.prog W = .ok v' w' ∧ Sl (BR base w' v' (l ++ [x])) ∧ Sl (Below base W w') := by
  obtain ⟨i0, hi, hz0, hz1, hz2⟩ := info_parts info5
  obtain ⟨g, cap, rfl, hg, hlt, hc, hr, ht⟩ := h
  by_cases hroom : l.length + 1 ≤ cap
  · have hcell : ∀ j, j < [v8 x].length → (W.cell? ⟨g, 0 + l.length * i0.size + j, none⟩).isSome = true := fun j hj => by
      simp at hj; subst hj
      have := (ht l.length (by omega)).1
      simpa [hz1] using this
    refine ⟨_, _, run_append_room_cells (P := Tryd.prog) W 26 26 5 i0 Tryd.underlying26 hi g 0 l.length cap ad 1 c [v8 x] (by simp [hz1]) hx (fun u hu => by simp at hu; subst hu; rfl) hroom hcell (fun j hj => ?_), ⟨?_⟩, ⟨?_⟩⟩
    · simp at hj; subst hj
      have := (ht l.length (by omega)).2
      simpa [hz1] using this
    · rw [hz1, Nat.mul_one, Nat.zero_add]
      have hg2 := grown_setCells g [v8 x] l.length W
      refine ⟨g, cap, by simp, hg, Nat.lt_of_lt_of_le hlt hg2.size, by simpa using hroom, fun j u hu => ?_, fun j hj => ?_⟩
      · have hj : j < l.length + 1 := by simpa using (List.getElem?_eq_some_iff.1 hu).1
        rw [u8s_append] at hu
        by_cases hj2 : j < l.length
        · rw [List.getElem?_append_left (by simpa using hj2)] at hu
          rw [World.cell?_setCells_out _ _ _ _ _ (fun _ _ => Or.inl (by simpa using hj2))]
          exact hr j u hu
        · obtain rfl : j = l.length := by omega
          rw [List.getElem?_append_right (by simp)] at hu
          have h2 := World.cell?_setCells_in g [v8 x] l.length W (fun j hj => by simp at hj; subst hj; simpa using (ht l.length (by omega)).1) 0 (by simp)
          simp only [Nat.add_zero, List.getElem_cons_zero] at h2
          rw [Nat.zero_add, h2]
          simpa [u8s] using hu
      · rw [World.frozen?_setCells]
        refine ⟨?_, (ht j hj).2⟩
        by_cases hj2 : j = l.length
        · subst hj2
          have h2 := World.cell?_setCells_in g [v8 x] l.length W (fun j hj => by simp at hj; subst hj; simpa using (ht l.length (by omega)).1) 0 (by simp)
          simp only [Nat.add_zero] at h2
          rw [Nat.zero_add, h2]; rfl
        · rw [World.cell?_setCells_out _ _ _ _ _ (fun _ _ => by simp only [List.length_singleton]; omega)]
          exact (ht j hj).1
    · exact (Below.refl base W).grown (grown_setCells g _ _ W) hbase (fun k hk => by injection hk with hk; omega)
  · obtain ⟨v', w', h1, h2, h3⟩ := run_append_arg_grows (P := Tryd.prog) W 26 26 5 i0 (.int .u8 0) 1 1 Tryd.underlying26 hi hz0 hz1 hz2 rfl (by decide) ⟨g, 0, none⟩ l.length cap (u8s l) (by simp) (fun j u hu => by rw [Addr.add_mid]; exact hr j u hu)
      ad 1 c [v8 x] rfl hx (by omega) (by unfold maxLen; omega) (by omega)
    refine ⟨v', w', h1, ⟨BR.of_owns (l := l ++ [x]) ?_ (by simp)⟩, ⟨(Below.refl base W).grown h3 hbase (fun k hk => by cases hk)⟩⟩
    have h4 : w'.ownsRow W.heap.size 5 1 v' (l ++ [x]).length (u8s (l ++ [x])) := by
      rw [u8s_append]; simpa [u8s] using h2
    obtain ⟨a1, a2⟩ := h4
    refine ⟨a1, ?_⟩
    rcases a2 with a2 | ⟨g', cap', cur, b1, b2, b3⟩
    · exact .inl a2
    · exact .inr ⟨g', cap', cur, b1, by omega, b3⟩

/-- A row of words. -/
def RowAt (W : World) (g : Nat) (ns : List Nat) : Prop := g < W.heap.size ∧ ∀ i, i < ns.length → ∃ u, W.cell? ⟨g, i, none⟩ = some u ∧ Bits W u (ns.getD i 0)
theorem RowAt.below {W W' : World} {g : Nat} {ns : List Nat} (h : RowAt W g ns) (hb : Below W.heap.size W W') : RowAt W' g ns :=
  ⟨Nat.lt_of_lt_of_le h.1 hb.size, fun i hi => by
    obtain ⟨u, hu, hB⟩ := h.2 i hi
    exact ⟨u, by rw [hb.cell (p := ⟨g, i, none⟩) h.1]; exact hu, hB.below hb⟩⟩
/-- A block that doesn't begin with a number. -/
def Odd0 (W : World) (g : Nat) : Prop := ∀ k n, W.cell? ⟨g, 0, none⟩ ≠ some (.int k n)
theorem RowAt.odd0 {W : World} {g : Nat} {ns : List Nat} (h : RowAt W g ns) (hn : 0 < ns.length) : Odd0 W g := by
  obtain ⟨u, hu, g', c, rfl, _⟩ := h.2 0 hn
  intro k n e
  rw [hu] at e; cases e
theorem Bits.first {W : World} {v : Value} {n : Nat} (h : Bits W v n) : ∃ g c x, v = .slice (some ⟨g, 0, none⟩) 32 c ∧ W.cell? ⟨g, 0, none⟩ = some (.int .i64 x) := by
  obtain ⟨g, c, h1, _, _, h4⟩ := h
  exact ⟨g, c, _, h1, bits_cell h4 0 (by decide)⟩
theorem Bits.grown {W W' : World} {v : Value} {n r : Nat} (h : Bits W v n) (hg : W.grownBy W' (some r)) (ho : Odd0 W r) : Bits W' v n := by
  obtain ⟨g, c, h1, h2, h3, h4⟩ := h
  have hne : g ≠ r := fun e => by subst e; exact ho _ _ (bits_cell h4 0 (by decide))
  have hbl := hg.block g h3 (fun e => by injection e with e; exact hne e)
  exact ⟨g, c, h1, h2, Nat.lt_of_lt_of_le h3 hg.size, fun j u hu => by rw [World.cell?_of_block (w := W) (a := ⟨g, 0 + j, none⟩) hbl]; exact h4 j u hu⟩
theorem RowAt.grown {W W' : World} {g r : Nat} {ns : List Nat} (h : RowAt W g ns) (hg : W.grownBy W' (some r)) (ho : Odd0 W r) (hne : g ≠ r) : RowAt W' g ns :=
  ⟨Nat.lt_of_lt_of_le h.1 hg.size, fun i hi => by
    obtain ⟨u, hu, hB⟩ := h.2 i hi
    have hbl := hg.block g h.1 (fun e => by injection e with e; exact hne e)
    exact ⟨u, by rw [World.cell?_of_block (w := W) (a := ⟨g, i, none⟩) hbl]; exact hu, hB.grown hg ho⟩⟩
/-- A row of words of the call's own. -/
def OwnR (base : Nat) (W : World) (v : Value) (ns : List Nat) : Prop :=
  ∃ vs, W.ownsRow base 42 1 v ns.length vs ∧ (∀ i, i < ns.length → ∃ u, vs[i]? = some u ∧ Bits W u (ns.getD i 0)) ∧ ∃ g c, v = .slice (some ⟨g, 0, none⟩) ns.length c ∧ Odd0 W g
theorem OwnR.row {base : Nat} {W : World} {v : Value} {ns : List Nat} (h : OwnR base W v ns) : ∃ g c, v = .slice (some ⟨g, 0, none⟩) ns.length c ∧ ns.length ≤ c ∧ base ≤ g ∧ RowAt W g ns ∧ W.there g 0 ns.length := by
  obtain ⟨vs, ⟨h1, h2⟩, h3, g, c, rfl, h4⟩ := h
  rcases h2 with ⟨h2, _⟩ | ⟨g', cap, cur, e, hg, hh, hn, hm, hs, ht⟩
  · cases h2
  · cases e
    refine ⟨g, c, rfl, hn, hg, ⟨(Array.getElem?_eq_some_iff.1 hh).1, fun i hi => ?_⟩, fun j hj => ?_⟩
    · obtain ⟨u, hu, hB⟩ := h3 i hi
      refine ⟨u, ?_, hB⟩
      rw [cell_of_row _ _ _ _ _ _ hh, ← hu, ← ht]
      simp [hi]
    · rw [Nat.zero_add]
      refine ⟨?_, frozen_of_row _ _ _ _ _ hh⟩
      rw [cell_of_row _ _ _ _ _ _ hh]
      simp; omega
theorem info42 : (Tryd.prog.info? 42).map (fun i => (i.zero, i.size, i.bytes)) = some (some (.slice none 0 0), 1, 24) := by kernel_rfl
theorem ownR_empty (w : World) : OwnR w.heap.size (w.alloc (.cells #[] 42)) (.slice (some ⟨w.heap.size, 0, none⟩) 0 0) [] :=
  ⟨[], ⟨rfl, .inr ⟨w.heap.size, 0, #[], rfl, Nat.le_refl _, alloc_new _ _ _ rfl, Nat.le_refl _, Nat.zero_le _, rfl, rfl⟩⟩, fun i hi => absurd hi (by simp), w.heap.size, 0, rfl, fun k n e => by
    rw [cell_of_row _ _ _ _ _ _ (alloc_new _ _ _ rfl)] at e; simp at e⟩
theorem OwnR.below {base : Nat} {W W' : World} {v : Value} {ns : List Nat} (h : OwnR base W v ns) (hb : Below W.heap.size W W') : OwnR base W' v ns := by
  obtain ⟨vs, ⟨h1, h2⟩, h3, g, c, rfl, h4⟩ := h
  rcases h2 with ⟨h2, _⟩ | ⟨g', cap, cur, e, hg, hh, hn, hm, hs, ht⟩
  · cases h2
  · cases e
    have hlt := (Array.getElem?_eq_some_iff.1 hh).1
    exact ⟨vs, ⟨h1, .inr ⟨g, c, cur, rfl, hg, by rw [hb.block g hlt]; exact hh, hn, hm, hs, ht⟩⟩, fun i hi => by
      obtain ⟨u, hu, hB⟩ := h3 i hi
      exact ⟨u, hu, hB.below hb⟩, g, c, rfl, fun k n => by rw [hb.cell (p := ⟨g, 0, none⟩) hlt]; exact h4 k n⟩
/-- append of words to a row of the call's own. -/
theorem app_rows {W : World} {base : Nat} {v : Value} {ns ms : List Nat} (h : OwnR base W v ns) (ad : Addr) (c : Nat) (news : List Value) (hl : news.length = ms.length) (hnews : ∀ j u, news[j]? = some u → W.cell? (ad.add j) = some u)
    (hms : ∀ i, i < ms.length → ∃ u, news[i]? = some u ∧ Bits W u (ms.getD i 0)) (hn : ns.length + ms.length ≤ 1000) (hpos : 0 < ms.length) (hbase : base ≤ W.heap.size) :
    ∃ v' w', (Builtin.append_ #[44, 44] 44 #[v, .slice (some ad) ms.length c]).run Tryd.prog W = .ok v' w' ∧ Sl (OwnR base w' v' (ns ++ ms)) ∧ Sl (Below base W w') := by
  obtain ⟨i0, hi, hz0, hz1, hz2⟩ := info_parts info42
  obtain ⟨vs, hown, h3, g, cp, rfl, h4⟩ := h
  have h1 : ∀ u ∈ news, u.oneCell' = true := fun u hu => by
    obtain ⟨i, hi, rfl⟩ := List.getElem_of_mem hu
    obtain ⟨u', hu', g', c', rfl, _⟩ := hms i (by omega)
    rw [List.getElem?_eq_getElem hi] at hu'
    injection hu' with hu'
    rw [hu']; rfl
  obtain ⟨v', w', hrun, hown', hgrow, _⟩ := run_append_own (P := Tryd.prog) W base 44 44 42 i0 (.slice none 0 0) 1 24 Tryd.underlying44 hi hz0 hz1 hz2 rfl (by decide) _ ns.length vs hown ad ms.length c news (by simpa using hl) hnews h1 (by unfold maxLen; omega) (by omega) hbase
  have hvl : vs.length = ns.length := by simpa using hown.1
  have hgrow' : W.grownBy w' (some g) := hgrow
  have hall : ∀ i, i < (ns ++ ms).length → ∃ u, (vs ++ news)[i]? = some u ∧ Bits w' u ((ns ++ ms).getD i 0) := fun i hi => by
    simp only [List.length_append] at hi
    by_cases h : i < ns.length
    · obtain ⟨u, hu, hB⟩ := h3 i h
      refine ⟨u, by rw [List.getElem?_append_left (by omega)]; exact hu, ?_⟩
      have e : (ns ++ ms).getD i 0 = ns.getD i 0 := by simp [List.getD, List.getElem?_append_left h]
      rw [e]; exact hB.grown hgrow' h4
    · obtain ⟨u, hu, hB⟩ := hms (i - ns.length) (by omega)
      refine ⟨u, by rw [List.getElem?_append_right (by omega), hvl]; exact hu, ?_⟩
      have e : (ns ++ ms).getD i 0 = ms.getD (i - ns.length) 0 := by simp [List.getD, List.getElem?_append_right (Nat.le_of_not_lt h)]
      rw [e]; exact hB.grown hgrow' h4
  refine ⟨v', w', hrun, ⟨vs ++ news, by simpa using hown', hall, ?_⟩, ⟨(Below.refl base W).grown hgrow hbase (fun k hk => (hown.lt k hk).1)⟩⟩
  obtain ⟨a1, a2⟩ := hown'
  rcases a2 with ⟨_, a2⟩ | ⟨g', cap', cur, e, hg, hh, hn', hm, hs, ht⟩
  · omega
  · refine ⟨g', cap', by rw [e]; simp, fun k n e2 => ?_⟩
    obtain ⟨u, hu, g2, c2, rfl, _⟩ := hall 0 (by simp; omega)
    rw [cell_of_row _ _ _ _ _ _ hh] at e2
    have : cur.toList[0]? = (vs ++ news)[0]? := by rw [← ht, List.getElem?_take, if_pos (by omega)]
    rw [hu] at this
    simp at this
    simp [this] at e2
end Go.Proofs.YtmiemklgekhfeaaDoor
