/- The document's answer: its rows of bytes and its rows of words, how they lie in memory and what append makes of them. -/
import Derived.Test.YthlagngpllahkaaGreatDoorShC
import Derived.ArgAppend
import Derived.Test.YthlagngpllahkaaGreatDoorShB
set_option maxRecDepth 100000
namespace Go.Proofs.YthlagngpllahkaaGreatDoor.Sha
open Go.RowKit

/-- An append that stands in its turn. -/
theorem wpList_app {P : Program} {ops : Array Oper} {rest : List Oper} {o : Oper} {a : Act} {Q : Exit → Act → World → Prop} {w : World} (hgd : o.guard = none) (s x : Operand) (t ty : TypeId)
    (ho : o.op = .call { callee := .builtin .append, args := #[s, x], argTypes := #[t, t] }) (hty : o.type = ty) (v v' : Value) (ad : Addr) (m c : Nat) (w' : World)
    (hs : a.eval s = v) (hx : a.eval x = .slice (some ad) m c) (hrun : (Builtin.append_ #[t, t] ty #[v, .slice (some ad) m c]).run P w = .ok v' w')
    (h : wpList P ops Q rest (a.put o.dst v') w') : wpList P ops Q (o :: rest) a w := by
  refine wpList_plain hgd fun K hK => ?_
  unfold Oper.wp
  have hy : (execOp a.eval o).run P w = .ok (.value v') w' := by
    rw [← hty] at hrun
    simp [execOp, ho, resolve, invoke, builtin, hs, hx, hrun, Result.andThen]
  rw [hy, Oper.upon_value]
  exact hK _ _ h

/-- A row of bytes that may be made longer. -/
def BR (base : Nat) (W : World) (v : Value) (l : List Nat) : Prop :=
  ∃ g cap, v = .slice (some ⟨g, 0, none⟩) l.length cap ∧ base ≤ g ∧ g < W.heap.size ∧ l.length ≤ cap ∧ W.rangeAt g 0 (u8s l) ∧ W.there g 0 cap
theorem BR.of_owns {W : World} {base : Nat} {v : Value} {l : List Nat} (h : W.ownsRow base 5 1 v l.length (u8s l)) (hl : 0 < l.length) : BR base W v l := by
  obtain ⟨h1, h2⟩ := h
  rcases h2 with ⟨_, h2⟩ | ⟨g, cap, cur, rfl, hg, hh, hn, hm, hs, ht⟩
  · omega
  · refine ⟨g, cap, rfl, hg, (Array.getElem?_eq_some_iff.1 hh).1, hn, fun j u hu => ?_, fun j hj => ?_⟩
    · rw [Nat.zero_add, cell_of_row _ _ _ _ _ _ hh, ← hu, ← ht]
      have hj : j < l.length := by simpa using (List.getElem?_eq_some_iff.1 hu).1
      simp [hj]
    · rw [Nat.zero_add]
      refine ⟨?_, frozen_of_row _ _ _ _ _ hh⟩
      rw [cell_of_row _ _ _ _ _ _ hh]
      simp; omega
theorem BR.alloc {W : World} {base : Nat} {v : Value} {l : List Nat} (h : BR base W v l) (o : Obj) : BR base (W.alloc o) v l := by
  obtain ⟨g, cap, hv, hg, hlt, hc, hr, ht⟩ := h
  have hb : Below W.heap.size W (W.alloc o) := (Below.refl _ _).alloc (Nat.le_refl _) _
  refine ⟨g, cap, hv, hg, by rw [alloc_size]; omega, hc, fun j u hu => ?_, fun j hj => ?_⟩
  · rw [hb.cell (p := ⟨g, 0 + j, none⟩) hlt]; exact hr j u hu
  · rw [hb.cell (p := ⟨g, 0 + j, none⟩) hlt, hb.frozen (p := ⟨g, 0 + j, none⟩) hlt]; exact ht j hj
theorem app_bytes {W : World} {base : Nat} {v : Value} {l : List Nat} (h : BR base W v l) (x : Nat) (ad : Addr) (c : Nat) (hx : ∀ j u, [v8 x][j]? = some u → W.cell? (ad.add j) = some u) (hl : l.length ≤ 100000) (hbase : base ≤ W.heap.size) :
    ∃ v' w', (Builtin.append_ #[53, 53] 53 #[v, .slice (some ad) 1 c]).run Tryz.prog W = .ok v' w' ∧ Sl (BR base w' v' (l ++ [x])) ∧ Sl (Below base W w') := by
  obtain ⟨i0, hi, hz0, hz1, hz2⟩ := info_parts info5
  obtain ⟨g, cap, rfl, hg, hlt, hc, hr, ht⟩ := h
  by_cases hroom : l.length + 1 ≤ cap
  · have hcell : ∀ j, j < [v8 x].length → (W.cell? ⟨g, 0 + l.length * i0.size + j, none⟩).isSome = true := fun j hj => by
      simp at hj; subst hj
      have := (ht l.length (by omega)).1
      simpa [hz1] using this
    refine ⟨_, _, run_append_room_cells (P := Tryz.prog) W 53 53 5 i0 Tryz.underlying53 hi g 0 l.length cap ad 1 c [v8 x] (by simp [hz1]) hx (fun u hu => by simp at hu; subst hu; rfl) hroom hcell (fun j hj => ?_), ⟨?_⟩, ⟨?_⟩⟩
    · simp at hj; subst hj
      have := (ht l.length (by omega)).2
      simpa [hz1] using this
    · rw [hz1, Nat.mul_one, Nat.zero_add]
      have hg2 := grown_setCells g [v8 x] l.length W
      refine ⟨g, cap, by simp, hg, Nat.lt_of_lt_of_le hlt hg2.size, by simpa using hroom, fun j u hu => ?_, fun j hj => ?_⟩
      · have hj : j < l.length + 1 := by simpa using (List.getElem?_eq_some_iff.1 hu).1
        rw [u8s_append] at hu
        by_cases hj2 : j < l.length
        · rw [List.getElem?_append_left (by simpa using hj2)] at hu
          rw [World.cell?_setCells_out _ _ _ _ _ (fun _ _ => Or.inl (by simpa using hj2))]
          exact hr j u hu
        · obtain rfl : j = l.length := by omega
          rw [List.getElem?_append_right (by simp)] at hu
          have h2 := World.cell?_setCells_in g [v8 x] l.length W (fun j hj => by simp at hj; subst hj; simpa using (ht l.length (by omega)).1) 0 (by simp)
          simp only [Nat.add_zero, List.getElem_cons_zero] at h2
          rw [Nat.zero_add, h2]
          simpa [u8s] using hu
      · rw [World.frozen?_setCells]
        refine ⟨?_, (ht j hj).2⟩
        by_cases hj2 : j = l.length
        · subst hj2
          have h2 := World.cell?_setCells_in g [v8 x] l.length W (fun j hj => by simp at hj; subst hj; simpa using (ht l.length (by omega)).1) 0 (by simp)
          simp only [Nat.add_zero] at h2
          rw [Nat.zero_add, h2]; rfl
        · rw [World.cell?_setCells_out _ _ _ _ _ (fun _ _ => by simp only [List.length_singleton]; omega)]
          exact (ht j hj).1
    · exact (Below.refl base W).grown (grown_setCells g _ _ W) hbase (fun k hk => by injection hk with hk; omega)
  · obtain ⟨v', w', h1, h2, h3⟩ := run_append_arg_grows (P := Tryz.prog) W 53 53 5 i0 (.int .u8 0) 1 1 Tryz.underlying53 hi hz0 hz1 hz2 rfl (by decide) ⟨g, 0, none⟩ l.length cap (u8s l) (by simp) (fun j u hu => by rw [Addr.add_mid]; exact hr j u hu)
      ad 1 c [v8 x] rfl hx (by omega) (by unfold maxLen; omega) (by omega)
    refine ⟨v', w', h1, ⟨BR.of_owns (l := l ++ [x]) ?_ (by simp)⟩, ⟨(Below.refl base W).grown h3 hbase (fun k hk => by cases hk)⟩⟩
    have h4 : w'.ownsRow W.heap.size 5 1 v' (l ++ [x]).length (u8s (l ++ [x])) := by
      rw [u8s_append]; simpa [u8s] using h2
    obtain ⟨a1, a2⟩ := h4
    refine ⟨a1, ?_⟩
    rcases a2 with a2 | ⟨g', cap', cur, b1, b2, b3⟩
    · exact .inl a2
    · exact .inr ⟨g', cap', cur, b1, by omega, b3⟩

/-- A row of words. -/
def RowAt (W : World) (g : Nat) (ns : List Nat) : Prop := g < W.heap.size ∧ ∀ i, i < ns.length → ∃ u, W.cell? ⟨g, i, none⟩ = some u ∧ Bits W u (ns.getD i 0)
theorem RowAt.below {W W' : World} {g : Nat} {ns : List Nat} (h : RowAt W g ns) (hb : Below W.heap.size W W') : RowAt W' g ns :=
  ⟨Nat.lt_of_lt_of_le h.1 hb.size, fun i hi => by
    obtain ⟨u, hu, hB⟩ := h.2 i hi
    exact ⟨u, by rw [hb.cell (p := ⟨g, i, none⟩) h.1]; exact hu, hB.below hb⟩⟩
/-- A block that doesn't begin with a number. -/
def Odd0 (W : World) (g : Nat) : Prop := ∀ k n, W.cell? ⟨g, 0, none⟩ ≠ some (.int k n)
theorem RowAt.odd0 {W : World} {g : Nat} {ns : List Nat} (h : RowAt W g ns) (hn : 0 < ns.length) : Odd0 W g := by
  obtain ⟨u, hu, g', c, rfl, _⟩ := h.2 0 hn
  intro k n e
  rw [hu] at e; cases e
theorem Bits.first {W : World} {v : Value} {n : Nat} (h : Bits W v n) : ∃ g c x, v = .slice (some ⟨g, 0, none⟩) 32 c ∧ W.cell? ⟨g, 0, none⟩ = some (.int .i64 x) := by
  obtain ⟨g, c, h1, _, _, h4⟩ := h
  exact ⟨g, c, _, h1, bits_cell h4 0 (by decide)⟩
theorem Bits.grown {W W' : World} {v : Value} {n r : Nat} (h : Bits W v n) (hg : W.grownBy W' (some r)) (ho : Odd0 W r) : Bits W' v n := by
  obtain ⟨g, c, h1, h2, h3, h4⟩ := h
  have hne : g ≠ r := fun e => by subst e; exact ho _ _ (bits_cell h4 0 (by decide))
  have hbl := hg.block g h3 (fun e => by injection e with e; exact hne e)
  exact ⟨g, c, h1, h2, Nat.lt_of_lt_of_le h3 hg.size, fun j u hu => by rw [World.cell?_of_block (w := W) (a := ⟨g, 0 + j, none⟩) hbl]; exact h4 j u hu⟩
theorem RowAt.grown {W W' : World} {g r : Nat} {ns : List Nat} (h : RowAt W g ns) (hg : W.grownBy W' (some r)) (ho : Odd0 W r) (hne : g ≠ r) : RowAt W' g ns :=
  ⟨Nat.lt_of_lt_of_le h.1 hg.size, fun i hi => by
    obtain ⟨u, hu, hB⟩ := h.2 i hi
    have hbl := hg.block g h.1 (fun e => by injection e with e; exact hne e)
    exact ⟨u, by rw [World.cell?_of_block (w := W) (a := ⟨g, i, none⟩) hbl]; exact hu, hB.grown hg ho⟩⟩
/-- A row of words of the call's own. -/
def OwnR (base : Nat) (W : World) (v : Value) (ns : List Nat) : Prop :=
  ∃ vs, W.ownsRow base 79 1 v ns.length vs ∧ (∀ i, i < ns.length → ∃ u, vs[i]? = some u ∧ Bits W u (ns.getD i 0)) ∧ ∃ g c, v = .slice (some ⟨g, 0, none⟩) ns.length c ∧ Odd0 W g
theorem OwnR.row {base : Nat} {W : World} {v : Value} {ns : List Nat} (h : OwnR base W v ns) : ∃ g c, v = .slice (some ⟨g, 0, none⟩) ns.length c ∧ ns.length ≤ c ∧ base ≤ g ∧ RowAt W g ns ∧ W.there g 0 ns.length := by
  obtain ⟨vs, ⟨h1, h2⟩, h3, g, c, rfl, h4⟩ := h
  rcases h2 with ⟨h2, _⟩ | ⟨g', cap, cur, e, hg, hh, hn, hm, hs, ht⟩
  · cases h2
  · cases e
    refine ⟨g, c, rfl, hn, hg, ⟨(Array.getElem?_eq_some_iff.1 hh).1, fun i hi => ?_⟩, fun j hj => ?_⟩
    · obtain ⟨u, hu, hB⟩ := h3 i hi
      refine ⟨u, ?_, hB⟩
      rw [cell_of_row _ _ _ _ _ _ hh, ← hu, ← ht]
      simp [hi]
    · rw [Nat.zero_add]
      refine ⟨?_, frozen_of_row _ _ _ _ _ hh⟩
      rw [cell_of_row _ _ _ _ _ _ hh]
      simp; omega
theorem info42 : (Tryz.prog.info? 79).map (fun i => (i.zero, i.size, i.bytes)) = some (some (.slice none 0 0), 1, 24) := by kernel_rfl
theorem ownR_empty (w : World) : OwnR w.heap.size (w.alloc (.cells #[] 79)) (.slice (some ⟨w.heap.size, 0, none⟩) 0 0) [] :=
  ⟨[], ⟨rfl, .inr ⟨w.heap.size, 0, #[], rfl, Nat.le_refl _, alloc_new _ _ _ rfl, Nat.le_refl _, Nat.zero_le _, rfl, rfl⟩⟩, fun i hi => absurd hi (by simp), w.heap.size, 0, rfl, fun k n e => by
    rw [cell_of_row _ _ _ _ _ _ (alloc_new _ _ _ rfl)] at e; simp at e⟩
theorem OwnR.below {base : Nat} {W W' : World} {v : Value} {ns : List Nat} (h : OwnR base W v ns) (hb : Below W.heap.size W W') : OwnR base W' v ns := by
  obtain ⟨vs, ⟨h1, h2⟩, h3, g, c, rfl, h4⟩ := h
  rcases h2 with ⟨h2, _⟩ | ⟨g', cap, cur, e, hg, hh, hn, hm, hs, ht⟩
  · cases h2
  · cases e
    have hlt := (Array.getElem?_eq_some_iff.1 hh).1
    exact ⟨vs, ⟨h1, .inr ⟨g, c, cur, rfl, hg, by rw [hb.block g hlt]; exact hh, hn, hm, hs, ht⟩⟩, fun i hi => by
      obtain ⟨u, hu, hB⟩ := h3 i hi
      exact ⟨u, hu, hB.below hb⟩, g, c, rfl, fun k n => by rw [hb.cell (p := ⟨g, 0, none⟩) hlt]; exact h4 k n⟩
/-- append of words to a row of the call's own. -/
theorem app_rows {W : World} {base : Nat} {v : Value} {ns ms : List Nat} (h : OwnR base W v ns) (ad : Addr) (c : Nat) (news : List Value) (hl : news.length = ms.length) (hnews : ∀ j u, news[j]? = some u → W.cell? (ad.add j) = some u)
    (hms : ∀ i, i < ms.length → ∃ u, news[i]? = some u ∧ Bits W u (ms.getD i 0)) (hn : ns.length + ms.length ≤ 1000) (hpos : 0 < ms.length) (hbase : base ≤ W.heap.size) :
    ∃ v' w', (Builtin.append_ #[109, 109] 109 #[v, .slice (some ad) ms.length c]).run Tryz.prog W = .ok v' w' ∧ Sl (OwnR base w' v' (ns ++ ms)) ∧ Sl (Below base W w') := by
  obtain ⟨i0, hi, hz0, hz1, hz2⟩ := info_parts info42
  obtain ⟨vs, hown, h3, g, cp, rfl, h4⟩ := h
  have h1 : ∀ u ∈ news, u.oneCell' = true := fun u hu => by
    obtain ⟨i, hi, rfl⟩ := List.getElem_of_mem hu
    obtain ⟨u', hu', g', c', rfl, _⟩ := hms i (by omega)
    rw [List.getElem?_eq_getElem hi] at hu'
    injection hu' with hu'
    rw [hu']; rfl
  obtain ⟨v', w', hrun, hown', hgrow, _⟩ := run_append_own (P := Tryz.prog) W base 109 109 79 i0 (.slice none 0 0) 1 24 Tryz.underlying109 hi hz0 hz1 hz2 rfl (by decide) _ ns.length vs hown ad ms.length c news (by simpa using hl) hnews h1 (by unfold maxLen; omega) (by omega) hbase
  have hvl : vs.length = ns.length := by simpa using hown.1
  have hgrow' : W.grownBy w' (some g) := hgrow
  have hall : ∀ i, i < (ns ++ ms).length → ∃ u, (vs ++ news)[i]? = some u ∧ Bits w' u ((ns ++ ms).getD i 0) := fun i hi => by
    simp only [List.length_append] at hi
    by_cases h : i < ns.length
    · obtain ⟨u, hu, hB⟩ := h3 i h
      refine ⟨u, by rw [List.getElem?_append_left (by omega)]; exact hu, ?_⟩
      have e : (ns ++ ms).getD i 0 = ns.getD i 0 := by simp [List.getD, List.getElem?_append_left h]
      rw [e]; exact hB.grown hgrow' h4
    · obtain ⟨u, hu, hB⟩ := hms (i - ns.length) (by omega)
      refine ⟨u, by rw [List.getElem?_append_right (by omega), hvl]; exact hu, ?_⟩
      have e : (ns ++ ms).getD i 0 = ms.getD (i - ns.length) 0 := by simp [List.getD, List.getElem?_append_right (Nat.le_of_not_lt h)]
      rw [e]; exact hB.grown hgrow' h4
  refine ⟨v', w', hrun, ⟨vs ++ news, by simpa using hown', hall, ?_⟩, ⟨(Below.refl base W).grown hgrow hbase (fun k hk => (hown.lt k hk).1)⟩⟩
  obtain ⟨a1, a2⟩ := hown'
  rcases a2 with ⟨_, a2⟩ | ⟨g', cap', cur, e, hg, hh, hn', hm, hs, ht⟩
  · omega
  · refine ⟨g', cap', by rw [e]; simp, fun k n e2 => ?_⟩
    obtain ⟨u, hu, g2, c2, rfl, _⟩ := hall 0 (by simp; omega)
    rw [cell_of_row _ _ _ _ _ _ hh] at e2
    have : cur.toList[0]? = (vs ++ news)[0]? := by rw [← ht, List.getElem?_take, if_pos (by omega)]
    rw [hu] at this
    simp at this
    simp [this] at e2
end Go.Proofs.YthlagngpllahkaaGreatDoor.Sha
/- The document's answer: what the walk of its Of needs, plain facts and rows. -/
namespace Go.Proofs.YthlagngpllahkaaGreatDoor.Sha
open Go.RowKit

theorem conv_br (s : ByteArray) (W : World) : ∃ v w', (convert 9 53 (.string s)).run Tryz.prog W = .ok v w' ∧ Sl (BR W.heap.size w' v (bytes s)) ∧ Sl (Below W.heap.size W w') := by
  refine ⟨_, _, run_bytes_of_string (P := Tryz.prog) W 9 53 5 s Tryz.underlying9 Tryz.underlying53 Tryz.underlying5, ⟨?_⟩, ⟨((Below.refl _ _).drew).alloc (Nat.le_refl _) _⟩⟩
  generalize hcap : grownCap W s.size 0 5 = cap
  have hge : s.size ≤ cap := by rw [← hcap]; exact grownCap_ge _ _ _ _
  have hsz : (bytesRow s cap).size = cap := by
    have : s.data.size = s.size := rfl
    simp [bytesRow, this]; omega
  rw [hsz]
  refine ⟨W.heap.size, cap, by rw [bytes_length], Nat.le_refl _, by rw [alloc_size]; show W.heap.size < W.heap.size + 1; omega, by rw [bytes_length]; exact hge, fun j u hu => ?_, fun j hj => ?_⟩
  · have hj : j < s.size := by simpa [bytes_length] using (List.getElem?_eq_some_iff.1 hu).1
    rw [Nat.zero_add]
    have h := World.cell?_alloc_mark W.drew (bytesRow s cap) 5 (cap, cap + 1) j
    rw [show W.drew.heap.size = W.heap.size from rfl] at h
    rw [h, bytesRow_at s _ j hj, ← hu, u8s_get _ _ (by rw [bytes_length]; exact hj), bytes_getD s j hj]
  · rw [Nat.zero_add]
    have h := World.cell?_alloc_mark W.drew (bytesRow s cap) 5 (cap, cap + 1) j
    rw [show W.drew.heap.size = W.heap.size from rfl] at h
    refine ⟨by rw [h]; simp; omega, ?_⟩
    have hn : (W.drew.alloc (.cells (bytesRow s cap) 5 (cap, cap + 1))).heap[W.heap.size]? = some (.cells (bytesRow s cap) 5 (cap, cap + 1)) := alloc_new _ _ _ rfl
    simp only [World.frozen?, hn]
    simp; omega

/-- The bytes of the padded text, the first k of the count's. -/
theorem br_len {base : Nat} {W : World} {v : Value} {l : List Nat} (h : BR base W v l) : lenOf v = l.length := by
  obtain ⟨g, cap, rfl, _⟩ := h; rfl
theorem be_step (b k : Nat) : beTo b (k + 1) = beTo b k ++ [b / 256 ^ (7 - k) % 256] := by
  rw [beTo, Nat.pow_mul]
theorem pad_done (L : Nat) (n : Nat) (hn : n ≤ nought L) (h : (L + 1 + n) % 64 = 56) : n = nought L := by unfold nought at *; omega
theorem pad_more (L : Nat) (n : Nat) (hn : n ≤ nought L) (h : ¬ (L + 1 + n) % 64 = 56) : n < nought L := by unfold nought at *; omega
theorem zs_more (n : Nat) : zs (n + 1) = zs n ++ [0] := by simp [zs, List.replicate_succ']
end Go.Proofs.YthlagngpllahkaaGreatDoor.Sha
/- The document's answer: what its walk over the chunks holds to. -/
namespace Go.Proofs.YthlagngpllahkaaGreatDoor.Sha
open Go.RowKit

/-- A row of words, made new. -/
theorem row_new {W : World} {vs : List Value} {ns : List Nat} (hl : vs.length = ns.length) (h : ∀ i, i < ns.length → ∃ u, vs[i]? = some u ∧ Bits W u (ns.getD i 0)) :
    RowAt (W.alloc (.cells vs.toArray 79)) W.heap.size ns ∧ (W.alloc (.cells vs.toArray 79)).there W.heap.size 0 ns.length := by
  have hb : Below W.heap.size W (W.alloc (.cells vs.toArray 79)) := (Below.refl _ _).alloc (Nat.le_refl _) _
  refine ⟨⟨by rw [alloc_size]; omega, fun i hi => ?_⟩, fun j hj => ?_⟩
  · obtain ⟨u, hu, hB⟩ := h i hi
    exact ⟨u, by rw [cell_of_row _ _ _ _ _ _ (alloc_new _ _ _ rfl)]; simpa using hu, hB.below hb⟩
  · rw [Nat.zero_add]
    refine ⟨?_, frozen_of_row _ _ _ _ _ (alloc_new _ _ _ rfl)⟩
    rw [cell_of_row _ _ _ _ _ _ (alloc_new _ _ _ rfl)]
    simp; omega
theorem bits5 {W : World} {x0 x1 x2 x3 x4 : Value} {n0 n1 n2 n3 n4 : Nat} (h0 : Bits W x0 n0) (h1 : Bits W x1 n1) (h2 : Bits W x2 n2) (h3 : Bits W x3 n3) (h4 : Bits W x4 n4) :
    ∀ i, i < [n0, n1, n2, n3, n4].length → ∃ u, [x0, x1, x2, x3, x4][i]? = some u ∧ Bits W u ([n0, n1, n2, n3, n4].getD i 0)
  | 0, _ => ⟨_, rfl, h0⟩
  | 1, _ => ⟨_, rfl, h1⟩
  | 2, _ => ⟨_, rfl, h2⟩
  | 3, _ => ⟨_, rfl, h3⟩
  | 4, _ => ⟨_, rfl, h4⟩
  | n + 5, h => absurd h (by simp)
theorem bits4 {W : World} {x0 x1 x2 x3 : Value} {n0 n1 n2 n3 : Nat} (h0 : Bits W x0 n0) (h1 : Bits W x1 n1) (h2 : Bits W x2 n2) (h3 : Bits W x3 n3) :
    ∀ i, i < [n0, n1, n2, n3].length → ∃ u, [x0, x1, x2, x3][i]? = some u ∧ Bits W u ([n0, n1, n2, n3].getD i 0)
  | 0, _ => ⟨_, rfl, h0⟩
  | 1, _ => ⟨_, rfl, h1⟩
  | 2, _ => ⟨_, rfl, h2⟩
  | 3, _ => ⟨_, rfl, h3⟩
  | n + 4, h => absurd h (by simp)
theorem bits1 {W : World} {x0 : Value} {n0 : Nat} (h0 : Bits W x0 n0) : ∀ i, i < [n0].length → ∃ u, [x0][i]? = some u ∧ Bits W u ([n0].getD i 0)
  | 0, _ => ⟨_, rfl, h0⟩
  | n + 1, h => absurd h (by simp)

/-- What the loop over the chunks holds to. -/
structure CH (w : World) (gb gh gk : Nat) (P hs : List Nat) (wr : World) : Prop where
  bel : Below w.heap.size w wr
  lb : gb < wr.heap.size
  rb : wr.rangeAt gb 0 (u8s P)
  rk : RowAt wr gk ks
  rh : RowAt wr gh hs
  th : wr.there gh 0 5
  nb : gb ≠ gh
  nk : gk ≠ gh
  bh : w.heap.size ≤ gh
theorem CH.below {w wr wr' : World} {gb gh gk : Nat} {P hs : List Nat} (h : CH w gb gh gk P hs wr) (hb : Below wr.heap.size wr wr') : CH w gb gh gk P hs wr' :=
  ⟨h.bel.trans (hb.mono h.bel.size), Nat.lt_of_lt_of_le h.lb hb.size, fun j u hu => by rw [hb.cell (p := ⟨gb, 0 + j, none⟩) h.lb]; exact h.rb j u hu, h.rk.below hb, h.rh.below hb,
   fun j hj => by rw [hb.cell (p := ⟨gh, 0 + j, none⟩) h.rh.1, hb.frozen (p := ⟨gh, 0 + j, none⟩) h.rh.1]; exact h.th j hj, h.nb, h.nk, h.bh⟩
theorem CH.store {w wr : World} {gb gh gk : Nat} {P hs : List Nat} (h : CH w gb gh gk P hs wr) (hl : hs.length = 5) (i : Nat) (hi : i < 5) (u : Value) (n : Nat) (hu : Bits wr u n) : CH w gb gh gk P (hs.set i n) (wr.setCell ⟨gh, i, none⟩ u) := by
  have hg := grown_setCell wr gh i u
  have ho := h.rh.odd0 (by omega)
  have e : wr.setCell ⟨gh, i, none⟩ u = wr.setCells gh i [u] := rfl
  have hin : (wr.setCell ⟨gh, i, none⟩ u).cell? ⟨gh, i, none⟩ = some u := by
    have h2 := World.cell?_setCells_in gh [u] i wr (fun j hj => by simp at hj; subst hj; simpa using (h.th i hi).1) 0 (by simp)
    simpa [e] using h2
  have hout : ∀ j, j ≠ i → (wr.setCell ⟨gh, i, none⟩ u).cell? ⟨gh, j, none⟩ = wr.cell? ⟨gh, j, none⟩ := fun j hj => by
    rw [e, World.cell?_setCells_out _ _ _ _ _ (fun _ _ => by simp only [List.length_singleton]; omega)]
  refine ⟨h.bel.setCell h.bh _, Nat.lt_of_lt_of_le h.lb hg.size, fun j x hx => ?_, h.rk.grown hg ho h.nk, ⟨Nat.lt_of_lt_of_le h.rh.1 hg.size, fun j hj => ?_⟩, fun j hj => ?_, h.nb, h.nk, h.bh⟩
  · rw [World.cell?_of_block (w := wr) (a := ⟨gb, 0 + j, none⟩) (hg.block gb h.lb (fun e => by injection e with e; exact h.nb e))]; exact h.rb j x hx
  · simp only [List.length_set] at hj
    by_cases hji : j = i
    · subst hji
      refine ⟨u, hin, ?_⟩
      have : (hs.set j n).getD j 0 = n := by simp [List.getD, hj]
      rw [this]; exact hu.grown hg ho
    · obtain ⟨x, hx, hB⟩ := h.rh.2 j hj
      refine ⟨x, by rw [hout j hji]; exact hx, ?_⟩
      have : (hs.set i n).getD j 0 = hs.getD j 0 := by simp only [List.getD]; rw [List.getElem?_set_ne (Ne.symm hji)]
      rw [this]; exact hB.grown hg ho
  · rw [Nat.zero_add]
    have h2 := h.th j hj
    rw [Nat.zero_add] at h2
    refine ⟨?_, by rw [e, World.frozen?_setCells]; exact h2.2⟩
    by_cases hji : j = i
    · subst hji; rw [hin]; rfl
    · rw [hout j hji]; exact h2.1

/-- The five parts before chunk m. -/
def hsAt (P : List Nat) (m : Nat) : List Nat := (feed st0 (P.take (64 * m))).p
def chunk (P : List Nat) (m : Nat) : List Nat := (P.drop (64 * m)).take 64
theorem chunk_length {P : List Nat} {m N : Nat} (hP : P.length = 64 * N) (hm : m < N) : (chunk P m).length = 64 := by simp [chunk]; omega
theorem chunk_small {P : List Nat} (h : Small 256 P) (m : Nat) : Small 256 (chunk P m) := Small.of_mem (by decide) (fun x hx => h.mem x (List.mem_of_mem_drop (List.mem_of_mem_take hx)))
theorem chunk_get {P : List Nat} {m i : Nat} (hi : i < 64) : (chunk P m).getD i 0 = P.getD (64 * m + i) 0 := by
  simp only [chunk, List.getD]
  rw [List.getElem?_take, if_pos hi, List.getElem?_drop]
theorem hsAt_zero (P : List Nat) : hsAt P 0 = start := rfl
theorem okAt {P : List Nat} (h : Small 256 P) (m : Nat) : OkSt (feed st0 (P.take (64 * m))) := okSt0.feed (fun x hx => h.mem x (List.mem_of_mem_take hx))
theorem hsAt_next {P : List Nat} {m N : Nat} (h : Small 256 P) (hP : P.length = 64 * N) (hm : m < N) : hsAt P (m + 1) = mix (hsAt P m) (chunk P m) := by
  unfold hsAt
  have e : P.take (64 * (m + 1)) = P.take (64 * m) ++ chunk P m := by rw [show 64 * (m + 1) = 64 * m + 64 by omega, List.take_add]; rfl
  have ok := okAt h m
  have hL : (feed st0 (P.take (64 * m))).L = 64 * m := by rw [feed_L]; show 0 + _ = _; simp; omega
  have hc := chunk_length hP hm
  rw [e, feed_append]
  generalize feed st0 (P.take (64 * m)) = s at *
  obtain ⟨p, blk, L⟩ := s
  have hL' : L % 64 = 0 := by simp only at hL; omega
  rw [feed_chunk p (chunk P m) blk L ok.bl (by intro e; rw [e] at hc; simp at hc) (by omega), hL', hc]
  simp only [Nat.zero_add, if_true]
  congr 1
  have hb : blk.length = 64 := ok.bl
  unfold splice
  rw [List.take_zero, List.drop_of_length_le (by omega)]
  simp
theorem hsAt_all {bs : List Nat} {N : Nat} (hP : (bs ++ endOf bs.length).length = 64 * N) : hsAt (bs ++ endOf bs.length) N = (feed (feed st0 bs) (endOf (feed st0 bs).L)).p := by
  unfold hsAt
  rw [List.take_of_length_le (by omega), feed_append, feed_L]
  simp [st0]
theorem word0_plain {bl : List Nat} (h : Small 256 bl) (t : Nat) : word0 bl t = bl.getD (4 * t) 0 * 16777216 + bl.getD (4 * t + 1) 0 * 65536 + bl.getD (4 * t + 2) 0 * 256 + bl.getD (4 * t + 3) 0 := by
  have h0 := h (4 * t)
  have h1 := h (4 * t + 1)
  have h2 := h (4 * t + 2)
  have h3 := h (4 * t + 3)
  unfold word0
  generalize bl.getD (4 * t) 0 = a at *
  generalize bl.getD (4 * t + 1) 0 = b at *
  generalize bl.getD (4 * t + 2) 0 = c at *
  generalize bl.getD (4 * t + 3) 0 = d at *
  rw [Nat.mod_eq_of_lt (by omega), Nat.mod_eq_of_lt (by omega), Nat.mod_eq_of_lt (by omega)]
  rw [show a * 2 ^ 24 = 2 ^ 24 * a by omega, ← Nat.two_pow_add_eq_or_of_lt (i := 24) (b := b * 2 ^ 16) (by omega) a,
    show 2 ^ 24 * a + b * 2 ^ 16 = 2 ^ 16 * (2 ^ 8 * a + b) by omega, ← Nat.two_pow_add_eq_or_of_lt (i := 16) (b := c * 2 ^ 8) (by omega),
    show 2 ^ 16 * (2 ^ 8 * a + b) + c * 2 ^ 8 = 2 ^ 8 * (2 ^ 8 * (2 ^ 8 * a + b) + c) by omega, ← Nat.two_pow_add_eq_or_of_lt (i := 8) (b := d) (by omega)]
theorem slice26_lh (g o n len c : Nat) (h : o + n ≤ c) (w : World) (L H : Int) (hL : L = (o : Int)) (hH : H = ((o + n : Nat) : Int)) (hc : 0 < c - o) :
    (Instr.slice 53 (.slice (some ⟨g, 0, none⟩) len c) (some (.int .i64 L)) (some (.int .i64 H)) none).run Tryz.prog w = .ok (.slice (some ⟨g, o, none⟩) n (c - o)) w := by
  subst hL hH
  have hz : (sizeOf (Tryz.prog.elem 53)).run Tryz.prog w = .ok 1 w := by kernel_rfl
  rw [run_slice_lh w 53 (some ⟨g, 0, none⟩) len c (by kernel_rfl) .i64 .i64 (o : Int) ((o + n : Nat) : Int) (by omega) (by omega) (by omega), hz]
  simp only [Result.andThen, sliced, Int.toNat_natCast, Nat.mul_one]
  rw [if_neg (by omega)]
  simp [Addr.add_mid]
end Go.Proofs.YthlagngpllahkaaGreatDoor.Sha
/- The document's answer: what append keeps; the five parts, one by one; the text of the parts. -/
namespace Go.Proofs.YthlagngpllahkaaGreatDoor.Sha
open Go.RowKit

/-- append leaves the words that are there. -/
theorem app_keeps {W w' : World} {base g cp : Nat} {v' : Value} {ns ms : List Nat} (h : OwnR base W (.slice (some ⟨g, 0, none⟩) ns.length cp) ns) (ad : Addr) (c : Nat) (news : List Value) (hl : news.length = ms.length) (hnews : ∀ j u, news[j]? = some u → W.cell? (ad.add j) = some u)
    (hms : ∀ i, i < ms.length → ∃ u, news[i]? = some u ∧ Bits W u (ms.getD i 0)) (hn : ns.length + ms.length ≤ 1000)
    (hrun : (Builtin.append_ #[109, 109] 109 #[.slice (some ⟨g, 0, none⟩) ns.length cp, .slice (some ad) ms.length c]).run Tryz.prog W = .ok v' w') : ∀ j, j < ns.length → w'.cell? ⟨g, j, none⟩ = W.cell? ⟨g, j, none⟩ := by
  intro j hj
  obtain ⟨i0, hi, hz0, hz1, hz2⟩ := info_parts info42
  obtain ⟨vs, hown, h3, g1, c1, e, h4⟩ := h
  have h1 : ∀ u ∈ news, u.oneCell' = true := fun u hu => by
    obtain ⟨i, hi, rfl⟩ := List.getElem_of_mem hu
    obtain ⟨u', hu', g', c', rfl, _⟩ := hms i (by omega)
    rw [List.getElem?_eq_getElem hi] at hu'
    injection hu' with hu'
    rw [hu']; rfl
  obtain ⟨a1, a2⟩ := hown
  rcases a2 with ⟨a2, _⟩ | ⟨g', cap', cur, e2, hg, hh, hn', hm, hs, ht⟩
  · cases a2
  cases e2
  have hc : ∀ j, j < cp → W.cell? ⟨g, j, none⟩ = cur[j]? := fun j _ => by rw [cell_of_row _ _ _ _ _ _ hh]
  have hsz : cur.size = cp := by omega
  by_cases hroom : ns.length + ms.length ≤ cp
  · have hr := run_append_room_cells (P := Tryz.prog) W 109 109 79 i0 Tryz.underlying109 hi g 0 ns.length cp ad ms.length c news (by rw [hz1]; omega) hnews h1 hroom (fun j hj => by
      rw [hc _ (by rw [hz1]; omega), hz1]
      have : 0 + ns.length * 1 + j < cur.size := by omega
      simp; omega) (fun j hj => frozen_of_row _ _ _ _ _ hh)
    rw [hr] at hrun
    injection hrun with _ hw
    rw [← hw, World.cell?_setCells_out _ _ _ _ _ (fun _ _ => Or.inl (by rw [hz1]; show j < _; omega))]
  · obtain ⟨v2, w2, hr, _, hgr⟩ := run_append_arg_grows (P := Tryz.prog) W 109 109 79 i0 (.slice none 0 0) 1 24 Tryz.underlying109 hi hz0 hz1 hz2 rfl (by decide) ⟨g, 0, none⟩ ns.length cp vs a1 (fun j u hu => by
        have hj : j < ns.length := by have := (List.getElem?_eq_some_iff.1 hu).1; omega
        rw [Addr.add_mid, Nat.zero_add, cell_of_row _ _ _ _ _ _ hh, ← hu, ← ht]
        simp [hj]) ad ms.length c news (by omega) hnews (by omega) (by unfold maxLen; omega) (by omega)
    rw [hr] at hrun
    injection hrun with _ hw
    rw [← hw]
    exact World.cell?_of_block (w := W) (a := ⟨g, j, none⟩) (hgr.block g (Array.getElem?_eq_some_iff.1 hh).1 (by simp))

/-- The first k of five parts, each with what is added to it. -/
def mixTo (H Y : List Nat) : Nat → List Nat
  | 0 => H
  | k + 1 => (mixTo H Y k).set k ((H.getD k 0 + Y.getD k 0) % 4294967296)
theorem mixTo_length (H Y : List Nat) : ∀ k, (mixTo H Y k).length = H.length
  | 0 => rfl
  | k + 1 => by simp [mixTo, mixTo_length H Y k]
theorem mixTo_get (H Y : List Nat) (j : Nat) : ∀ k, k ≤ j → (mixTo H Y k).getD j 0 = H.getD j 0
  | 0, _ => rfl
  | k + 1, h => by
    rw [mixTo]
    simp only [List.getD]
    rw [List.getElem?_set_ne (by omega)]
    exact mixTo_get H Y j k (by omega)
theorem mixTo_mix (h0 h1 h2 h3 h4 y0 y1 y2 y3 y4 : Nat) (bl : List Nat) (h : rounds (words bl 80) (h0, h1, h2, h3, h4) 80 = (y0, y1, y2, y3, y4)) :
    mixTo [h0, h1, h2, h3, h4] [y0, y1, y2, y3, y4] 5 = mix [h0, h1, h2, h3, h4] bl := by
  have e : five [h0, h1, h2, h3, h4] = (h0, h1, h2, h3, h4) := rfl
  unfold mix
  rw [e, h]
  rfl
theorem step_sum (A Y W K : Nat) : (A % 4294967296 + ((Y + W) % 4294967296 + K) % 4294967296) % 4294967296 = ((((A % 4294967296 + Y) % 4294967296) + W) % 4294967296 + K) % 4294967296 := by omega
theorem list5 {l : List Nat} (h : l.length = 5) : ∃ a b c d e, l = [a, b, c, d, e] := by
  match l, h with
  | [a, b, c, d, e], _ => exact ⟨a, b, c, d, e, rfl⟩
theorem rounds_next (ws : List Nat) (s : Nat × Nat × Nat × Nat × Nat) (t y0 y1 y2 y3 y4 : Nat) (h : rounds ws s t = (y0, y1, y2, y3, y4)) :
    rounds ws s (t + 1) = (((rot y0 5 + ch t y1 y2 y3) % 4294967296 + ((y4 + ws.getD t 0) % 4294967296 + kt t) % 4294967296) % 4294967296, y0, rot y1 30, y2, y3) := by
  rw [rounds, h, step_sum]; rfl
theorem strOf_append (a b : List Nat) : strOf a ++ strOf b = strOf (a ++ b) := by
  unfold strOf strOfNums
  apply ByteArray.ext
  simp
end Go.Proofs.YthlagngpllahkaaGreatDoor.Sha
/- A store that stands alone; four bytes of a part. -/
namespace Go.Proofs.YthlagngpllahkaaGreatDoor.Sha
open Go.RowKit

theorem heldStore {P : Program} {md : Region.Mode} {ops : Array Oper} {Q : Exit → Act → World → Prop} {S : World → Prop} {fuel : Nat} {listed : Array Bool} {a : Act} {w : World} {d : Option Tmp} {op : Op} {g : Option (Nat × Bool)} (i : Nat) (w' : World) (hi : opIsG ops i d op g) (hw : lets ops a g = true)
    (hr : Region.ready md ops listed = [i]) (hy : ∀ o : Oper, o.op = op → (execOp a.eval o).run P w = .ok .skip w') (hS : S w')
    (h : wpAnyH P md ops Q S fuel (listed.setIfInBounds i true) (a.put d undef) w') : wpAnyH P md ops Q S (fuel + 1) listed a w := by
  obtain ⟨o, ho, hd, hop, hg⟩ := op_ofG hi
  refine wpAnyH_all hr (by simp) (fun k hk => ?_)
  rw [List.mem_singleton] at hk
  subst hk
  refine wpOp_step ho (fun K hK => ?_)
  rw [if_pos (wanted_of hg hw)]
  unfold Oper.wp
  rw [hy o hop, Oper.upon_skip, hd]
  exact hK _ _ ⟨hS, h⟩
theorem bytesOf_four (H : List Nat) (k : Nat) (h : H.getD k 0 < 4294967296) : bytesOf H (4 * (k + 1)) = bytesOf H (4 * k) ++ [H.getD k 0 / 16777216, H.getD k 0 / 65536 % 256, H.getD k 0 / 256 % 256, H.getD k 0 % 256] := by
  rw [show 4 * (k + 1) = 4 * k + 1 + 1 + 1 + 1 by omega]
  simp only [bytesOf]
  rw [show (4 * k) / 4 = k by omega, show (4 * k + 1) / 4 = k by omega, show (4 * k + 1 + 1) / 4 = k by omega, show (4 * k + 1 + 1 + 1) / 4 = k by omega,
    show (4 * k) % 4 = 0 by omega, show (4 * k + 1) % 4 = 1 by omega, show (4 * k + 1 + 1) % 4 = 2 by omega, show (4 * k + 1 + 1 + 1) % 4 = 3 by omega]
  simp only [List.append_assoc, List.cons_append, List.nil_append]
  generalize H.getD k 0 = n at *
  have e : n / 2 ^ (24 - 8 * 0) % 256 = n / 16777216 := by rw [show 2 ^ (24 - 8 * 0) = 16777216 by decide]; omega
  rw [e]; simp
end Go.Proofs.YthlagngpllahkaaGreatDoor.Sha
