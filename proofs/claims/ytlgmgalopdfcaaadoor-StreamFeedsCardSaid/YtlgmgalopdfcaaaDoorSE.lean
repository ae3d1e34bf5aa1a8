/- stream: what Feed's loop holds to. -/
import Derived.Test.YtlgmgalopdfcaaaDoorSD
set_option maxRecDepth 100000
namespace Go.Proofs.YtlgmgalopdfcaaaDoor
open Go.RowKit MaskPlain FramePlain StreamPlain Mas Fra

/-- How far the reading has come: fs are told, f is the next one, or k is why there is none; r bytes are read. -/
def PL (T : List Nat) (masked : Bool) (most : Int) (fs : List Fr) (f : Fr) (k r : Nat) : Prop := ∃ r0 n, r = r0 + n ∧ r ≤ T.length ∧ one (T.drop r0) masked most = (f, n, k) ∧ (k ≠ 0 → n = 0) ∧ all T masked most = (fs ++ (all (T.drop r0) masked most).1, (all (T.drop r0) masked most).2) ∧ 2 * fs.length ≤ r0
theorem one_n {s : List Nat} {masked : Bool} {most : Int} {f : Fr} {n k : Nat} (hs : Small 256 s) (h : one s masked most = (f, n, k)) : n ≤ s.length ∧ (k ≠ 0 → n = 0) ∧ (k = 0 → 2 ≤ n) := by
  rcases one_err s masked most with h1 | ⟨e, h1, he⟩
  · have h2 := one_len hs h1
    rw [h] at h1 h2
    simp only at h1 h2
    exact ⟨h2.2, fun h3 => absurd h1 h3, fun _ => h2.1⟩
  · rw [h] at h1
    injection h1 with _ h1
    injection h1 with h2 h3
    exact ⟨by omega, fun _ => h2, fun h4 => by omega⟩
theorem pl_start {T : List Nat} (masked : Bool) (most : Int) (hs : Small 256 T) : ∃ f n k, one (T.drop 0) masked most = (f, n, k) ∧ n ≤ T.length ∧ PL T masked most [] f k n := by
  obtain ⟨⟨f, n, k⟩, h⟩ : ∃ x, one T masked most = x := ⟨_, rfl⟩
  obtain ⟨h1, h2, _⟩ := one_n hs h
  exact ⟨f, n, k, h, h1, 0, n, by omega, h1, h, h2, by simp, by simp⟩
theorem pl_step {T : List Nat} {masked : Bool} {most : Int} {fs : List Fr} {f : Fr} {r : Nat} (hs : Small 256 T) (h : PL T masked most fs f 0 r) :
    ∃ f' n' k', one (T.drop r) masked most = (f', n', k') ∧ r + n' ≤ T.length ∧ PL T masked most (fs ++ [f]) f' k' (r + n') := by
  obtain ⟨r0, n, rfl, hr, h1, _, h3, h4⟩ := h
  obtain ⟨⟨f', n', k'⟩, h'⟩ : ∃ x, one (T.drop (r0 + n)) masked most = x := ⟨_, rfl⟩
  obtain ⟨g1, g2, _⟩ := one_n (hs.drop _) h'
  have g3 := (one_n (hs.drop _) h1).2.2 rfl
  rw [List.length_drop] at g1
  refine ⟨f', n', k', h', by omega, r0 + n, n', rfl, by omega, h', g2, ?_, by rw [List.length_append]; simp; omega⟩
  rw [h3, all_step (T.drop r0) masked most (hs.drop _), h1, if_neg (by simp), if_neg (by simp), List.drop_drop]
  simp
theorem pl_more {T : List Nat} {masked : Bool} {most : Int} {fs : List Fr} {f : Fr} {r : Nat} (hs : Small 256 T) (h : PL T masked most fs f 90 r) : all T masked most = (fs, 0, T.length - r) ∧ r ≤ T.length := by
  obtain ⟨r0, n, rfl, hr, h1, h2, h3, _⟩ := h
  obtain rfl := h2 (by decide)
  rw [h3, all_step (T.drop r0) masked most (hs.drop _), h1, if_pos rfl, List.length_drop]
  simp at hr ⊢; omega
theorem pl_err {T : List Nat} {masked : Bool} {most : Int} {fs : List Fr} {f : Fr} {k r : Nat} (hs : Small 256 T) (h : PL T masked most fs f k r) (h0 : k ≠ 0) (h9 : k ≠ 90) : all T masked most = (fs, k, 0) := by
  obtain ⟨r0, n, rfl, hr, h1, h2, h3, _⟩ := h
  rw [h3, all_step (T.drop r0) masked most (hs.drop _), h1, if_neg h9, if_pos h0]
  simp
/-- Bytes that lie behind a slice, behind a row of one's own. -/
theorem add_bs {Z : World} {base : Nat} {v x : Value} {m l : List Nat} (hown : Z.ownsRow base 5 1 v m.length (u8s m)) (hx : SrcAt Z x l) (hl : m.length + l.length ≤ 1000000) (hbase : base ≤ Z.heap.size) :
    ∃ v1 w1, (Builtin.append_ #[32, 32] 32 #[v, x]).run Tryd.prog Z = .ok v1 w1 ∧ w1.ownsRow base 5 1 v1 (m ++ l).length (u8s (m ++ l)) ∧ Z.grownBy w1 v.ownBlock ∧ (v1.ownBlock = v.ownBlock ∨ v1.ownBlock = some Z.heap.size) := by
  obtain ⟨i0, hi0, hz0, hz1, hz2⟩ := info5'
  obtain ⟨a, cap, sb, so, rfl, hc, ha, hcell⟩ := hx
  cases a with
  | none =>
    have h0 : l = [] := by
      cases l with
      | nil => rfl
      | cons x xs => exact absurd (ha (by simp)) (by simp)
    subst h0
    refine ⟨v, Z, ?_, by rw [List.append_nil]; exact hown, grown_refl _ _, .inl rfl⟩
    rcases hown.2 with ⟨rfl, _⟩ | ⟨g, c, cur, rfl, _, _, hnc, _⟩
    · simp [Builtin.append_, run_underlying Tryd.underlying32, sizeOf, typeInfo, hi0, Builtin.lenOf, Builtin.firstCells]
    · simp [Builtin.append_, run_underlying Tryd.underlying32, sizeOf, typeInfo, hi0, Builtin.lenOf, Builtin.firstCells, storeCells]
      intro hc
      exact absurd hc (by omega)
  | some ad =>
    obtain ⟨v', w', h1, h2, h3, h4⟩ := own_app (P := Tryd.prog) (w := Z) base 32 32 5 i0 _ 1 1 Tryd.underlying32 hi0 hz0 hz1 hz2 rfl (by decide) v m.length (u8s m) hown ad l.length cap (u8s l) (by simp) (fun j u hu => by
      have hj : j < l.length := by have := (List.getElem?_eq_some_iff.1 hu).1; simpa using this
      have had := ha (by omega)
      injection had with had
      subst had
      rw [Addr.add_mid, hcell j hj, ← hu, u8s_get l j hj]) (u8s_one l) (by unfold maxLen; omega) (by omega) hbase
    exact ⟨v', w', h1, by rw [List.length_append, u8s_append]; exact h2, h3, h4⟩
/-- An append as an operation. -/
theorem run_appB {ev : Operand → Value} {o : Oper} {x y : Operand} {Z w1 : World} {v0 src v1 : Value} {t : TypeId} (ho : o.op = .call { callee := .builtin .append, args := #[x, y], argTypes := #[t, t] }) (ht : o.type = t) (hs : ev x = v0) (hx : ev y = src)
    (hap : (Builtin.append_ #[t, t] t #[v0, src]).run Tryd.prog Z = .ok v1 w1) : (execOp ev o).run Tryd.prog Z = .ok (.value v1) w1 := by
  unfold execOp
  simp only [ho, ht, resolve, invoke, builtin, Sem.run_bind, Sem.run_pure, Result.andThen_ok, List.map_toArray, List.map_cons, List.map_nil, hs, hx, hap]
/-- A block of another kind is no row of bytes. -/
theorem ownB_kind {W : World} {base g n : Nat} {v : Value} {xs : List Value} {cs : Array Value} {t : TypeId} (ho : W.ownsRow base 5 1 v n xs) (h : W.heap[g]? = some (.cells cs t (0, 0))) (ht : t ≠ 5) : v.ownBlock ≠ some g := fun e => by
  obtain ⟨_, h2⟩ := ho
  rcases h2 with ⟨rfl, _⟩ | ⟨k, cap, cur, rfl, _, hh, _⟩
  · cases e
  · obtain rfl : k = g := by simpa [Value.ownBlock] using e
    rw [h] at hh
    injection hh with hh
    injection hh with _ h4
    exact ht h4
theorem own_base {W : World} {base base' e size n : Nat} {v : Value} {xs : List Value} (h : W.ownsRow base e size v n xs) (hb : base' ≤ base) : W.ownsRow base' e size v n xs := by
  refine ⟨h.1, ?_⟩
  rcases h.2 with hn | ⟨g, cap, cur, rfl, hg, r⟩
  · exact .inl hn
  · exact .inr ⟨g, cap, cur, rfl, Nat.le_trans hb hg, r⟩
theorem StrmAt.ge {w0 W : World} {b : Nat} {masked : Bool} {most : Int} {part : List Nat} {err : Nat} {v : Value} (h : StrmAt w0 W b masked most part err v) : w0.heap.size ≤ ob v b := by
  unfold ob
  rcases h.O.2 with ⟨rfl, hz⟩ | ⟨g, cap, cur, rfl, hg, _⟩
  · exact h.B
  · exact hg
theorem ob_ne {v : Value} {b g : Nat} (h1 : g ≠ b) (h2 : v.ownBlock ≠ some g) : g ≠ ob v b := fun e => by
  unfold ob at e
  cases h : v.ownBlock with
  | none => rw [h] at e; exact h1 e
  | some k => rw [h] at e h2; exact h2 (by rw [e]; rfl)
/-- A stream stays when a block that isn't its own is grown. -/
theorem StrmAt.grown {w0 W W' : World} {b : Nat} {masked : Bool} {most : Int} {part : List Nat} {err : Nat} {v : Value} {r : Option Nat} (h : StrmAt w0 W b masked most part err v) (g : W.grownBy W' r) (hb : ∀ k, r = some k → k ≠ b ∧ v.ownBlock ≠ some k ∧ w0.heap.size ≤ k) : StrmAt w0 W' b masked most part err v where
  X := by rw [g.block b h.lt (fun e => (hb b e.symm).1 rfl)]; exact h.X
  O := h.O.kept g (by cases r with
    | none => cases hv : v.ownBlock <;> simp
    | some k => exact .inr (hb k rfl).2.1)
  B := h.B
  L := h.L.grown g h.L.size (fun k hk => (hb k hk).2.2)
theorem two_grown {W w w' : World} {b p : Nat} {r : Option Nat} (h : Two W w b p) (g : w.grownBy w' r) (hr : ∀ k, r = some k → W.heap.size ≤ k) : Two W w' b p :=
  ⟨g.os.trans h.os, g.tape.trans h.tape, g.output.trans h.output, Nat.le_trans h.size g.size, fun k hk h1 h2 => (g.block k (Nat.lt_of_lt_of_le hk h.size) (fun e => by have := hr k e.symm; omega)).trans (h.block k hk h1 h2)⟩
theorem two_below {W w w' : World} {b p : Nat} (h : Two W w b p) (g : Below w.heap.size w w') : Two W w' b p := two_grown h (grown_below g none) (fun k hk => by cases hk)
/-- More bytes are kept. -/
theorem strm_fed {w0 W w2 : World} {b : Nat} {masked : Bool} {most : Int} {part T : List Nat} {err : Nat} {v v1 : Value} (h : StrmAt w0 W b masked most part err v) (g : W.grownBy w2 v.ownBlock) (ho : w2.ownsRow w0.heap.size 5 1 v1 T.length (u8s T)) :
    StrmAt w0 (w2.setCell ⟨b, 2, none⟩ v1) b masked most T err v1 ∧ Two W (w2.setCell ⟨b, 2, none⟩ v1) b (ob v b) := by
  have hk := ownB_kind h.O h.X (by decide)
  have hb2 : w2.heap[b]? = some (.cells #[.bool masked, .int .i64 most, v, .int .i64 (err : Int)] 51 (0, 0)) := by rw [g.block b h.lt (fun e => hk e.symm)]; exact h.X
  have hk2 := ownB_kind ho hb2 (by decide)
  have hL : Below w0.heap.size w0 w2 := h.L.grown g h.L.size (fun k hk => by have := (h.O.lt k hk).1; omega)
  refine ⟨⟨by rw [heap_setCell_same _ _ _ _ _ _ hb2]; rfl, ho.kept (grown_setCell w2 b 2 v1) (.inr hk2), h.B, hL.grown (grown_setCell w2 b 2 v1) hL.size (fun k hk => by injection hk with hk; have := h.B; omega)⟩, ?_⟩
  have g2 := grown_setCell w2 b 2 v1
  exact ⟨g2.os.trans g.os, g2.tape.trans g.tape, g2.output.trans g.output, Nat.le_trans g.size g2.size, fun k hk h1 h2 => (g2.block k (Nat.lt_of_lt_of_le hk g.size) (fun e => h1 (by injection e))).trans (g.block k hk (fun e => h2 (by unfold ob; rw [← e]; rfl)))⟩
/-- What Feed's loop holds to. -/
structure LR (w0 W : World) (b C R q B : Nat) (masked : Bool) (most : Int) (T : List Nat) (v v1 : Value) (wr : World) (u : Value) (fs : List Fr) (f : Fr) (k r : Nat) : Prop where
  hS : StrmAt w0 wr b masked most T 0 v1
  hC : wr.heap[C]? = some (.cells #[.pointer (some ⟨b, 0, none⟩)] 23 (0, 0))
  hR : wr.heap[R]? = some (.cells #[.int .i64 (r : Int)] 3 (0, 0))
  hQ : wr.heap[q]? = some (.cells (cv f).toArray 43 (0, 0))
  hO : OwnR wr B u fs
  hN : B ≤ wr.heap.size
  hK : W.heap.size ≤ R ∧ W.heap.size ≤ q ∧ q < B
  hT : Two W wr b (ob v b)
  hP : PL T masked most fs f k r
section
variable {w0 W wr : World} {b C R q B : Nat} {masked : Bool} {most : Int} {T : List Nat} {v v1 u : Value} {fs : List Fr} {f : Fr} {k r : Nat}
theorem LR.below {w' : World} (h : LR w0 W b C R q B masked most T v v1 wr u fs f k r) (g : Below wr.heap.size wr w') : LR w0 W b C R q B masked most T v v1 w' u fs f k r where
  hS := h.hS.below g
  hC := below_key h.hC g
  hR := below_key h.hR g
  hQ := below_key h.hQ g
  hO := h.hO.below g
  hN := Nat.le_trans h.hN g.size
  hK := h.hK
  hT := two_below h.hT g
  hP := h.hP
/-- A frame more is told. -/
theorem LR.told {w' : World} (h : LR w0 W b C R q B masked most T v v1 wr u fs f k r) (hW : w0.heap.size ≤ W.heap.size) (g : wr.grownBy w' u.ownBlock) :
    StrmAt w0 w' b masked most T 0 v1 ∧ w'.heap[C]? = some (.cells #[.pointer (some ⟨b, 0, none⟩)] 23 (0, 0)) ∧ w'.heap[R]? = some (.cells #[.int .i64 (r : Int)] 3 (0, 0)) ∧ w'.heap[q]? = some (.cells (cv f).toArray 43 (0, 0)) ∧ B ≤ w'.heap.size ∧ Two W w' b (ob v b) := by
  obtain ⟨k1, k2, k3⟩ := h.hK
  have kb := h.hO.kind h.hS.X (by decide)
  have kc := h.hO.kind h.hC (by decide)
  have kr := h.hO.kind h.hR (by decide)
  have lt : ∀ {j : Nat} {o : Obj}, wr.heap[j]? = some o → j < wr.heap.size := fun h => (Array.getElem?_eq_some_iff.1 h).1
  refine ⟨h.hS.grown g (fun k hk => ⟨fun e => kb (by rw [← e]; exact hk), fun e => ?_, by have := h.hO.ge hk; omega⟩), ?_, ?_, ?_, Nat.le_trans h.hN g.size, two_grown h.hT g (fun k hk => by have := h.hO.ge hk; omega)⟩
  · rcases h.hO.2 with ⟨rfl, _⟩ | ⟨g', cap, cur, rfl, _, hh, _⟩
    · cases hk
    · obtain rfl : g' = k := by simpa [Value.ownBlock] using hk
      exact ownB_kind h.hS.O hh (by decide) e
  · rw [g.block _ (lt h.hC) (fun e => kc e.symm)]; exact h.hC
  · rw [g.block _ (lt h.hR) (fun e => kr e.symm)]; exact h.hR
  · rw [g.block _ (lt h.hQ) (fun e => by have := h.hO.ge e.symm; omega)]; exact h.hQ
/-- The next one is laid down. -/
theorem LR.next {w1 w2 : World} {u' : Value} {f' : Fr} {k' r' : Nat} (hS : StrmAt w0 w1 b masked most T 0 v1) (hC : w1.heap[C]? = some (.cells #[.pointer (some ⟨b, 0, none⟩)] 23 (0, 0))) (hR : w2.heap[R]? = some (.cells #[.int .i64 (r' : Int)] 3 (0, 0))) (hR1 : w1.heap[R]? = some (.cells #[.int .i64 (r : Int)] 3 (0, 0)))
    (hQ : w1.heap[q]? = some (.cells (cv f).toArray 43 (0, 0))) (hO : OwnR w1 B u' (fs ++ [f])) (hN : B ≤ w1.heap.size) (hK : W.heap.size ≤ R ∧ W.heap.size ≤ q ∧ q < B) (hT : Two W w1 b (ob v b)) (g : w1.grownBy w2 (some R)) (hP : PL T masked most (fs ++ [f]) f' k' r') (hW : w0.heap.size ≤ W.heap.size) :
    LR w0 W b C R q B masked most T v v1 (w2.setRow q (cv f').toArray) u' (fs ++ [f]) f' k' r' := by
  have lt : ∀ {j : Nat} {o : Obj}, w1.heap[j]? = some o → j < w1.heap.size := fun h => (Array.getElem?_eq_some_iff.1 h).1
  have kq : R ≠ q := fun e => by rw [e, hQ] at hR1; injection hR1 with h; injection h with _ h; exact absurd h (by decide)
  have kc : R ≠ C := fun e => by rw [e, hC] at hR1; injection hR1 with h; injection h with _ h; exact absurd h (by decide)
  have kb : R ≠ b := fun e => by rw [e, hS.X] at hR1; injection hR1 with h; injection h with _ h; exact absurd h (by decide)
  have kqb : q ≠ b := fun e => by rw [e, hS.X] at hQ; injection hQ with h; injection h with _ h; exact absurd h (by decide)
  have kqc : q ≠ C := fun e => by rw [e, hC] at hQ; injection hQ with h; injection h with _ h; exact absurd h (by decide)
  have S2 := hS.grown g (fun k hk => by
    injection hk with hk
    subst hk
    exact ⟨kb, ownB_kind hS.O hR1 (by decide), by omega⟩)
  have Q2 : w2.heap[q]? = some (.cells (cv f).toArray 43 (0, 0)) := by rw [g.block _ (lt hQ) (fun e => kq (by injection e with e; exact e.symm))]; exact hQ
  have g2 := grown_setRow w2 q (cv f').toArray
  have O2 : OwnR w2 B u' (fs ++ [f]) := hO.kept g (.inr (hO.kind hR1 (by decide)))
  exact {
    hS := S2.grown g2 (fun k hk => by
      injection hk with hk
      subst hk
      exact ⟨kqb, ownB_kind S2.O Q2 (by decide), by omega⟩)
    hC := by rw [setRow_other _ _ _ _ (fun e => kqc e.symm), g.block _ (lt hC) (fun e => kc (by injection e with e; exact e.symm))]; exact hC
    hR := by rw [setRow_other _ _ _ _ kq]; exact hR
    hQ := setRow_heap _ _ _ _ _ _ Q2
    hO := O2.kept g2 (.inr (fun e => by have := O2.ge e; omega))
    hN := Nat.le_trans hN (Nat.le_trans g.size g2.size)
    hK := hK
    hT := two_grown (two_grown hT g (fun k hk => by injection hk with hk; omega)) g2 (fun k hk => by injection hk with hk; omega)
    hP := hP }
end
theorem LR.start {w0 W w4 w5 : World} {b C R : Nat} {masked : Bool} {most : Int} {T : List Nat} {v v1 : Value} {f : Fr} {k r : Nat} {r0 : Int} {z : Array Value} (hS : StrmAt w0 w4 b masked most T 0 v1) (hC : w4.heap[C]? = some (.cells #[.pointer (some ⟨b, 0, none⟩)] 23 (0, 0))) (hR1 : w4.heap[R]? = some (.cells #[.int .i64 r0] 3 (0, 0))) (hR : w5.heap[R]? = some (.cells #[.int .i64 (r : Int)] 3 (0, 0)))
    (hK : W.heap.size ≤ R) (hT : Two W w4 b (ob v b)) (g : w4.grownBy w5 (some R)) (hP : PL T masked most [] f k r) (hW : w0.heap.size ≤ W.heap.size) :
    LR w0 W b C R w5.heap.size (w5.heap.size + 1) masked most T v v1 ((w5.alloc (.cells z 43)).setRow w5.heap.size (cv f).toArray) (.slice none 0 0) [] f k r := by
  have lt : ∀ {j : Nat} {o : Obj}, w4.heap[j]? = some o → j < w4.heap.size := fun h => (Array.getElem?_eq_some_iff.1 h).1
  have kc : R ≠ C := fun e => by rw [e, hC] at hR1; injection hR1 with h; injection h with _ h; exact absurd h (by decide)
  have kb : R ≠ b := fun e => by rw [e, hS.X] at hR1; injection hR1 with h; injection h with _ h; exact absurd h (by decide)
  have S2 := hS.grown g (fun k hk => by
    injection hk with hk
    subst hk
    exact ⟨kb, ownB_kind hS.O hR1 (by decide), by omega⟩)
  have BL : Below w5.heap.size w5 ((w5.alloc (.cells z 43)).setRow w5.heap.size (cv f).toArray) := below_setRow ((Below.refl _ _).alloc (Nat.le_refl _) _) (Nat.le_refl _) _
  have C2 : w5.heap[C]? = some (.cells #[.pointer (some ⟨b, 0, none⟩)] 23 (0, 0)) := by rw [g.block _ (lt hC) (fun e => kc (by injection e with e; exact e.symm))]; exact hC
  have T2 := two_grown hT g (fun k hk => by injection hk with hk; omega)
  exact {
    hS := S2.below BL
    hC := below_key C2 BL
    hR := below_key hR BL
    hQ := setRow_heap _ _ _ _ _ _ (alloc_new _ _ _ rfl)
    hO := ownR_nil _ _
    hN := by have := (grown_setRow (w5.alloc (.cells z 43)) w5.heap.size (cv f).toArray).size; rw [alloc_size] at this; exact this
    hK := ⟨hK, by have := hT.size; have := g.size; omega, by omega⟩
    hT := two_below T2 BL
    hP := hP }
/-- A stream that is wrong from now on. -/
theorem strm_err {w0 W : World} {b : Nat} {masked : Bool} {most : Int} {T : List Nat} {v1 : Value} (h : StrmAt w0 W b masked most T 0 v1) (e : Nat) :
    StrmAt w0 ((W.setCell ⟨b, 3, none⟩ (.int .i64 (e : Int))).setCell ⟨b, 2, none⟩ (.slice none 0 0)) b masked most [] e (.slice none 0 0) ∧ W.grownBy ((W.setCell ⟨b, 3, none⟩ (.int .i64 (e : Int))).setCell ⟨b, 2, none⟩ (.slice none 0 0)) (some b) ∧
      (W.setCell ⟨b, 3, none⟩ (.int .i64 (e : Int))).cell? ⟨b, 2, none⟩ = some v1 ∧ (W.setCell ⟨b, 3, none⟩ (.int .i64 (e : Int))).frozen? ⟨b, 2, none⟩ = false := by
  have h1 : (W.setCell ⟨b, 3, none⟩ (.int .i64 (e : Int))).heap[b]? = some (.cells #[.bool masked, .int .i64 most, v1, .int .i64 (e : Int)] 51 (0, 0)) := by rw [heap_setCell_same _ _ _ _ _ _ h.X]; rfl
  have g := grown_trans (grown_setCell W b 3 (.int .i64 (e : Int))) (grown_setCell (W.setCell ⟨b, 3, none⟩ (.int .i64 (e : Int))) b 2 (.slice none 0 0))
  refine ⟨⟨by rw [heap_setCell_same _ _ _ _ _ _ h1]; rfl, World.ownsRow_nil _ _ _ _, h.B, h.L.grown g h.L.size (fun k hk => by injection hk with hk; have := h.B; omega)⟩, g, ?_, frozen_of_row _ _ _ _ _ h1⟩
  rw [cell_of_row _ _ _ _ _ _ h1]; rfl
/-- Only what isn't read is kept. -/
theorem strm_cut {w0 W w2 : World} {b : Nat} {masked : Bool} {most : Int} {part T : List Nat} {err : Nat} {v v1 : Value} (h : StrmAt w0 W b masked most part err v) (g : W.grownBy w2 none) (ho : w2.ownsRow w0.heap.size 5 1 v1 T.length (u8s T)) :
    StrmAt w0 (w2.setCell ⟨b, 2, none⟩ v1) b masked most T err v1 ∧ W.grownBy (w2.setCell ⟨b, 2, none⟩ v1) (some b) := by
  have g' : ∀ r, W.grownBy w2 r := fun r => ⟨g.os, g.tape, g.output, g.size, fun k hk _ => g.block k hk (by simp)⟩
  exact ⟨(strm_fed h (g' _) ho).1, grown_trans (g' _) (grown_setCell _ _ _ _)⟩
theorem two_left {W w w' : World} {b p : Nat} (h : Two W w b p) (g : w.grownBy w' (some b)) : Two W w' b p := h.trans (Two.left g)
/-- How many frames a row has. -/
def lenV (v : Value) : Nat := match v with | .slice _ n _ => n | _ => 0
theorem OwnR.len {W : World} {base : Nat} {v : Value} {l : List Fr} (h : OwnR W base v l) : lenV v = l.length := by
  obtain ⟨a, c, rfl⟩ := h.slice; rfl
theorem pl_len {T : List Nat} {masked : Bool} {most : Int} {fs : List Fr} {f : Fr} {k r : Nat} (h : PL T masked most fs f k r) : fs.length ≤ T.length ∧ r ≤ T.length := by
  obtain ⟨r0, n, rfl, hr, _, _, _, h4⟩ := h
  omega
end Go.Proofs.YtlgmgalopdfcaaaDoor
