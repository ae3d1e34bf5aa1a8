/- cut: what is gathered. -/
import Derived.Test.YtimndpmbgfoofaaDoorCN
import Derived.Test.YtimndpmbgfoofaaDoorCA
import Derived.Test.YtimndpmbgfoofaaDoorMgA
set_option maxRecDepth 100000
namespace Go.Proofs.YtimndpmbgfoofaaDoor.Cut
open Go.RowKit MaskPlain Mas Fra Stm CutPlain
open FramePlain (Fr Fr0 form chk ctl zero4)

/-- An append that stands in its turn, of any values. -/
theorem wpList_appV {P : Program} {ops : Array Oper} {rest : List Oper} {o : Oper} {a : Act} {Q : Exit → Act → World → Prop} {w : World} (hgd : o.guard = none) (s x : Operand) (t ty : TypeId)
    (ho : o.op = .call { callee := .builtin .append, args := #[s, x], argTypes := #[t, t] }) (hty : o.type = ty) (v u v' : Value) (w' : World)
    (hs : a.eval s = v) (hx : a.eval x = u) (hrun : (Builtin.append_ #[t, t] ty #[v, u]).run P w = .ok v' w')
    (h : wpList P ops Q rest (a.put o.dst v') w') : wpList P ops Q (o :: rest) a w := by
  refine wpList_plain hgd fun K hK => ?_
  unfold Oper.wp
  have hy : (execOp a.eval o).run P w = .ok (.value v') w' := by
    rw [← hty] at hrun
    simp [execOp, ho, resolve, invoke, builtin, hs, hx, hrun, Result.andThen]
  rw [hy, Oper.upon_value]
  exact hK _ _ h
/-- What is gathered: the box q holds the slice v, a row of one's own with these bytes. -/
structure Gath (w0 W : World) (q : Nat) (v : Value) (bs : List Nat) : Prop where
  X : W.heap[q]? = some (.cells #[v] 36 (0, 0))
  O : W.ownsRow w0.heap.size 5 1 v bs.length (u8s bs)
  B : w0.heap.size ≤ q
  L : Below w0.heap.size w0 W
theorem Gath.below {w0 W W' : World} {q : Nat} {v : Value} {bs : List Nat} (h : Gath w0 W q v bs) (k : Below W.heap.size W W') : Gath w0 W' q v bs :=
  ⟨below_key h.X k, own_below h.O k, h.B, h.L.trans (k.mono h.L.size)⟩
theorem Gath.ne {w0 W : World} {q : Nat} {v : Value} {bs : List Nat} (h : Gath w0 W q v bs) : v.ownBlock ≠ some q := ownB_kind h.O h.X (by decide)
theorem Gath.up {w0 W : World} {q : Nat} {v : Value} {bs : List Nat} (h : Gath w0 W q v bs) {g : Nat} (hg : v.ownBlock = some g) : w0.heap.size ≤ g := by
  obtain ⟨_, h2⟩ := h.O
  rcases h2 with ⟨rfl, _⟩ | ⟨k, cap, cur, rfl, hk, _⟩
  · cases hg
  · have : k = g := by simpa [Value.ownBlock] using hg
    omega
theorem Gath.slice {w0 W : World} {q : Nat} {v : Value} {bs : List Nat} (h : Gath w0 W q v bs) : ∃ a c, v = .slice a bs.length c := by
  rcases h.O.2 with ⟨rfl, hz⟩ | ⟨g, cap, cur, rfl, _⟩
  · rw [hz]; exact ⟨_, _, rfl⟩
  · exact ⟨_, _, rfl⟩
theorem own_grown {W W' : World} {base n : Nat} {e : TypeId} {size : Nat} {v : Value} {xs : List Value} {r : Option Nat} (h : W.ownsRow base e size v n xs) (g : W.grownBy W' r) (hr : ∀ k, r = some k → v.ownBlock ≠ some k) : W'.ownsRow base e size v n xs := by
  refine h.kept g ?_
  rcases h.2 with ⟨rfl, _⟩ | ⟨k, cap, cur, rfl, _⟩
  · exact .inl rfl
  · refine .inr (fun e => ?_)
    exact hr k e.symm (by simp [Value.ownBlock])
theorem Gath.add {w0 W : World} {q : Nat} {v : Value} {bs : List Nat} (h : Gath w0 W q v bs) {u : Value} {l : List Nat} (hu : SrcAt W u l) (hl : bs.length + l.length ≤ 1000000) :
    ∃ v1 w1, (Builtin.append_ #[36, 36] 36 #[v, u]).run Tryd.prog W = .ok v1 w1 ∧ w1.frozen? ⟨q, 0, none⟩ = false ∧ w1.cell? ⟨q, 0, none⟩ = some v ∧ Gath w0 (w1.setCell ⟨q, 0, none⟩ v1) q v1 (bs ++ l) := by
  obtain ⟨v1, w1, h1, h2, h3, h4⟩ := add_bs h.O hu hl h.L.size
  have hX : w1.heap[q]? = some (.cells #[v] 36 (0, 0)) := by rw [h3.block q (Array.getElem?_eq_some_iff.1 h.X).1 (fun e => h.ne e.symm)]; exact h.X
  have hne : v1.ownBlock ≠ some q := ownB_kind h2 hX (by decide)
  refine ⟨v1, w1, h1, free_of_one hX, cell_of_one hX, ⟨one_setCell hX, own_grown h2 (grown_setCell _ _ _ _) (fun k hk => by injection hk with hk; subst hk; exact hne), h.B, ?_⟩⟩
  exact (h.L.grown h3 h.L.size (fun k hk => h.up hk)).grown (grown_setCell _ _ _ _) (Nat.le_trans h.L.size h3.size) (fun k hk => by injection hk with hk; rw [← hk]; exact h.B)
theorem Gath.conv {w0 W : World} {q : Nat} {v : Value} {bs : List Nat} (h : Gath w0 W q v bs) : (convert 36 9 v).run Tryd.prog W = .ok (.string (strOf bs)) W := Msg.own_conv h.O
theorem Gath.cell {w0 W : World} {q : Nat} {v : Value} {bs : List Nat} (h : Gath w0 W q v bs) : W.cell? ⟨q, 0, none⟩ = some v := cell_of_one h.X
theorem Gath.froz {w0 W : World} {q : Nat} {v : Value} {bs : List Nat} (h : Gath w0 W q v bs) : W.frozen? ⟨q, 0, none⟩ = false := free_of_one h.X
set_option maxHeartbeats 1000000 in
theorem gather_any {w0 W : World} {q : Nat} {v : Value} {bs : List Nat} (h : Gath w0 W q v bs) {u : Value} {l : List Nat} (hu : SrcAt W u l) (hl : bs.length + l.length ≤ 1000000) :
    Calls Tryd.prog 42 #[u, .pointer (some ⟨q, 0, none⟩)] W fun e w' => ∃ v', e = .returned (.tuple #[]) ∧ Sl (Gath w0 w' q v' (bs ++ l)) := by
  have hc := h.cell
  obtain ⟨v1, w1, h1, h2, h3, h4⟩ := h.add hu hl
  have H4 := Sl.mk h4
  obtain ⟨a1, c1, rfl⟩ := h4.slice
  obtain ⟨N, hN⟩ : ∃ N, (bs ++ l).length = N := ⟨_, rfl⟩
  rw [hN] at h1 H4
  clear h hu hl h4 hN
  go_enter Tryd.func42, Tryd.ntmps42
  go_wp2_with (at_builtin; refine wpList_appV rfl (.tmp 3) (.tmp 4) 36 36 rfl rfl _ _ _ w1 rfl rfl h1 ?_)
  go_end0
  exact ⟨_, rfl, H4⟩
theorem gall_any {w0 W : World} {q : Nat} {v : Value} {bs : List Nat} (h : Gath w0 W q v bs) :
    Calls Tryd.prog 43 #[.pointer (some ⟨q, 0, none⟩)] W fun e w' => e = .returned v ∧ W = w' := by
  have hc := h.cell
  clear h
  go_enter Tryd.func43, Tryd.ntmps43
  go_wp2
  go_ret
  exact ⟨rfl, rfl⟩
set_option maxHeartbeats 1000000 in
theorem gatherer_any (n : Nat) (hn : n ≤ 2000000) (w0 W : World) (hB : Below w0.heap.size w0 W) :
    Calls Tryd.prog 31 #[.int .i64 (n : Int)] W fun e w' => ∃ q v, e = .returned (.tuple #[.func (.func 42) #[] #[.pointer (some ⟨q, 0, none⟩)], .func (.func 43) #[] #[.pointer (some ⟨q, 0, none⟩)]]) ∧ Sl (Gath w0 w' q v []) ∧ Sl (Below W.heap.size W w') := by
  have hmk := fun V => make_cap (n : Int) n rfl hn V
  have HB1 : Sl (Below W.heap.size W (W.alloc (.cells (u8s (zs n)).toArray 5))) := ⟨(Below.refl _ _).alloc (Nat.le_refl _) _⟩
  have HO1 := Sl.mk (cap_own W w0.heap.size n hB.size hn)
  have HB0 := Sl.mk hB
  clear hB hn
  go_enter Tryd.func31, Tryd.ntmps31
  go_wp2
  obtain ⟨V, hV⟩ : ∃ V, W.alloc (.cells (u8s (zs n)).toArray 5) = V := ⟨_, rfl⟩
  have hs : V.heap.size = W.heap.size + 1 := by rw [← hV]; exact alloc_size _ _
  rw [hV] at HB1 HO1 ⊢
  rw [← hs]
  have hB2 : Below V.heap.size V (V.alloc (.cells #[.slice (some ⟨W.heap.size, 0, none⟩) 0 n] 36)) := (Below.refl _ _).alloc (Nat.le_refl _) _
  go_ret2
  refine ⟨V.heap.size, _, rfl, ⟨⟨alloc_new _ _ _ rfl, own_below HO1.out hB2, ?_, ?_⟩⟩, ⟨HB1.out.trans (hB2.mono HB1.out.size)⟩⟩
  · have := HB0.out.size; omega
  · exact (HB0.out.trans (HB1.out.mono HB0.out.size)).trans (hB2.mono (by have := HB0.out.size; omega))
end Go.Proofs.YtimndpmbgfoofaaDoor.Cut
