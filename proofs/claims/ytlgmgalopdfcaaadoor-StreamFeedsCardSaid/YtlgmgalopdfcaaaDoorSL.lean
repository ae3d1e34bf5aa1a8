/- stream: what came so far and what is told of it; what stays beside a stream. -/
import Derived.Test.YtlgmgalopdfcaaaDoorSI
import Derived.Test.YtlgmgalopdfcaaaDoorSK
import Derived.Test.YtlgmgalopdfcaaaDoorStrsOwn
set_option maxRecDepth 100000
namespace Go.Proofs.YtlgmgalopdfcaaaDoor
open Go.RowKit MaskPlain FramePlain StreamPlain Mas Fra

/-- Of the bytes A these frames are told, e is wrong, and part is kept. -/
def FedS (A : List Nat) (masked : Bool) (most : Int) (fs : List Fr) (e : Nat) (part : List Nat) : Prop := ∃ lf, all A masked most = (fs, e, lf) ∧ part = A.drop (A.length - lf)
theorem fed_nil (masked : Bool) (most : Int) : FedS [] masked most [] 0 [] := ⟨0, rfl, rfl⟩
theorem fed_part {A : List Nat} {masked : Bool} {most : Int} {fs : List Fr} {e : Nat} {part : List Nat} (h : FedS A masked most fs e part) (hs : Small 256 A) : Small 256 part ∧ part.length ≤ A.length ∧ (e ≠ 0 → part = []) ∧ all A masked most = (fs, e, part.length) := by
  obtain ⟨lf, ha, rfl⟩ := h
  have hl := all_left masked most _ A (Nat.le_refl _) hs
  have hz := all_zero masked most _ A (Nat.le_refl _) hs
  rw [ha] at hl hz
  simp only at hl hz
  refine ⟨hs.drop _, by rw [List.length_drop]; omega, fun h => ?_, ?_⟩
  · rw [hz h, Nat.sub_zero, List.drop_length]
  · rw [ha, List.length_drop]; congr 2; omega
theorem drop_back (X Y : List Nat) (lf : Nat) (h : lf ≤ Y.length) : (X ++ Y).drop ((X ++ Y).length - lf) = Y.drop (Y.length - lf) := by
  rw [List.length_append, List.drop_append, List.drop_eq_nil_of_le (by omega), List.nil_append]
  congr 1; omega
theorem fed_more {A B : List Nat} {masked : Bool} {most : Int} {fs : List Fr} {part : List Nat} (h : FedS A masked most fs 0 part) (hs : Small 256 A) (hb : Small 256 B) {gs : List Fr} {e lf : Nat} (h2 : all (part ++ B) masked most = (gs, e, lf)) :
    FedS (A ++ B) masked most (fs ++ gs) e ((part ++ B).drop ((part ++ B).length - lf)) := by
  obtain ⟨l0, ha, rfl⟩ := h
  have hl := all_left masked most _ A (Nat.le_refl _) hs
  rw [ha] at hl
  have hp := all_append masked most B hb _ A (Nat.le_refl _) hs
  rw [ha] at hp
  simp only [if_true] at hp hl
  rw [h2] at hp
  have hl2 := all_left masked most _ (A.drop (A.length - l0) ++ B) (Nat.le_refl _) ((hs.drop _).append hb)
  rw [h2] at hl2
  simp only at hl2
  refine ⟨lf, hp, ?_⟩
  have e1 : A ++ B = A.take (A.length - l0) ++ (A.drop (A.length - l0) ++ B) := by rw [← List.append_assoc, List.take_append_drop]
  have h3 := drop_back (A.take (A.length - l0)) (A.drop (A.length - l0) ++ B) lf hl2
  rw [← e1] at h3
  exact h3.symm
theorem fed_still {A B : List Nat} {masked : Bool} {most : Int} {fs : List Fr} {e : Nat} {part : List Nat} (h : FedS A masked most fs e part) (he : e ≠ 0) (hs : Small 256 A) (hb : Small 256 B) : FedS (A ++ B) masked most (fs ++ []) e part ∧ part = [] := by
  obtain ⟨l0, ha, rfl⟩ := h
  have hz := all_zero masked most _ A (Nat.le_refl _) hs
  have hp := all_append masked most B hb _ A (Nat.le_refl _) hs
  rw [ha] at hp hz
  simp only at hz hp
  rw [if_neg he] at hp
  obtain rfl := hz he
  refine ⟨⟨0, by rw [List.append_nil]; exact hp, ?_⟩, ?_⟩ <;> simp
/-- Bytes more are fed, whether the stream is wrong already or not. -/
theorem feed_fed {A B : List Nat} {masked : Bool} {most : Int} {fs : List Fr} {e : Nat} {part : List Nat} (h : FedS A masked most fs e part) (hs : Small 256 A) (hb : Small 256 B) (hl : A.length + B.length ≤ 100000) (hmo : most ≤ 9223372036854775807) :
    ∃ gs e' part', FedS (A ++ B) masked most (fs ++ gs) e' part' ∧ (e ≠ 0 → gs = [] ∧ e' = e) ∧ ∀ (w0 W : World) (b : Nat) (v u : Value), Globs w0 → StrmAt w0 W b masked most part e v → SrcAt W u B →
      Calls Tryd.prog 12 #[.pointer (some ⟨b, 0, none⟩), u] W fun x w' => ∃ a c v', x = .returned (.tuple #[.slice a gs.length c, .int .i64 (e' : Int)]) ∧ Sl (FrsAt w' (.slice a gs.length c) gs) ∧ Sl (∀ g, (Value.slice a gs.length c).ownBlock = some g → W.heap.size ≤ g) ∧ Sl (StrmAt w0 w' b masked most part' e' v') ∧ Sl (Two W w' b (ob v b)) := by
  have hp := fed_part h hs
  by_cases he : e = 0
  · subst he
    obtain ⟨⟨gs, e', lf⟩, ha⟩ : ∃ r, all (part ++ B) masked most = r := ⟨_, rfl⟩
    exact ⟨gs, e', _, fed_more h hs hb ha, fun h => absurd rfl h, fun w0 W b v u hg hS hu => feed_ex hS hg u B hu hp.1 hb (by omega) hmo ha _ rfl _ rfl⟩
  · obtain ⟨h1, h2⟩ := fed_still h he hs hb
    refine ⟨[], e, part, h1, fun _ => ⟨rfl, rfl⟩, fun w0 W b v u hg hS hu => (feed_err hS he u).mono ?_⟩
    rintro x w' ⟨rfl, hS', hB⟩
    exact ⟨none, 0, v, rfl, ⟨⟨none, 0, 0, 0, rfl, Nat.le_refl _, fun h => absurd h (by decide), fun i hi => absurd hi (by simp)⟩⟩, ⟨fun g hg => by cases hg⟩, hS', ⟨Two.ofBelow hB.out⟩⟩
section
variable {w0 W W' : World} {b : Nat} {masked : Bool} {most : Int} {part : List Nat} {err : Nat} {v : Value}
/-- A row of another kind stays when a stream is fed. -/
theorem own_fed {base e size n : Nat} {u : Value} {xs : List Value} (h : W.ownsRow base e size u n xs) (hs : StrmAt w0 W b masked most part err v) (h1 : e ≠ 5) (h2 : e ≠ 51) (T : Two W W' b (ob v b)) : W'.ownsRow base e size u n xs := by
  refine ⟨h.1, ?_⟩
  rcases h.2 with hn | ⟨g, cap, cur, rfl, hb, hg, r⟩
  · exact .inl hn
  · refine .inr ⟨g, cap, cur, rfl, hb, ?_, r⟩
    have k1 : g ≠ b := fun e => by rw [e, hs.X] at hg; injection hg with hg; injection hg with _ hg; exact h2 hg.symm
    have k2 : v.ownBlock ≠ some g := ownB_kind hs.O hg h1
    rw [T.block g (Array.getElem?_eq_some_iff.1 hg).1 k1 (ob_ne k1 k2)]
    exact hg
/-- A stream stays when another one is fed. -/
theorem strm_two {b2 : Nat} {masked2 : Bool} {most2 : Int} {err2 : Nat} (h : StrmAt w0 W b2 masked2 most2 [] err2 (.slice none 0 0)) (hs : StrmAt w0 W b masked most part err v) (hne : b2 ≠ b) (T : Two W W' b (ob v b)) (L : Below w0.heap.size w0 W') : StrmAt w0 W' b2 masked2 most2 [] err2 (.slice none 0 0) where
  X := by rw [T.block b2 h.lt hne (ob_ne hne (ownB_kind hs.O h.X (by decide)))]; exact h.X
  O := World.ownsRow_nil _ _ _ _
  B := h.B
  L := L
/-- A stream stays when a row of another kind is grown. -/
theorem strm_told {base e size n : Nat} {u : Value} {xs : List Value} (hs : StrmAt w0 W b masked most part err v) (h : W.ownsRow base e size u n xs) (h1 : e ≠ 5) (h2 : e ≠ 51) (hb : w0.heap.size ≤ base) (g : W.grownBy W' u.ownBlock) : StrmAt w0 W' b masked most part err v :=
  hs.grown g (fun k hk => by
    rcases h.2 with ⟨rfl, _⟩ | ⟨g', cap, cur, rfl, hbg, hg, _⟩
    · cases hk
    · obtain rfl : g' = k := by simpa [Value.ownBlock] using hk
      exact ⟨fun e => by rw [e, hs.X] at hg; injection hg with hg; injection hg with _ hg; exact h2 hg.symm, ownB_kind hs.O hg h1, by omega⟩)
end
/-- A row stays when a row of another kind is grown. -/
theorem own_told {W W' : World} {base e size n base2 e2 size2 n2 : Nat} {u u2 : Value} {xs xs2 : List Value} (h : W.ownsRow base e size u n xs) (h2 : W.ownsRow base2 e2 size2 u2 n2 xs2) (hne : e ≠ e2) (g : W.grownBy W' u2.ownBlock) : W'.ownsRow base e size u n xs := by
  refine h.kept g ?_
  rcases h.2 with ⟨rfl, _⟩ | ⟨k, cap, cur, rfl, _, hh, _⟩
  · exact .inl rfl
  · refine .inr (fun e => ?_)
    rcases h2.2 with ⟨rfl, _⟩ | ⟨k', cap', cur', rfl, _, hh', _⟩
    · cases e
    · obtain rfl : k = k' := by simpa [Value.ownBlock] using e
      rw [hh] at hh'; injection hh' with hh'; injection hh' with _ hh'; exact hne hh'
/-- Strings that lie behind a slice, behind a row of one's own. -/
theorem add_strs {Z : World} {base : Nat} {v0 x : Value} {m l : List ByteArray} (hown : OwnS Z base v0 m) (hx : StrsAt Z x l) (hl : m.length + l.length ≤ 1000000) (hbase : base ≤ Z.heap.size) :
    ∃ v1 w1, (Builtin.append_ #[22, 22] 22 #[v0, x]).run Tryd.prog Z = .ok v1 w1 ∧ OwnS w1 base v1 (m ++ l) ∧ Z.grownBy w1 v0.ownBlock := by
  obtain ⟨i0, hi0, hz0, hz1, hz2⟩ := info9
  obtain ⟨ad, cap, sb, so, rfl, hm, had, hcell, _⟩ := hx
  cases ad with
  | some a =>
    obtain ⟨v', w', h1, h2, h3, h4⟩ := own_app (P := Tryd.prog) (w := Z) base 22 22 9 i0 _ 1 16 Tryd.underlying22 hi0 hz0 hz1 hz2 rfl (by decide) v0 m.length (m.map Value.string) hown a l.length cap (l.map Value.string) (by simp) (fun j u hu => by
      have hj : j < l.length := by have := (List.getElem?_eq_some_iff.1 hu).1; simpa using this
      have had' := had (by omega)
      injection had' with had'
      subst had'
      rw [Addr.add_mid, hcell j hj, ← hu, List.getElem?_map, List.getElem?_eq_getElem hj, List.getD_eq_getElem?_getD, List.getElem?_eq_getElem hj]; rfl) (fun u hu => by
        obtain ⟨y, _, rfl⟩ := List.mem_map.1 hu; rfl) (by unfold maxLen; omega) (by omega) hbase
    refine ⟨v', w', h1, ?_, h3⟩
    unfold OwnS
    rw [List.length_append, List.map_append]
    exact h2
  | none =>
    have hf : l = [] := by
      by_cases h : 0 < l.length
      · have := had h; cases this
      · exact List.eq_nil_of_length_eq_zero (by omega)
    subst hf
    refine ⟨v0, Z, ?_, by rw [List.append_nil]; exact hown, grown_refl _ _⟩
    rcases hown.2 with ⟨rfl, _⟩ | ⟨g, c, cur, rfl, _, _, hnc, _⟩
    · simp [Builtin.append_, run_underlying Tryd.underlying22, sizeOf, typeInfo, hi0, Builtin.lenOf, Builtin.firstCells]
    · simp [Builtin.append_, run_underlying Tryd.underlying22, sizeOf, typeInfo, hi0, Builtin.lenOf, Builtin.firstCells, storeCells]
      intro hc
      exact absurd hc (by omega)
theorem app_strs {w : World} {ops : Array Oper} {rest : List Oper} {o : Oper} {a : Act} {Q : Exit → Act → World → Prop} (hgd : o.guard = none) (s x : Operand)
    (ho : o.op = .call { callee := .builtin .append, args := #[s, x], argTypes := #[22, 22] }) (hty : o.type = 22) (base : Nat) (v u : Value) (fs gs : List ByteArray) (hs : a.eval s = v) (hown : OwnS w base v fs)
    (hx : a.eval x = u) (hu : StrsAt w u gs) (hl : fs.length + gs.length ≤ 1000000) (hbase : base ≤ w.heap.size)
    (h : ∀ v' w', Sl (OwnS w' base v' (fs ++ gs)) → Sl (w.grownBy w' v.ownBlock) → wpList Tryd.prog ops Q rest (a.put o.dst v') w') : wpList Tryd.prog ops Q (o :: rest) a w := by
  obtain ⟨v1, w1, hrun, h1, h2⟩ := add_strs hown hu hl hbase
  refine wpList_plain hgd fun K hK => ?_
  unfold Oper.wp
  have hy : (execOp a.eval o).run Tryd.prog w = .ok (.value v1) w1 := by
    simp [execOp, ho, hty, resolve, invoke, builtin, hs, hx, hrun, Result.andThen]
  rw [hy, Oper.upon_value]
  exact hK _ _ (h v1 w1 ⟨h1⟩ ⟨h2⟩)
end Go.Proofs.YtlgmgalopdfcaaaDoor
