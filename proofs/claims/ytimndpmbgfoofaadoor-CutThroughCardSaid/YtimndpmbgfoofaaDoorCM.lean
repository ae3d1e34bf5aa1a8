/- cut: a stream, a machine and rows beside each other; the document's Same of events. -/
import Derived.Test.YtimndpmbgfoofaaDoorCL
set_option maxRecDepth 100000
namespace Go.Proofs.YtimndpmbgfoofaaDoor.Cut
open Go.RowKit MaskPlain Mas Fra Stm CutPlain
open FramePlain (Fr Fr0 form chk ctl zero4)
open Msg (Mine Kept Goes MacS evO)
open MsgPlain (Ms M0 Ev)

/-- Bytes more are fed to a stream, and nothing is wrong. -/
theorem feed2 {w0 W : World} {b : Nat} {masked : Bool} {most : Int} {part : List Nat} {v : Value} (hs : StrmAt w0 W b masked most part 0 v) (hg : Mas.Globs w0) (u : Value) (bs : List Nat) (hu : SrcAt W u bs) (hsp : Small 256 part) (hsb : Small 256 bs) (hl : part.length + bs.length ≤ 100000) (hmo : most ≤ 9223372036854775807) {gs : List Fr} {lf : Nat} (hall : StreamPlain.all (part ++ bs) masked most = (gs, 0, lf)) (part' : List Nat) (hp : (part ++ bs).drop ((part ++ bs).length - lf) = part') (n : Nat) (hn : gs.length = n) :
    Calls Tryd.prog 24 #[.pointer (some ⟨b, 0, none⟩), u] W fun x w' => ∃ a c v', x = .returned (.tuple #[.slice a n c, .int .i64 0]) ∧ Sl (OwnR w' W.heap.size (.slice a n c) gs) ∧ Sl (StrmAt w0 w' b masked most part' 0 v') ∧ Sl (Two W w' b (ob v b)) ∧ Sl (v'.ownBlock = v.ownBlock ∨ ∀ g, v'.ownBlock = some g → W.heap.size ≤ g) := by
  subst hp hn
  obtain ⟨a, cap, sb, so, rfl, h1, h2, h3⟩ := hu
  refine (feed_any hs hg a bs.length cap bs ⟨a, cap, sb, so, rfl, h1, h2, h3⟩ hsp hsb hl hmo gs 0 lf hall).mono ?_
  rintro x w' ⟨vf, v', rfl, ho, hS, hT, hv⟩
  obtain ⟨a', c', rfl⟩ := ho.out.slice
  exact ⟨a', c', v', rfl, ho, hS, hT, hv⟩
theorem own_kept {W W' : World} {S : Nat → Prop} {base n : Nat} {e : TypeId} {size : Nat} {v : Value} {xs : List Value} (h : W.ownsRow base e size v n xs) (k : Kept S W W') (hn : ∀ g, v.ownBlock = some g → ¬ S g) : W'.ownsRow base e size v n xs := by
  refine ⟨h.1, ?_⟩
  rcases h.2 with hz | ⟨g, cap, cur, rfl, hb, hg, r⟩
  · exact .inl hz
  · exact .inr ⟨g, cap, cur, rfl, hb, by rw [k.block g (Array.getElem?_eq_some_iff.1 hg).1 (hn g (by simp [Value.ownBlock]))]; exact hg, r⟩
theorem own_heap {W : World} {base n : Nat} {e : TypeId} {size : Nat} {v : Value} {xs : List Value} (h : W.ownsRow base e size v n xs) {g : Nat} (hg : v.ownBlock = some g) : base ≤ g ∧ ∃ cs, W.heap[g]? = some (.cells cs e (0, 0)) := by
  rcases h.2 with ⟨rfl, _⟩ | ⟨k, cap, cur, rfl, hb, hh, _⟩
  · cases hg
  · have : k = g := by simpa [Value.ownBlock] using hg
    subst this
    exact ⟨hb, _, hh⟩
theorem strm_kept {w0 W W' : World} {S : Nat → Prop} {b : Nat} {masked : Bool} {most : Int} {part : List Nat} {err : Nat} {v : Value} (h : StrmAt w0 W b masked most part err v) (k : Kept S W W') (h1 : ¬ S b) (h2 : ∀ g, v.ownBlock = some g → ¬ S g) (hL : Below w0.heap.size w0 W') : StrmAt w0 W' b masked most part err v :=
  ⟨by rw [k.block b h.lt h1]; exact h.X, own_kept h.O k h2, h.B, hL⟩
/-- Of what kinds a machine's blocks are. -/
theorem mine_kind {w0 W : World} {b : Nat} {most : Int} {st : Ms} {v p : Value} (h : MacS w0 W b most st v p) {k : Nat} (hk : Mine b v p k) : ∃ cs t, W.heap[k]? = some (.cells cs t (0, 0)) ∧ (t = 85 ∨ t = 5 ∨ t = 125) := by
  rcases hk with rfl | hk | hk
  · exact ⟨_, _, h.m.X, .inl rfl⟩
  · obtain ⟨_, cs, hc⟩ := own_heap h.m.O hk
    exact ⟨cs, _, hc, .inr (.inl rfl)⟩
  · by_cases ho : st.op = 0
    · have := h.m.N ho
      rw [this] at hk; cases hk
    · obtain ⟨c, hc, _, hx⟩ := h.m.C ho
      rw [hc] at hk
      injection hk with hk
      injection hk with hk
      injection hk with hk
      subst hk
      obtain ⟨cs, hcs⟩ := Msg.chk_kind hx
      exact ⟨cs, _, hcs, .inr (.inr rfl)⟩
theorem mine_row {w0 W : World} {b : Nat} {most : Int} {st : Ms} {v p : Value} (h : MacS w0 W b most st v p) {base n : Nat} {e : TypeId} {size : Nat} {u : Value} {xs : List Value} (ho : W.ownsRow base e size u n xs) (h1 : e ≠ 85) (h2 : e ≠ 5) (h3 : e ≠ 125) {g : Nat} (hg : u.ownBlock = some g) : ¬ Mine b v p g := fun hk => by
  obtain ⟨cs, t, hc, ht⟩ := mine_kind h hk
  obtain ⟨_, cs', hc'⟩ := own_heap ho hg
  rw [hc] at hc'
  injection hc' with hc'
  injection hc' with _ e2
  subst e2
  rcases ht with ht | ht | ht
  · exact h1 ht
  · exact h2 ht
  · exact h3 ht
/-- A stream, a machine, and the row of what is told, beside each other. -/
structure Thr (wB W : World) (bs bm : Nat) (part : List Nat) (vS : Value) (st : Ms) (vM pM tv : Value) (nt : Nat) (ev : List Value) : Prop where
  S : StrmAt wB W bs true 65536 part 0 vS
  M : MacS wB W bm 1000 st vM pM
  T : W.ownsRow wB.heap.size 57 3 tv nt ev
  nb : ∀ k, Mine bm vM pM k → k ≠ bs ∧ vS.ownBlock ≠ some k
section
variable {wB W W' : World} {bs bm : Nat} {part part' : List Nat} {vS vS' : Value} {st st' : Ms} {vM pM vM' pM' tv tv' : Value} {nt nt' : Nat} {ev ev' : List Value}
theorem Thr.below (h : Thr wB W bs bm part vS st vM pM tv nt ev) (k : Below W.heap.size W W') : Thr wB W' bs bm part vS st vM pM tv nt ev :=
  ⟨h.S.below k, h.M.below k, own_below h.T k, h.nb⟩
theorem Thr.fed (h : Thr wB W bs bm part vS st vM pM tv nt ev) (hS : StrmAt wB W' bs true 65536 part' 0 vS') (T2 : Two W W' bs (ob vS bs)) (hv : vS'.ownBlock = vS.ownBlock ∨ ∀ g, vS'.ownBlock = some g → W.heap.size ≤ g) : Thr wB W' bs bm part' vS' st vM pM tv nt ev where
  S := hS
  M := h.M.apart (S := fun k => k = bs ∨ k = ob vS bs) ⟨T2.os, T2.tape, T2.output, T2.size, fun k hk hn => T2.block k hk (fun e => hn (.inl e)) (fun e => hn (.inr e))⟩ (fun k hk e => by
    obtain ⟨h1, h2⟩ := h.nb k hk
    rcases e with e | e
    · exact h1 e
    · exact ob_ne h1 h2 e) hS.L
  T := own_fed h.T h.S (by decide) (by decide) T2
  nb := fun k hk => by
    obtain ⟨h1, h2⟩ := h.nb k hk
    refine ⟨h1, fun e => ?_⟩
    rcases hv with hv | hv
    · rw [hv] at e; exact h2 e
    · have := hv k e
      have := (h.M.m.own hk).2
      omega
theorem Thr.took (h : Thr wB W bs bm part vS st vM pM tv nt ev) (hM : MacS wB W' bm 1000 st' vM' pM') (g : Goes W W' bm vM pM vM' pM') : Thr wB W' bs bm part vS st' vM' pM' tv nt ev where
  S := strm_kept h.S g.kept (fun e => (h.nb bs e).1 rfl) (fun k hk e => (h.nb k e).2 hk) hM.m.L
  M := hM
  T := own_kept h.T g.kept (fun k hk => mine_row h.M h.T (by decide) (by decide) (by decide) hk)
  nb := fun k hk => by
    rcases g.mine k hk with h1 | h1
    · exact h.nb k h1
    · refine ⟨fun e => ?_, fun e => ?_⟩
      · have := h.S.lt; omega
      · obtain ⟨_, cs, hc⟩ := own_heap h.S.O e
        have := (Array.getElem?_eq_some_iff.1 hc).1
        omega
theorem Thr.told (h : Thr wB W bs bm part vS st vM pM tv nt ev) (hT : W'.ownsRow wB.heap.size 57 3 tv' nt' ev') (g : W.grownBy W' tv.ownBlock) : Thr wB W' bs bm part vS st vM pM tv' nt' ev' where
  S := strm_told h.S h.T (by decide) (by decide) (Nat.le_refl _) g
  M := h.M.apart (Kept.grown (S := fun k => tv.ownBlock = some k) g (fun k hk => hk)) (fun k hk e => mine_row h.M h.T (by decide) (by decide) (by decide) e hk)
    (h.M.m.L.grown g h.M.m.L.size (fun k hk => (own_heap h.T hk).1))
  T := hT
  nb := h.nb
/-- The frames that are got stay. -/
theorem got_took (h : Thr wB W bs bm part vS st vM pM tv nt ev) (g : Goes W W' bm vM pM vM' pM') {base : Nat} {u : Value} {l : List Fr} (ho : OwnR W base u l) : OwnR W' base u l :=
  own_kept ho g.kept (fun k hk => mine_row h.M ho (by decide) (by decide) (by decide) hk)
theorem got_told (h : Thr wB W bs bm part vS st vM pM tv nt ev) (g : W.grownBy W' tv.ownBlock) {base : Nat} {u : Value} {l : List Fr} (ho : OwnR W base u l) : OwnR W' base u l :=
  own_told ho h.T (by decide) g
end
theorem info57 : ∃ i, Tryd.prog.info? 57 = some i ∧ i.zero = some (.agg #[.int .i64 0, .int .i64 0, .string ByteArray.empty]) ∧ i.size = 3 ∧ i.bytes = 32 := by
  have h5 : (Tryd.prog.info? 57).map (fun i => (i.zero, i.size, i.bytes)) = some (some (.agg #[.int .i64 0, .int .i64 0, .string ByteArray.empty]), 3, 32) := by kernel_rfl
  cases hi : Tryd.prog.info? 57 with
  | none => rw [hi] at h5; cases h5
  | some i =>
    rw [hi] at h5
    simp only [Option.map_some, Option.some.injEq, Prod.mk.injEq] at h5
    exact ⟨i, rfl, h5.1, h5.2.1, h5.2.2⟩
theorem told_made (w : World) (base : Nat) (hb : base ≤ w.heap.size) : (w.alloc (.cells #[] 57)).ownsRow base 57 3 (.slice (some ⟨w.heap.size, 0, none⟩) 0 0) 0 [] :=
  World.ownsRow_made w #[] 0 hb (by unfold maxLen; omega) rfl
/-- One event is told where none was. -/
theorem tell_one {W V : World} {base : Nat} {tv : Value} (h : W.ownsRow base 57 3 tv 0 []) (o c : Int) (s : ByteArray) (hV : W.alloc (.cells #[.int .i64 o, .int .i64 c, .string s] 57) = V) (hb : base ≤ W.heap.size) :
    ∃ tv' W', (Builtin.append_ #[54, 54] 54 #[tv, .slice (some ⟨W.heap.size, 0, none⟩) 1 1]).run Tryd.prog V = .ok tv' W' ∧ Sl (W'.ownsRow base 57 3 tv' 1 [.int .i64 o, .int .i64 c, .string s]) ∧ Sl (V.grownBy W' tv.ownBlock) ∧ Sl (Below W.heap.size W V) := by
  obtain ⟨i0, hi0, hz0, hz1, hz2⟩ := info57
  have hB : Below W.heap.size W V := by rw [← hV]; exact (Below.refl _ _).alloc (Nat.le_refl _) _
  have hn : V.heap[W.heap.size]? = some (.cells #[.int .i64 o, .int .i64 c, .string s] 57 (0, 0)) := by rw [← hV]; exact alloc_new _ _ _ rfl
  obtain ⟨v', w', h1, h2, h3, _⟩ := own_app (P := Tryd.prog) (w := V) base 54 54 57 i0 _ 3 32 Tryd.underlying54 hi0 hz0 hz1 hz2 rfl (by decide) tv 0 [] (own_below h hB) ⟨W.heap.size, 0, none⟩ 1 1 [.int .i64 o, .int .i64 c, .string s] rfl (fun j u hu => by
    rw [Addr.add_mid, cell_of_row _ _ _ _ _ _ hn, Nat.zero_add, ← hu]; simp) (fun u hu => by
      simp only [List.mem_cons, List.not_mem_nil, or_false] at hu
      rcases hu with rfl | rfl | rfl <;> rfl) (by unfold maxLen; omega) (by omega) (Nat.le_trans hb hB.size)
  exact ⟨v', w', h1, ⟨h2⟩, ⟨h3⟩, ⟨hB⟩⟩
/-- One event behind a slice. -/
theorem one_cells {W : World} {base : Nat} {tv : Value} {o c : Int} {s : ByteArray} (h : W.ownsRow base 57 3 tv 1 [.int .i64 o, .int .i64 c, .string s]) : ∃ g cap, tv = .slice (some ⟨g, 0, none⟩) 1 cap ∧ W.cell? ⟨g, 0, none⟩ = some (.int .i64 o) ∧ W.cell? ⟨g, 1, none⟩ = some (.int .i64 c) ∧ W.cell? ⟨g, 2, none⟩ = some (.string s) := by
  rcases h.2 with ⟨_, hz⟩ | ⟨g, cap, cur, rfl, hb, hg, h1, h2, h3, h4⟩
  · cases hz
  · refine ⟨g, cap, rfl, ?_, ?_, ?_⟩
    all_goals
      rw [cell_of_row _ _ _ _ _ _ hg, ← Array.getElem?_toList]
    · have := congrArg (fun (l : List Value) => l[0]?) h4
      simpa [List.getElem?_take] using this
    · have := congrArg (fun (l : List Value) => l[1]?) h4
      simpa [List.getElem?_take] using this
    · have := congrArg (fun (l : List Value) => l[2]?) h4
      simpa [List.getElem?_take] using this
set_option maxHeartbeats 2000000 in
theorem esame_yes (W : World) (g1 c1 g2 c2 : Nat) (o c : Int) (s : ByteArray) (a0 : W.cell? ⟨g1, 0, none⟩ = some (.int .i64 o)) (a1 : W.cell? ⟨g1, 1, none⟩ = some (.int .i64 c)) (a2 : W.cell? ⟨g1, 2, none⟩ = some (.string s)) (b0 : W.cell? ⟨g2, 0, none⟩ = some (.int .i64 o)) (b1 : W.cell? ⟨g2, 1, none⟩ = some (.int .i64 c)) (b2 : W.cell? ⟨g2, 2, none⟩ = some (.string s)) :
    Calls Tryd.prog 26 #[.slice (some ⟨g1, 0, none⟩) 1 c1, .slice (some ⟨g2, 0, none⟩) 1 c2] W fun e w' => e = .returned (.bool true) ∧ Sl (Below W.heap.size W w') := by
  have he := Msg.ev_same o c s
  have HA : Sl (∀ V, Below W.heap.size W V → (V.cell? ⟨g1, 0, none⟩ = some (.int .i64 o) ∧ V.cell? ⟨g1, 1, none⟩ = some (.int .i64 c) ∧ V.cell? ⟨g1, 2, none⟩ = some (.string s)) ∧ (V.cell? ⟨g2, 0, none⟩ = some (.int .i64 o) ∧ V.cell? ⟨g2, 1, none⟩ = some (.int .i64 c) ∧ V.cell? ⟨g2, 2, none⟩ = some (.string s))) := ⟨fun V hV =>
    ⟨⟨(hV.cell (block_lt_of_cell a0)).trans a0, (hV.cell (block_lt_of_cell a1)).trans a1, (hV.cell (block_lt_of_cell a2)).trans a2⟩, (hV.cell (block_lt_of_cell b0)).trans b0, (hV.cell (block_lt_of_cell b1)).trans b1, (hV.cell (block_lt_of_cell b2)).trans b2⟩⟩
  clear a0 a1 a2 b0 b1 b2
  go_enter Tryd.func26, Tryd.ntmps26
  go_wp2
  go_loopw [5] (fun i wr => ∃ k : Nat, i = .int .i64 (k : Int) ∧ k ≤ 1 ∧ Sl (Below W.heap.size W wr)) (fun i _ => 1 - (intOf i).toNat)
  case atStart => exact ⟨0, rfl, Nat.zero_le _, ⟨Below.refl _ _⟩⟩
  case round =>
    obtain ⟨k, rfl, hk, HB⟩ := hrel
    by_cases hlt : k = 0
    · subst hlt
      obtain ⟨⟨a0, a1, a2⟩, b0, b1, b2⟩ := HA.out wr.drew HB.out.drew
      go_upto_region 6 with fail
      go_still (by kernel_rfl)
      go_wp2
      exact ⟨⟨1, rfl, by omega, ⟨HB.out.drew⟩⟩, by simp [intOf]⟩
    · obtain rfl : k = 1 := by omega
      go_wp2
      go_ret
      exact ⟨rfl, HB⟩
end Go.Proofs.YtimndpmbgfoofaaDoor.Cut
