/- The texts below, joined. -/
import Derived.Test.YtlahonjmfecikaaGreatDoorZj
import Derived.Deep.DeepCutAuto
import Derived.SliceStrings
import Derived.ProofKit
import Derived.ChangeArms
import Derived.OpenShut
import Derived.Lib.Split
import Derived.Lib.SlTrimSet
import Derived.Lib.TrimByte
import Derived.Shelf.Small.Strs
import Derived.Shelf.Small.Wraps
import Derived.Shelf.Strings.Search1
import Derived.Shelf.Strings.Search2
import Derived.Shelf.Strings.Search3
import Derived.Shelf.Strings.Prefix
import Derived.Test.YtlahonjmfecikaaGreatDoorProg
set_option maxRecDepth 100000
set_option maxRecDepth 100000
namespace Go.Proofs.YtlahonjmfecikaaGreatDoor.Cut
open Go.RowKit MaskPlain Mas Fra Stm CutPlain
open FramePlain (Fr Fr0 form chk ctl zero4 text lenB byte0)
end Go.Proofs.YtlahonjmfecikaaGreatDoor.Cut
set_option maxRecDepth 100000
namespace Go.Proofs.YtlahonjmfecikaaGreatDoor.Cut
open Go.RowKit MaskPlain Mas Fra Stm CutPlain
open FramePlain (Fr Fr0 form chk ctl zero4)
open Msg (Mine Kept Goes MacS evO)
open MsgPlain (Ms M0 Ev)
theorem own_kept {W W' : World} {S : Nat → Prop} {base n : Nat} {e : TypeId} {size : Nat} {v : Value} {xs : List Value} (h : W.ownsRow base e size v n xs) (k : Kept S W W') (hn : ∀ g, v.ownBlock = some g → ¬ S g) : W'.ownsRow base e size v n xs := by
  refine ⟨h.1, ?_⟩
  rcases h.2 with hz | ⟨g, cap, cur, rfl, hb, hg, r⟩
  · exact .inl hz
  · exact .inr ⟨g, cap, cur, rfl, hb, by rw [k.block g (Array.getElem?_eq_some_iff.1 hg).1 (hn g (by simp [Value.ownBlock]))]; exact hg, r⟩
theorem own_heap {W : World} {base n : Nat} {e : TypeId} {size : Nat} {v : Value} {xs : List Value} (h : W.ownsRow base e size v n xs) {g : Nat} (hg : v.ownBlock = some g) : base ≤ g ∧ ∃ cs, W.heap[g]? = some (.cells cs e (0, 0)) := by
  rcases h.2 with ⟨rfl, _⟩ | ⟨k, cap, cur, rfl, hb, hh, _⟩
  · cases hg
  · have : k = g := by simpa [Value.ownBlock] using hg
    subst this
    exact ⟨hb, _, hh⟩
theorem strm_kept {w0 W W' : World} {S : Nat → Prop} {b : Nat} {masked : Bool} {most : Int} {part : List Nat} {err : Nat} {v : Value} (h : StrmAt w0 W b masked most part err v) (k : Kept S W W') (h1 : ¬ S b) (h2 : ∀ g, v.ownBlock = some g → ¬ S g) (hL : Below w0.heap.size w0 W') : StrmAt w0 W' b masked most part err v :=
  ⟨by rw [k.block b h.lt h1]; exact h.X, own_kept h.O k h2, h.B, hL⟩
theorem mine_kind {w0 W : World} {b : Nat} {most : Int} {st : Ms} {v p : Value} (h : MacS w0 W b most st v p) {k : Nat} (hk : Mine b v p k) : ∃ cs t, W.heap[k]? = some (.cells cs t (0, 0)) ∧ (t = 124 ∨ t = 5 ∨ t = 210) := by
  rcases hk with rfl | hk | hk
  · exact ⟨_, _, h.m.X, .inl rfl⟩
  · obtain ⟨_, cs, hc⟩ := own_heap h.m.O hk
    exact ⟨cs, _, hc, .inr (.inl rfl)⟩
  · by_cases ho : st.op = 0
    · have := h.m.N ho
      rw [this] at hk; cases hk
    · obtain ⟨c, hc, _, hx⟩ := h.m.C ho
      rw [hc] at hk
      injection hk with hk
      injection hk with hk
      injection hk with hk
      subst hk
      obtain ⟨cs, hcs⟩ := Msg.chk_kind hx
      exact ⟨cs, _, hcs, .inr (.inr rfl)⟩
theorem mine_row {w0 W : World} {b : Nat} {most : Int} {st : Ms} {v p : Value} (h : MacS w0 W b most st v p) {base n : Nat} {e : TypeId} {size : Nat} {u : Value} {xs : List Value} (ho : W.ownsRow base e size u n xs) (h1 : e ≠ 124) (h2 : e ≠ 5) (h3 : e ≠ 210) {g : Nat} (hg : u.ownBlock = some g) : ¬ Mine b v p g := fun hk => by
  obtain ⟨cs, t, hc, ht⟩ := mine_kind h hk
  obtain ⟨_, cs', hc'⟩ := own_heap ho hg
  rw [hc] at hc'
  injection hc' with hc'
  injection hc' with _ e2
  subst e2
  rcases ht with ht | ht | ht
  · exact h1 ht
  · exact h2 ht
  · exact h3 ht
structure Thr (wB W : World) (bs bm : Nat) (part : List Nat) (vS : Value) (st : Ms) (vM pM tv : Value) (nt : Nat) (ev : List Value) : Prop where
  S : StrmAt wB W bs true 65536 part 0 vS
  M : MacS wB W bm 1000 st vM pM
  T : W.ownsRow wB.heap.size 52 3 tv nt ev
  nb : ∀ k, Mine bm vM pM k → k ≠ bs ∧ vS.ownBlock ≠ some k
section
variable {wB W W' : World} {bs bm : Nat} {part part' : List Nat} {vS vS' : Value} {st st' : Ms} {vM pM vM' pM' tv tv' : Value} {nt nt' : Nat} {ev ev' : List Value}
theorem Thr.below (h : Thr wB W bs bm part vS st vM pM tv nt ev) (k : Below W.heap.size W W') : Thr wB W' bs bm part vS st vM pM tv nt ev :=
  ⟨h.S.below k, h.M.below k, own_below h.T k, h.nb⟩
theorem Thr.fed (h : Thr wB W bs bm part vS st vM pM tv nt ev) (hS : StrmAt wB W' bs true 65536 part' 0 vS') (T2 : Two W W' bs (ob vS bs)) (hv : vS'.ownBlock = vS.ownBlock ∨ ∀ g, vS'.ownBlock = some g → W.heap.size ≤ g) : Thr wB W' bs bm part' vS' st vM pM tv nt ev where
  S := hS
  M := h.M.apart (S := fun k => k = bs ∨ k = ob vS bs) ⟨T2.os, T2.tape, T2.output, T2.size, fun k hk hn => T2.block k hk (fun e => hn (.inl e)) (fun e => hn (.inr e))⟩ (fun k hk e => by
    obtain ⟨h1, h2⟩ := h.nb k hk
    rcases e with e | e
    · exact h1 e
    · exact ob_ne h1 h2 e) hS.L
  T := own_fed h.T h.S (by decide) (by decide) T2
  nb := fun k hk => by
    obtain ⟨h1, h2⟩ := h.nb k hk
    refine ⟨h1, fun e => ?_⟩
    rcases hv with hv | hv
    · rw [hv] at e; exact h2 e
    · have := hv k e
      have := (h.M.m.own hk).2
      omega
theorem Thr.took (h : Thr wB W bs bm part vS st vM pM tv nt ev) (hM : MacS wB W' bm 1000 st' vM' pM') (g : Goes W W' bm vM pM vM' pM') : Thr wB W' bs bm part vS st' vM' pM' tv nt ev where
  S := strm_kept h.S g.kept (fun e => (h.nb bs e).1 rfl) (fun k hk e => (h.nb k e).2 hk) hM.m.L
  M := hM
  T := own_kept h.T g.kept (fun k hk => mine_row h.M h.T (by decide) (by decide) (by decide) hk)
  nb := fun k hk => by
    rcases g.mine k hk with h1 | h1
    · exact h.nb k h1
    · refine ⟨fun e => ?_, fun e => ?_⟩
      · have := h.S.lt; omega
      · obtain ⟨_, cs, hc⟩ := own_heap h.S.O e
        have := (Array.getElem?_eq_some_iff.1 hc).1
        omega
theorem Thr.told (h : Thr wB W bs bm part vS st vM pM tv nt ev) (hT : W'.ownsRow wB.heap.size 52 3 tv' nt' ev') (g : W.grownBy W' tv.ownBlock) : Thr wB W' bs bm part vS st vM pM tv' nt' ev' where
  S := strm_told h.S h.T (by decide) (by decide) (Nat.le_refl _) g
  M := h.M.apart (Kept.grown (S := fun k => tv.ownBlock = some k) g (fun k hk => hk)) (fun k hk e => mine_row h.M h.T (by decide) (by decide) (by decide) e hk)
    (h.M.m.L.grown g h.M.m.L.size (fun k hk => (own_heap h.T hk).1))
  T := hT
  nb := h.nb
end
theorem info57 : ∃ i, Tryz.prog.info? 52 = some i ∧ i.zero = some (.agg #[.int .i64 0, .int .i64 0, .string ByteArray.empty]) ∧ i.size = 3 ∧ i.bytes = 32 := by
  have h5 : (Tryz.prog.info? 52).map (fun i => (i.zero, i.size, i.bytes)) = some (some (.agg #[.int .i64 0, .int .i64 0, .string ByteArray.empty]), 3, 32) := by kernel_rfl
  cases hi : Tryz.prog.info? 52 with
  | none => rw [hi] at h5; cases h5
  | some i =>
    rw [hi] at h5
    simp only [Option.map_some, Option.some.injEq, Prod.mk.injEq] at h5
    exact ⟨i, rfl, h5.1, h5.2.1, h5.2.2⟩
end Go.Proofs.YtlahonjmfecikaaGreatDoor.Cut
set_option maxRecDepth 100000
namespace Go.Proofs.YtlahonjmfecikaaGreatDoor.Cut
open Go.RowKit MaskPlain Mas Fra Stm CutPlain
open FramePlain (Fr Fr0 form chk ctl zero4)
open StreamPlain (all)
open MsgPlain (Ms M0 Ev)
end Go.Proofs.YtlahonjmfecikaaGreatDoor.Cut
set_option maxRecDepth 100000
namespace Go.Proofs.YtlahonjmfecikaaGreatDoor.Leg
open Go.RowKit Stm
open FramePlain (Fr Fr0)
open LegPlain (Cf Lg bound)
open Msg (Kept MacS Mine Goes)
open MsgPlain (Ms)
def All (L rb rp sb mb : Nat) (tv kv qv sv mv mp : Value) (k : Nat) : Prop := Own L rb rp tv kv qv k ∨ (k = sb ∨ sv.ownBlock = some k) ∨ Mine mb mv mp k
structure LegF (w0 W : World) (L sb mb rb rp : Nat) (tv kv qv sv mv mp : Value) (c : Cf) (l : Lg) : Prop where
  A : LegAt w0 W L sb mb rb rp tv kv qv c l
  S : StrmAt w0 W sb c.masked (bound c : Int) l.buf l.serr sv
  M : MacS w0 W mb (c.msg : Int) l.ms mv mp
  ap : ∀ k, Own L rb rp tv kv qv k → k ≠ sb ∧ sv.ownBlock ≠ some k ∧ ¬ Mine mb mv mp k
  nb : ∀ k, Mine mb mv mp k → k ≠ sb ∧ sv.ownBlock ≠ some k
structure FGoes (W W' : World) (S S' : Nat → Prop) : Prop where
  kept : Kept S W W'
  mine : ∀ k, S' k → S k ∨ W.heap.size ≤ k
theorem FGoes.refl (W : World) (S : Nat → Prop) : FGoes W W S S := ⟨.below (Below.refl _ _), fun _ h => .inl h⟩
theorem FGoes.below {W W' : World} (S : Nat → Prop) (h : Below W.heap.size W W') : FGoes W W' S S := ⟨.below h, fun _ hk => .inl hk⟩
theorem FGoes.trans {W V U : World} {S S1 S2 : Nat → Prop} (h : FGoes W V S S1) (k : FGoes V U S1 S2) : FGoes W U S S2 :=
  ⟨h.kept.trans k.kept (fun j hj e => by
    rcases h.mine j e with h1 | h1
    · exact h1
    · omega), fun j e => by
    rcases k.mine j e with h1 | h1
    · exact h.mine j h1
    · exact .inr (Nat.le_trans h.kept.size h1)⟩
section
variable {w0 W W' : World} {L sb mb rb rp : Nat} {tv kv qv sv mv mp tv' kv' qv' sv' mv' mp' : Value} {c : Cf} {l m : Lg}
theorem LegF.own (h : LegF w0 W L sb mb rb rp tv kv qv sv mv mp c l) {k : Nat} (hk : All L rb rp sb mb tv kv qv sv mv mp k) : w0.heap.size ≤ k ∧ k < W.heap.size := by
  rcases hk with hk | (rfl | hk) | hk
  · exact h.A.own hk
  · exact ⟨h.S.B, h.S.lt⟩
  · obtain ⟨h1, cs, h2⟩ := Cut.own_heap h.S.O hk
    exact ⟨h1, (Array.getElem?_eq_some_iff.1 h2).1⟩
  · exact h.M.m.own hk
theorem LegF.stay (h : LegF w0 W L sb mb rb rp tv kv qv sv mv mp c l) {S : Nat → Prop} (hk : Kept S W W') (hn : ∀ k, All L rb rp sb mb tv kv qv sv mv mp k → ¬ S k) (hL : Below w0.heap.size w0 W') : LegF w0 W' L sb mb rb rp tv kv qv sv mv mp c l where
  A := h.A.stay hk (fun k e => hn k (.inl e)) hL
  S := Cut.strm_kept h.S hk (hn sb (.inr (.inl (.inl rfl)))) (fun g e => hn g (.inr (.inl (.inr e)))) hL
  M := h.M.apart hk (fun k e => hn k (.inr (.inr e))) hL
  ap := h.ap
  nb := h.nb
theorem LegF.low (h : LegF w0 W L sb mb rb rp tv kv qv sv mv mp c l) : Below w0.heap.size w0 W := h.A.low
theorem LegF.below (h : LegF w0 W L sb mb rb rp tv kv qv sv mv mp c l) (k : Below W.heap.size W W') : LegF w0 W' L sb mb rb rp tv kv qv sv mv mp c l :=
  h.stay (S := fun _ => False) (.below k) (fun _ _ e => e) (h.low.trans (k.mono h.low.size))
theorem LegF.out (h : LegF w0 W L sb mb rb rp tv kv qv sv mv mp c l) (hA : LegAt w0 W' L sb mb rb rp tv' kv' qv' c m) (g : OGoes W W' L rb rp tv kv qv tv' kv' qv') (e1 : m.buf = l.buf) (e2 : m.serr = l.serr) (e3 : m.ms = l.ms) :
    LegF w0 W' L sb mb rb rp tv' kv' qv' sv mv mp c m ∧ FGoes W W' (All L rb rp sb mb tv kv qv sv mv mp) (All L rb rp sb mb tv' kv' qv' sv mv mp) := by
  have hsb := h.S.lt
  refine ⟨⟨hA, ?_, ?_, fun k e => ?_, h.nb⟩, ⟨g.kept.wide fun k e => .inl e, fun k e => ?_⟩⟩
  · rw [e1, e2]
    exact Cut.strm_kept h.S g.kept (fun e => (h.ap sb e).1 rfl) (fun j e e2 => (h.ap j e2).2.1 e) hA.low
  · rw [e3]
    exact h.M.apart g.kept (fun k e e2 => (h.ap k e2).2.2 e) hA.low
  · rcases g.mine k e with e4 | e4
    · exact h.ap k e4
    · refine ⟨fun e5 => by omega, fun e5 => ?_, fun e5 => ?_⟩
      · have := (h.own (.inr (.inl (.inr e5)))).2; omega
      · have := (h.own (.inr (.inr e5))).2; omega
  · rcases e with e | e
    · rcases g.mine k e with e4 | e4
      · exact .inl (.inl e4)
      · exact .inr e4
    · exact .inl (.inr e)
theorem LegF.fed (h : LegF w0 W L sb mb rb rp tv kv qv sv mv mp c l) (hS : StrmAt w0 W' sb c.masked (bound c : Int) m.buf m.serr sv') (T : Two W W' sb (ob sv sb)) (hv : sv'.ownBlock = sv.ownBlock ∨ ∀ g, sv'.ownBlock = some g → W.heap.size ≤ g)
    (e1 : m.ring = l.ring) (e2 : m.tail = l.tail) (e3 : m.ctl = l.ctl) (e4 : m.rest = l.rest) (e5 : m.draw = l.draw) (e6 : m.wrong = l.wrong) (e7 : m.sent = l.sent) (e8 : m.ms = l.ms) :
    LegF w0 W' L sb mb rb rp tv kv qv sv' mv mp c m ∧ FGoes W W' (All L rb rp sb mb tv kv qv sv mv mp) (All L rb rp sb mb tv kv qv sv' mv mp) := by
  have hk : Kept (fun k => k = sb ∨ sv.ownBlock = some k) W W' := ⟨T.os, T.tape, T.output, T.size, fun k hk hn => T.block k hk (fun e => hn (.inl e)) (fun e => hn (by
    unfold ob at e
    cases hv : sv.ownBlock with
    | none => rw [hv] at e; exact .inl e
    | some g => rw [hv] at e; exact .inr (congrArg some e.symm)))⟩
  have hap : ∀ k, Own L rb rp tv kv qv k → ¬ (k = sb ∨ sv.ownBlock = some k) := fun k e e2 => e2.elim (h.ap k e).1 (h.ap k e).2.1
  have hnm : ∀ k, Mine mb mv mp k → ¬ (k = sb ∨ sv.ownBlock = some k) := fun k e e2 => e2.elim (h.nb k e).1 (h.nb k e).2
  have hfr : ∀ k, k < W.heap.size → sv.ownBlock ≠ some k → sv'.ownBlock ≠ some k := fun k hk hn e => by
    rcases hv with hv | hv
    · exact hn (hv ▸ e)
    · have := hv k e; omega
  refine ⟨⟨(h.A.stay hk hap hS.L).inner e1 e2 e3 e4 e5 e6 e7, hS, by rw [e8]; exact h.M.apart hk hnm hS.L, fun k e => ⟨(h.ap k e).1, hfr k (h.A.own e).2 (h.ap k e).2.1, (h.ap k e).2.2⟩, fun k e => ⟨(h.nb k e).1, hfr k (h.M.m.own e).2 (h.nb k e).2⟩⟩, ⟨hk.wide fun k e => .inr (.inl e), fun k e => ?_⟩⟩
  rcases e with e | (e | e) | e
  · exact .inl (.inl e)
  · exact .inl (.inr (.inl (.inl e)))
  · rcases hv with hv | hv
    · exact .inl (.inr (.inl (.inr (hv ▸ e))))
    · exact .inr (hv k e)
  · exact .inl (.inr (.inr e))
theorem LegF.took (h : LegF w0 W L sb mb rb rp tv kv qv sv mv mp c l) {st' : Ms} (hM : MacS w0 W' mb (c.msg : Int) st' mv' mp') (g : Goes W W' mb mv mp mv' mp') :
    LegF w0 W' L sb mb rb rp tv kv qv sv mv' mp' c { l with ms := st' } ∧ FGoes W W' (All L rb rp sb mb tv kv qv sv mv mp) (All L rb rp sb mb tv kv qv sv mv' mp') := by
  refine ⟨⟨(h.A.stay g.kept (fun k e => (h.ap k e).2.2) hM.m.L).inner rfl rfl rfl rfl rfl rfl rfl, Cut.strm_kept h.S g.kept (fun e => (h.nb sb e).1 rfl) (fun j e e2 => (h.nb j e2).2 e) hM.m.L, hM, fun k e => ⟨(h.ap k e).1, (h.ap k e).2.1, fun e2 => ?_⟩, fun k e => ?_⟩, ⟨g.kept.wide fun k e => .inr (.inr e), fun k e => ?_⟩⟩
  · rcases g.mine k e2 with e3 | e3
    · exact (h.ap k e).2.2 e3
    · have := (h.A.own e).2; omega
  · rcases g.mine k e with e3 | e3
    · exact h.nb k e3
    · exact ⟨fun e4 => by have := h.S.lt; omega, fun e4 => by have := (h.own (.inr (.inl (.inr e4)))).2; omega⟩
  · rcases e with e | e | e
    · exact .inl (.inl e)
    · exact .inl (.inr (.inl e))
    · rcases g.mine k e with e3 | e3
      · exact .inl (.inr (.inr e3))
      · exact .inr e3
end
end Go.Proofs.YtlahonjmfecikaaGreatDoor.Leg
set_option maxRecDepth 100000
namespace Go.Proofs.YtlahonjmfecikaaGreatDoor.Evt
open Go.RowKit Go.WideShapes Go.ChangeShapes
open MsgPlain (Ev)
def Ev0 : Ev := ⟨0, 0, []⟩
def ec (e : Ev) : List Value := [.int .i64 e.op, .int .i64 e.code, .string (strOf e.data)]
def ecs (es : List Ev) : List Value := es.flatMap ec
theorem ecs_cons (e : Ev) (es : List Ev) : ecs (e :: es) = ec e ++ ecs es := rfl
theorem ecs_length (es : List Ev) : (ecs es).length = es.length * 3 := by
  induction es with
  | nil => rfl
  | cons e es ih => rw [ecs_cons, List.length_append, ih]; simp [ec]; omega
theorem ecs_append (a b : List Ev) : ecs (a ++ b) = ecs a ++ ecs b := by simp [ecs]
theorem ec_one (e : Ev) : ∀ u ∈ ec e, u.oneCell' = true := fun u hu => by
  simp only [ec, List.mem_cons, List.not_mem_nil, or_false] at hu
  rcases hu with rfl | rfl | rfl <;> rfl
theorem ecs_one {es : List Ev} : ∀ u ∈ ecs es, u.oneCell' = true := fun u hu => by
  simp only [ecs, List.mem_flatMap] at hu
  obtain ⟨e, _, he⟩ := hu
  exact ec_one e u he
theorem ecs_get : ∀ (es : List Ev) (i : Nat), i < es.length → ∀ j, j < 3 → (ecs es)[i * 3 + j]? = (ec (es.getD i Ev0))[j]?
  | [], i, hi, _, _ => by simp at hi
  | e :: es, 0, _, j, hj => by
    rw [ecs_cons, Nat.zero_mul, Nat.zero_add, List.getElem?_append_left (by simpa [ec] using hj)]; rfl
  | e :: es, i + 1, hi, j, hj => by
    rw [ecs_cons, show (i + 1) * 3 + j = i * 3 + j + 3 from by omega, List.getElem?_append_right (by simp [ec])]
    have := ecs_get es i (by simpa using hi) j hj
    simpa [ec] using this
theorem ecs_at {es : List Ev} {j : Nat} {u : Value} (h : (ecs es)[j]? = some u) : j / 3 < es.length ∧ (ec (es.getD (j / 3) Ev0))[j % 3]? = some u := by
  have hj : j < (ecs es).length := (List.getElem?_eq_some_iff.1 h).1
  rw [ecs_length] at hj
  refine ⟨by omega, ?_⟩
  rw [← ecs_get es (j / 3) (by omega) (j % 3) (by omega), ← h]
  congr 1; omega
theorem ec_some (e : Ev) (j : Nat) (hj : j < 3) : ∃ u, (ec e)[j]? = some u := ⟨_, List.getElem?_eq_getElem (by simpa [ec] using hj)⟩
def OwnE (W : World) (base : Nat) (v : Value) (es : List Ev) : Prop := W.ownsRow base 52 3 v es.length (ecs es)
def EvsAt (W : World) (v : Value) (es : List Ev) : Prop :=
  ∃ (a : Option Addr) (cap sb so : Nat), v = .slice a es.length cap ∧ es.length ≤ cap ∧ (0 < es.length → a = some ⟨sb, so, none⟩) ∧ ∀ i, i < es.length → ∀ j, j < 3 → W.cell? ⟨sb, so + i * 3 + j, none⟩ = (ec (es.getD i Ev0))[j]?
theorem EvsAt.below {w w' : World} {v : Value} {es : List Ev} (h : EvsAt w v es) (hb : Below w.heap.size w w') : EvsAt w' v es := by
  obtain ⟨a, cap, sb, so, h1, hc, h3, h4⟩ := h
  refine ⟨a, cap, sb, so, h1, hc, h3, fun i hi j hj => ?_⟩
  have g := h4 i hi j hj
  obtain ⟨u, hu⟩ := ec_some (es.getD i Ev0) j hj
  rw [hu] at g ⊢
  have k0 := block_lt_of_cell g
  rw [hb.cell (p := ⟨sb, so + i * 3 + j, none⟩) k0]; exact g
theorem EvsAt.grown {w w' : World} {v : Value} {es : List Ev} {r : Option Nat} (h : EvsAt w v es) (hg : w.grownBy w' r) (hne : ∀ g, v.ownBlock = some g → some g ≠ r) : EvsAt w' v es := by
  obtain ⟨a, cap, sb, so, rfl, hc, h3, h4⟩ := h
  refine ⟨a, cap, sb, so, rfl, hc, h3, fun i hi j hj => ?_⟩
  have g := h4 i hi j hj
  obtain ⟨u, hu⟩ := ec_some (es.getD i Ev0) j hj
  rw [hu] at g ⊢
  have k0 : sb < w.heap.size := block_lt_of_cell g
  obtain rfl := h3 (by omega)
  have hb : w'.heap[sb]? = w.heap[sb]? := hg.block sb k0 (hne sb rfl)
  rw [World.cell?_of_block (w := w) hb]; exact g
theorem EvsAt.slice {W : World} {v : Value} {es : List Ev} (h : EvsAt W v es) : ∃ a c, v = .slice a es.length c := by
  obtain ⟨a, c, _, _, rfl, _⟩ := h; exact ⟨a, c, rfl⟩
theorem EvsAt.cap {W : World} {a : Option Addr} {n cap : Nat} {es : List Ev} (h : EvsAt W (.slice a n cap) es) : n = es.length ∧ n ≤ cap ∧ (0 < n → ∃ sb so, a = some ⟨sb, so, none⟩) := by
  obtain ⟨a', cap', sb', so', he, hc, h3, _⟩ := h
  injection he with e1 e2 e3
  refine ⟨e2, by omega, fun hp => ⟨sb', so', ?_⟩⟩
  rw [e1]; exact h3 (by omega)
theorem EvsAt.at3 {W : World} {sb so n cap : Nat} {es : List Ev} (h : EvsAt W (.slice (some ⟨sb, so, none⟩) n cap) es) (i : Nat) (hi : i < es.length) {o c : Int} {d : List Nat} (he : es.getD i Ev0 = ⟨o, c, d⟩) :
    W.cell? ⟨sb, so + i * 3, none⟩ = some (.int .i64 o) ∧ W.cell? ⟨sb, so + i * 3 + 1, none⟩ = some (.int .i64 c) ∧ W.cell? ⟨sb, so + i * 3 + 2, none⟩ = some (.string (strOf d)) := by
  obtain ⟨a, cap', sb', so', hs, _, h3, h4⟩ := h
  injection hs with e1 e2 e3
  rw [h3 (by omega)] at e1
  injection e1 with e1
  injection e1 with e4 e5
  subst e4 e5
  have g := h4 i hi
  rw [he] at g
  exact ⟨g 0 (by decide), g 1 (by decide), g 2 (by decide)⟩
theorem EvsAt.range {W : World} {sb so n cap : Nat} {es : List Ev} (h : EvsAt W (.slice (some ⟨sb, so, none⟩) n cap) es) (i : Nat) (hi : i < es.length) : W.rangeAt sb (so + i * 3) (ec (es.getD i Ev0)) := fun j u hu => by
  obtain ⟨a, cap', sb', so', he, _, h3, h4⟩ := h
  injection he with e1 e2 e3
  rw [h3 (by omega)] at e1
  injection e1 with e1
  injection e1 with e4 e5
  subst e4 e5
  have hj : j < 3 := by have := (List.getElem?_eq_some_iff.1 hu).1; simpa [ec] using this
  rw [h4 i hi j hj]; exact hu
theorem EvsAt.to {W : World} {a : Option Addr} {n cap k c : Nat} {es : List Ev} (h : EvsAt W (.slice a n cap) es) (hk : k ≤ n) (hc : k ≤ c) : EvsAt W (.slice a k c) (es.take k) := by
  obtain ⟨a', c', sb, so, he, h1, h2, h3⟩ := h
  injection he with e1 e2 e3
  subst e1 e2 e3
  have hl : (es.take k).length = k := by rw [List.length_take]; omega
  refine ⟨a, c, sb, so, by rw [hl], by rw [hl]; omega, fun hp => h2 (by rw [hl] at hp; omega), fun i hi j hj => ?_⟩
  rw [hl] at hi
  rw [h3 i (by omega) j hj]
  congr 2
  rw [List.getD_eq_getElem?_getD, List.getD_eq_getElem?_getD, List.getElem?_take_of_lt hi]
def fromE (a : Option Addr) (k cap : Nat) : Option Addr := if cap = k then a else a.map (·.add (k * 3))
theorem EvsAt.from {W : World} {a : Option Addr} {n cap k : Nat} {es : List Ev} (h : EvsAt W (.slice a n cap) es) (hk : k ≤ n) : EvsAt W (.slice (fromE a k cap) (n - k) (cap - k)) (es.drop k) := by
  obtain ⟨a', c', sb, so, he, h1, h2, h3⟩ := h
  injection he with e1 e2 e3
  subst e1 e2 e3
  have hl : (es.drop k).length = es.length - k := List.length_drop ..
  refine ⟨_, _, sb, so + k * 3, by rw [hl], by rw [hl]; omega, fun hp => ?_, fun i hi j hj => ?_⟩
  · rw [hl] at hp
    unfold fromE
    rw [if_neg (by omega), h2 (by omega), Option.map_some, Addr.add_mid]
  · rw [hl] at hi
    have h4 := h3 (k + i) (by omega) j hj
    rw [show so + (k + i) * 3 + j = so + k * 3 + i * 3 + j from by omega] at h4
    rw [h4]
    congr 2
    rw [List.getD_eq_getElem?_getD, List.getD_eq_getElem?_getD, List.getElem?_drop]
theorem info57 : ∃ i, Tryz.prog.info? 52 = some i ∧ i.zero = some (.agg #[.int .i64 0, .int .i64 0, .string ByteArray.empty]) ∧ i.size = 3 ∧ i.bytes = 32 := by
  have h5 : (Tryz.prog.info? 52).map (fun i => (i.zero, i.size, i.bytes)) = some (some (.agg #[.int .i64 0, .int .i64 0, .string ByteArray.empty]), 3, 32) := by kernel_rfl
  cases hi : Tryz.prog.info? 52 with
  | none => rw [hi] at h5; cases h5
  | some i =>
    rw [hi] at h5
    simp only [Option.map_some, Option.some.injEq, Prod.mk.injEq] at h5
    exact ⟨i, rfl, h5.1, h5.2.1, h5.2.2⟩
theorem size57 (V : World) : (sizeOf 52).run Tryz.prog V = .ok 3 V := by
  obtain ⟨i0, hi, hz0, hz1, hz2⟩ := info57
  simp [sizeOf, typeInfo, hi, hz1]
theorem eslice_to (V : World) (a : Option Addr) (n cap k : Nat) (hk : k ≤ cap) : (Instr.slice 47 (.slice a n cap) none (some (.int .i64 (k : Int))) none).run Tryz.prog V = .ok (.slice a k cap) V := by
  rw [run_slice_h (ht := Tryz.underlying47) (h0 := by omega) (h2 := by omega), show Tryz.prog.elem 47 = 52 from rfl, size57]
  cases a <;> simp [Result.andThen, sliced, Addr.add]
theorem eslice_from (V : World) (a : Option Addr) (n cap k : Nat) (hk : k ≤ n) : (Instr.slice 47 (.slice a n cap) (some (.int .i64 (k : Int))) none none).run Tryz.prog V = .ok (.slice (fromE a k cap) (n - k) (cap - k)) V := by
  rw [run_slice_l (ht := Tryz.underlying47) (h0 := by omega) (h1 := by omega), show Tryz.prog.elem 47 = 52 from rfl, size57]
  simp [Result.andThen, sliced, fromE]
theorem eslice_three (V : World) (a : Option Addr) (n cap k h m : Nat) (hk : k ≤ h) (hh : h ≤ m) (hm : m ≤ cap) : (Instr.slice 47 (.slice a n cap) (some (.int .i64 (k : Int))) (some (.int .i64 (h : Int))) (some (.int .i64 (m : Int)))).run Tryz.prog V = .ok (.slice (fromE a k m) (h - k) (m - k)) V := by
  rw [run_slice_lhm (ht := Tryz.underlying47) (h0 := by omega) (h1 := by omega) (h2 := by omega) (h3 := by omega), show Tryz.prog.elem 47 = 52 from rfl, size57]
  simp [Result.andThen, sliced, fromE]
theorem OwnE.below {w w' : World} {base : Nat} {v : Value} {l : List Ev} (h : OwnE w base v l) (hb : Below w.heap.size w w') : OwnE w' base v l := own_below h hb
theorem ownE_nil (R : World) (base : Nat) : OwnE R base (.slice none 0 0) [] := World.ownsRow_nil _ _ _ _
theorem ownE_made (w : World) (base : Nat) (hb : base ≤ w.heap.size) : OwnE (w.alloc (.cells #[] 52)) base (.slice (some ⟨w.heap.size, 0, none⟩) 0 0) [] :=
  World.ownsRow_made w #[] 0 hb (by unfold maxLen; omega) rfl
theorem OwnE.slice {W : World} {base : Nat} {v : Value} {l : List Ev} (h : OwnE W base v l) : ∃ a c, v = .slice a l.length c := by
  obtain ⟨_, h2⟩ := h
  rcases h2 with ⟨rfl, hz⟩ | ⟨g, cap, cur, rfl, _⟩
  · rw [hz]; exact ⟨_, _, rfl⟩
  · exact ⟨_, _, rfl⟩
theorem OwnE.evs {W : World} {base : Nat} {v : Value} {es : List Ev} (ho : OwnE W base v es) : EvsAt W v es := by
  obtain ⟨h1, h2⟩ := ho
  rcases h2 with ⟨rfl, hz⟩ | ⟨g, cap, cur, rfl, hg, hh, hc1, hc2, hsz, htk⟩
  · exact ⟨none, 0, 0, 0, by rw [hz], by omega, fun h => by omega, fun i hi => by omega⟩
  · refine ⟨some ⟨g, 0, none⟩, cap, g, 0, rfl, hc1, fun _ => rfl, fun i hi j hj => ?_⟩
    have k := ecs_get es i hi j hj
    rw [Nat.zero_add, ← k, cell_of_row _ _ _ _ _ _ hh, ← htk, List.getElem?_take_of_lt (by omega)]
    simp
theorem OwnE.heap {W : World} {base : Nat} {v : Value} {l : List Ev} (h : OwnE W base v l) {g : Nat} (hg : v.ownBlock = some g) : base ≤ g ∧ ∃ cs, W.heap[g]? = some (.cells cs 52 (0, 0)) := by
  rcases h.2 with ⟨rfl, _⟩ | ⟨k, cap, cur, rfl, hb, hh, _⟩
  · cases hg
  · have : k = g := by simpa [Value.ownBlock] using hg
    subst this
    exact ⟨hb, _, hh⟩
theorem OwnE.keeps {W W' : World} {base B : Nat} {w0 : World} {v : Value} {l : List Ev} (h : OwnE W base v l) (hB : Below B w0 W) (hg : W.grownBy W' v.ownBlock) (hb : B ≤ base) (hs : B ≤ W.heap.size) : Below B w0 W' :=
  hB.grown hg hs (fun _ hk => Nat.le_trans hb (h.heap hk).1)
theorem OwnE.kept {W W' : World} {base : Nat} {v : Value} {l : List Ev} {r : Option Nat} (h : OwnE W base v l) (g : W.grownBy W' r) (hr : ∀ k, r = some k → v.ownBlock ≠ some k) : OwnE W' base v l := by
  refine World.ownsRow.kept h g ?_
  rcases h.2 with ⟨rfl, _⟩ | ⟨k, cap, cur, rfl, _⟩
  · exact .inl rfl
  · exact .inr (fun e => hr k e.symm (by simp [Value.ownBlock]))
theorem own_app {P : Program} {w : World} (base : Nat) (t ty e : TypeId) (i : TypeInfo) (z : Value) (size bytes : Nat) (ht : P.underlying t = some (.slice e)) (hi : P.info? e = some i) (hz : i.zero = some z)
    (hsize : i.size = size) (hby : i.bytes = bytes) (hzs : z.cells.size = size) (hsz : 0 < size)
    (v : Value) (n : Nat) (xs : List Value) (hown : w.ownsRow base e size v n xs)
    (a : Addr) (m c : Nat) (news : List Value) (hl : news.length = m * size) (hnews : ∀ j u, news[j]? = some u → w.cell? (a.add j) = some u) (h1 : ∀ u ∈ news, u.oneCell' = true)
    (h63 : n + m ≤ maxLen) (hbytes : (n + m) * bytes ≤ 140737488355328) (hbase : base ≤ w.heap.size) :
    ∃ v' w', (Builtin.append_ #[t, t] ty #[v, .slice (some a) m c]).run P w = .ok v' w' ∧ w'.ownsRow base e size v' (n + m) (xs ++ news) ∧ w.grownBy w' v.ownBlock ∧
      (v'.ownBlock = v.ownBlock ∨ v'.ownBlock = some w.heap.size) := by
  obtain ⟨v', w', hr, h2, h3, _⟩ := run_append_own (P := P) w base t ty e i z size bytes ht hi hz hsize hby hzs hsz v n xs hown a m c news hl hnews h1 h63 hbytes hbase
  refine ⟨v', w', hr, h2, h3, ?_⟩
  subst hsize hby
  rcases hown.2 with ⟨rfl, rfl⟩ | ⟨g, cap, cur, rfl, hbg, hg, hnc, hcm, hcs, htake⟩
  · have hx : xs = [] := List.eq_nil_of_length_eq_zero (by simpa using hown.1)
    subst hx
    obtain ⟨v2, w2, hr2, h4, _, h5⟩ := run_append_own (P := P) w w.heap.size t ty e i z i.size i.bytes ht hi hz rfl rfl hzs hsz _ 0 [] (World.ownsRow_nil w w.heap.size e i.size) a m c news hl hnews h1 h63 hbytes (Nat.le_refl _)
    rw [hr] at hr2
    injection hr2 with e1 e2
    subst e1 e2
    by_cases hm : m = 0
    · rw [h5.2 ⟨rfl, hm⟩]; exact .inl rfl
    · have hr3 := run_append_nil (P := P) w t ty e i z ht hi hz a m c news hl hnews (by omega) (by unfold maxLen at h63; omega) (by have hb := hbytes; simp only [Nat.zero_add] at hb; omega)
      rw [hr] at hr3
      injection hr3 with e1 e2
      rw [e1]; exact .inr rfl
  · by_cases hroom : n + m ≤ cap
    · have hfit : n * i.size + news.length ≤ cur.size := by rw [hl, hcs, ← Nat.add_mul]; exact Nat.mul_le_mul_right _ hroom
      have hr2 := run_append_room (P := P) (ty := ty) w t e i ht hi g n cap cur hg a m c news hl hnews h1 hroom hfit
      rw [hr] at hr2
      injection hr2 with e1 e2
      rw [e1]; exact .inl rfl
    · have holds : ∀ j u, xs[j]? = some u → w.cell? ((⟨g, 0, none⟩ : Addr).add j) = some u := hown.cells (g := g) rfl
      have hr2 := run_append_grow (P := P) w t ty e i z ht hi hz ⟨g, 0, none⟩ n cap xs hown.1 holds a m c news hl hnews (by omega) (by unfold maxLen at h63; omega) (growslice_fits (by omega) hbytes)
      rw [hr] at hr2
      injection hr2 with e1 e2
      rw [e1]; exact .inr rfl
theorem add_evs {Z : World} {base : Nat} {v0 x : Value} {m l : List Ev} (hown : OwnE Z base v0 m) (hx : EvsAt Z x l) (hl : m.length + l.length ≤ 1000000) (hbase : base ≤ Z.heap.size) :
    ∃ v1 w1, (Builtin.append_ #[47, 47] 47 #[v0, x]).run Tryz.prog Z = .ok v1 w1 ∧ OwnE w1 base v1 (m ++ l) ∧ Z.grownBy w1 v0.ownBlock ∧ (v1.ownBlock = v0.ownBlock ∨ v1.ownBlock = some Z.heap.size) := by
  obtain ⟨i0, hi0, hz0, hz1, hz2⟩ := info57
  obtain ⟨ad, cap, sb, so, rfl, hcap, had, hcell⟩ := hx
  have key : ∀ a : Addr, (0 < l.length → a = ⟨sb, so, none⟩) → ∃ v1 w1, (Builtin.append_ #[47, 47] 47 #[v0, .slice (some a) l.length cap]).run Tryz.prog Z = .ok v1 w1 ∧ OwnE w1 base v1 (m ++ l) ∧ Z.grownBy w1 v0.ownBlock ∧ (v1.ownBlock = v0.ownBlock ∨ v1.ownBlock = some Z.heap.size) := fun a ha => by
    obtain ⟨v', w', h1, h2, h3, h4⟩ := own_app (P := Tryz.prog) (w := Z) base 47 47 52 i0 _ 3 32 Tryz.underlying47 hi0 hz0 hz1 hz2 rfl (by decide) v0 m.length (ecs m) hown a l.length cap (ecs l) (ecs_length l) (fun j u hu => by
      obtain ⟨hi, h⟩ := ecs_at hu
      obtain rfl := ha (by omega)
      have g1 := hcell _ hi (j % 3) (by omega)
      rw [Addr.add_mid, ← h, ← g1]
      congr 2; omega) ecs_one (by unfold maxLen; omega) (by omega) hbase
    refine ⟨v', w', h1, ?_, h3, h4⟩
    unfold OwnE
    rw [List.length_append, ecs_append]
    exact h2
  cases ad with
  | some a => exact key a (fun h => by have := had h; injection this)
  | none =>
    have hz : l.length = 0 := by
      by_cases h : 0 < l.length
      · have := had h; cases this
      · omega
    have hf : l = [] := List.eq_nil_of_length_eq_zero hz
    subst hf
    refine ⟨v0, Z, ?_, by rw [List.append_nil]; exact hown, grown_refl _ _, .inl rfl⟩
    rcases hown.2 with ⟨rfl, _⟩ | ⟨g, c, cur, rfl, _, _, hnc, _⟩
    · simp [Builtin.append_, run_underlying Tryz.underlying47, sizeOf, typeInfo, hi0, Builtin.lenOf, Builtin.firstCells]
    · simp [Builtin.append_, run_underlying Tryz.underlying47, sizeOf, typeInfo, hi0, Builtin.lenOf, Builtin.firstCells, storeCells]
      intro hc
      exact absurd hc (by omega)
theorem evs_one {W : World} {g : Nat} {e : Ev} {cs : Array Value} {t : TypeId} (h : W.heap[g]? = some (.cells cs t (0, 0))) (hc : cs = (ec e).toArray) : EvsAt W (.slice (some ⟨g, 0, none⟩) 1 1) [e] := by
  subst hc
  refine ⟨_, 1, g, 0, rfl, Nat.le_refl _, fun _ => rfl, fun i hi j hj => ?_⟩
  obtain rfl : i = 0 := by simpa using hi
  rw [cell_of_row _ _ _ _ _ _ h, List.getElem?_toArray]
  congr 1; omega
theorem wpList_appV {P : Program} {ops : Array Oper} {rest : List Oper} {o : Oper} {a : Act} {Q : Exit → Act → World → Prop} {w : World} (hgd : o.guard = none) (s x : Operand) (t ty : TypeId)
    (ho : o.op = .call { callee := .builtin .append, args := #[s, x], argTypes := #[t, t] }) (hty : o.type = ty) (v u v' : Value) (w' : World)
    (hs : a.eval s = v) (hx : a.eval x = u) (hrun : (Builtin.append_ #[t, t] ty #[v, u]).run P w = .ok v' w')
    (h : wpList P ops Q rest (a.put o.dst v') w') : wpList P ops Q (o :: rest) a w := by
  refine wpList_plain hgd fun K hK => ?_
  unfold Oper.wp
  have hy : (execOp a.eval o).run P w = .ok (.value v') w' := by
    rw [← hty] at hrun
    simp [execOp, ho, resolve, invoke, builtin, hs, hx, hrun, Result.andThen]
  rw [hy, Oper.upon_value]
  exact hK _ _ h
theorem ev_info {cs : Array Value} (h : cs.size = 3) : (Tryz.prog.info? 52).map (·.size) = some cs.size := by rw [h]; kernel_rfl
theorem ev_all (a b : Int) (s : ByteArray) : (#[.int .i64 a, .int .i64 b, .string s] : Array Value).all (·.oneCell') = true := by simp [Value.oneCell']
theorem eq_ev (o c : Int) (s : ByteArray) (o' c' : Int) (s' : ByteArray) (W : World) : (Op.equalIn 10000 52 (.agg #[.int .i64 o, .int .i64 c, .string s]) (.agg #[.int .i64 o', .int .i64 c', .string s'])).run Tryz.prog W = .ok ((o == o') && ((c == c') && (s.toList == s'.toList))) W := by
  have hp : Tryz.prog.stoodInHeld 52 = false := by kernel_rfl
  have hu : Tryz.prog.underlying 52 = some (.struct (Tryz.prog.fieldsOf 52)) := by kernel_rfl
  have hf : (Tryz.prog.fieldsOf 52).toList = [⟨"Op", 3, 0, false, "", "", 0⟩, ⟨"Code", 3, 1, false, "", "", 8⟩, ⟨"Data", 9, 2, false, "", "", 16⟩] := by kernel_rfl
  rw [run_equalIn_struct W 9999 52 _ _ hu hp, hf]
  have e3 : ∀ (p q : Int) (w : World), (Op.equalIn 9999 3 (.int .i64 p) (.int .i64 q)).run Tryz.prog w = .ok (p == q) w := fun p q w => run_equalIn_int w 9998 3 .i64 .i64 p q Tryz.underlying3
  have e9 : ∀ (p q : ByteArray) (w : World), (Op.equalIn 9999 9 (.string p) (.string q)).run Tryz.prog w = .ok (p.toList == q.toList) w := fun p q w => run_equalIn_string w 9998 9 p q Tryz.underlying9
  have p0 : ∀ (o c : Int) (s : ByteArray) (w : World), (part 3 #[.int .i64 o, .int .i64 c, .string s] 0).run Tryz.prog w = .ok (.int .i64 o) w := fun o c s w => by kernel_rfl
  have p1 : ∀ (o c : Int) (s : ByteArray) (w : World), (part 3 #[.int .i64 o, .int .i64 c, .string s] 1).run Tryz.prog w = .ok (.int .i64 c) w := fun o c s w => by kernel_rfl
  have p2 : ∀ (o c : Int) (s : ByteArray) (w : World), (part 9 #[.int .i64 o, .int .i64 c, .string s] 2).run Tryz.prog w = .ok (.string s) w := fun o c s w => by kernel_rfl
  have n0 : ("Op" ≠ "_") = True := eq_true (by decide)
  have n1 : ("Code" ≠ "_") = True := eq_true (by decide)
  have n2 : ("Data" ≠ "_") = True := eq_true (by decide)
  cases h0 : (o == o') <;> cases h1 : (c == c') <;> cases h2 : (s.toList == s'.toList) <;>
    simp only [Op.eqFields, n0, n1, n2, if_true, Sem.run_bind, Sem.run_pure, Sem.run_ite, p0, p1, p2, e3, e9, h0, h1, h2, Result.andThen_ok, Bool.not_true, Bool.not_false, Bool.false_eq_true, if_false, Bool.true_and, Bool.false_and, Bool.and_true]
theorem ev_same (o c : Int) (s : ByteArray) (W : World) : (Op.equalIn 10000 52 (.agg #[.int .i64 o, .int .i64 c, .string s]) (.agg #[.int .i64 o, .int .i64 c, .string s])).run Tryz.prog W = .ok true W :=
  (eq_ev o c s o c s W).trans (congrArg (fun b => Result.ok b W) (by simp))
theorem laid_ev (W : World) (cs : Array Value) : ∃ V, (W.alloc (.cells #[.int .i64 0, .int .i64 0, .string { data := #[] }] 52)).setRow W.heap.size cs = V ∧ Sl (Below W.heap.size W V) ∧ Sl (V.heap[W.heap.size]? = some (.cells cs 52 (0, 0))) :=
  ⟨_, rfl, ⟨below_setRow ((Below.refl _ _).alloc (Nat.le_refl _) _) (Nat.le_refl _) _⟩, ⟨setRow_heap _ _ _ _ _ _ (alloc_new _ _ _ rfl)⟩⟩
theorem ev_new (W : World) : (W.alloc (.cells #[.int .i64 0, .int .i64 0, .string { data := #[] }] 52)).heap[W.heap.size]? = some (.cells #[.int .i64 0, .int .i64 0, .string { data := #[] }] 52 (0, 0)) := alloc_new _ _ _ rfl
theorem ev_cells {W : World} {g : Nat} {o c : Int} {s : ByteArray} (h : W.heap[g]? = some (.cells #[.int .i64 o, .int .i64 c, .string s] 52 (0, 0))) : W.cell? ⟨g, 0, none⟩ = some (.int .i64 o) ∧ W.cell? ⟨g, 1, none⟩ = some (.int .i64 c) ∧ W.cell? ⟨g, 2, none⟩ = some (.string s) := by
  refine ⟨?_, ?_, ?_⟩ <;> (rw [cell_of_row _ _ _ _ _ _ h]; rfl)
structure EvOk (e : Ev) : Prop where
  ds : Small 256 e.data
  dl : e.data.length ≤ maxLen
  op : -9223372036854775808 ≤ e.op ∧ e.op ≤ 9223372036854775807
  code : -9223372036854775808 ≤ e.code ∧ e.code ≤ 9223372036854775807
theorem ev_at {es : List Ev} (hk : ∀ e ∈ es, EvOk e) (i : Nat) (hi : i < es.length) : ∃ o c s, es.getD i Ev0 = ⟨o, c, bytes s⟩ ∧ es.getD i Ev0 ∈ es ∧ strOf (es.getD i Ev0).data = s := by
  have hm : es.getD i Ev0 ∈ es := by rw [List.getD_eq_getElem?_getD, List.getElem?_eq_getElem hi]; exact List.getElem_mem _
  refine ⟨(es.getD i Ev0).op, (es.getD i Ev0).code, strOf (es.getD i Ev0).data, ?_, hm, rfl⟩
  rw [bytes_strOf _ (hk _ hm).ds]
theorem list3 {α : Type} {l : List α} (h : l.length = 3) : ∃ a b c, l = [a, b, c] :=
  match l, h with
  | [a, b, c], _ => ⟨a, b, c, rfl⟩
theorem list_of {α : Type} (d : α) (n : Nat) (p : Nat → α → Prop) (h : ∀ i, i < n → ∃ x, p i x) : ∃ l : List α, l.length = n ∧ ∀ i, i < n → p i (l.getD i d) := by
  induction n with
  | zero => exact ⟨[], rfl, fun i hi => absurd hi (Nat.not_lt_zero _)⟩
  | succ n ih =>
    obtain ⟨l, hl, hp⟩ := ih (fun i hi => h i (by omega))
    obtain ⟨x, hx⟩ := h n (by omega)
    refine ⟨l ++ [x], by simp [hl], fun i hi => ?_⟩
    by_cases hin : i < n
    · have e : (l ++ [x]).getD i d = l.getD i d := by
        simp only [List.getD_eq_getElem?_getD]; rw [List.getElem?_append_left (by omega)]
      rw [e]; exact hp i hin
    · obtain rfl : i = n := by omega
      have e : (l ++ [x]).getD i d = x := by
        simp only [List.getD_eq_getElem?_getD]; rw [List.getElem?_append_right (by omega)]; simp [hl]
      rw [e]; exact hx
theorem ec_of_trod {H : Type} {enc : TypeId × Value → H} {W : World} {base fuel : Nat} {sp : Nat → Bool} {held : Bool} {cs : List Value} {x : DataW H × List MemPlace}
    (hf : DataW.trod enc Tryz.prog W base sp held fuel 52 cs = some x) : ∃ e, cs = ec e ∧ EvOk e := by
  obtain ⟨xs, n, _, hx, hl, hxl, hf⟩ := DataW.trod_struct Tryz.underlying52 hf
  have c3 : Tryz.prog.cellsOf 3 = 1 := by kernel_rfl
  have c9 : Tryz.prog.cellsOf 9 = 1 := by kernel_rfl
  have cf : Tryz.prog.cellsOf 52 = 3 := by kernel_rfl
  rw [cf] at hl
  match xs, hxl with
  | [y0, y1, y2], _ =>
    have h0 : DataW.trod enc Tryz.prog W base sp held n 3 ((cs.drop 0).take (Tryz.prog.cellsOf 3)) = some y0 := hf 0 _ rfl
    have h1 : DataW.trod enc Tryz.prog W base sp held n 3 ((cs.drop 1).take (Tryz.prog.cellsOf 3)) = some y1 := hf 1 _ rfl
    have h2 : DataW.trod enc Tryz.prog W base sp held n 9 ((cs.drop 2).take (Tryz.prog.cellsOf 9)) = some y2 := hf 2 _ rfl
    obtain ⟨a0, a1, a2, hcs⟩ := list3 hl
    rw [hcs] at h0 h1 h2
    rw [c3] at h0 h1
    rw [c9] at h2
    simp only [List.drop_zero, List.drop_succ_cons, List.take_succ_cons, List.take_zero] at h0 h1 h2
    obtain ⟨f0, g0, _, w0⟩ := DataW.trod_int Tryz.underlying3 h0
    obtain ⟨f1, g1, _, w1⟩ := DataW.trod_int Tryz.underlying3 h1
    obtain ⟨f2, g2, _, w2⟩ := DataW.trod_string Tryz.underlying9 h2
    simp only [List.cons.injEq, and_true] at g0 g1 g2
    subst g0 g1 g2
    refine ⟨⟨f0, f1, bytes f2⟩, ?_, bytes_small f2, by rw [bytes_length]; exact w2, bounds_i64 w0, bounds_i64 w1⟩
    rw [hcs]
    show _ = [Value.int .i64 f0, .int .i64 f1, .string (strOf (bytes f2))]
    rw [strOf_bytes]
theorem evsAt_of_trod {H : Type} {enc : TypeId × Value → H} {W : World} {ad : Option Addr} {len cap : Nat} {d : DataW H} {p : List MemPlace} (h : DataW.Trod enc Tryz.prog W 0 (fun _ => true) true 47 (.slice ad len cap) d p) :
    ∃ l, EvsAt W (.slice ad len cap) l ∧ (∀ e ∈ l, EvOk e) ∧ l.length ≤ maxLen := by
  obtain ⟨fuel, hf⟩ := h
  have cf : Tryz.prog.cellsOf 52 = 3 := by kernel_rfl
  rcases DataW.trod_slice Tryz.underlying47 hf with ⟨hcs, _⟩ | ⟨a, len', cap', el, rest, n, _, hcs, _, hb, hl, hm, hz, hcell, _⟩
  · simp [Value.cells] at hcs
    obtain ⟨rfl, rfl, rfl⟩ := hcs
    exact ⟨[], ⟨none, 0, 0, 0, rfl, by simp, fun h => by simp at h, fun i hi => by simp at hi⟩, fun f hf => by simp at hf, by simp⟩
  · simp [Value.cells] at hcs
    obtain ⟨rfl, rfl, rfl⟩ := hcs
    rw [cf] at hcell
    have hsome : ∀ i, i < len → ∃ x, el[i]? = some x := fun i hi => ⟨el[i]'(by omega), List.getElem?_eq_getElem (by omega)⟩
    by_cases h0 : len = 0
    · subst h0
      exact ⟨[], ⟨some a, cap, 0, 0, rfl, by simp, fun h => by simp at h, fun i hi => by simp at hi⟩, fun f hf => by simp at hf, by simp⟩
    · have hspot : a.spot = none := by
        obtain ⟨x, hx⟩ := hsome 0 (by omega)
        have hc := hcell 0 (by omega)
        rw [hx, Option.bind_eq_some_iff] at hc
        obtain ⟨cs, hcs, _⟩ := hc
        obtain ⟨_, hlen, hce⟩ := World.cells?_some hcs
        have := hce 0 (by omega)
        rw [List.getElem?_eq_getElem (by omega)] at this
        simpa [Addr.add] using World.cell?_spot this
      obtain ⟨b, off, spot⟩ := a
      simp only at hspot
      subst hspot
      obtain ⟨l, hll, hp⟩ := list_of Ev0 len (fun i e => EvOk e ∧ ∀ j, j < 3 → W.cell? ⟨b, off + i * 3 + j, none⟩ = (ec e)[j]?) (fun i hi => by
        obtain ⟨x, hx⟩ := hsome i hi
        have hc := hcell i hi
        rw [hx, Addr.add_mid, Option.bind_eq_some_iff] at hc
        obtain ⟨cs, hcs, hd⟩ := hc
        obtain ⟨_, hlen, hce⟩ := World.cells?_some hcs
        obtain ⟨e, he, hok⟩ := ec_of_trod hd
        subst he
        refine ⟨e, hok, fun j hj => ?_⟩
        have := hce j hj
        rw [Addr.add_mid] at this
        exact this)
      refine ⟨l, ⟨some ⟨b, off, none⟩, cap, b, off, by rw [hll], by rw [hll]; omega, fun _ => rfl, fun i hi => (hp i (by omega)).2⟩, fun e he => ?_, by rw [hll]; omega⟩
      obtain ⟨i, hi, rfl⟩ := List.getElem_of_mem he
      have := (hp i (by omega)).1
      rwa [List.getD_eq_getElem?_getD, List.getElem?_eq_getElem hi] at this
set_option maxHeartbeats 2000000 in
theorem esame_any (es : List Ev) (u x : Value) (w : World) (hu : EvsAt w u es) (hx : EvsAt w x es) (hl : es.length ≤ 1000000) : Calls Tryz.prog 29 #[u, x] w fun e w' => e = .returned (.bool true) ∧ Sl (Below w.heap.size w w') := by
  obtain ⟨a, c, rfl⟩ := hu.slice
  obtain ⟨a', c', rfl⟩ := hx.slice
  have HU := Sl.mk hu
  have HX := Sl.mk hx
  obtain ⟨n, hn⟩ : ∃ n, es.length = n := ⟨_, rfl⟩
  rw [hn] at HU HX ⊢
  have HN := Sl.mk hn
  rw [hn] at hl
  clear hu hx hn
  go_enter Tryz.func29, Tryz.ntmps29
  go_wp2
  go_loopw [5] (fun i wr => ∃ k : Nat, i = .int .i64 (k : Int) ∧ k ≤ n ∧ Sl (Below w.heap.size w wr)) (fun i _ => n - (intOf i).toNat)
  case atStart => exact ⟨0, rfl, Nat.zero_le _, ⟨Below.refl _ _⟩⟩
  case round =>
    obtain ⟨k, rfl, hkn, HB⟩ := hrel
    by_cases hlt : k < n
    · have hq : ((k : Int) < (n : Int)) = True := eq_true (by omega)
      obtain ⟨sb, so, rfl⟩ := HU.out.cap.2.2 (by omega)
      obtain ⟨sb', so', rfl⟩ := HX.out.cap.2.2 (by omega)
      obtain ⟨o, cd, d, he⟩ : ∃ o cd d, es.getD k Ev0 = ⟨o, cd, d⟩ := ⟨_, _, _, rfl⟩
      have hs := ev_same o cd (strOf d)
      obtain ⟨c0, c1, c2⟩ := ((HU.out.below HB.out).below (Below.refl _ _).drew).at3 k (by rw [HN.out]; exact hlt) he
      obtain ⟨d0, d1, d2⟩ := ((HX.out.below HB.out).below (Below.refl _ _).drew).at3 k (by rw [HN.out]; exact hlt) he
      obtain ⟨S, hS⟩ : ∃ S, strOf d = S := ⟨_, rfl⟩
      rw [hS] at hs c2 d2
      clear he hS
      go_upto_region 6 with fail
      go_still (by kernel_rfl)
      go_wp2
      exact ⟨⟨k + 1, by go_num, by omega, ⟨HB.out.drew⟩⟩, by simp [intOf]; omega⟩
    · obtain rfl : k = n := by omega
      have hq : ((k : Int) < (k : Int)) = False := eq_false (by omega)
      go_wp2
      go_ret
      exact ⟨rfl, HB⟩
end Go.Proofs.YtlahonjmfecikaaGreatDoor.Evt
set_option maxRecDepth 100000
namespace Go.Proofs.YtlahonjmfecikaaGreatDoor.Leg
open Go.RowKit Stm
open FramePlain (Fr Fr0)
open LegPlain (Cf Lg)
open Msg (Kept MacS Mine)
open LegPlain (Inv Few CfOk Good came evs errs react bound feed fail)
open FramePlain (text size chk form zero4)
open MsgPlain (Ev Ms M0 run)
open StreamPlain (all)
open Evt
open Msg (Goes evO)
theorem run_len (most : Int) : ∀ (fs : List Fr) (st : Ms), (run most st fs).2.length ≤ fs.length
  | [], _ => Nat.le_refl _
  | f :: fs, st => by
    rw [MsgPlain.run_cons, List.length_append, List.length_cons]
    have := run_len most fs (MsgPlain.take most st f).1
    cases (MsgPlain.take most st f).2 <;> simp <;> omega
theorem FGoes.fresh {W V U : World} {S S1 T : Nat → Prop} (h : FGoes W V S S1) (k : Kept T V U) (hT : ∀ j, T j → W.heap.size ≤ j) : FGoes W U S S1 :=
  ⟨h.kept.trans k (fun j hj e => by have := hT j e; omega), h.mine⟩
theorem own_mono {W : World} {b b' : Nat} {e : TypeId} {size n : Nat} {v : Value} {xs : List Value} (h : W.ownsRow b e size v n xs) (hb : b' ≤ b) : W.ownsRow b' e size v n xs := by
  obtain ⟨h1, h2⟩ := h
  refine ⟨h1, h2.imp id ?_⟩
  rintro ⟨g, cap, cur, e1, e2, e3⟩
  exact ⟨g, cap, cur, e1, Nat.le_trans hb e2, e3⟩
structure FL (w0 W2 wr : World) (L sb mb rb rp : Nat) (tv kv qv sv mv mp : Value) (A2 : Nat → Prop) (B2 : Nat) (c : Cf) (X : Lg) (vf : Value) (gs : List Fr) (told : Value) (T : List Ev) : Prop where
  leg : LegF w0 wr L sb mb rb rp tv kv qv sv mv mp c X
  goes : FGoes W2 wr A2 (All L rb rp sb mb tv kv qv sv mv mp)
  frs : OwnR wr B2 vf gs
  fn : ∀ j, vf.ownBlock = some j → ¬ All L rb rp sb mb tv kv qv sv mv mp j
  say : OwnE wr W2.heap.size told T
  tn : ∀ j, told.ownBlock = some j → (¬ All L rb rp sb mb tv kv qv sv mv mp j) ∧ vf.ownBlock ≠ some j
section
variable {w0 W2 wr : World} {L sb mb rb rp : Nat} {tv kv qv sv mv mp : Value} {A2 : Nat → Prop} {B2 : Nat} {c : Cf} {X : Lg} {vf : Value} {gs : List Fr} {told : Value} {T : List Ev} {w' : World} {tv' kv' qv' mv' mp' : Value}
theorem FL.below (h : FL w0 W2 wr L sb mb rb rp tv kv qv sv mv mp A2 B2 c X vf gs told T) (k : Below wr.heap.size wr w') : FL w0 W2 w' L sb mb rb rp tv kv qv sv mv mp A2 B2 c X vf gs told T :=
  ⟨h.leg.below k, h.goes.trans (FGoes.below _ k), h.frs.below k, h.fn, h.say.below k, h.tn⟩
theorem frs_lt {W : World} {base : Nat} {v : Value} {fs : List Fr} (h : OwnR W base v fs) {g : Nat} (hg : v.ownBlock = some g) : g < W.heap.size := by
  obtain ⟨_, cs, h2⟩ := Cut.own_heap h hg
  exact (Array.getElem?_eq_some_iff.1 h2).1
theorem evs_lt {W : World} {base : Nat} {v : Value} {es : List Ev} (h : OwnE W base v es) {g : Nat} (hg : v.ownBlock = some g) : g < W.heap.size := by
  obtain ⟨_, cs, h2⟩ := h.heap hg
  exact (Array.getElem?_eq_some_iff.1 h2).1
theorem FL.took (h : FL w0 W2 wr L sb mb rb rp tv kv qv sv mv mp A2 B2 c X vf gs told T) {st' : Ms} (hM : MacS w0 w' mb (c.msg : Int) st' mv' mp') (g : Goes wr w' mb mv mp mv' mp') : FL w0 W2 w' L sb mb rb rp tv kv qv sv mv' mp' A2 B2 c { X with ms := st' } vf gs told T := by
  obtain ⟨h1, h2⟩ := h.leg.took hM g
  refine ⟨h1, h.goes.trans h2, Cut.own_kept h.frs g.kept (fun j e e2 => h.fn j e (.inr (.inr e2))), fun j e e2 => ?_, Cut.own_kept h.say g.kept (fun j e e2 => (h.tn j e).1 (.inr (.inr e2))), fun j e => ⟨fun e2 => ?_, (h.tn j e).2⟩⟩
  · rcases h2.mine j e2 with e3 | e3
    · exact h.fn j e e3
    · have := frs_lt h.frs e; omega
  · rcases h2.mine j e2 with e3 | e3
    · exact (h.tn j e).1 e3
    · have := evs_lt h.say e; omega
theorem FL.out (h : FL w0 W2 wr L sb mb rb rp tv kv qv sv mv mp A2 B2 c X vf gs told T) {m : Lg} (hA : LegAt w0 w' L sb mb rb rp tv' kv' qv' c m) (g : OGoes wr w' L rb rp tv kv qv tv' kv' qv') (e1 : m.buf = X.buf) (e2 : m.serr = X.serr) (e3 : m.ms = X.ms) : FL w0 W2 w' L sb mb rb rp tv' kv' qv' sv mv mp A2 B2 c m vf gs told T := by
  obtain ⟨h1, h2⟩ := h.leg.out hA g e1 e2 e3
  refine ⟨h1, h.goes.trans h2, Cut.own_kept h.frs g.kept (fun j e e2 => h.fn j e (.inl e2)), fun j e e2 => ?_, Cut.own_kept h.say g.kept (fun j e e2 => (h.tn j e).1 (.inl e2)), fun j e => ⟨fun e2 => ?_, (h.tn j e).2⟩⟩
  · rcases h2.mine j e2 with e3 | e3
    · exact h.fn j e e3
    · have := frs_lt h.frs e; omega
  · rcases h2.mine j e2 with e3 | e3
    · exact (h.tn j e).1 e3
    · have := evs_lt h.say e; omega
theorem FL.add (h : FL w0 W2 wr L sb mb rb rp tv kv qv sv mv mp A2 B2 c X vf gs told T) {x : Value} {ev : Ev} (hx : EvsAt wr x [ev]) (hl : T.length + 1 ≤ 1000000) (hW : W2.heap.size ≤ wr.heap.size) (hW0 : w0.heap.size ≤ W2.heap.size) :
    ∃ v1 w1, (Builtin.append_ #[47, 47] 47 #[told, x]).run Tryz.prog wr = .ok v1 w1 ∧ FL w0 W2 w1 L sb mb rb rp tv kv qv sv mv mp A2 B2 c X vf gs v1 (T ++ [ev]) := by
  obtain ⟨v1, w1, hap, ho, hg, hb⟩ := add_evs h.say hx (by simpa using hl) hW
  have hk : Kept (fun j => told.ownBlock = some j) wr w1 := Kept.grown hg (fun j e => e)
  have hge : ∀ j, told.ownBlock = some j → W2.heap.size ≤ j := fun j e => (h.say.heap e).1
  have hL : Below w0.heap.size w0 w1 := hk.up h.leg.low (fun j e => Nat.le_trans hW0 (hge j e)) h.leg.low.size
  refine ⟨v1, w1, hap, ⟨h.leg.stay hk (fun j e e2 => (h.tn j e2).1 e) hL, h.goes.fresh hk hge, Cut.own_kept h.frs hk (fun j e e2 => (h.tn j e2).2 e), h.fn, ho, fun j e => ?_⟩⟩
  rcases hb with h1 | h1
  · exact h.tn j (h1 ▸ e)
  · rw [h1] at e
    injection e with e
    subst e
    exact ⟨fun e2 => Nat.lt_irrefl _ (h.leg.own e2).2, fun e2 => Nat.lt_irrefl _ (frs_lt h.frs e2)⟩
end
end Go.Proofs.YtlahonjmfecikaaGreatDoor.Leg
set_option maxRecDepth 100000
namespace Go.Proofs.YtlahonjmfecikaaGreatDoor.Leg
open Go.RowKit Stm
open FramePlain (Fr Fr0)
open LegPlain (Cf Lg)
open Msg (Kept MacS Mine)
open LegPlain (Inv Few CfOk Good came evs errs react bound feed fail Reads)
open FramePlain (text size chk form zero4)
open MsgPlain (Ev Ms M0 run Fit)
open StreamPlain (all)
open Evt
open Msg (Goes evO)
theorem errs_of {c : Cf} {l : Lg} {b : List Nat} (h : (came c l b).ms.err = 0) : errs c l b = if (came c l b).ms.over = true then 0 else (came c l b).serr := by
  unfold errs
  rw [if_neg (fun e => e h)]
theorem feed_go {c : Cf} {l : Lg} {b : List Nat} (h1 : l.got = false) (h2 : l.wrong = 0) : feed c l b = (if errs c l b ≠ 0 then fail c ((evs c l b).foldl (react c) (came c l b)) (errs c l b) else (evs c l b).foldl (react c) (came c l b), (evs c l b).filter (fun x => decide (x.op ≠ 9))) := by
  unfold feed
  rw [if_neg (fun e => e.elim (fun e => by rw [h1] at e; cases e) (fun e => e h2))]
theorem FL.poke {w0 W2 wr w' : World} {L sb mb rb rp : Nat} {tv kv qv sv mv mp : Value} {A2 : Nat → Prop} {B2 : Nat} {c : Cf} {X : Lg} {vf : Value} {gs : List Fr} {told : Value} {T : List Ev} (h : FL w0 W2 wr L sb mb rb rp tv kv qv sv mv mp A2 B2 c X vf gs told T) {x : Nat} (hg : wr.grownBy w' (some x)) (h1 : ¬ All L rb rp sb mb tv kv qv sv mv mp x) (h2 : told.ownBlock ≠ some x) (h3 : vf.ownBlock ≠ some x) (h4 : W2.heap.size ≤ x) (hW0 : w0.heap.size ≤ W2.heap.size) : FL w0 W2 w' L sb mb rb rp tv kv qv sv mv mp A2 B2 c X vf gs told T := by
  have hk : Kept (fun j => j = x) wr w' := Kept.grown hg (fun j e => by injection e with e; exact e.symm)
  have hL : Below w0.heap.size w0 w' := hk.up h.leg.low (fun j e => by omega) h.leg.low.size
  exact ⟨h.leg.stay hk (fun j e e2 => h1 (e2 ▸ e)) hL, h.goes.fresh hk (fun j e => by omega), Cut.own_kept h.frs hk (fun j e e2 => h3 (e2 ▸ e)), h.fn, Cut.own_kept h.say hk (fun j e e2 => h2 (e2 ▸ e)), h.tn⟩
theorem take_bad {most : Int} {st st' : Ms} {f : Fr} {x : Option Ev} (h0 : st.err = 0) (h : MsgPlain.take most st f = (st', x)) (he : st'.err ≠ 0) : x = none := by
  cases ho : st.over with
  | true =>
    rw [MsgPlain.take_stop most (.inr ho)] at h
    injection h with h1 h2
    exact h2.symm
  | false =>
    rw [MsgPlain.take_go most h0 ho] at h
    refine Classical.byContradiction fun hx => he ?_
    have := MsgPlain.step_err (most := most) (f := f) h0 (by rw [h]; exact hx)
    rw [h] at this; exact this
theorem take_some {most : Int} {st st' : Ms} {f : Fr} {ev : Ev} (hf : Fit most st) (h0 : st.err = 0) (hs : ∀ y ∈ f.data, y < 256) (h : MsgPlain.take most st f = (st', some ev)) : (ev.op = 9 → ev.data.length ≤ 125) ∧ (∀ y ∈ ev.data, y < 256) ∧ (ev.op = 8 → ev.code = 1005 ∨ ClosePlain.valid ev.code = true) := by
  have ho : st.over = false := by
    cases ho : st.over with
    | false => rfl
    | true =>
      rw [MsgPlain.take_stop most (.inr ho)] at h
      injection h with h1 h2
      cases h2
  rw [MsgPlain.take_go most h0 ho] at h
  have h1 := LegPlain.step_evs most hf hs ev (by rw [h]; simp)
  exact ⟨h1.1, h1.2, LegPlain.step_code most (fun hb => by rcases hf.op hb with e | e <;> omega) f ev (by rw [h])⟩
theorem run_take {most : Int} {gs : List Fr} {i : Nat} {st0 st st' : Ms} {es : List Ev} {x : Option Ev} (hi : i < gs.length) (h : run most st0 (gs.take i) = (st, es)) (hr : MsgPlain.take most st (gs.getD i Fr0) = (st', x)) : run most st0 (gs.take (i + 1)) = (st', es ++ x.toList) := by
  rw [Cut.fr_take gs i hi, MsgPlain.run_append, h]
  simp only [MsgPlain.run_one, hr]
theorem run_rest {most : Int} {gs : List Fr} {i : Nat} {st0 st : Ms} {es : List Ev} (h : run most st0 (gs.take i) = (st, es)) (hx : st.err ≠ 0) : run most st0 gs = (st, es) := by
  have e : gs = gs.take i ++ gs.drop i := (List.take_append_drop i gs).symm
  rw [e, MsgPlain.run_append, h]
  simp only [MsgPlain.run_stop most (.inl hx), List.append_nil]
section
variable {w0 W W' : World} {L sb mb rb rp : Nat} {tv kv qv : Value} {c : Cf} {l : Lg}
variable {sv mv mp : Value}
set_option maxHeartbeats 16000000 in
theorem lfeed_any {k : Nat} (h : LegF w0 W L sb mb rb rp tv kv qv sv mv mp c l) (hg : Mas.Globs w0) (hu : Utf.Globs w0) (hgd : LegPlain.Good c l k) (hk : k ≤ 1000) (hc : CfOk c) (v : Value) (b : List Nat) (hv : SrcAt W v b) (hbs : Small 256 b) (hbl : b.length ≤ 30000) :
    Calls Tryz.prog 20 #[.pointer (some ⟨L, 0, none⟩), v] W fun e w' => ∃ tv' kv' qv' sv' mv' mp' rv, e = .returned rv ∧ Sl (OwnE w' W.heap.size rv (feed c l b).2) ∧ Sl (LegF w0 w' L sb mb rb rp tv' kv' qv' sv' mv' mp' c (feed c l b).1) ∧ Sl (FGoes W w' (All L rb rp sb mb tv kv qv sv mv mp) (All L rb rp sb mb tv' kv' qv' sv' mv' mp')) ∧ Sl (∀ j, rv.ownBlock = some j → ¬ All L rb rp sb mb tv' kv' qv' sv' mv' mp' j) := by
  obtain ⟨a, cap, rfl⟩ : ∃ a cap, v = .slice a b.length cap := by
    obtain ⟨a, cap, _, _, e, _⟩ := hv
    exact ⟨a, cap, e⟩
  obtain ⟨bl, hbl2⟩ : ∃ n, b.length = n := ⟨_, rfl⟩
  rw [hbl2] at hv ⊢
  have GT := got_any h.A h.M
  have H := Sl.mk h
  rcases hgd.cases with hst | ⟨hg0, hw0, hrd⟩
  · have hres : feed c l b = (l, []) := LegPlain.feed_stop b hst
    rw [hres]
    have HN : Sl (OwnE W W.heap.size (.slice none 0 0) []) := ⟨ownE_nil _ _⟩
    obtain ⟨-, -, -, -, -, -, -, -, -, -, c10, -⟩ := h.A.cells
    cases ho : l.ms.over with
    | true =>
      rw [ho] at GT
      clear h hg hu hgd hk hc hv hbs hbl hbl2 hst hres ho c10
      go_enter Tryz.func20, Tryz.ntmps20
      go_wp2_with fail
      refine GT.mono ?_
      rintro e w1 ⟨rfl, rfl⟩
      clear GT
      go_wp2
      go_ret
      exact ⟨_, _, _, _, _, _, _, rfl, HN, H, ⟨FGoes.refl _ _⟩, ⟨fun j e => by cases e⟩⟩
    | false =>
      rw [ho] at GT
      have hwr : l.wrong ≠ 0 := by
        rcases hst with e | e
        · rw [hgd.gm, ho] at e; cases e
        · exact e
      have hq : (((l.wrong : Nat) : Int) != 0) = true := by simpa using hwr
      clear h hg hu hgd hk hc hv hbs hbl hbl2 hst hres ho hwr
      go_enter Tryz.func20, Tryz.ntmps20
      go_wp2_with fail
      refine GT.mono ?_
      rintro e w1 ⟨rfl, rfl⟩
      clear GT
      go_wp2
      go_ret
      exact ⟨_, _, _, _, _, _, _, rfl, HN, H, ⟨FGoes.refl _ _⟩, ⟨fun j e => by cases e⟩⟩
  · have hov : l.ms.over = false := hrd.over
    rw [hov] at GT
    have hserr := hrd.serr
    obtain ⟨gs, e0, lf, hall⟩ : ∃ gs e lf, all (l.buf ++ b) c.masked (bound c : Int) = (gs, e, lf) := ⟨_, _, _, rfl⟩
    have hbuf := (LegPlain.Reads.kept hrd).buf
    have hbd : bound c ≤ 65536 := by unfold LegPlain.bound; have := hc.m2; omega
    have hs0 : StrmAt w0 W sb c.masked (bound c : Int) l.buf 0 sv := by have := h.S; rw [hserr] at this; exact this
    have FD := Stm.feed_any hs0 hg a bl cap b hv hrd.small hbs (by omega) (by omega) gs e0 lf hall
    have hsm : Small 256 (l.buf ++ b) := Small.append (show Small 256 l.buf from hrd.small) hbs
    obtain ⟨hfr, -, hgl⟩ := StreamPlain.all_frs c.masked (bound c : Int) _ (l.buf ++ b) (Nat.le_refl _) hsm
    rw [hall] at hfr hgl
    simp only at hfr hgl
    rw [List.length_append] at hgl
    have HOK : Sl (∀ f ∈ gs, FrOk f) := ⟨fun f hf => by
      obtain ⟨a1, a2, a3, a4, a5⟩ := hfr f hf
      have := FramePlain.form_cases a1
      exact ⟨a2, a3, a4, by unfold maxLen; omega, by rcases this.1 with e | e <;> omega⟩⟩
    have HDL : Sl (∀ f ∈ gs, f.data.length ≤ 65536) := ⟨fun f hf => by have := (hfr f hf).2.2.2.2; omega⟩
    obtain ⟨n, hn⟩ : ∃ n, gs.length = n := ⟨_, rfl⟩
    rw [hn] at hgl
    have HNL : Sl (n ≤ 100000) := ⟨by omega⟩
    have HN := Sl.mk hn
    have hbu : (came c l b).buf = (l.buf ++ b).drop ((l.buf ++ b).length - lf) := by
      unfold LegPlain.came
      rw [hall]
      simp only
      by_cases h0 : e0 = 0
      · rw [if_pos h0]
      · rw [if_neg h0]
        have := StreamPlain.all_zero c.masked (bound c : Int) _ (l.buf ++ b) (Nat.le_refl _) hsm (by rw [hall]; exact h0)
        rw [hall] at this
        have this : lf = 0 := this
        rw [this, Nat.sub_zero, List.drop_length]
    have hse : (came c l b).serr = e0 := by unfold LegPlain.came; rw [hall]
    have hev : evs c l b = (run (c.msg : Int) l.ms gs).2 := by unfold LegPlain.evs; rw [hall]
    have hms : (came c l b).ms = (run (c.msg : Int) l.ms gs).1 := by unfold LegPlain.came; rw [hall]
    have HRES := Sl.mk (feed_go (c := c) (b := b) hg0 hw0)
    have HEV := Sl.mk hev
    have HMS := Sl.mk hms
    have HSE := Sl.mk hse
    have HBU := Sl.mk hbu
    have HFW : Sl (Few c (came c l b) k) := ⟨LegPlain.few_in hgd.few (LegPlain.ok_in hgd.few.ok ⟨rfl, rfl, rfl, rfl, rfl, rfl, rfl, rfl, rfl⟩) ⟨rfl, rfl, rfl, rfl⟩⟩
    have HFIT := Sl.mk hrd.fit
    have HE0 := Sl.mk (And.intro hrd.err hov)
    have HP : Sl (Mas.Globs w0 ∧ Utf.Globs w0 ∧ k ≤ 1000 ∧ CfOk c) := ⟨hg, hu, hk, hc⟩
    have HFITA : Sl (Fit (c.msg : Int) (run (c.msg : Int) l.ms gs).1) := ⟨MsgPlain.fit_run (by omega) gs hrd.fit (fun f hf => (hfr f hf).2.2.2.1)⟩
    obtain ⟨-, -, -, -, -, -, -, -, -, -, c10, -⟩ := h.A.cells
    have hq0 : (((l.wrong : Nat) : Int) != 0) = false := by rw [hw0]; rfl
    have HOWN : Sl (∀ j, (All L rb rp sb mb tv kv qv sv mv mp) j → j < W.heap.size) := ⟨fun j e => (h.own e).2⟩
    obtain ⟨-, -, c2, -⟩ := h.A.cells
    clear h hg hu hgd hk hc hv hbs hbl hbl2 hg0 hw0 hrd hov hserr hall hbuf hbd hs0 hsm hfr hgl hn hbu hse hev hms
    go_enter Tryz.func20, Tryz.ntmps20
    go_wp2_with fail
    refine GT.mono ?_
    rintro e w1 ⟨rfl, rfl⟩
    clear GT
    go_wp2_with fail
    refine FD.mono ?_
    rintro e w2 ⟨vf, sv2, rfl, HFR, HST, HTW, HSV⟩
    clear FD c10 hq0 c2
    obtain ⟨gsa, gca, hvf⟩ : ∃ a c, vf = .slice a n c := by obtain ⟨a, c, e⟩ := HFR.out.slice; rw [HN.out] at e; exact ⟨a, c, e⟩
    subst hvf
    obtain ⟨hlf, hgo⟩ := H.out.fed (m := { came c l b with ms := l.ms }) (by
      show StrmAt w0 w2 sb c.masked (bound c : Int) (came c l b).buf (came c l b).serr sv2
      rw [HBU.out, HSE.out]; exact HST.out) HTW.out HSV.out rfl rfl rfl rfl rfl rfl rfl rfl
    have hsz := hgo.kept.size
    have HF0 : Sl (FL w0 w2 w2 L sb mb rb rp tv kv qv sv2 mv mp (All L rb rp sb mb tv kv qv sv2 mv mp) W.heap.size c { came c l b with ms := l.ms } (.slice gsa n gca) gs (.slice none 0 0) []) := ⟨⟨hlf, FGoes.refl _ _, HFR.out, fun j e e2 => by
      have hj := (Cut.own_heap HFR.out e)
      rcases e2 with e2 | (e2 | e2) | e2
      · have := HOWN.out j (.inl e2); omega
      · have := HOWN.out j (.inr (.inl (.inl e2))); omega
      · obtain ⟨-, cs, hcs⟩ := hj
        exact Msg.own_kind HST.out.O hcs (by decide) e2
      · have := HOWN.out j (.inr (.inr e2)); omega, ownE_nil _ _, fun j e => by cases e⟩⟩
    have HG1 := Sl.mk hgo
    have HSZ := Sl.mk (And.intro hsz H.out.low.size)
    clear HFR HST HTW HSV hlf hgo hsz H HBU
    go_wp2
    go_loopw [6, 7, 33] (fun u6 u7 u33 wr => ∃ (i : Nat) (t1 k1 q1 m1 p1 : Value) (ta : Option Addr) (tn tc : Nat) (st : Ms) (es : List Ev), u6 = .int .i64 (e0 : Int) ∧ u7 = .slice ta tn tc ∧ u33 = .int .i64 (i : Int) ∧ i ≤ n ∧ es.length ≤ i ∧ Sl (run (c.msg : Int) l.ms (gs.take i) = (st, es)) ∧ Sl (st.err = 0 ∧ Fit (c.msg : Int) st) ∧ Sl (Few c (es.foldl (react c) (came c l b)) k) ∧
      Sl (FL w0 w2 wr L sb mb rb rp t1 k1 q1 sv2 m1 p1 (All L rb rp sb mb tv kv qv sv2 mv mp) W.heap.size c { es.foldl (react c) (came c l b) with ms := st } (.slice gsa n gca) gs (.slice ta tn tc) (es.filter (fun x => decide (x.op ≠ 9))))) (fun _ _ u33 _ => n - (intOf u33).toNat)
    case atStart => exact ⟨0, _, _, _, _, _, _, _, _, l.ms, [], rfl, rfl, rfl, Nat.zero_le _, Nat.le_refl _, ⟨rfl⟩, ⟨HE0.out.1, HFIT.out⟩, HFW, HF0⟩
    case round =>
      obtain ⟨i, t1, k1, q1, m1, p1, ta, tn, tc, st, es, rfl, rfl, rfl, hi, hel, HRUN, HERR, HFEW, HFL⟩ := hrel
      clear HF0
      have HEL := Sl.mk hel
      clear hel
      by_cases hin : i < n
      · have hlt : ((i : Int) < (n : Int)) = True := eq_true (by omega)
        have HIN := Sl.mk hin
        obtain ⟨sbk, so, rfl⟩ := HFL.out.frs.frs.cap.2 (by omega)
        obtain ⟨fin, op, m, ka, kb, kc, kd, s, hf, hcv, hks, hmem⟩ := Cut.fr_at HOK.out i (by rw [HN.out]; exact hin)
        obtain ⟨a0, a1, a2, a3, a4, a5, a6, a7⟩ := HFL.out.frs.frs.at8 i (by rw [HN.out]; exact hin) hcv
        have HSS : Sl (s.size ≤ 100000) := ⟨by
          have h := HDL.out _ hmem
          rw [hf] at h
          have h2 : (bytes s).length ≤ 65536 := h
          rw [bytes_length] at h2
          omega⟩
        have HF := Sl.mk hf
        have HKS := Sl.mk hks
        clear hcv hmem hf hks hi hin
        obtain ⟨w6, hw6, HB6, HF6⟩ := Cut.laid_fv wr #[.bool fin, .int .i64 op, .bool m, .int .u8 ((ka : Nat) : Int), .int .u8 ((kb : Nat) : Int), .int .u8 ((kc : Nat) : Int), .int .u8 ((kd : Nat) : Int), .string s]
        have HIB : (Tryz.prog.info? 61).map (·.size) = some (#[.bool fin, .int .i64 op, .bool m, .int .u8 ((ka : Nat) : Int), .int .u8 ((kb : Nat) : Int), .int .u8 ((kc : Nat) : Int), .int .u8 ((kd : Nat) : Int), .string s] : Array Value).size := Fra.box_size _ _ _ _ _ _ _ _
        go_upto_region 8 with (refine wpList_store_row rfl 61 (.tmp 9) (.tmp 36) rfl wr.heap.size #[.bool fin, .int .i64 op, .bool m, .int .u8 ((ka : Nat) : Int), .int .u8 ((kb : Nat) : Int), .int .u8 ((kc : Nat) : Int), .int .u8 ((kd : Nat) : Int), .string s] rfl rfl 61 #[.bool false, .int .i64 0, .bool false, .int .u8 0, .int .u8 0, .int .u8 0, .int .u8 0, .string { data := #[] }] (Fra.bx_new wr _) HIB rfl (Fra.fr_all _ _ _ _ _ _ _ _) ?_)
        (try rw [hw6])
        clear hw6 HIB a0 a1 a2 a3 a4 a5 a6 a7
        have HFX := Sl.mk (HFL.out.below HB6.out)
        have HMB : Sl (∀ j, Mine mb m1 p1 j → j < wr.heap.size ∧ j ≠ L) := ⟨fun j e => ⟨(HFL.out.leg.M.m.own e).2, fun e2 => (HFL.out.leg.ap L (.inl rfl)).2.2 (e2 ▸ e)⟩⟩
        have HSZW : Sl (w2.heap.size ≤ wr.heap.size) := ⟨HFL.out.goes.kept.size⟩
        clear HFL HB6
        obtain ⟨st', x, hr⟩ : ∃ st' x, MsgPlain.take (c.msg : Int) st (⟨fin, op, m, [ka, kb, kc, kd], bytes s⟩ : Fr) = (st', x) := ⟨_, _, rfl⟩
        have HR := Sl.mk hr
        obtain ⟨oo, cc, tt, hxo⟩ := Msg.evO_any x
        obtain ⟨dd, hdd⟩ : ∃ d, x.isSome = d := ⟨_, rfl⟩
        obtain ⟨kk, hkk⟩ : ∃ k, (st'.err : Int) = k := ⟨_, rfl⟩
        have TK : Sl (∀ V, Below w6.heap.size w6 V → Calls Tryz.prog 52 #[.pointer (some ⟨mb, 0, none⟩), (.agg #[.bool fin, .int .i64 op, .bool m, .int .u8 ((ka : Nat) : Int), .int .u8 ((kb : Nat) : Int), .int .u8 ((kc : Nat) : Int), .int .u8 ((kd : Nat) : Int), .string s])] V fun e w' => ∃ v' p', e = .returned (.tuple #[.agg #[.int .i64 oo, .int .i64 cc, .string tt], .bool dd, .int .i64 kk]) ∧ Sl (FL w0 w2 w' L sb mb rb rp t1 k1 q1 sv2 v' p' (All L rb rp sb mb tv kv qv sv2 mv mp) W.heap.size c { es.foldl (react c) (came c l b) with ms := st' } (.slice (some ⟨sbk, so, none⟩) n gca) gs (.slice ta tn tc) (es.filter (fun x => decide (x.op ≠ 9)))) ∧ Sl (Goes V w' mb m1 p1 v' p')) := ⟨fun V hV =>
          (Msg.take_ex (HFX.out.below hV).leg.M HP.out.2.1 fin op m ka kb kc kd s HKS.out HSS.out _ rfl st' x hr oo cc tt hxo dd hdd kk hkk).mono fun _ _ ⟨v', p', h1, h2, h3⟩ => ⟨v', p', h1, ⟨(HFX.out.below hV).took h2.out h3.out⟩, h3⟩⟩
        have HXO := Sl.mk hxo
        have HDD := Sl.mk hdd
        have HKK := Sl.mk hkk
        clear hr hxo hdd hkk
        obtain ⟨-, -, -, c3, -⟩ := HFX.out.leg.A.cells
        have hlt6 := HFX.out.leg.A.lt
        have hq6 : wr.heap.size < w6.heap.size := (Array.getElem?_eq_some_iff.1 HF6.out).1
        obtain ⟨q9, hq9⟩ : ∃ q, wr.heap.size = q := ⟨_, rfl⟩
        rw [hq9] at HF6 hq6 ⊢
        go_frame
        go_cut [10, 11, 12] (fun s10 s11 s12 wx => ∃ (x0 : Nat) (m2 p2 : Value), s10 = .pointer (some ⟨x0, 0, none⟩) ∧ s11 = .bool dd ∧ s12 = .int .i64 kk ∧ Sl (wx.heap[x0]? = some (.cells #[.int .i64 oo, .int .i64 cc, .string tt] 52 (0, 0))) ∧
          Sl (FL w0 w2 wx L sb mb rb rp t1 k1 q1 sv2 m2 p2 (All L rb rp sb mb tv kv qv sv2 mv mp) W.heap.size c { es.foldl (react c) (came c l b) with ms := st' } (.slice (some ⟨sbk, so, none⟩) n gca) gs (.slice ta tn tc) (es.filter (fun x => decide (x.op ≠ 9)))) ∧ Sl (¬ (All L rb rp sb mb t1 k1 q1 sv2 m2 p2) x0))
        case first =>
          obtain ⟨Rw, hRw⟩ : ∃ R, w6.drew = R := ⟨_, rfl⟩
          have HBR : Below w6.heap.size w6 Rw := by rw [← hRw]; exact (Below.refl _ _).drew
          refine wp_region_noPanic ?_
          refine wp_region_held (S := fun V => V.cell? ⟨L, 3, none⟩ = some (.pointer (some ⟨mb, 0, none⟩)) ∧ V.heap[q9]? = some (.cells #[.bool fin, .int .i64 op, .bool m, .int .u8 ((ka : Nat) : Int), .int .u8 ((kb : Nat) : Int), .int .u8 ((kc : Nat) : Int), .int .u8 ((kd : Nat) : Int), .string s] 61 (0, 0))) (by kernel_rfl) ?_
          change wpAnyH _ _ _ _ _ _ _ _ w6.drew
          rw [hRw]
          clear hRw
          have HS0 : Rw.cell? ⟨L, 3, none⟩ = some (.pointer (some ⟨mb, 0, none⟩)) ∧ Rw.heap[q9]? = some (.cells #[.bool fin, .int .i64 op, .bool m, .int .u8 ((ka : Nat) : Int), .int .u8 ((kb : Nat) : Int), .int .u8 ((kc : Nat) : Int), .int .u8 ((kd : Nat) : Int), .string s] 61 (0, 0)) := ⟨(HBR.cell (p := ⟨L, 3, none⟩) hlt6).trans c3, below_key HF6.out HBR⟩
          refine heldTake (d := some 38) (op := .move (Operand.tmp 0)) (g := none) 0 ?v0 rfl (by kernel_rfl) (by kernel_rfl) (by kernel_rfl) (by kernel_rfl) ?y0 HS0 ?_
          case y0 => intro o' ho W hS; simp only [execOp, ho]; go_simp; try rfl
          simp only [Act.put, List.setIfInBounds_toArray, List.set_cons_zero, List.set_cons_succ]
          refine heldTake (d := some 39) (op := .nilCheck (Operand.tmp 38)) (g := none) 1 ?v1 rfl (by kernel_rfl) (by kernel_rfl) (by kernel_rfl) (by kernel_rfl) ?y1 HS0 ?_
          case y1 => intro o' ho W hS; simp only [execOp, ho]; go_simp; try rfl
          simp only [Act.put, List.setIfInBounds_toArray, List.set_cons_zero, List.set_cons_succ]
          refine heldTake (d := some 40) (op := .fieldAddr 80 (Operand.tmp 39) 3) (g := none) 2 ?v2 rfl (by kernel_rfl) (by kernel_rfl) (by kernel_rfl) (by kernel_rfl) ?y2 HS0 ?_
          case y2 => intro o' ho W hS; simp only [execOp, ho]; go_simp; try rfl
          simp only [Act.put, List.setIfInBounds_toArray, List.set_cons_zero, List.set_cons_succ]
          refine heldTake (d := some 41) (op := .load 78 (Operand.tmp 40)) (g := none) 3 ?v3 rfl (by kernel_rfl) (by kernel_rfl) (by kernel_rfl) (by kernel_rfl) ?y3 HS0 ?_
          case y3 => intro o' ho W hS; have d3 := hS.1; simp only [execOp, ho]; go_simp; try rfl
          simp only [Act.put, List.setIfInBounds_toArray, List.set_cons_zero, List.set_cons_succ]
          refine heldTake (d := some 42) (op := .load 61 (Operand.tmp 9)) (g := none) 4 ((.agg #[.bool fin, .int .i64 op, .bool m, .int .u8 ((ka : Nat) : Int), .int .u8 ((kb : Nat) : Int), .int .u8 ((kc : Nat) : Int), .int .u8 ((kd : Nat) : Int), .string s])) rfl (by kernel_rfl) (by kernel_rfl) (by kernel_rfl) (by kernel_rfl) ?y4 HS0 ?_
          case y4 => intro o' ho W hS; exact Fra.loadbox ho (by rfl) hS.2
          simp only [Act.put, List.setIfInBounds_toArray, List.set_cons_zero, List.set_cons_succ]
          obtain ⟨A1, hA1⟩ : ∃ V, Rw.alloc (.cells #[.int .i64 0, .int .i64 0, .string { data := #[] }] 52) = V := ⟨_, rfl⟩
          have HBA : Below Rw.heap.size Rw A1 := by rw [← hA1]; exact (Below.refl _ _).alloc (Nat.le_refl _) _
          have HA1 : A1.heap[Rw.heap.size]? = some (.cells #[.int .i64 0, .int .i64 0, .string { data := #[] }] 52 (0, 0)) := by rw [← hA1]; exact alloc_new _ _ _ rfl
          have HSA : A1.cell? ⟨L, 3, none⟩ = some (.pointer (some ⟨mb, 0, none⟩)) ∧ A1.heap[q9]? = some (.cells #[.bool fin, .int .i64 op, .bool m, .int .u8 ((ka : Nat) : Int), .int .u8 ((kb : Nat) : Int), .int .u8 ((kc : Nat) : Int), .int .u8 ((kd : Nat) : Int), .string s] 61 (0, 0)) := ⟨(HBA.cell (p := ⟨L, 3, none⟩) (Nat.lt_of_lt_of_le hlt6 HBR.size)).trans HS0.1, below_key HS0.2 HBA⟩
          have KEEP : ∀ V w' v' p', Below w6.heap.size w6 V → Goes V w' mb m1 p1 v' p' → (∀ y o, w6.heap.size ≤ y ∨ y = q9 ∨ y = L → V.heap[y]? = some o → w'.heap[y]? = some o) := fun V w' v' p' hV g y o hy he => by
            rw [g.kept.block y (Array.getElem?_eq_some_iff.1 he).1 (fun e => by
              have := HMB.out y e
              omega)]
            exact he
          refine Fra.heldCA2 (di := some 10) (dj := some 43) (opi := .alloc 52) (opj := .call { callee := Callee.value (Operand.func 52), args := #[Operand.tmp 41, Operand.tmp 42], argTypes := #[78, 61] }) (ti := 0) (tj := 99) 10 5 (.pointer (some ⟨Rw.heap.size, 0, none⟩)) A1 52 #[.pointer (some ⟨mb, 0, none⟩), (.agg #[.bool fin, .int .i64 op, .bool m, .int .u8 ((ka : Nat) : Int), .int .u8 ((kb : Nat) : Int), .int .u8 ((kc : Nat) : Int), .int .u8 ((kd : Nat) : Int), .string s])] rfl rfl (by kernel_rfl) ?p3 ?q3 HSA ?l3 ?r3
          case p3 => intro o' ho ht; simp only [execOp, ho]; go_simp; first | done | (rw [hA1]; done) | rfl
          case q3 => intro o' ho ht; simp only [execOp, ho]; go_simp; try rfl
          case l3 =>
            simp only [Act.put, List.setIfInBounds_toArray, List.set_cons_zero, List.set_cons_succ]
            refine heldCall (d := some 43) (op := .call { callee := Callee.value (Operand.func 52), args := #[Operand.tmp 41, Operand.tmp 42], argTypes := #[78, 61] }) (g := none) 5 52 #[.pointer (some ⟨mb, 0, none⟩), (.agg #[.bool fin, .int .i64 op, .bool m, .int .u8 ((ka : Nat) : Int), .int .u8 ((kb : Nat) : Int), .int .u8 ((kc : Nat) : Int), .int .u8 ((kd : Nat) : Int), .string s])] rfl (by kernel_rfl) (by kernel_rfl) ?y5l ?_
            case y5l => intro o' ho; simp only [execOp, ho]; go_simp; try rfl
            refine (TK.out A1 (HBR.trans (HBA.mono HBR.size))).mono ?_
            rintro e w7 ⟨v7, p7, rfl, HF7, HG7⟩
            have HX7 := KEEP A1 w7 v7 p7 (HBR.trans (HBA.mono HBR.size)) HG7.out Rw.heap.size _ (.inl HBR.size) HA1
            have HQ7 := KEEP A1 w7 v7 p7 (HBR.trans (HBA.mono HBR.size)) HG7.out q9 _ (.inr (.inl rfl)) HSA.2
            have HS7 : w7.cell? ⟨L, 3, none⟩ = some (.pointer (some ⟨mb, 0, none⟩)) ∧ w7.heap[q9]? = some (.cells #[.bool fin, .int .i64 op, .bool m, .int .u8 ((ka : Nat) : Int), .int .u8 ((kb : Nat) : Int), .int .u8 ((kc : Nat) : Int), .int .u8 ((kd : Nat) : Int), .string s] 61 (0, 0)) := ⟨HF7.out.leg.A.cells.2.2.2.1, HQ7⟩
            refine ⟨_, rfl, HS7, ?_⟩
            simp only [Act.put, List.setIfInBounds_toArray, List.set_cons_zero, List.set_cons_succ]
            have HN0 : ¬ (All L rb rp sb mb t1 k1 q1 sv2 v7 p7) Rw.heap.size := fun e => by
              have hA6 : ∀ j, (All L rb rp sb mb t1 k1 q1 sv2 m1 p1) j → j < w6.heap.size := fun j e => (HFX.out.leg.own e).2
              have hsz1 := HBR.size
              rcases e with e | e | e
              · have := hA6 _ (.inl e); omega
              · have := hA6 _ (.inr (.inl e)); omega
              · rcases HG7.out.mine _ e with e2 | e2
                · have := hA6 _ (.inr (.inr e2)); omega
                · have : A1.heap.size = Rw.heap.size + 1 := by rw [← hA1, alloc_size]
                  omega
            refine heldTake (d := some 37) (op := .move (Operand.tmp 43)) (g := none) 6 ?v6tl rfl (by kernel_rfl) (by kernel_rfl) (by kernel_rfl) (by kernel_rfl) ?y6tl HS7 ?_
            case y6tl => intro o' ho W hS; simp only [execOp, ho]; go_simp; try rfl
            simp only [Act.put, List.setIfInBounds_toArray, List.set_cons_zero, List.set_cons_succ]
            refine heldTake (d := some 44) (op := .extract (Operand.tmp 37) 0) (g := none) 7 ?v7tl rfl (by kernel_rfl) (by kernel_rfl) (by kernel_rfl) (by kernel_rfl) ?y7tl HS7 ?_
            case y7tl => intro o' ho W hS; simp only [execOp, ho]; go_simp; try rfl
            simp only [Act.put, List.setIfInBounds_toArray, List.set_cons_zero, List.set_cons_succ]
            refine heldTake (d := some 45) (op := .extract (Operand.tmp 37) 1) (g := none) 8 ?v8tl rfl (by kernel_rfl) (by kernel_rfl) (by kernel_rfl) (by kernel_rfl) ?y8tl HS7 ?_
            case y8tl => intro o' ho W hS; simp only [execOp, ho]; go_simp; try rfl
            simp only [Act.put, List.setIfInBounds_toArray, List.set_cons_zero, List.set_cons_succ]
            refine heldTake (d := some 46) (op := .extract (Operand.tmp 37) 2) (g := none) 9 ?v9tl rfl (by kernel_rfl) (by kernel_rfl) (by kernel_rfl) (by kernel_rfl) ?y9tl HS7 ?_
            case y9tl => intro o' ho W hS; simp only [execOp, ho]; go_simp; try rfl
            simp only [Act.put, List.setIfInBounds_toArray, List.set_cons_zero, List.set_cons_succ]
            obtain ⟨Z, hZ⟩ : ∃ V, w7.setRow Rw.heap.size #[.int .i64 oo, .int .i64 cc, .string tt] = V := ⟨_, rfl⟩
            have HGZ : w7.grownBy Z (some Rw.heap.size) := by rw [← hZ]; exact grown_setRow _ _ _
            have HXZ : Z.heap[Rw.heap.size]? = some (.cells #[.int .i64 oo, .int .i64 cc, .string tt] 52 (0, 0)) := by rw [← hZ]; exact setRow_heap _ _ _ _ _ _ HX7
            have HFZ := (HF7.out.poke HGZ HN0 (fun e => by have := evs_lt HFX.out.say e; have := HBR.size; omega) (fun e => by have := frs_lt HFX.out.frs e; have := HBR.size; omega) (by have := HSZW.out; have := HBR.size; omega) (Nat.le_trans HSZ.out.2 HSZ.out.1))
            have HSZ2 : Z.cell? ⟨L, 3, none⟩ = some (.pointer (some ⟨mb, 0, none⟩)) ∧ Z.heap[q9]? = some (.cells #[.bool fin, .int .i64 op, .bool m, .int .u8 ((ka : Nat) : Int), .int .u8 ((kb : Nat) : Int), .int .u8 ((kc : Nat) : Int), .int .u8 ((kd : Nat) : Int), .string s] 61 (0, 0)) := ⟨HFZ.leg.A.cells.2.2.2.1, by
              rw [HGZ.block q9 (Array.getElem?_eq_some_iff.1 HS7.2).1 (fun e => by injection e with e; have := HBR.size; omega)]; exact HS7.2⟩
            refine heldStore (d := none) (op := .store 52 (Operand.tmp 10) (Operand.tmp 44)) (g := none) (t := 0) 11 Z rfl (by kernel_rfl) (by kernel_rfl) ?ystl HSZ2 ?_
            case ystl => intro o' ho ht; rw [← hZ]; exact Msg.store_ev ho rfl rfl HX7 rfl (Msg.ev_info rfl) (Msg.ev_all _ _ _)
            simp only [Act.put]
            refine heldTake (d := some 11) (op := .assign (Operand.tmp 45)) (g := none) 12 ?v12tl rfl (by kernel_rfl) (by kernel_rfl) (by kernel_rfl) (by kernel_rfl) ?y12tl HSZ2 ?_
            case y12tl => intro o' ho W hS; simp only [execOp, ho]; go_simp; try rfl
            simp only [Act.put, List.setIfInBounds_toArray, List.set_cons_zero, List.set_cons_succ]
            refine heldTake (d := some 12) (op := .assign (Operand.tmp 46)) (g := none) 13 ?v13tl rfl (by kernel_rfl) (by kernel_rfl) (by kernel_rfl) (by kernel_rfl) ?y13tl HSZ2 ?_
            case y13tl => intro o' ho W hS; simp only [execOp, ho]; go_simp; try rfl
            simp only [Act.put, List.setIfInBounds_toArray, List.set_cons_zero, List.set_cons_succ]
            refine wpAnyH_done (by kernel_rfl) ?_ _
            refine NoPanic.normal ?_
            (try go_wp2_with fail)
            go_meet
            exact ⟨_, v7, p7, rfl, rfl, rfl, ⟨HXZ⟩, ⟨HFZ⟩, ⟨HN0⟩⟩
          case r3 =>
            refine (TK.out Rw HBR).mono ?_
            rintro e w7 ⟨v7, p7, rfl, HF7, HG7⟩
            have HQ7 := KEEP Rw w7 v7 p7 HBR HG7.out q9 _ (.inr (.inl rfl)) HS0.2
            have HS7 : w7.cell? ⟨L, 3, none⟩ = some (.pointer (some ⟨mb, 0, none⟩)) ∧ w7.heap[q9]? = some (.cells #[.bool fin, .int .i64 op, .bool m, .int .u8 ((ka : Nat) : Int), .int .u8 ((kb : Nat) : Int), .int .u8 ((kc : Nat) : Int), .int .u8 ((kd : Nat) : Int), .string s] 61 (0, 0)) := ⟨HF7.out.leg.A.cells.2.2.2.1, HQ7⟩
            obtain ⟨A2', hA2⟩ : ∃ V, w7.alloc (.cells #[.int .i64 0, .int .i64 0, .string { data := #[] }] 52) = V := ⟨_, rfl⟩
            have HBA2 : Below w7.heap.size w7 A2' := by rw [← hA2]; exact (Below.refl _ _).alloc (Nat.le_refl _) _
            have HA2 : A2'.heap[w7.heap.size]? = some (.cells #[.int .i64 0, .int .i64 0, .string { data := #[] }] 52 (0, 0)) := by rw [← hA2]; exact alloc_new _ _ _ rfl
            have HSA2 : A2'.cell? ⟨L, 3, none⟩ = some (.pointer (some ⟨mb, 0, none⟩)) ∧ A2'.heap[q9]? = some (.cells #[.bool fin, .int .i64 op, .bool m, .int .u8 ((ka : Nat) : Int), .int .u8 ((kb : Nat) : Int), .int .u8 ((kc : Nat) : Int), .int .u8 ((kd : Nat) : Int), .string s] 61 (0, 0)) := ⟨(HF7.out.below HBA2).leg.A.cells.2.2.2.1, below_key HS7.2 HBA2⟩
            have hq97 : q9 < w7.heap.size := (Array.getElem?_eq_some_iff.1 HS7.2).1
            refine ⟨_, rfl, HS7, ?_⟩
            simp only [Act.put, List.setIfInBounds_toArray, List.set_cons_zero, List.set_cons_succ]
            refine heldTake (d := some 37) (op := .move (Operand.tmp 43)) (g := none) 6 ?v6rr rfl (by kernel_rfl) (by kernel_rfl) (by kernel_rfl) (by kernel_rfl) ?y6rr HS7 ?_
            case y6rr => intro o' ho W hS; simp only [execOp, ho]; go_simp; try rfl
            simp only [Act.put, List.setIfInBounds_toArray, List.set_cons_zero, List.set_cons_succ]
            refine heldTake (d := some 44) (op := .extract (Operand.tmp 37) 0) (g := none) 7 ?v7rr rfl (by kernel_rfl) (by kernel_rfl) (by kernel_rfl) (by kernel_rfl) ?y7rr HS7 ?_
            case y7rr => intro o' ho W hS; simp only [execOp, ho]; go_simp; try rfl
            simp only [Act.put, List.setIfInBounds_toArray, List.set_cons_zero, List.set_cons_succ]
            refine heldTake (d := some 45) (op := .extract (Operand.tmp 37) 1) (g := none) 8 ?v8rr rfl (by kernel_rfl) (by kernel_rfl) (by kernel_rfl) (by kernel_rfl) ?y8rr HS7 ?_
            case y8rr => intro o' ho W hS; simp only [execOp, ho]; go_simp; try rfl
            simp only [Act.put, List.setIfInBounds_toArray, List.set_cons_zero, List.set_cons_succ]
            refine heldTake (d := some 46) (op := .extract (Operand.tmp 37) 2) (g := none) 9 ?v9rr rfl (by kernel_rfl) (by kernel_rfl) (by kernel_rfl) (by kernel_rfl) ?y9rr HS7 ?_
            case y9rr => intro o' ho W hS; simp only [execOp, ho]; go_simp; try rfl
            simp only [Act.put, List.setIfInBounds_toArray, List.set_cons_zero, List.set_cons_succ]
            refine heldRunT (d := some 10) (op := .alloc 52) (g := none) (t := 0) 10 (.pointer (some ⟨w7.heap.size, 0, none⟩)) A2' rfl (by kernel_rfl) (by kernel_rfl) ?y10rr HSA2 ?_
            case y10rr => intro o' ho _; simp only [execOp, ho]; go_simp; first | done | (rw [hA2]; done) | rfl
            simp only [Act.put, List.setIfInBounds_toArray, List.set_cons_zero, List.set_cons_succ]
            have HN0 : ¬ (All L rb rp sb mb t1 k1 q1 sv2 v7 p7) w7.heap.size := fun e => Nat.lt_irrefl _ (HF7.out.leg.own e).2
            obtain ⟨Z, hZ⟩ : ∃ V, A2'.setRow w7.heap.size #[.int .i64 oo, .int .i64 cc, .string tt] = V := ⟨_, rfl⟩
            have HGZ : A2'.grownBy Z (some w7.heap.size) := by rw [← hZ]; exact grown_setRow _ _ _
            have HXZ : Z.heap[w7.heap.size]? = some (.cells #[.int .i64 oo, .int .i64 cc, .string tt] 52 (0, 0)) := by rw [← hZ]; exact setRow_heap _ _ _ _ _ _ HA2
            have HFZ := (HF7.out.below (HBA2.trans (show Below w7.heap.size A2' Z from by rw [← hZ]; exact below_setRow (Below.refl _ _) (Nat.le_refl _) _)))
            have HSZ2 : Z.cell? ⟨L, 3, none⟩ = some (.pointer (some ⟨mb, 0, none⟩)) ∧ Z.heap[q9]? = some (.cells #[.bool fin, .int .i64 op, .bool m, .int .u8 ((ka : Nat) : Int), .int .u8 ((kb : Nat) : Int), .int .u8 ((kc : Nat) : Int), .int .u8 ((kd : Nat) : Int), .string s] 61 (0, 0)) := ⟨HFZ.leg.A.cells.2.2.2.1, by
              rw [HGZ.block q9 (Array.getElem?_eq_some_iff.1 HSA2.2).1 (fun e => by injection e with e; have := HBR.size; omega)]; exact HSA2.2⟩
            refine heldStore (d := none) (op := .store 52 (Operand.tmp 10) (Operand.tmp 44)) (g := none) (t := 0) 11 Z rfl (by kernel_rfl) (by kernel_rfl) ?ystr HSZ2 ?_
            case ystr => intro o' ho ht; rw [← hZ]; exact Msg.store_ev ho rfl rfl HA2 rfl (Msg.ev_info rfl) (Msg.ev_all _ _ _)
            simp only [Act.put]
            refine heldTake (d := some 11) (op := .assign (Operand.tmp 45)) (g := none) 12 ?v12tr rfl (by kernel_rfl) (by kernel_rfl) (by kernel_rfl) (by kernel_rfl) ?y12tr HSZ2 ?_
            case y12tr => intro o' ho W hS; simp only [execOp, ho]; go_simp; try rfl
            simp only [Act.put, List.setIfInBounds_toArray, List.set_cons_zero, List.set_cons_succ]
            refine heldTake (d := some 12) (op := .assign (Operand.tmp 46)) (g := none) 13 ?v13tr rfl (by kernel_rfl) (by kernel_rfl) (by kernel_rfl) (by kernel_rfl) ?y13tr HSZ2 ?_
            case y13tr => intro o' ho W hS; simp only [execOp, ho]; go_simp; try rfl
            simp only [Act.put, List.setIfInBounds_toArray, List.set_cons_zero, List.set_cons_succ]
            refine wpAnyH_done (by kernel_rfl) ?_ _
            refine NoPanic.normal ?_
            (try go_wp2_with fail)
            go_meet
            exact ⟨_, v7, p7, rfl, rfl, rfl, ⟨HXZ⟩, ⟨HFZ⟩, ⟨HN0⟩⟩
        case rest =>
          obtain ⟨x0, m2, p2, rfl, rfl, rfl, HXZ, HFZ, HX0⟩ := hcut
          clear TK HFX HMB HF6 hlt6 hq6 hq9 c3
          obtain ⟨y0, y1, y2⟩ := Msg.ev_cells HXZ.out
          have HR2 : Sl (MsgPlain.take (c.msg : Int) st (gs.getD i Fr0) = (st', x)) := ⟨by rw [HF.out]; exact HR.out⟩
          have HRUN2 : Sl (run (c.msg : Int) l.ms (gs.take (i + 1)) = (st', es ++ x.toList)) := ⟨run_take (by rw [HN.out]; exact HIN.out) HRUN.out HR2.out⟩
          have HFIT2 : Sl (Fit (c.msg : Int) st') := ⟨by
            have := MsgPlain.fit_take (by omega : (0 : Int) ≤ (c.msg : Int)) (f := gs.getD i Fr0) HERR.out.2 (by rw [HF.out]; exact bytes_small s)
            rw [HR2.out] at this; exact this⟩
          obtain rfl := HKK.out
          clear HKK
          by_cases he : st'.err = 0
          · have hq : (((st'.err : Nat) : Int) != 0) = false := by rw [he]; rfl
            have HER2 := Sl.mk (And.intro he HFIT2.out)
            have HEL2 := HEL.out
            cases x with
            | none =>
              obtain rfl : false = dd := HDD.out
              have HRN : Sl (run (c.msg : Int) l.ms (gs.take (i + 1)) = (st', es)) := ⟨by rw [HRUN2.out]; simp⟩
              have HIN2 := HIN.out; have HNL2 := HNL.out
              clear he HR HR2 HRUN2 HFIT2 HXO HDD HXZ y0 y1 y2 HRUN HERR
              go_wp2
              exact ⟨⟨i + 1, _, _, _, _, _, _, _, _, st', es, rfl, rfl, by go_num, by omega, by omega, HRN, HER2, HFEW, HFZ⟩, by simp [intOf]; omega⟩
            | some ev =>
              obtain rfl : true = dd := HDD.out
              obtain ⟨g1, g2, g3⟩ := take_some HERR.out.2 HERR.out.1 (by rw [HF.out]; exact bytes_small s) HR2.out
              obtain (⟨eo, ec, ed⟩ : Ev) := ev
              have hxx : (#[.int .i64 eo, .int .i64 ec, .string (strOf ed)] : Array Value) = #[.int .i64 oo, .int .i64 cc, .string tt] := by
                have := HXO.out
                injection this
              have hoo : eo = oo ∧ ec = cc ∧ strOf ed = tt := by simpa using hxx
              obtain ⟨rfl, rfl, rfl⟩ := hoo
              have hbt : bytes (strOf ed) = ed := bytes_strOf ed g2
              have HEV2 := lhear_any (HFZ.out.leg.A.inner (m := es.foldl (react c) (came c l b)) rfl rfl rfl rfl rfl rfl rfl) HP.out.1 HFEW.out HP.out.2.2.1 HP.out.2.2.2 HP.out.2.1 eo ec (strOf ed) (fun e => by rw [strOf_size]; exact g1 e) g3
              rw [hbt] at HEV2
              have HFEW2 : Sl (Few c ((es ++ [(⟨eo, ec, ed⟩ : Ev)]).foldl (react c) (came c l b)) k) := ⟨by
                rw [List.foldl_append]
                exact LegPlain.few_react HP.out.2.2.2.f2 HFEW.out (⟨eo, ec, ed⟩ : Ev) g1 g2⟩
              have HRN : Sl (run (c.msg : Int) l.ms (gs.take (i + 1)) = (st', es ++ [(⟨eo, ec, ed⟩ : Ev)])) := ⟨by rw [HRUN2.out]; rfl⟩
              have HIN2 := HIN.out; have HNL2 := HNL.out
              have HG2 := Sl.mk g2
              have hbx : x0 < wc.heap.size := (Array.getElem?_eq_some_iff.1 HXZ.out).1
              clear he HR HR2 HRUN2 HFIT2 HXO HDD HRUN HERR g1 g2 g3 hxx hbt
              go_wp2_with fail
              refine HEV2.mono ?_
              rintro e w8 ⟨t8, k8, q8, rfl, HA8, HG8⟩
              clear HEV2
              have hrk := LegPlain.react_keep c (es.foldl (react c) (came c l b)) (⟨eo, ec, ed⟩ : Ev)
              have HF8 := Sl.mk (HFZ.out.out (m := { react c (es.foldl (react c) (came c l b)) (⟨eo, ec, ed⟩ : Ev) with ms := st' }) (HA8.out.inner rfl rfl rfl rfl rfl rfl rfl) HG8.out hrk.2.1 hrk.2.2.1 rfl)
              by_cases h9 : eo = 9
              · have hd9 : decide (eo ≠ 9) = false := by rw [h9]; rfl
                have HT8 : Sl ((es ++ [(⟨eo, ec, ed⟩ : Ev)]).filter (fun x => decide (x.op ≠ 9)) = es.filter (fun x => decide (x.op ≠ 9))) := ⟨by rw [List.filter_append]; simp [h9]⟩
                have HF9 : Sl (FL w0 w2 w8 L sb mb rb rp t8 k8 q8 sv2 m2 p2 (All L rb rp sb mb tv kv qv sv2 mv mp) W.heap.size c { (es ++ [(⟨eo, ec, ed⟩ : Ev)]).foldl (react c) (came c l b) with ms := st' } (.slice (some ⟨sbk, so, none⟩) n gca) gs (.slice ta tn tc) ((es ++ [(⟨eo, ec, ed⟩ : Ev)]).filter (fun x => decide (x.op ≠ 9)))) := ⟨by
                  rw [HT8.out, List.foldl_append]; exact HF8.out⟩
                rw [hd9]
                clear hrk HF8 HT8 HA8 HG8 HFZ HXZ y0 y1 y2 hd9 HG2
                go_wp2
                exact ⟨⟨i + 1, _, _, _, _, _, _, _, _, st', _, rfl, rfl, by go_num, by omega, by rw [List.length_append, List.length_singleton]; omega, HRN, HER2, HFEW2, HF9⟩, by simp [intOf]; omega⟩
              · have hd9 : decide (eo ≠ 9) = true := decide_eq_true h9
                rw [hd9]
                have HXZ8 : Sl (w8.heap[x0]? = some (.cells #[.int .i64 eo, .int .i64 ec, .string (strOf ed)] 52 (0, 0))) := ⟨by
                  rw [HG8.out.kept.block x0 hbx (fun e => HX0.out (.inl e))]
                  exact HXZ.out⟩
                obtain ⟨y0, y1, y2⟩ := Msg.ev_cells HXZ8.out
                obtain ⟨X, hX⟩ : ∃ V, w8.alloc (.cells #[.int .i64 eo, .int .i64 ec, .string (strOf ed)] 52) = V := ⟨_, rfl⟩
                have HXB : Below w8.heap.size w8 X := by rw [← hX]; exact (Below.refl _ _).alloc (Nat.le_refl _) _
                have hXn : X.heap[w8.heap.size]? = some (.cells #[.int .i64 eo, .int .i64 ec, .string (strOf ed)] 52 (0, 0)) := by rw [← hX]; exact alloc_new _ _ _ rfl
                have hfl : (es.filter (fun x => decide (x.op ≠ 9))).length ≤ es.length := List.length_filter_le _ _
                have hNL := HNL.out
                obtain ⟨v1, w10, hap, hF9⟩ := (HF8.out.below HXB).add (evs_one (e := (⟨eo, ec, ed⟩ : Ev)) hXn rfl) (by omega) (Nat.le_trans HF8.out.goes.kept.size HXB.size) (Nat.le_trans HSZ.out.2 HSZ.out.1)
                obtain ⟨av, nv, cw, rfl⟩ : ∃ a n c, v1 = .slice a n c := by obtain ⟨a, c, h⟩ := hF9.say.slice; exact ⟨a, _, c, h⟩
                have HT8 : Sl ((es ++ [(⟨eo, ec, ed⟩ : Ev)]).filter (fun x => decide (x.op ≠ 9)) = es.filter (fun x => decide (x.op ≠ 9)) ++ [(⟨eo, ec, ed⟩ : Ev)]) := ⟨by rw [List.filter_append]; simp [h9]⟩
                have HF9 : Sl (FL w0 w2 w10 L sb mb rb rp t8 k8 q8 sv2 m2 p2 (All L rb rp sb mb tv kv qv sv2 mv mp) W.heap.size c { (es ++ [(⟨eo, ec, ed⟩ : Ev)]).foldl (react c) (came c l b) with ms := st' } (.slice (some ⟨sbk, so, none⟩) n gca) gs (.slice av nv cw) ((es ++ [(⟨eo, ec, ed⟩ : Ev)]).filter (fun x => decide (x.op ≠ 9)))) := ⟨by
                  rw [HT8.out, List.foldl_append]; exact hF9⟩
                clear hrk HF8 HT8 HA8 HG8 HFZ HXZ hd9 HG2 hF9 HXB hXn hfl hNL HXZ8
                go_wp2_with (at_builtin; refine Cut.wpList_appV rfl (.tmp 56) (.tmp 58) 47 47 rfl rfl _ _ (.slice av nv cw) w10 rfl rfl (by first | exact hap | (rw [hX]; exact hap)) ?_)
                exact ⟨⟨i + 1, _, _, _, _, _, _, _, _, st', _, rfl, rfl, by go_num, by omega, by rw [List.length_append, List.length_singleton]; omega, HRN, HER2, HFEW2, HF9⟩, by simp [intOf]; omega⟩
          · have hq : (((st'.err : Nat) : Int) != 0) = true := by simpa using he
            obtain rfl := take_bad HERR.out.1 HR2.out he
            have HSTE := Sl.mk he
            have HRNN : Sl (run (c.msg : Int) l.ms gs = (st', es)) := ⟨run_rest (by rw [HRUN2.out]; simp) he⟩
            clear HRUN HERR
            have HRUN := HRNN
            have HFL := HFZ
            clear HRNN HFZ HR HR2 HRUN2 HFIT2 HXO HDD HXZ y0 y1 y2 he HEL HF HIN
            go_upto_region 14 with fail
            have HEVS : Sl (evs c l b = es) := ⟨by rw [HEV.out, HRUN.out]⟩
            have HMSS : Sl ((came c l b).ms = st') := ⟨by rw [HMS.out, HRUN.out]⟩
            have HFD := HRES.out
            rw [HEVS.out] at HFD
            have HXX : Sl ({ es.foldl (react c) (came c l b) with ms := st' } = es.foldl (react c) (came c l b)) := ⟨by
              have := (LegPlain.fold_keep c es (came c l b)).2.2.2.1
              rw [HMSS.out] at this
              obtain ⟨x, hx⟩ : ∃ x, es.foldl (react c) (came c l b) = x := ⟨_, rfl⟩
              rw [hx] at this ⊢
              rw [← this]⟩
            rw [HXX.out] at HFL
            have hne : (((st'.err : Nat) : Int) != 0) = true := by simpa using HSTE.out
            have GT2 := got_any HFL.out.leg.A HFL.out.leg.M
            rw [(LegPlain.fold_keep c es (came c l b)).2.2.2.1, HMSS.out] at GT2
            have hov : st'.over = false := by
              cases hov : st'.over with
              | false => rfl
              | true =>
                have := HFITA.out.over
                rw [HRUN.out] at this
                have h2 : st'.err = 0 := by rw [show st' = MsgPlain.done from this hov]; rfl
                exact absurd h2 HSTE.out
            rw [hov] at GT2
            have her : errs c l b = st'.err := by
              unfold LegPlain.errs
              rw [HMSS.out, if_pos HSTE.out]
            rw [her, if_pos HSTE.out] at HFD
            replace HFD := Sl.mk HFD
            clear her hov
            go_wp2_with fail
            refine GT2.mono ?_
            rintro e w8 ⟨rfl, rfl⟩
            clear GT2
            have FT := lfail_any HFL.out.leg.A HP.out.1 HFEW.out HP.out.2.2.1 HP.out.2.2.2 HP.out.2.1 st'.err
            go_wp2_with fail
            refine FT.mono ?_
            rintro e w9 ⟨t9, k9, q9, rfl, HA9, HG9⟩
            clear FT
            have hkp := LegPlain.close_keep c { es.foldl (react c) (came c l b) with wrong := st'.err } (ClosePlain.codeC ((st'.err : Nat) : Int)) []
            have HFZ := Sl.mk (HFL.out.out HA9.out HG9.out hkp.buf hkp.serr hkp.ms)
            clear HA9 HG9 hkp HFL
            go_wp2
            go_ret
            rw [HFD.out]
            exact ⟨_, _, _, _, _, _, _, rfl, ⟨own_mono HFZ.out.say HSZ.out.1⟩, ⟨HFZ.out.leg⟩, ⟨HG1.out.trans HFZ.out.goes⟩, ⟨fun j e => (HFZ.out.tn j e).1⟩⟩
      · obtain rfl : i = n := by omega
        have hlt : ((i : Int) < (i : Int)) = False := eq_false (by omega)
        have HTK : Sl (gs.take i = gs) := ⟨List.take_of_length_le (by rw [HN.out]; exact Nat.le_refl _)⟩
        rw [HTK.out] at HRUN
        clear HTK hi hin
        go_upto_region 14 with fail
        have HEVS : Sl (evs c l b = es) := ⟨by rw [HEV.out, HRUN.out]⟩
        have HMSS : Sl ((came c l b).ms = st) := ⟨by rw [HMS.out, HRUN.out]⟩
        have HFD := HRES.out
        rw [HEVS.out] at HFD
        have HXX : Sl ({ es.foldl (react c) (came c l b) with ms := st } = es.foldl (react c) (came c l b)) := ⟨by
          have := (LegPlain.fold_keep c es (came c l b)).2.2.2.1
          rw [HMSS.out] at this
          obtain ⟨x, hx⟩ : ∃ x, es.foldl (react c) (came c l b) = x := ⟨_, rfl⟩
          rw [hx] at this ⊢
          rw [← this]⟩
        rw [HXX.out] at HFL
        have HERE : Sl (errs c l b = if st.over = true then 0 else e0) := ⟨by
          rw [errs_of (by rw [HMSS.out]; exact HERR.out.1), HMSS.out, HSE.out]⟩
        by_cases he0 : e0 = 0
        · have hne : (((e0 : Nat) : Int) != 0) = false := by rw [he0]; rfl
          have her : errs c l b = 0 := by rw [HERE.out, he0]; split <;> rfl
          rw [her, if_neg (fun e => e rfl)] at HFD
          replace HFD := Sl.mk HFD
          clear her he0
          go_wp2
          go_ret
          rw [HFD.out]
          exact ⟨_, _, _, _, _, _, _, rfl, ⟨own_mono HFL.out.say HSZ.out.1⟩, ⟨HFL.out.leg⟩, ⟨HG1.out.trans HFL.out.goes⟩, ⟨fun j e => (HFL.out.tn j e).1⟩⟩
        · have hne : (((e0 : Nat) : Int) != 0) = true := by simpa using he0
          have GT2 := got_any HFL.out.leg.A HFL.out.leg.M
          rw [(LegPlain.fold_keep c es (came c l b)).2.2.2.1, HMSS.out] at GT2
          cases hov : st.over with
          | true =>
            rw [hov] at GT2
            have her : errs c l b = 0 := by rw [HERE.out, if_pos hov]
            rw [her, if_neg (fun e => e rfl)] at HFD
            replace HFD := Sl.mk HFD
            clear her he0 hov
            go_wp2_with fail
            refine GT2.mono ?_
            rintro e w8 ⟨rfl, rfl⟩
            clear GT2
            go_wp2
            go_ret
            rw [HFD.out]
            exact ⟨_, _, _, _, _, _, _, rfl, ⟨own_mono HFL.out.say HSZ.out.1⟩, ⟨HFL.out.leg⟩, ⟨HG1.out.trans HFL.out.goes⟩, ⟨fun j e => (HFL.out.tn j e).1⟩⟩
          | false =>
            rw [hov] at GT2
            have her : errs c l b = e0 := by rw [HERE.out, if_neg (by rw [hov]; decide)]
            rw [her, if_pos he0] at HFD
            replace HFD := Sl.mk HFD
            clear her he0 hov
            go_wp2_with fail
            refine GT2.mono ?_
            rintro e w8 ⟨rfl, rfl⟩
            clear GT2
            have FT := lfail_any HFL.out.leg.A HP.out.1 HFEW.out HP.out.2.2.1 HP.out.2.2.2 HP.out.2.1 e0
            go_wp2_with fail
            refine FT.mono ?_
            rintro e w9 ⟨t9, k9, q9, rfl, HA9, HG9⟩
            clear FT
            have hkp := LegPlain.close_keep c { es.foldl (react c) (came c l b) with wrong := e0 } (ClosePlain.codeC ((e0 : Nat) : Int)) []
            have HFZ := Sl.mk (HFL.out.out HA9.out HG9.out hkp.buf hkp.serr hkp.ms)
            clear HA9 HG9 hkp HFL
            go_wp2
            go_ret
            rw [HFD.out]
            exact ⟨_, _, _, _, _, _, _, rfl, ⟨own_mono HFZ.out.say HSZ.out.1⟩, ⟨HFZ.out.leg⟩, ⟨HG1.out.trans HFZ.out.goes⟩, ⟨fun j e => (HFZ.out.tn j e).1⟩⟩
end
end Go.Proofs.YtlahonjmfecikaaGreatDoor.Leg
namespace HeadPlain
def four (l : List Nat) : Bool := l.take 4 == [13, 10, 13, 10]
def fnd : List Nat → Option Nat
  | [] => none
  | x :: r => if four (x :: r) = true then some 0 else (fnd r).map (· + 1)
def join (ls : List (List Nat)) : List Nat := ls.flatMap fun l => l ++ [13, 10]
@[simp] theorem join_nil : join [] = [] := rfl
@[simp] theorem join_cons (l : List Nat) (ls : List (List Nat)) : join (l :: ls) = l ++ 13 :: 10 :: join ls := by simp [join]
def lines : List Nat → List (List Nat)
  | [] => []
  | [x] => [[x]]
  | x :: y :: r => if x = 13 ∧ y = 10 then [] :: lines r else match lines (y :: r) with
    | [] => [[x]]
    | l :: ls => (x :: l) :: ls
def cut (c : Nat) : List Nat → Option (List Nat × List Nat)
  | [] => none
  | x :: r => if x = c then some ([], r) else (cut c r).map fun p => (x :: p.1, p.2)
def ltrim : List Nat → List Nat
  | [] => []
  | x :: r => if x = 32 ∨ x = 9 then ltrim r else x :: r
def trim (l : List Nat) : List Nat := (ltrim (ltrim l).reverse).reverse
def plain (a : Nat) (l : List Nat) : Prop := ∀ x ∈ l, a ≤ x ∧ x ≤ 126
def value (l : List Nat) : Prop := plain 32 l ∧ l.head? ≠ some 32 ∧ l.getLast? ≠ some 32
def marks : List Nat := [33, 35, 36, 37, 38, 39, 42, 43, 45, 46, 94, 95, 96, 124, 126]
def tokB (x : Nat) : Bool := (97 ≤ x && x ≤ 122) || (65 ≤ x && x ≤ 90) || (48 ≤ x && x ≤ 57) || marks.contains x
def token (l : List Nat) : Bool := !l.isEmpty && l.all tokB
structure Hd where
  a : List Nat
  b : List Nat
  c : List Nat
  fs : List (List Nat × List Nat)
def line1 (h : Hd) : List Nat := h.a ++ 32 :: (h.b ++ 32 :: h.c)
def lineF (f : List Nat × List Nat) : List Nat := f.1 ++ 58 :: 32 :: f.2
def text (h : Hd) : List Nat := join (line1 h :: h.fs.map lineF) ++ [13, 10]
def rd1 (l : List Nat) : Option (List Nat × List Nat × List Nat) := (cut 32 l).bind fun p => (cut 32 p.2).map fun q => (p.1, q.1, q.2)
def rdF (l : List Nat) : Option (List Nat × List Nat) := (cut 58 l).map fun p => (p.1, trim p.2)
def rdFs : List (List Nat) → Option (List (List Nat × List Nat))
  | [] => some []
  | l :: ls => (rdF l).bind fun f => (rdFs ls).map fun fs => f :: fs
def rdL : List (List Nat) → Option Hd
  | [] => none
  | l :: ls => (rd1 l).bind fun p => (rdFs ls).map fun fs => ⟨p.1, p.2.1, p.2.2, fs⟩
inductive Res where
  | more | long | form | ok (h : Hd) (n : Nat)
def rdAt (s : List Nat) (n : Nat) : Option Hd := rdL (lines (s.take (n + 2)))
def plainB (a : Nat) (l : List Nat) : Bool := l.all fun x => decide (a ≤ x ∧ x ≤ 126)
def valueB (l : List Nat) : Bool := plainB 32 l && (l.head? != some 32 && l.getLast? != some 32)
def formB (h : Hd) : Bool := (!h.a.isEmpty && plainB 33 h.a) && ((!h.b.isEmpty && plainB 33 h.b) && (valueB h.c && h.fs.all fun f => token f.1 && valueB f.2))
def rd (s : List Nat) : Res :=
  match fnd s with
  | none => if 2048 ≤ s.length then .long else .more
  | some n => if 2048 < n + 4 then .long else match rdAt s n with
    | none => .form
    | some h => if formB h = true then (if 32 < h.fs.length then .long else .ok h (n + 4)) else .form
def up (x : Nat) : Nat := if 97 ≤ x ∧ x ≤ 122 then x - 32 else x
def two (l : List Nat) : Bool := l.take 2 == [13, 10]
end HeadPlain
namespace RoutePlain
structure Rt where
  pre : List Nat
  pro : List Nat
  «to» : List Nat
deriving DecidableEq
def stem (p : List Nat) : List Nat := p.takeWhile (fun x => x != 63)
theorem stem_cons (x : Nat) (l : List Nat) : stem (x :: l) = if x = 63 then [] else x :: stem l := by
  unfold stem
  rw [List.takeWhile_cons]
  by_cases h : x = 63 <;> simp [h]
theorem stem_take (p : List Nat) : stem p = p.take (stem p).length := by
  induction p with
  | nil => rfl
  | cons x l ih =>
    rw [stem_cons]
    split
    · rfl
    · rw [List.length_cons, List.take_succ_cons, ← ih]
theorem stem_no (p : List Nat) : ∀ x ∈ stem p, x ≠ 63 := by
  induction p with
  | nil => exact fun x hx => absurd hx List.not_mem_nil
  | cons y l ih =>
    intro x hx
    rw [stem_cons] at hx
    by_cases h : y = 63
    · rw [if_pos h] at hx; exact absurd hx List.not_mem_nil
    · rw [if_neg h] at hx
      rcases List.mem_cons.1 hx with rfl | hx
      · exact h
      · exact ih x hx
theorem stem_at (p : List Nat) (h : (stem p).length < p.length) : p.getD (stem p).length 0 = 63 := by
  induction p with
  | nil => simp at h
  | cons x l ih =>
    rw [stem_cons] at h ⊢
    by_cases hx : x = 63
    · rw [if_pos hx] at h ⊢; simpa using hx
    · rw [if_neg hx] at h ⊢
      rw [List.length_cons] at h ⊢
      have := ih (by simpa using h)
      simpa using this
def below (p f : List Nat) : Bool := decide ((stem p).take f.length = f) && (decide ((stem p).length = f.length) || decide ((stem p).getD f.length 0 = 47) || decide (f.getLast? = some 47))
def fits (p : List Nat) (ps : List (List Nat)) (r : Rt) : Bool := below p r.pre && (decide (r.pro = []) || decide (r.pro ∈ ps))
def better (a b : Rt) : Bool := decide (a.pre.length < b.pre.length) || (decide (b.pre.length = a.pre.length) && (decide (a.pro = []) && decide (b.pro ≠ [])))
def step (p : List Nat) (ps : List (List Nat)) (o : Option Rt) (r : Rt) : Option Rt :=
  if fits p ps r then (match o with
    | none => some r
    | some a => if better a r then some r else some a) else o
def pick (p : List Nat) (ps : List (List Nat)) (rs : List Rt) : Option Rt := rs.foldl (step p ps) none
end RoutePlain
set_option maxRecDepth 100000
namespace Go.Proofs.YtlahonjmfecikaaGreatDoor.Rou
open Go.RowKit Go.WideShapes Go.ChangeShapes
open RoutePlain (Rt)
structure Rb where
  pre : ByteArray
  pro : ByteArray
  dst : ByteArray
def Rb.rt (r : Rb) : Rt := ⟨bytes r.pre, bytes r.pro, bytes r.dst⟩
def Rb0 : Rb := ⟨ByteArray.empty, ByteArray.empty, ByteArray.empty⟩
def rc (r : Rb) : List Value := [.string r.pre, .string r.pro, .string r.dst]
def rcs (es : List Rb) : List Value := es.flatMap rc
theorem rc_some (e : Rb) (j : Nat) (hj : j < 3) : ∃ u, (rc e)[j]? = some u := ⟨_, List.getElem?_eq_getElem (by simpa [rc] using hj)⟩
def OwnT (W : World) (base : Nat) (v : Value) (es : List Rb) : Prop := W.ownsRow base 72 3 v es.length (rcs es)
def RtsAt (W : World) (v : Value) (es : List Rb) : Prop :=
  ∃ (a : Option Addr) (cap sb so : Nat), v = .slice a es.length cap ∧ es.length ≤ cap ∧ (0 < es.length → a = some ⟨sb, so, none⟩) ∧ ∀ i, i < es.length → ∀ j, j < 3 → W.cell? ⟨sb, so + i * 3 + j, none⟩ = (rc (es.getD i Rb0))[j]?
theorem RtsAt.below {w w' : World} {v : Value} {es : List Rb} (h : RtsAt w v es) (hb : Below w.heap.size w w') : RtsAt w' v es := by
  obtain ⟨a, cap, sb, so, h1, hc, h3, h4⟩ := h
  refine ⟨a, cap, sb, so, h1, hc, h3, fun i hi j hj => ?_⟩
  have g := h4 i hi j hj
  obtain ⟨u, hu⟩ := rc_some (es.getD i Rb0) j hj
  rw [hu] at g ⊢
  have k0 := block_lt_of_cell g
  rw [hb.cell (p := ⟨sb, so + i * 3 + j, none⟩) k0]; exact g
theorem RtsAt.grown {w w' : World} {v : Value} {es : List Rb} {r : Option Nat} (h : RtsAt w v es) (hg : w.grownBy w' r) (hne : ∀ g, v.ownBlock = some g → some g ≠ r) : RtsAt w' v es := by
  obtain ⟨a, cap, sb, so, rfl, hc, h3, h4⟩ := h
  refine ⟨a, cap, sb, so, rfl, hc, h3, fun i hi j hj => ?_⟩
  have g := h4 i hi j hj
  obtain ⟨u, hu⟩ := rc_some (es.getD i Rb0) j hj
  rw [hu] at g ⊢
  have k0 : sb < w.heap.size := block_lt_of_cell g
  obtain rfl := h3 (by omega)
  have hb : w'.heap[sb]? = w.heap[sb]? := hg.block sb k0 (hne sb rfl)
  rw [World.cell?_of_block (w := w) hb]; exact g
theorem RtsAt.slice {W : World} {v : Value} {es : List Rb} (h : RtsAt W v es) : ∃ a c, v = .slice a es.length c := by
  obtain ⟨a, c, _, _, rfl, _⟩ := h; exact ⟨a, c, rfl⟩
theorem RtsAt.cap {W : World} {a : Option Addr} {n cap : Nat} {es : List Rb} (h : RtsAt W (.slice a n cap) es) : n = es.length ∧ n ≤ cap ∧ (0 < n → ∃ sb so, a = some ⟨sb, so, none⟩) := by
  obtain ⟨a', cap', sb', so', he, hc, h3, _⟩ := h
  injection he with e1 e2 e3
  refine ⟨e2, by omega, fun hp => ⟨sb', so', ?_⟩⟩
  rw [e1]; exact h3 (by omega)
theorem RtsAt.at3 {W : World} {sb so n cap : Nat} {es : List Rb} (h : RtsAt W (.slice (some ⟨sb, so, none⟩) n cap) es) (i : Nat) (hi : i < es.length) {a b c : ByteArray} (he : es.getD i Rb0 = ⟨a, b, c⟩) :
    W.cell? ⟨sb, so + i * 3, none⟩ = some (.string a) ∧ W.cell? ⟨sb, so + i * 3 + 1, none⟩ = some (.string b) ∧ W.cell? ⟨sb, so + i * 3 + 2, none⟩ = some (.string c) := by
  obtain ⟨a', cap', sb', so', hs, _, h3, h4⟩ := h
  injection hs with e1 e2 e3
  rw [h3 (by omega)] at e1
  injection e1 with e1
  injection e1 with e4 e5
  subst e4 e5
  have g := h4 i hi
  rw [he] at g
  exact ⟨g 0 (by decide), g 1 (by decide), g 2 (by decide)⟩
theorem RtsAt.range {W : World} {sb so n cap : Nat} {es : List Rb} (h : RtsAt W (.slice (some ⟨sb, so, none⟩) n cap) es) (i : Nat) (hi : i < es.length) : W.rangeAt sb (so + i * 3) (rc (es.getD i Rb0)) := fun j u hu => by
  obtain ⟨a, cap', sb', so', he, _, h3, h4⟩ := h
  injection he with e1 e2 e3
  rw [h3 (by omega)] at e1
  injection e1 with e1
  injection e1 with e4 e5
  subst e4 e5
  have hj : j < 3 := by have := (List.getElem?_eq_some_iff.1 hu).1; simpa [rc] using this
  rw [h4 i hi j hj]; exact hu
theorem RtsAt.to {W : World} {a : Option Addr} {n cap k c : Nat} {es : List Rb} (h : RtsAt W (.slice a n cap) es) (hk : k ≤ n) (hc : k ≤ c) : RtsAt W (.slice a k c) (es.take k) := by
  obtain ⟨a', c', sb, so, he, h1, h2, h3⟩ := h
  injection he with e1 e2 e3
  subst e1 e2 e3
  have hl : (es.take k).length = k := by rw [List.length_take]; omega
  refine ⟨a, c, sb, so, by rw [hl], by rw [hl]; omega, fun hp => h2 (by rw [hl] at hp; omega), fun i hi j hj => ?_⟩
  rw [hl] at hi
  rw [h3 i (by omega) j hj]
  congr 2
  rw [List.getD_eq_getElem?_getD, List.getD_eq_getElem?_getD, List.getElem?_take_of_lt hi]
def fromT (a : Option Addr) (k cap : Nat) : Option Addr := if cap = k then a else a.map (·.add (k * 3))
theorem RtsAt.from {W : World} {a : Option Addr} {n cap k : Nat} {es : List Rb} (h : RtsAt W (.slice a n cap) es) (hk : k ≤ n) : RtsAt W (.slice (fromT a k cap) (n - k) (cap - k)) (es.drop k) := by
  obtain ⟨a', c', sb, so, he, h1, h2, h3⟩ := h
  injection he with e1 e2 e3
  subst e1 e2 e3
  have hl : (es.drop k).length = es.length - k := List.length_drop ..
  refine ⟨_, _, sb, so + k * 3, by rw [hl], by rw [hl]; omega, fun hp => ?_, fun i hi j hj => ?_⟩
  · rw [hl] at hp
    unfold fromT
    rw [if_neg (by omega), h2 (by omega), Option.map_some, Addr.add_mid]
  · rw [hl] at hi
    have h4 := h3 (k + i) (by omega) j hj
    rw [show so + (k + i) * 3 + j = so + k * 3 + i * 3 + j from by omega] at h4
    rw [h4]
    congr 2
    rw [List.getD_eq_getElem?_getD, List.getD_eq_getElem?_getD, List.getElem?_drop]
theorem OwnT.below {w w' : World} {base : Nat} {v : Value} {l : List Rb} (h : OwnT w base v l) (hb : Below w.heap.size w w') : OwnT w' base v l := own_below h hb
theorem OwnT.slice {W : World} {base : Nat} {v : Value} {l : List Rb} (h : OwnT W base v l) : ∃ a c, v = .slice a l.length c := by
  obtain ⟨_, h2⟩ := h
  rcases h2 with ⟨rfl, hz⟩ | ⟨g, cap, cur, rfl, _⟩
  · rw [hz]; exact ⟨_, _, rfl⟩
  · exact ⟨_, _, rfl⟩
theorem OwnT.heap {W : World} {base : Nat} {v : Value} {l : List Rb} (h : OwnT W base v l) {g : Nat} (hg : v.ownBlock = some g) : base ≤ g ∧ ∃ cs, W.heap[g]? = some (.cells cs 72 (0, 0)) := by
  rcases h.2 with ⟨rfl, _⟩ | ⟨k, cap, cur, rfl, hb, hh, _⟩
  · cases hg
  · have : k = g := by simpa [Value.ownBlock] using hg
    subst this
    exact ⟨hb, _, hh⟩
theorem OwnT.keeps {W W' : World} {base B : Nat} {w0 : World} {v : Value} {l : List Rb} (h : OwnT W base v l) (hB : Below B w0 W) (hg : W.grownBy W' v.ownBlock) (hb : B ≤ base) (hs : B ≤ W.heap.size) : Below B w0 W' :=
  hB.grown hg hs (fun _ hk => Nat.le_trans hb (h.heap hk).1)
theorem OwnT.kept {W W' : World} {base : Nat} {v : Value} {l : List Rb} {r : Option Nat} (h : OwnT W base v l) (g : W.grownBy W' r) (hr : ∀ k, r = some k → v.ownBlock ≠ some k) : OwnT W' base v l := by
  refine World.ownsRow.kept h g ?_
  rcases h.2 with ⟨rfl, _⟩ | ⟨k, cap, cur, rfl, _⟩
  · exact .inl rfl
  · exact .inr (fun e => hr k e.symm (by simp [Value.ownBlock]))
theorem rts_one {W : World} {g : Nat} {e : Rb} {cs : Array Value} {t : TypeId} (h : W.heap[g]? = some (.cells cs t (0, 0))) (hc : cs = (rc e).toArray) : RtsAt W (.slice (some ⟨g, 0, none⟩) 1 1) [e] := by
  subst hc
  refine ⟨_, 1, g, 0, rfl, Nat.le_refl _, fun _ => rfl, fun i hi j hj => ?_⟩
  obtain rfl : i = 0 := by simpa using hi
  rw [cell_of_row _ _ _ _ _ _ h, List.getElem?_toArray]
  congr 1; omega
theorem rt_info {cs : Array Value} (h : cs.size = 3) : (Tryz.prog.info? 72).map (·.size) = some cs.size := by rw [h]; kernel_rfl
theorem rt_all (a b c : ByteArray) : (#[.string a, .string b, .string c] : Array Value).all (·.oneCell') = true := by simp [Value.oneCell']
def same3 (a b c a' b' c' : ByteArray) : Bool := (a.toList == a'.toList) && ((b.toList == b'.toList) && (c.toList == c'.toList))
theorem eq_rt (a b c a' b' c' : ByteArray) (W : World) : (Op.equalIn 10000 72 (.agg #[.string a, .string b, .string c]) (.agg #[.string a', .string b', .string c'])).run Tryz.prog W = .ok (same3 a b c a' b' c') W := by
  have hp : Tryz.prog.stoodInHeld 72 = false := by kernel_rfl
  have hu : Tryz.prog.underlying 72 = some (.struct (Tryz.prog.fieldsOf 72)) := by kernel_rfl
  have hf : (Tryz.prog.fieldsOf 72).toList = [⟨"Prefix", 9, 0, false, "", "", 0⟩, ⟨"Protocol", 9, 1, false, "", "", 16⟩, ⟨"To", 9, 2, false, "", "", 32⟩] := by kernel_rfl
  rw [run_equalIn_struct W 9999 72 _ _ hu hp, hf]
  have e9 : ∀ (p q : ByteArray) (w : World), (Op.equalIn 9999 9 (.string p) (.string q)).run Tryz.prog w = .ok (p.toList == q.toList) w := fun p q w => run_equalIn_string w 9998 9 p q Tryz.underlying9
  have p0 : ∀ (o c : ByteArray) (s : ByteArray) (w : World), (part 9 #[.string o, .string c, .string s] 0).run Tryz.prog w = .ok (.string o) w := fun o c s w => by kernel_rfl
  have p1 : ∀ (o c : ByteArray) (s : ByteArray) (w : World), (part 9 #[.string o, .string c, .string s] 1).run Tryz.prog w = .ok (.string c) w := fun o c s w => by kernel_rfl
  have p2 : ∀ (o c : ByteArray) (s : ByteArray) (w : World), (part 9 #[.string o, .string c, .string s] 2).run Tryz.prog w = .ok (.string s) w := fun o c s w => by kernel_rfl
  have n0 : ("Prefix" ≠ "_") = True := eq_true (by decide)
  have n1 : ("Protocol" ≠ "_") = True := eq_true (by decide)
  have n2 : ("To" ≠ "_") = True := eq_true (by decide)
  unfold same3
  cases h0 : (a.toList == a'.toList) <;> cases h1 : (b.toList == b'.toList) <;> cases h2 : (c.toList == c'.toList) <;>
    simp only [Op.eqFields, n0, n1, n2, if_true, Sem.run_bind, Sem.run_pure, Sem.run_ite, p0, p1, p2, e9, h0, h1, h2, Result.andThen_ok, Bool.not_true, Bool.not_false, Bool.false_eq_true, if_false, Bool.true_and, Bool.false_and, Bool.and_true]
theorem box_rt (W : World) : ∃ V, W.alloc (.cells #[.string { data := #[] }, .string { data := #[] }, .string { data := #[] }] 72) = V ∧ Sl (Below W.heap.size W V) ∧ V.heap[W.heap.size]? = some (.cells #[.string { data := #[] }, .string { data := #[] }, .string { data := #[] }] 72 (0, 0)) :=
  ⟨_, rfl, ⟨(Below.refl _ _).alloc (Nat.le_refl _) _⟩, alloc_new _ _ _ rfl⟩
theorem set_rt {W : World} {g : Nat} {B : Nat} {w0 : World} {c0 : Array Value} (h : W.heap[g]? = some (.cells c0 72 (0, 0))) (hB : Below B w0 W) (hb : B ≤ g) (cs : Array Value) : ∃ V, W.setRow g cs = V ∧ Sl (Below B w0 V) ∧ Sl (V.heap[g]? = some (.cells cs 72 (0, 0))) :=
  ⟨_, rfl, ⟨below_setRow hB hb _⟩, ⟨setRow_heap _ _ _ _ _ _ h⟩⟩
theorem rt_cells {W : World} {g : Nat} {a b c : ByteArray} {t : TypeId} (h : W.heap[g]? = some (.cells #[.string a, .string b, .string c] t (0, 0))) : W.cell? ⟨g, 0, none⟩ = some (.string a) ∧ W.cell? ⟨g, 1, none⟩ = some (.string b) ∧ W.cell? ⟨g, 2, none⟩ = some (.string c) := by
  refine ⟨?_, ?_, ?_⟩ <;> (rw [cell_of_row _ _ _ _ _ _ h]; rfl)
structure RbOk (r : Rb) : Prop where
  p : r.pre.size ≤ maxLen
  q : r.pro.size ≤ maxLen
  t : r.dst.size ≤ maxLen
theorem list3 {α : Type} {l : List α} (h : l.length = 3) : ∃ a b c, l = [a, b, c] :=
  match l, h with
  | [a, b, c], _ => ⟨a, b, c, rfl⟩
theorem list_of {α : Type} (d : α) (n : Nat) (p : Nat → α → Prop) (h : ∀ i, i < n → ∃ x, p i x) : ∃ l : List α, l.length = n ∧ ∀ i, i < n → p i (l.getD i d) := by
  induction n with
  | zero => exact ⟨[], rfl, fun i hi => absurd hi (Nat.not_lt_zero _)⟩
  | succ n ih =>
    obtain ⟨l, hl, hp⟩ := ih (fun i hi => h i (by omega))
    obtain ⟨x, hx⟩ := h n (by omega)
    refine ⟨l ++ [x], by simp [hl], fun i hi => ?_⟩
    by_cases hin : i < n
    · have e : (l ++ [x]).getD i d = l.getD i d := by
        simp only [List.getD_eq_getElem?_getD]; rw [List.getElem?_append_left (by omega)]
      rw [e]; exact hp i hin
    · obtain rfl : i = n := by omega
      have e : (l ++ [x]).getD i d = x := by
        simp only [List.getD_eq_getElem?_getD]; rw [List.getElem?_append_right (by omega)]; simp [hl]
      rw [e]; exact hx
end Go.Proofs.YtlahonjmfecikaaGreatDoor.Rou
set_option maxRecDepth 100000
namespace HeadPlain
open Go
def toN (l : List UInt8) : List Nat := l.map (·.toNat)
@[simp] theorem toN_length (l : List UInt8) : (toN l).length = l.length := by simp [toN]
def pos : Option Nat → Int
  | none => -1
  | some i => (i : Int)
def fst (c : Nat) : List Nat → Option Nat
  | [] => none
  | x :: r => if x = c then some 0 else (fst c r).map (· + 1)
theorem indexByte_mem (c : UInt8) (l : List UInt8) : decide (Lib.indexByte l c < 0) = !(toN l).contains c.toNat := by
  induction l with
  | nil => rfl
  | cons x r ih =>
    unfold Lib.indexByte
    have hge := Lib.indexByte_ge r c
    rw [show toN (x :: r) = x.toNat :: toN r from rfl, List.contains_cons]
    by_cases h : x = c
    · subst h; simp
    · have h2 : (x == c) = false := by rw [beq_eq_false_iff_ne]; exact h
      have h3 : (c.toNat == x.toNat) = false := by rw [beq_eq_false_iff_ne]; exact fun e => h (UInt8.toNat_inj.1 e.symm)
      rw [h2, if_neg (by simp), h3, Bool.false_or, ← ih]
      by_cases h4 : Lib.indexByte r c = -1
      · rw [h4]; rfl
      · have h5 : (Lib.indexByte r c == -1) = false := by rw [beq_eq_false_iff_ne]; exact h4
        rw [h5, if_neg (by simp)]
        congr 1
        rw [eq_iff_iff]; omega
end HeadPlain
namespace Go.Proofs.YtlahonjmfecikaaGreatDoor
open Go.RowKit HeadPlain
def spans : List Value := [.int .u8 97, .int .u8 122, .int .u8 65, .int .u8 90, .int .u8 48, .int .u8 57]
structure Globs (w : World) : Prop where
  t : w.rangeAt 0 0 spans
  m : ∃ m : Int, w.cell? ⟨2, 0, none⟩ = some (.int .i64 m)
theorem Globs.size {w : World} (h : Globs w) : 3 ≤ w.heap.size := by
  obtain ⟨m, hm⟩ := h.m
  have h1 : (2 : Nat) < w.heap.size := block_lt_of_cell hm
  have h2 : (0 : Nat) < w.heap.size := block_lt_of_cell (show w.cell? ⟨0, 0 + 0, none⟩ = _ from h.t 0 _ rfl)
  omega
theorem Globs.below {w w' : World} {B : Nat} (h : Globs w) (hb : Below B w w') (hB : 3 ≤ B) : Globs w' :=
  ⟨fun j v hv => by rw [hb.cell (p := ⟨0, 0 + j, none⟩) (show 0 < B by omega)]; exact h.t j v hv, by
    obtain ⟨m, hm⟩ := h.m
    exact ⟨m, by rw [hb.cell (p := ⟨2, 0, none⟩) (show 2 < B by omega)]; exact hm⟩⟩
theorem Globs.of {w0 w : World} (h : Globs w0) (hb : Below w0.heap.size w0 w) : Globs w := h.below hb h.size
def Still (w w' : World) : Prop := ∃ m, w' = w.drewN m
theorem Still.heap {w w' : World} (h : Still w w') : w'.heap = w.heap := by obtain ⟨m, rfl⟩ := h; rfl
theorem Still.below {w w' : World} (h : Still w w') : Below w.heap.size w w' := by obtain ⟨m, rfl⟩ := h; exact ⟨rfl, rfl, rfl, Nat.le_refl _, fun _ _ => rfl⟩
theorem Still.refl (w : World) : Still w w := ⟨0, rfl⟩
theorem Still.drewN {w w' : World} (h : Still w w') (n : Nat) : Still w (w'.drewN n) := by
  obtain ⟨m, rfl⟩ := h; exact ⟨m + n, World.drewN_drewN _ _ _⟩
theorem Still.trans {u v w : World} (h : Still u v) (k : Still v w) : Still u w := by
  obtain ⟨m, rfl⟩ := h; obtain ⟨n, rfl⟩ := k; exact ⟨m + n, World.drewN_drewN _ _ _⟩
end Go.Proofs.YtlahonjmfecikaaGreatDoor
namespace Go.Proofs.YtlahonjmfecikaaGreatDoor
open Go.RowKit HeadPlain
def spanB (c : Nat) : Bool := (97 ≤ c && c ≤ 122) || (65 ≤ c && c ≤ 90) || (48 ≤ c && c ≤ 57)
theorem token_get (s : ByteArray) : (bytes s).all tokB = true ↔ ∀ j, j < s.size → tokB ((bytes s).getD j 0) = true := by
  rw [List.all_eq_true]
  constructor
  · intro h j hj
    rw [← bytes_length] at hj
    have := h _ (List.getElem_mem hj)
    simpa [List.getD_eq_getElem?_getD, List.getElem?_eq_getElem hj] using this
  · intro h x hx
    obtain ⟨j, hj, rfl⟩ := List.getElem_of_mem hx
    have := h j (by rw [← bytes_length]; exact hj)
    simpa [List.getD_eq_getElem?_getD, List.getElem?_eq_getElem hj] using this
theorem token_no {s : ByteArray} (k : Nat) (hk : k < s.size) (h : tokB ((bytes s).getD k 0) = false) : token (bytes s) = false := by
  rw [Bool.eq_false_iff]
  intro e
  unfold token at e
  rw [Bool.and_eq_true, token_get] at e
  have := e.2 k hk
  rw [h] at this
  cases this
theorem token_yes {s : ByteArray} (h : ∀ j, j < s.size → tokB ((bytes s).getD j 0) = true) : token (bytes s) = decide (0 < s.size) := by
  unfold token
  rw [(token_get s).2 h, Bool.and_true, ← bytes_length]
  cases bytes s <;> simp
end Go.Proofs.YtlahonjmfecikaaGreatDoor
namespace Go.Proofs
open Go.Shelf
def Tryz.lays137_ren : Go.Shelf.Ren := ⟨fun | 137 => 154 | 217 => 168 | 266 => 177 | n => n, fun | 9 => 9 | 5 => 5 | 3 => 3 | n => n, fun | n => n⟩
theorem Tryz.lays137 : Go.Proofs.Lays.n137 Tryz.prog Tryz.lays137_ren := {
  mixed := by kernel_rfl
  f137 := Tryz.func154.trans (congrArg some (by kernel_rfl))
  f217 := Tryz.func168.trans (congrArg some (by kernel_rfl))
  f266 := Tryz.func177.trans (congrArg some (by kernel_rfl))
  t3 := Tryz.underlying3
  a3 := Tryz.isAgg3
  z3 := Tryz.sizeOf3
  v3 := Tryz.zeroValue3
  t5 := Tryz.underlying5
  a5 := Tryz.isAgg5
  z5 := Tryz.sizeOf5
  v5 := Tryz.zeroValue5
  t9 := Tryz.underlying9
  a9 := Tryz.isAgg9
  z9 := Tryz.sizeOf9
  v9 := Tryz.zeroValue9 }
open Go.RowKit in
theorem Tryz.strings_IndexByte (s : ByteArray) (c : Int) (w : World) :
    Calls Tryz.prog 154 #[.string s, .int .u8 c] w fun e w' => e = .returned (.int .i64 (Lib.indexByte s.data.toList c.toNat.toUInt8)) ∧ w' = w := Any.strings_IndexByte Tryz.lays137 s c w
def Tryz.lays144_ren : Go.Shelf.Ren := ⟨fun | 144 => 129 | 143 => 153 | 219 => 167 | 217 => 168 | 225 => 174 | 224 => 175 | 267 => 176 | 266 => 177 | 314 => 179 | n => n, fun | 9 => 9 | 4 => 4 | 3 => 3 | 5 => 5 | 46 => 150 | 146 => 222 | 51 => 26 | n => n, fun | 1 => 2 | n => n⟩
theorem Tryz.lays144 : Go.Proofs.Lays.n144 Tryz.prog Tryz.lays144_ren := {
  mixed := by kernel_rfl
  f143 := Tryz.func153.trans (congrArg some (by kernel_rfl))
  f144 := Tryz.func129.trans (congrArg some (by kernel_rfl))
  f217 := Tryz.func168.trans (congrArg some (by kernel_rfl))
  f219 := Tryz.func167.trans (congrArg some (by kernel_rfl))
  f224 := Tryz.func175.trans (congrArg some (by kernel_rfl))
  f225 := Tryz.func174.trans (congrArg some (by kernel_rfl))
  f266 := Tryz.func177.trans (congrArg some (by kernel_rfl))
  f267 := Tryz.func176.trans (congrArg some (by kernel_rfl))
  f314 := Tryz.func179.trans (congrArg some (by kernel_rfl))
  t3 := Tryz.underlying3
  a3 := Tryz.isAgg3
  z3 := Tryz.sizeOf3
  v3 := Tryz.zeroValue3
  t4 := Tryz.underlying4
  a4 := Tryz.isAgg4
  z4 := Tryz.sizeOf4
  v4 := Tryz.zeroValue4
  t5 := Tryz.underlying5
  a5 := Tryz.isAgg5
  z5 := Tryz.sizeOf5
  v5 := Tryz.zeroValue5
  t9 := Tryz.underlying9
  a9 := Tryz.isAgg9
  z9 := Tryz.sizeOf9
  v9 := Tryz.zeroValue9
  t46 := Tryz.underlying150
  a46 := Tryz.isAgg150
  z46 := Tryz.sizeOf150
  v46 := Tryz.zeroValue150
  t51 := Tryz.underlying26
  a51 := Tryz.isAgg26
  z51 := Tryz.sizeOf26
  v51 := Tryz.zeroValue26
  t146 := Tryz.underlying222
  a146 := Tryz.isAgg222
  z146 := Tryz.sizeOf222
  v146 := Tryz.zeroValue222
  g1 := by kernel_rfl }
open Go.RowKit Go.Lib in
theorem Tryz.strings_Contains_one (s : ByteArray) (c : UInt8) (w : World) :
    Calls Tryz.prog 129 #[.string s, .string ⟨#[c]⟩] w fun e w' => e = .returned (.bool (decide (0 ≤ Lib.indexByte s.data.toList c))) ∧ w' = w := Any.strings_Contains_one Tryz.lays144 s c w
def Tryz.lays99_ren : Go.Shelf.Ren := ⟨fun | 99 => 127 | 206 => 152 | n => n, fun | 9 => 9 | 4 => 4 | 3 => 3 | n => n, fun | n => n⟩
theorem Tryz.lays99 : Go.Proofs.Lays.n99 Tryz.prog Tryz.lays99_ren := {
  mixed := by kernel_rfl
  f99 := Tryz.func127.trans (congrArg some (by kernel_rfl))
  f206 := Tryz.func152.trans (congrArg some (by kernel_rfl))
  t3 := Tryz.underlying3
  a3 := Tryz.isAgg3
  z3 := Tryz.sizeOf3
  v3 := Tryz.zeroValue3
  t4 := Tryz.underlying4
  a4 := Tryz.isAgg4
  z4 := Tryz.sizeOf4
  v4 := Tryz.zeroValue4
  t9 := Tryz.underlying9
  a9 := Tryz.isAgg9
  z9 := Tryz.sizeOf9
  v9 := Tryz.zeroValue9 }
open Go.RowKit Go.Lib in
theorem Tryz.strings_HasPrefix (s p : ByteArray) (w : World) :
    Calls Tryz.prog 127 #[.string s, .string p] w fun e w' => e = .returned (.bool (Lib.hasPrefix s.data.toList p.data.toList)) ∧ w' = w := Any.strings_HasPrefix Tryz.lays99 s p w
end Go.Proofs
