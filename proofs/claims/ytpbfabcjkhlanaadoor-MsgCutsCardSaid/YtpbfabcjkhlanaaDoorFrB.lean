/- frame: Put. -/
import Derived.Test.YtpbfabcjkhlanaaDoorFrA
import Derived.Deep.DeepCutAuto
set_option maxRecDepth 100000
namespace Go.Proofs.YtpbfabcjkhlanaaDoor.Fra
open Go.RowKit MaskPlain FramePlain Mas

/-- An append that stands in its turn. -/
theorem wpList_app {P : Program} {ops : Array Oper} {rest : List Oper} {o : Oper} {a : Act} {Q : Exit → Act → World → Prop} {w : World} (hgd : o.guard = none) (s x : Operand) (t ty : TypeId)
    (ho : o.op = .call { callee := .builtin .append, args := #[s, x], argTypes := #[t, t] }) (hty : o.type = ty) (v v' : Value) (ad : Addr) (m c : Nat) (w' : World)
    (hs : a.eval s = v) (hx : a.eval x = .slice (some ad) m c) (hrun : (Builtin.append_ #[t, t] ty #[v, .slice (some ad) m c]).run P w = .ok v' w')
    (h : wpList P ops Q rest (a.put o.dst v') w') : wpList P ops Q (o :: rest) a w := by
  refine wpList_plain hgd fun K hK => ?_
  unfold Oper.wp
  have hy : (execOp a.eval o).run P w = .ok (.value v') w' := by
    rw [← hty] at hrun
    simp [execOp, ho, resolve, invoke, builtin, hs, hx, hrun, Result.andThen]
  rw [hy, Oper.upon_value]
  exact hK _ _ h
section
variable {P : Program} {md : Region.Mode} {ops : Array Oper} {Q : Exit → Act → World → Prop} {S : World → Prop}
/-- As heldCA, the call first in the list. -/
theorem heldCA2 {fuel : Nat} {listed : Array Bool} {a : Act} {w : World} {di dj : Option Tmp} {opi opj : Op} {ti tj : TypeId} (i j : Nat) (vi : Value) (wi : World) (f : FuncId) (args : Array Value)
    (hi : opIsT ops i di opi none ti) (hj : opIsT ops j dj opj none tj) (hr : Region.ready md ops listed = [j, i])
    (yi : ∀ o : Oper, o.op = opi → o.type = ti → (execOp a.eval o).run P w = .ok (.value vi) wi) (yj : ∀ o : Oper, o.op = opj → o.type = tj → (execOp a.eval o).run P w = .ok (.enter f args) w) (hS : S wi)
    (h1 : wpAnyH P md ops Q S fuel (listed.setIfInBounds i true) (a.put di vi) wi)
    (h2 : Calls P f args w fun e w' => ∃ v, e = .returned v ∧ S w' ∧ wpAnyH P md ops Q S fuel (listed.setIfInBounds j true) (a.put dj v) w') : wpAnyH P md ops Q S (fuel + 1) listed a w := by
  obtain ⟨o, ho, hd, hop, hg, ht⟩ := op_ofT hi
  obtain ⟨o', ho', hd', hop', hg', ht'⟩ := op_ofT hj
  refine wpAnyH_all hr (by simp) (fun k hk => ?_)
  rcases List.mem_cons.1 hk with rfl | hk
  · refine wpOp_step ho' (fun K hK => ?_)
    rw [if_pos (wanted_of hg' rfl)]
    unfold Oper.wp
    rw [yj o' hop' ht', Oper.upon_enter]
    refine h2.mono ?_
    rintro e w' ⟨v, rfl, hS', h'⟩
    rw [hd']
    exact hK _ _ ⟨hS', h'⟩
  · rw [List.mem_singleton] at hk
    subst hk
    refine wpOp_step ho (fun K hK => ?_)
    rw [if_pos (wanted_of hg rfl)]
    unfold Oper.wp
    rw [yi o hop ht, Oper.upon_value, hd]
    exact hK _ _ ⟨hS, h1⟩
end
/-- A row under way: the frame's box lies at its place, the row is one's own. -/
structure PS (w W : World) (bx : Array Value) (g n cap : Nat) (T : List Nat) : Prop where
  B : Below w.heap.size w W
  X : W.heap[w.heap.size]? = some (.cells bx 35 (0, 0))
  O : W.ownsRow (w.heap.size + 1) 5 1 (.slice (some ⟨g, 0, none⟩) n cap) n (u8s T)
  L : T.length = n
  M : Small 256 T
theorem PS.up {w W : World} {bx : Array Value} {g n cap : Nat} {T : List Nat} (h : PS w W bx g n cap T) : w.heap.size + 1 ≤ W.heap.size := (Array.getElem?_eq_some_iff.1 h.X).1
theorem PS.below {w W W' : World} {bx : Array Value} {g n cap : Nat} {T : List Nat} (h : PS w W bx g n cap T) (k : Below W.heap.size W W') : PS w W' bx g n cap T :=
  ⟨h.B.trans (k.mono h.B.size), below_key h.X k, own_below h.O k, h.L, h.M⟩
theorem PS.add {w W : World} {bx : Array Value} {g n cap : Nat} {T : List Nat} (h : PS w W bx g n cap T) (n' : Nat) {u : Value} {l : List Nat} (hs : SrcAt W u l) (hl : Small 256 l) (hm : n + l.length ≤ 1000000) (hp : 0 < n + l.length) (hn : n + l.length = n') :
    ∃ g' cap' W', (Builtin.append_ #[22, 22] 22 #[.slice (some ⟨g, 0, none⟩) n cap, u]).run Tryd.prog W = .ok (.slice (some ⟨g', 0, none⟩) n' cap') W' ∧ PS w W' bx g' n' cap' (T ++ l) := by
  have hT := h.L
  subst hT
  obtain ⟨g', cap', W', hr, ho, hg⟩ := add_src (base := w.heap.size + 1) h.O hs hm h.up (by rw [List.length_append]; exact hp)
  have hl2 : (T ++ l).length = n' := by rw [List.length_append]; exact hn
  rw [hl2] at hr ho
  refine ⟨g', cap', W', hr, h.B.grown hg h.B.size (fun k hk => by have := (h.O.lt k hk).1; omega), ?_, ho, hl2, h.M.append hl⟩
  rw [hg.block _ (Array.getElem?_eq_some_iff.1 h.X).1 (fun e => by have := (h.O.lt _ e.symm).1; omega)]
  exact h.X
theorem PS.set {w W : World} {bx : Array Value} {g n cap : Nat} {T : List Nat} (h : PS w W bx g n cap T) {i x : Nat} (hx : x < 256) : PS w (W.setCell ⟨g, i, none⟩ (.int .u8 (x : Int))) bx g n cap (T.set i x) := by
  obtain ⟨h1, h2⟩ := h.O.stored i (.int .u8 (x : Int))
  have hb := (h.O.lt g rfl).1
  refine ⟨h.B.grown h2 h.B.size (fun k hk => by injection hk with hk; omega), ?_, ?_, by rw [List.length_set]; exact h.L, fun y hy => ?_⟩
  · rw [h2.block _ (Array.getElem?_eq_some_iff.1 h.X).1 (fun e => by injection e with e; omega)]; exact h.X
  · rw [show u8s (T.set i x) = (u8s T).set i (.int .u8 (x : Int)) by simp [u8s, v8, List.map_set]]; exact h1
  · rcases List.mem_or_eq_of_mem_set hy with hy | rfl
    · exact h.M y hy
    · exact hx
theorem PS.cell {w W : World} {bx : Array Value} {g n cap : Nat} {T : List Nat} (h : PS w W bx g n cap T) {i : Nat} (hi : i < n) : W.cell? ⟨g, i, none⟩ = some (.int .u8 ((T.getD i 0 : Nat) : Int)) := by
  rw [h.O.cellAt i (by omega)]; exact u8s_get T i (by rw [h.L]; exact hi)
theorem PS.froz {w W : World} {bx : Array Value} {g n cap : Nat} {T : List Nat} (h : PS w W bx g n cap T) (i : Nat) : W.frozen? ⟨g, i, none⟩ = false := h.O.frozenAt i
theorem PS.src {w W : World} {bx : Array Value} {g n cap : Nat} {T : List Nat} (h : PS w W bx g n cap T) : SrcAt W (.slice (some ⟨g, 0, none⟩) n cap) T := by
  have hT := h.L
  subst hT
  rcases h.O.2 with ⟨h', _⟩ | ⟨g', cap', cur, h', _, hg, hn, _, _, ht⟩
  · cases h'
  · simp only [Value.slice.injEq, Option.some.injEq, Addr.mk.injEq, and_true, true_and] at h'
    obtain ⟨rfl, rfl⟩ := h'
    exact ⟨_, cap, g, 0, rfl, hn, fun _ => rfl, fun i hi => by rw [Nat.zero_add]; exact h.cell hi⟩
/-- The key's bytes where they lie in the box. -/
theorem key_src {W : World} {B a b c d : Nat} (h3 : W.cell? ⟨B, 3, none⟩ = some (.int .u8 (a : Int))) (h4 : W.cell? ⟨B, 4, none⟩ = some (.int .u8 (b : Int))) (h5 : W.cell? ⟨B, 5, none⟩ = some (.int .u8 (c : Int))) (h6 : W.cell? ⟨B, 6, none⟩ = some (.int .u8 (d : Int))) : SrcAt W (.slice (some ⟨B, 3, none⟩) 4 4) [a, b, c, d] :=
  ⟨_, 4, B, 3, rfl, Nat.le_refl _, fun _ => rfl, fun i hi => by
    match i, hi with
    | 0, _ => exact h3
    | 1, _ => exact h4
    | 2, _ => exact h5
    | 3, _ => exact h6⟩
theorem text_mask (f : Fr) {b0 : Nat} {L : List Nat} (l : Nat) (hm : f.masked = true) (hb : byte0 f = b0) (hL : lenB f.data.length = L) (hl : L.getD 0 0 = l) (hn : 0 < L.length) : text f = ((([b0] ++ L).set 1 (l + 128)) ++ f.key) ++ tb true f.key f.data := by
  unfold text headB tb
  rw [if_pos hm, if_pos hm, if_pos rfl, hb, hL, hl]
  cases L with
  | nil => cases hn
  | cons x xs => simp
theorem text_bare (f : Fr) {b0 : Nat} {L : List Nat} (hm : f.masked = false) (hb : byte0 f = b0) (hL : lenB f.data.length = L) : text f = ([b0] ++ L) ++ tb false f.key f.data := by
  unfold text headB tb
  rw [hm, hb, hL]
  simp

end Go.Proofs.YtpbfabcjkhlanaaDoor.Fra
/- frame: the length that bytes begin with. -/
set_option maxRecDepth 100000
namespace Go.Proofs.YtpbfabcjkhlanaaDoor.Fra
open Go.RowKit MaskPlain FramePlain Mas

/-- The length that bytes begin with, of a frame of that op. -/
def lenF (o : Nat) (bs : List Nat) : Nat × Nat × Nat :=
  if ctl (o : Int) = true ∧ 0 < bs.length ∧ 125 < bs.getD 0 0 % 128 then (0, 0, 91)
  else if (getL bs).2.2 = 81 then (0, 0, 91) else if (getL bs).2.2 = 80 then (0, 0, 90) else getL bs

def fr0 : Array Value := #[.bool false, .int .i64 0, .bool false, .int .u8 0, .int .u8 0, .int .u8 0, .int .u8 0, .string { data := #[] }]
/-- A frame as a value. -/
def valF (f : Fr) : Value := .agg #[.bool f.fin, .int .i64 f.op, .bool f.masked, .int .u8 ((f.key.getD 0 0 : Nat) : Int), .int .u8 ((f.key.getD 1 0 : Nat) : Int), .int .u8 ((f.key.getD 2 0 : Nat) : Int), .int .u8 ((f.key.getD 3 0 : Nat) : Int), .string (strOf f.data)]
def resF (r : Fr × Nat × Nat) : Value := .tuple #[valF r.1, .int .i64 ((r.2.1 : Nat) : Int), .int .i64 ((r.2.2 : Nat) : Int)]
theorem fr_info {cs : Array Value} (h : cs.size = 8) : (Tryd.prog.info? 35).map (·.size) = some cs.size := by rw [h]; kernel_rfl
theorem ret_fr {fn : Func} {p u x : Tmp} (h : fn.results = #[.cell p 35, .tmp u, .tmp x]) (tmps : Array Value) (w : World) (g : Nat) (t : TypeId) (cs : Array Value) (fr : Nat × Nat)
    (hp : tmps.getD p undef = .pointer (some ⟨g, 0, none⟩)) (hg : w.heap[g]? = some (.cells cs t fr)) (hs : cs.size = 8) :
    (results fn tmps).run Tryd.prog w = .ok (.tuple #[.agg cs, tmps.getD u undef, tmps.getD x undef]) w := by
  have hi : (Tryd.prog.info? 35).map (·.size) = some cs.size := fr_info hs
  have hp' : tmps[p]?.getD undef = .pointer (some ⟨g, 0, none⟩) := by simpa using hp
  simp only [results, h]
  simp [Result.andThen, hp', asAddr, run_loadVar_row (P := Tryd.prog) w g t 35 cs fr _ hg Tryd.underlying35 rfl hi]
/-- The frame that stands from a place on, of a first byte that is known. -/
def fillF (fin : Bool) (op : Int) (m : Bool) (p n : Nat) (r : List Nat) : Fr × Nat × Nat :=
  if m then
    (if r.length < 4 + n then (Fr0, 0, 90) else (⟨fin, op, true, r.take 4, turn (r.take 4) 0 ((r.drop 4).take n)⟩, p + 4 + n, 0))
  else if r.length < n then (Fr0, 0, 90) else (⟨fin, op, false, zero4, r.take n⟩, p + n, 0)
theorem rest_fill (x y n k : Nat) (r : List Nat) : rest x y n k r = fillF (decide (128 ≤ x)) ((x % 16 : Nat) : Int) (decide (128 ≤ y)) (1 + k) n r := by
  unfold rest fillF
  by_cases h : 128 ≤ y
  · rw [if_pos h, if_pos (decide_eq_true h)]
  · rw [if_neg h, if_neg (show ¬ (decide (128 ≤ y) = true) from by rw [decide_eq_false h]; decide)]
end Go.Proofs.YtpbfabcjkhlanaaDoor.Fra
/- frame: the frame that stands from a place on. -/
set_option maxRecDepth 100000
namespace Go.Proofs.YtpbfabcjkhlanaaDoor.Fra
open Go.RowKit MaskPlain FramePlain Mas

theorem bx8 {W : World} {g : Nat} {c0 c1 c2 c3 c4 c5 c6 c7 : Value} (h : W.heap[g]? = some (.cells #[c0, c1, c2, c3, c4, c5, c6, c7] 35 (0, 0))) :
    W.cell? ⟨g, 0, none⟩ = some c0 ∧ W.cell? ⟨g, 1, none⟩ = some c1 ∧ W.cell? ⟨g, 2, none⟩ = some c2 ∧ W.cell? ⟨g, 3, none⟩ = some c3 ∧ W.cell? ⟨g, 4, none⟩ = some c4 ∧ W.cell? ⟨g, 5, none⟩ = some c5 ∧ W.cell? ⟨g, 6, none⟩ = some c6 ∧ W.cell? ⟨g, 7, none⟩ = some c7 := by
  refine ⟨?_, ?_, ?_, ?_, ?_, ?_, ?_, ?_⟩ <;> (rw [cell_of_row _ _ _ _ _ _ h]; rfl)
theorem loadbox8 {W : World} {ev : Operand → Value} {o : Oper} {x : Operand} {g : Nat} {cs : Array Value} (ho : o.op = .load 35 x) (hx : ev x = .pointer (some ⟨g, 0, none⟩)) (hs : cs.size = 8) (h : W.heap[g]? = some (.cells cs 35 (0, 0))) :
    (execOp ev o).run Tryd.prog W = .ok (.value (.agg cs)) W := by
  unfold execOp
  simp only [ho, hx, Instr.loadAt, Instr.sureAddr, Sem.run_bind, Sem.run_pure, Result.andThen_ok, run_loadVar_row W g 35 35 _ (0, 0) _ h Tryd.underlying35 rfl (fr_info hs)]
theorem below_setRow {w W : World} {B g : Nat} (h : Below B w W) (hg : B ≤ g) (cs : Array Value) : Below B w (W.setRow g cs) :=
  ⟨h.os, h.tape, h.output, by simpa [World.setRow] using h.size, fun k hk => by rw [setRow_other _ _ _ _ (by omega)]; exact h.block k hk⟩
theorem src_sub {W : World} {sb so L cap : Nat} {bs : List Nat} (h : SrcAt W (.slice (some ⟨sb, so, none⟩) L cap) bs) (i k c of : Nat) (hof : 0 < k → so + i = of) (hk : i + k ≤ L) (hc : k ≤ c) (hl : bs.length = L) : SrcAt W (.slice (some ⟨sb, of, none⟩) k c) ((bs.drop i).take k) := by
  obtain ⟨a, c', sb', so', he, h1, h2, h3⟩ := h
  have hlen : ((bs.drop i).take k).length = k := by rw [List.length_take, List.length_drop]; omega
  injection he with ea eb ec
  refine ⟨_, c, sb, of, by rw [hlen], by rw [hlen]; exact hc, fun _ => rfl, fun j hj => ?_⟩
  rw [hlen] at hj
  have := h2 (by omega)
  rw [this] at ea
  injection ea with ea
  injection ea with e1 e2
  subst e1 e2
  have h4 := h3 (i + j) (by omega)
  rw [← hof (by omega), show so + i + j = so + (i + j) by omega, h4]
  simp only [List.getD_eq_getElem?_getD, List.getElem?_take_of_lt hj, List.getElem?_drop]
theorem fr_all (f : Bool) (o : Int) (m : Bool) (a b c d : Int) (s : ByteArray) : (#[.bool f, .int .i64 o, .bool m, .int .u8 a, .int .u8 b, .int .u8 c, .int .u8 d, .string s] : Array Value).all (·.oneCell') = true := by simp [Value.oneCell']
theorem four_of (l : List Nat) (h : 4 ≤ l.length) : ∃ a b c d, l.take 4 = [a, b, c, d] := by
  match l, h with
  | a :: b :: c :: d :: _, _ => exact ⟨a, b, c, d, rfl⟩
theorem slice_run {W : World} {ev : Operand → Value} {o : Oper} {x y z : Operand} {sb so L cap i j k : Nat} (of : Nat) (hof : (if cap = i then so else so + i) = of) (ho : o.op = .slice 22 x (some y) (some z) none) (hx : ev x = .slice (some ⟨sb, so, none⟩) L cap) (hy : ev y = .int .i64 (i : Int)) (hz : ev z = .int .i64 (j : Int)) (hk : j - i = k) (hij : i ≤ j) (hj : j ≤ cap) :
    (execOp ev o).run Tryd.prog W = .ok (.value (.slice (some ⟨sb, of, none⟩) k (cap - i))) W := by
  subst hk hof
  simp only [execOp, ho, hx, hy, hz, Option.map_some, Option.map_none]
  by_cases hc : cap = i
  · subst hc
    rw [if_pos rfl]
    go_simp
  · rw [if_neg hc]
    go_simp
theorem copy_key {W : World} {B sb of c4 : Nat} {fin m : Bool} {op : Int} {s : ByteArray} {a b c d : Nat} (h : W.heap[B]? = some (.cells #[.bool fin, .int .i64 op, .bool m, .int .u8 0, .int .u8 0, .int .u8 0, .int .u8 0, .string s] 35 (0, 0))) (hs : SrcAt W (.slice (some ⟨sb, of, none⟩) 4 c4) [a, b, c, d]) :
    (Builtin.copy_ #[22, 22] 3 #[.slice (some ⟨B, 3, none⟩) 4 4, .slice (some ⟨sb, of, none⟩) 4 c4]).run Tryd.prog W = .ok (.int .i64 4) (W.setRow B #[.bool fin, .int .i64 op, .bool m, .int .u8 (a : Int), .int .u8 (b : Int), .int .u8 (c : Int), .int .u8 (d : Int), .string s]) := by
  obtain ⟨ad, c', sb', so', he, h1, h2, h3⟩ := hs
  injection he with ea eb ec
  rw [h2 (by simp)] at ea
  injection ea with ea
  injection ea with e1 e2
  subst e1 e2
  have := run_copy_row (P := Tryd.prog) W 22 22 3 5 B 3 4 4 ⟨sb, of, none⟩ 4 c4 _ 35 (u8s [a, b, c, d]) Tryd.underlying22 size5 h (by rfl) (fun j v hv => by
    have hj : j < 4 := (List.getElem?_eq_some_iff.1 hv).1
    rw [Addr.add_mid, h3 j hj, ← hv, u8s_get _ _ hj]) (by simp) (u8s_one _)
  exact this
theorem copy_none {W : World} {B sb of c4 : Nat} : (Builtin.copy_ #[22, 22] 3 #[.slice (some ⟨B, 3, none⟩) 4 4, .slice (some ⟨sb, of, none⟩) 0 c4]).run Tryd.prog W = .ok (.int .i64 0) W :=
  run_copy_none (P := Tryd.prog) W 22 22 3 5 _ _ 4 4 0 c4 Tryd.underlying22 size5 rfl

end Go.Proofs.YtpbfabcjkhlanaaDoor.Fra
