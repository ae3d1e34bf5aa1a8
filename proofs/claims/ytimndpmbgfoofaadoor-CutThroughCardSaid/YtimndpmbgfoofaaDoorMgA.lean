/- msg: a machine in memory, what may change beside it, the bytes of a string behind a row of one's own; New, Err, Over, Part. -/
import Derived.Test.YtimndpmbgfoofaaDoorFrC
import Derived.Test.YtimndpmbgfoofaaDoorClA
import Derived.Test.YtimndpmbgfoofaaDoorMsgPlain
import Derived.Lib.AppendStr
set_option maxRecDepth 100000
namespace Go.Proofs.YtimndpmbgfoofaaDoor.Msg
open Go.RowKit UtfPlain MsgPlain Fra Utf Cls
open FramePlain (Fr form chk ctl zero4)
open ClosePlain (getC)

/-- What is a machine's own: its block, its bytes' and its checker's. -/
def Mine (b : Nat) (v p : Value) (k : Nat) : Prop := k = b ∨ v.ownBlock = some k ∨ p = .pointer (some ⟨k, 0, none⟩)
theorem mine_zero {b k : Nat} (h : Mine b (.slice none 0 0) (.pointer none) k) : k = b := by
  rcases h with h | h | h
  · exact h
  · cases h
  · cases h
/-- Of what was there nothing has changed but the blocks of S. -/
structure Kept (S : Nat → Prop) (W W' : World) : Prop where
  os : W'.os = W.os
  tape : W'.tape = W.tape
  output : W'.output = W.output
  size : W.heap.size ≤ W'.heap.size
  block : ∀ k, k < W.heap.size → ¬ S k → W'.heap[k]? = W.heap[k]?
theorem Kept.below {S : Nat → Prop} {W W' : World} (h : Below W.heap.size W W') : Kept S W W' := ⟨h.os, h.tape, h.output, h.size, fun k hk _ => h.block k hk⟩
theorem Kept.grown {S : Nat → Prop} {W W' : World} {r : Option Nat} (h : W.grownBy W' r) (hr : ∀ k, r = some k → S k) : Kept S W W' :=
  ⟨h.os, h.tape, h.output, h.size, fun k hk hn => h.block k hk (fun e => hn (hr k e.symm))⟩
theorem Kept.trans {S S2 : Nat → Prop} {W V U : World} (h : Kept S W V) (k : Kept S2 V U) (hs : ∀ j, j < W.heap.size → S2 j → S j) : Kept S W U :=
  ⟨k.os.trans h.os, k.tape.trans h.tape, k.output.trans h.output, Nat.le_trans h.size k.size, fun j hj hn => (k.block j (Nat.lt_of_lt_of_le hj h.size) (fun e => hn (hs j hj e))).trans (h.block j hj hn)⟩
theorem Kept.up {S : Nat → Prop} {w0 W V : World} {B : Nat} (h : Kept S W V) (hB : Below B w0 W) (hS : ∀ k, S k → B ≤ k) (hs : B ≤ W.heap.size) : Below B w0 V :=
  ⟨h.os.trans hB.os, h.tape.trans hB.tape, h.output.trans hB.output, Nat.le_trans hB.size h.size, fun k hk => (h.block k (by omega) (fun e => by have := hS k e; omega)).trans (hB.block k hk)⟩
/-- What a step of a machine may change, and what is its own behind. -/
structure Goes (W W' : World) (b : Nat) (v p v' p' : Value) : Prop where
  kept : Kept (Mine b v p) W W'
  mine : ∀ k, Mine b v' p' k → Mine b v p k ∨ W.heap.size ≤ k
theorem Goes.below {W W' : World} (b : Nat) (v p : Value) (h : Below W.heap.size W W') : Goes W W' b v p v p := ⟨.below h, fun _ hk => .inl hk⟩
theorem Goes.trans {W V U : World} {b : Nat} {v p v1 p1 v2 p2 : Value} (h : Goes W V b v p v1 p1) (k : Goes V U b v1 p1 v2 p2) : Goes W U b v p v2 p2 :=
  ⟨h.kept.trans k.kept (fun j hj e => by
    rcases h.mine j e with h1 | h1
    · exact h1
    · omega), fun j e => by
    rcases k.mine j e with h1 | h1
    · exact h.mine j h1
    · exact .inr (Nat.le_trans h.kept.size h1)⟩
/-- Its own block alone is written to. -/
theorem Goes.own {W W' : World} {b : Nat} (v p : Value) {v' p' : Value} (h : W.grownBy W' (some b)) (hm : ∀ k, Mine b v' p' k → Mine b v p k ∨ W.heap.size ≤ k) : Goes W W' b v p v' p' :=
  ⟨.grown h (fun k e => by injection e with e; exact .inl e.symm), hm⟩
/-- A machine: v its bytes, p its checker, o how its letters stand. -/
structure Mac (w0 W : World) (b : Nat) (most op : Int) (text : List Nat) (o : Option St) (err : Nat) (over : Bool) (v p : Value) : Prop where
  X : W.heap[b]? = some (.cells #[.int .i64 most, .int .i64 op, v, p, .int .i64 (err : Int), .bool over] 85 (0, 0))
  O : W.ownsRow w0.heap.size 5 1 v text.length (u8s text)
  C : op ≠ 0 → ∃ c, p = .pointer (some ⟨c, 0, none⟩) ∧ w0.heap.size ≤ c ∧ ChkO W c o
  N : op = 0 → p = .pointer none
  K : OkO o
  B : w0.heap.size ≤ b
  L : Below w0.heap.size w0 W
section
variable {w0 W : World} {b : Nat} {most op : Int} {text : List Nat} {o : Option St} {err : Nat} {over : Bool} {v p : Value}
theorem Mac.lt (h : Mac w0 W b most op text o err over v p) : b < W.heap.size := (Array.getElem?_eq_some_iff.1 h.X).1
theorem Mac.own (h : Mac w0 W b most op text o err over v p) {k : Nat} (hk : Mine b v p k) : w0.heap.size ≤ k ∧ k < W.heap.size := by
  rcases hk with rfl | hk | hk
  · exact ⟨h.B, h.lt⟩
  · exact h.O.lt k hk
  · by_cases h0 : op = 0
    · rw [h.N h0] at hk; cases hk
    · obtain ⟨c, hc, hb, hx⟩ := h.C h0
      rw [hc] at hk
      injection hk with hk
      injection hk with hk
      injection hk with hk
      subst hk
      exact ⟨hb, chk_lt hx⟩
/-- It stays where nothing of it is written to. -/
theorem Mac.stay {W' : World} (h : Mac w0 W b most op text o err over v p) {S : Nat → Prop} (hk : Kept S W W') (hn : ∀ k, Mine b v p k → ¬ S k) (hL : Below w0.heap.size w0 W') : Mac w0 W' b most op text o err over v p where
  X := by rw [hk.block b h.lt (hn b (.inl rfl))]; exact h.X
  O := by
    obtain ⟨h1, h2⟩ := h.O
    refine ⟨h1, ?_⟩
    rcases h2 with h2 | ⟨g, cap, cur, rfl, hb, hg, r⟩
    · exact .inl h2
    · exact .inr ⟨g, cap, cur, rfl, hb, by rw [hk.block g (Array.getElem?_eq_some_iff.1 hg).1 (hn g (.inr (.inl rfl)))]; exact hg, r⟩
  C := fun h0 => by
    obtain ⟨c, hc, hb, hx⟩ := h.C h0
    have e := hk.block c (chk_lt hx) (hn c (.inr (.inr hc)))
    refine ⟨c, hc, hb, ?_⟩
    cases o with
    | none => obtain ⟨n0, n1, l, hx⟩ := hx; exact ⟨n0, n1, l, by show _ = _; rw [e]; exact hx⟩
    | some s => obtain ⟨n0, n1, hx, hy⟩ := hx; exact ⟨n0, n1, by show _ = _; rw [e]; exact hx, hy⟩
  N := h.N
  K := h.K
  B := h.B
  L := hL
theorem Mac.below {W' : World} (h : Mac w0 W b most op text o err over v p) (hb : Below W.heap.size W W') : Mac w0 W' b most op text o err over v p :=
  h.stay (S := fun _ => False) (.below hb) (fun _ _ => id) (h.L.trans (hb.mono h.L.size))
theorem Mac.cells (h : Mac w0 W b most op text o err over v p) : W.cell? ⟨b, 0, none⟩ = some (.int .i64 most) ∧ W.cell? ⟨b, 1, none⟩ = some (.int .i64 op) ∧ W.cell? ⟨b, 2, none⟩ = some v ∧ W.cell? ⟨b, 3, none⟩ = some p ∧ W.cell? ⟨b, 4, none⟩ = some (.int .i64 (err : Int)) ∧ W.cell? ⟨b, 5, none⟩ = some (.bool over) := by
  refine ⟨?_, ?_, ?_, ?_, ?_, ?_⟩ <;> (rw [cell_of_row _ _ _ _ _ _ h.X]; rfl)
theorem Mac.froz (h : Mac w0 W b most op text o err over v p) (i : Nat) : W.frozen? ⟨b, i, none⟩ = false := frozen_of_row _ _ _ _ _ h.X
theorem Mac.slice (h : Mac w0 W b most op text o err over v p) : ∃ a c, v = .slice a text.length c := by
  rcases h.O.2 with ⟨rfl, hz⟩ | ⟨g, cap, cur, rfl, _⟩
  · rw [hz]; exact ⟨_, _, rfl⟩
  · exact ⟨_, _, rfl⟩
/-- Its row's block is neither its own nor its checker's: these are of other kinds. -/
theorem own_kind {W : World} {base g n : Nat} {v : Value} {xs : List Value} {cs : Array Value} {t : TypeId} (ho : W.ownsRow base 5 1 v n xs) (h : W.heap[g]? = some (.cells cs t (0, 0))) (ht : t ≠ 5) : v.ownBlock ≠ some g := fun e => by
  obtain ⟨_, h2⟩ := ho
  rcases h2 with ⟨rfl, _⟩ | ⟨k, cap, cur, rfl, _, hh, _⟩
  · cases e
  · obtain rfl : k = g := by simpa [Value.ownBlock] using e
    rw [h] at hh
    injection hh with hh
    injection hh with _ h4
    exact ht h4
theorem chk_kind {W : World} {c : Nat} {o : Option St} (h : ChkO W c o) : ∃ cs, W.heap[c]? = some (.cells cs 125 (0, 0)) := by
  cases o with
  | none => obtain ⟨n0, n1, l, h⟩ := h; exact ⟨_, h⟩
  | some s => obtain ⟨n0, n1, h, _⟩ := h; exact ⟨_, h⟩
/-- Its own block is written to: other cells, the bytes and the checker being the same or none. -/
theorem Mac.write {W' : World} (h : Mac w0 W b most op text o err over v p) (hg : W.grownBy W' (some b)) {op' : Int} {text' : List Nat} {o' : Option St} {err' : Nat} {over' : Bool} {v' p' : Value}
    (hX : W'.heap[b]? = some (.cells #[.int .i64 most, .int .i64 op', v', p', .int .i64 (err' : Int), .bool over'] 85 (0, 0)))
    (hz : (v' = v ∧ p' = p ∧ op' = op ∧ text' = text ∧ o' = o) ∨ (v' = .slice none 0 0 ∧ p' = .pointer none ∧ op' = 0 ∧ text' = [] ∧ OkO o')) :
    Mac w0 W' b most op' text' o' err' over' v' p' ∧ Goes W W' b v p v' p' := by
  have hL : Below w0.heap.size w0 W' := h.L.grown hg h.L.size (fun k hk => by injection hk with hk; rw [← hk]; exact h.B)
  rcases hz with ⟨rfl, rfl, rfl, rfl, rfl⟩ | ⟨rfl, rfl, rfl, rfl, hok⟩
  · refine ⟨⟨hX, h.O.kept hg (.inr (own_kind h.O h.X (by decide))), fun h0 => ?_, h.N, h.K, h.B, hL⟩, .own _ _ hg (fun k hk => .inl hk)⟩
    obtain ⟨c, hc, hb, hx⟩ := h.C h0
    refine ⟨c, hc, hb, chk_grown hx hg (fun e => ?_)⟩
    obtain ⟨cs, hcs⟩ := chk_kind hx
    rw [e, h.X] at hcs
    injection hcs with hcs
    injection hcs with _ hcs
    exact absurd hcs (by decide)
  · exact ⟨⟨hX, World.ownsRow_nil _ _ _ _, fun h0 => absurd rfl h0, fun _ => rfl, hok, h.B, hL⟩, .own _ _ hg (fun k hk => .inl (.inl (mine_zero hk)))⟩
end
/-- How the letters of a state stand. -/
def chkS (op : Int) (text : List Nat) : Option St := if op = 1 then uend s0 text else some s0
/-- A machine that frames came to. -/
structure MacS (w0 W : World) (b : Nat) (most : Int) (st : Ms) (v p : Value) : Prop where
  m : Mac w0 W b most st.op st.text (chkS st.op st.text) st.err st.over v p
  f : Fit most st
  lo : 1 ≤ most
  hi : most ≤ 1048576
theorem MacS.below {w0 W W' : World} {b : Nat} {most : Int} {st : Ms} {v p : Value} (h : MacS w0 W b most st v p) (hb : Below W.heap.size W W') : MacS w0 W' b most st v p := ⟨h.m.below hb, h.f, h.lo, h.hi⟩
theorem MacS.len {w0 W : World} {b : Nat} {most : Int} {st : Ms} {v p : Value} (h : MacS w0 W b most st v p) : st.text.length ≤ 1048576 := by have := h.f.most; have := h.hi; omega
/-- A machine stays when another one goes on. -/
theorem MacS.apart {w0 W W' : World} {b : Nat} {most : Int} {st : Ms} {v p : Value} (h : MacS w0 W b most st v p) {S : Nat → Prop} (hk : Kept S W W') (hn : ∀ k, Mine b v p k → ¬ S k) (hL : Below w0.heap.size w0 W') : MacS w0 W' b most st v p := ⟨h.m.stay hk hn hL, h.f, h.lo, h.hi⟩
theorem info5s : ∃ i, Tryd.prog.info? 5 = some i ∧ i.zero = some (.int .u8 0) ∧ i.size = 1 ∧ i.bytes = 1 := info5'
theorem strCells_eq (s : ByteArray) : Lib.strCells s = u8s (bytes s) := by
  unfold Lib.strCells u8s bytes
  rw [List.map_map]; rfl
/-- A string's bytes behind a row of one's own: its block, or a new one. -/
theorem add_str {Z : World} {base : Nat} {v : Value} {m : List Nat} (hown : Z.ownsRow base 5 1 v m.length (u8s m)) (s : ByteArray) (hl : m.length + s.size ≤ 4000000) (hbase : base ≤ Z.heap.size) :
    ∃ v1 w1, (Builtin.append_ #[36, 9] 36 #[v, .string s]).run Tryd.prog Z = .ok v1 w1 ∧ w1.ownsRow base 5 1 v1 (m ++ bytes s).length (u8s (m ++ bytes s)) ∧ Z.grownBy w1 v.ownBlock ∧ (∀ k, v1.ownBlock = some k → v.ownBlock = some k ∨ Z.heap.size ≤ k) := by
  obtain ⟨i0, hi0, hz0, hz1, hz2⟩ := info5s
  have hml : m.length + s.size ≤ maxLen := by unfold maxLen; omega
  obtain ⟨v', w', hr, h2, h3, _⟩ := Lib.run_append_own_string (P := Tryd.prog) Z base 36 9 36 5 i0 Tryd.underlying36 Tryd.underlying9 hi0 hz0 hz1 hz2 v m.length (u8s m) hown s hml (by omega) hbase
  rw [strCells_eq, ← u8s_append] at h2
  refine ⟨v', w', hr, by rw [List.length_append, bytes_length]; exact h2, h3, fun k hk => ?_⟩
  rcases hown.2 with ⟨rfl, h0⟩ | ⟨g, cap, cur, rfl, hbg, hg, hnc, hcm, hcs, htake⟩
  · have hm0 : m = [] := List.eq_nil_of_length_eq_zero h0
    subst hm0
    obtain ⟨v2, w2, hr2, h4, _⟩ := Lib.run_append_own_string (P := Tryd.prog) Z Z.heap.size 36 9 36 5 i0 Tryd.underlying36 Tryd.underlying9 hi0 hz0 hz1 hz2 _ 0 [] (World.ownsRow_nil Z Z.heap.size 5 1) s (by simpa using hml) (by simp at hl; omega) (Nat.le_refl _)
    have hr' : (Builtin.append_ #[36, 9] 36 #[.slice none 0 0, .string s]).run Tryd.prog Z = .ok v' w' := hr
    rw [hr'] at hr2
    injection hr2 with e1 e2
    subst e1 e2
    exact .inr (h4.lt k hk).1
  · by_cases hroom : m.length + s.size ≤ cap
    · have hr2 := Lib.run_append_room_string (P := Tryd.prog) Z 36 9 36 5 i0 Tryd.underlying36 Tryd.underlying9 hi0 hz1 g m.length cap cur hg s hroom (by omega)
      rw [hr] at hr2
      injection hr2 with e1 e2
      rw [e1] at hk
      exact .inl hk
    · have holds : ∀ j u, (u8s m)[j]? = some u → Z.cell? ((⟨g, 0, none⟩ : Addr).add j) = some u := hown.cells (g := g) rfl
      have hr2 := Lib.run_append_grow_string (P := Tryd.prog) Z 36 9 36 5 i0 (.int .u8 0) Tryd.underlying36 Tryd.underlying9 hi0 hz0 ⟨g, 0, none⟩ m.length cap (u8s m) (by rw [hz1]; simp) holds s (by omega) (by omega) (by rw [hz2]; exact growslice_fits (by omega) (by omega))
      rw [hr] at hr2
      injection hr2 with e1 e2
      rw [e1] at hk
      simp only [Value.ownBlock] at hk
      injection hk with hk
      exact .inr (by omega)
/-- A row of one's own, as a string. -/
theorem own_conv {W : World} {base : Nat} {v : Value} {bs : List Nat} (h : W.ownsRow base 5 1 v bs.length (u8s bs)) : (convert 36 9 v).run Tryd.prog W = .ok (.string (strOf bs)) W := by
  by_cases hp : 0 < bs.length
  · obtain ⟨g, cap, rfl, _, hs⟩ := own_src h hp
    exact hs.conv
  · have h0 : bs = [] := List.eq_nil_of_length_eq_zero (by omega)
    subst h0
    rcases h.2 with ⟨rfl, _⟩ | ⟨g, cap, cur, rfl, _⟩
    · exact run_convert_bytes_nil (P := Tryd.prog) W 36 5 Tryd.underlying36 Tryd.underlying5 0 0 9 Tryd.underlying9
    · exact run_convert_bytes_arg (P := Tryd.prog) W 36 5 Tryd.underlying36 Tryd.underlying5 g 0 0 cap [] rfl (fun i hi => absurd hi (Nat.not_lt_zero _)) 9 Tryd.underlying9
theorem new_yes (most : Int) (w0 W : World) (hB : Below w0.heap.size w0 W) (hm : 1 ≤ most ∧ most ≤ 1048576) :
    Calls Tryd.prog 23 #[.int .i64 most] W fun e w' => e = .returned (.tuple #[.pointer (some ⟨W.heap.size, 0, none⟩), .int .i64 0]) ∧ Sl (MacS w0 w' W.heap.size most M0 (.slice none 0 0) (.pointer none)) ∧ Sl (Below W.heap.size W w') := by
  have q1 : (most < 1) = False := eq_false (by omega)
  have q2 : (most > 1048576) = False := eq_false (by omega)
  have HS := Sl.mk hB.size
  have HB := Sl.mk hB
  have HM := Sl.mk hm
  clear hB hm
  go_enter Tryd.func23, Tryd.ntmps23
  go_wp2
  go_ret2
  exact ⟨rfl, ⟨⟨⟨alloc_new _ _ _ rfl, World.ownsRow_nil _ _ _ _, fun h => absurd rfl h, fun _ => rfl, okO0, HS.out, HB.out.alloc HS.out _⟩, fit0 (by have := HM.out.1; omega), HM.out.1, HM.out.2⟩⟩, ⟨(Below.refl _ _).alloc (Nat.le_refl _) _⟩⟩
theorem new_no (most : Int) (W : World) (hm : most < 1 ∨ 1048576 < most) : Calls Tryd.prog 23 #[.int .i64 most] W fun e w' => e = .returned (.tuple #[.pointer none, .int .i64 123]) ∧ W = w' := by
  by_cases h1 : most < 1
  · have q1 : (most < 1) = True := eq_true h1
    clear hm h1
    go_enter Tryd.func23, Tryd.ntmps23
    go_wp2
    go_ret2
    exact ⟨rfl, rfl⟩
  · have q1 : (most < 1) = False := eq_false h1
    have q2 : (most > 1048576) = True := eq_true (by omega)
    clear hm h1
    go_enter Tryd.func23, Tryd.ntmps23
    go_wp2
    go_ret2
    exact ⟨rfl, rfl⟩
section
variable {w0 W : World} {b : Nat} {most op : Int} {text : List Nat} {o : Option St} {err : Nat} {over : Bool} {v p : Value}
end
end Go.Proofs.YtimndpmbgfoofaaDoor.Msg
/- msg: add: bytes more of a message. -/
set_option maxRecDepth 100000
namespace Go.Proofs.YtimndpmbgfoofaaDoor.Msg
open Go.RowKit UtfPlain MsgPlain Fra Utf Cls
open FramePlain (Fr form chk ctl zero4)
open ClosePlain (getC)

/-- How the letters stand behind more bytes, and whether the message may be with them. -/
def addO (op : Int) (o : Option St) (bs : List Nat) : Option St := if op = 1 then en o bs else o
def addR (op : Int) (o : Option St) (last : Bool) (bs : List Nat) : Bool := if op = 1 then (if last then decide (en o bs = some s0) else (en o bs).isSome) else true
theorem app_str {w w1 : World} {ops : Array Oper} {rest : List Oper} {o : Oper} {a : Act} {Q : Exit → Act → World → Prop} (hgd : o.guard = none) (sl x : Operand)
    (ho : o.op = .call { callee := .builtin .append, args := #[sl, x], argTypes := #[36, 9] }) (hty : o.type = 36) (v v1 : Value) (s : ByteArray) (hs : a.eval sl = v) (hx : a.eval x = .string s)
    (hrun : (Builtin.append_ #[36, 9] 36 #[v, .string s]).run Tryd.prog w = .ok v1 w1) (h : wpList Tryd.prog ops Q rest (a.put o.dst v1) w1) : wpList Tryd.prog ops Q (o :: rest) a w := by
  refine wpList_plain hgd fun K hK => ?_
  unfold Oper.wp
  have hy : (execOp a.eval o).run Tryd.prog w = .ok (.value v1) w1 := by
    simp [execOp, ho, hty, resolve, invoke, builtin, hs, hx, hrun, Result.andThen]
  rw [hy, Oper.upon_value]
  exact hK _ _ h
section
variable {w0 W : World} {b : Nat} {most op : Int} {text : List Nat} {o : Option St} {err : Nat} {over : Bool} {v p : Value}
/-- Other bytes are kept. -/
theorem mac_fed (h : Mac w0 W b most op text o err over v p) {w2 : World} (g : W.grownBy w2 v.ownBlock) {T : List Nat} {v1 : Value} (ho : w2.ownsRow w0.heap.size 5 1 v1 T.length (u8s T)) (hv : ∀ k, v1.ownBlock = some k → v.ownBlock = some k ∨ W.heap.size ≤ k) :
    Mac w0 (w2.setCell ⟨b, 2, none⟩ v1) b most op T o err over v1 p ∧ Goes W (w2.setCell ⟨b, 2, none⟩ v1) b v p v1 p := by
  have hk := own_kind h.O h.X (by decide)
  have hb2 : w2.heap[b]? = some (.cells #[.int .i64 most, .int .i64 op, v, p, .int .i64 (err : Int), .bool over] 85 (0, 0)) := by rw [g.block b h.lt (fun e => hk e.symm)]; exact h.X
  have hk2 := own_kind ho hb2 (by decide)
  have g2 := grown_setCell w2 b 2 v1
  have hL : Below w0.heap.size w0 w2 := h.L.grown g h.L.size (fun k hk => (h.O.lt k hk).1)
  refine ⟨⟨by rw [heap_setCell_same _ _ _ _ _ _ hb2]; rfl, ho.kept g2 (.inr hk2), fun h0 => ?_, h.N, h.K, h.B, hL.grown g2 hL.size (fun k hk => by injection hk with hk; rw [← hk]; exact h.B)⟩, ⟨?_, fun k hk => ?_⟩⟩
  · obtain ⟨c, hc, hb, hx⟩ := h.C h0
    obtain ⟨cs, hcs⟩ := chk_kind hx
    have k1 := own_kind h.O hcs (by decide)
    have hx2 : ChkO w2 c o := by
      cases hv : v.ownBlock with
      | none => rw [hv] at g; exact chk_below hx ⟨g.os, g.tape, g.output, g.size, fun k hk => g.block k hk (fun e => by cases e)⟩
      | some j => rw [hv] at g k1; exact chk_grown hx g (fun e => k1 (by rw [e]))
    refine ⟨c, hc, hb, chk_grown hx2 g2 (fun e => ?_)⟩
    rw [e, h.X] at hcs
    injection hcs with hcs
    injection hcs with _ hcs
    exact absurd hcs (by decide)
  · exact Kept.trans (S := Mine b v p) (.grown g (fun k hk => .inr (.inl hk))) (.grown (S := fun k => k = b) g2 (fun k hk => by injection hk with hk; exact hk.symm)) (fun j _ e => .inl e)
  · rcases hk with hk | hk | hk
    · exact .inl (.inl hk)
    · rcases hv k hk with h1 | h1
      · exact .inl (.inr (.inl h1))
      · exact .inr h1
    · exact .inl (.inr (.inr hk))
/-- Its letters are looked at. -/
theorem mac_chk (h : Mac w0 W b most op text o err over v p) {W' : World} {c : Nat} {o' : Option St} (hc : p = .pointer (some ⟨c, 0, none⟩)) (hop : op ≠ 0) (g : W.grownBy W' (some c)) (hx : ChkO W' c o') (ok : OkO o') :
    Mac w0 W' b most op text o' err over v p ∧ Goes W W' b v p v p := by
  obtain ⟨c', hc', hb, hx0⟩ := h.C hop
  obtain rfl : c' = c := by rw [hc] at hc'; injection hc' with e; injection e with e; injection e with e; exact e.symm
  obtain ⟨cs, hcs⟩ := chk_kind hx0
  have k1 := own_kind h.O hcs (by decide)
  have k2 : b ≠ c' := fun e => by
    rw [← e, h.X] at hcs
    injection hcs with hcs
    injection hcs with _ hcs
    exact absurd hcs (by decide)
  exact ⟨⟨by rw [g.block b h.lt (fun e => k2 (by injection e))]; exact h.X, h.O.kept g (.inr k1), fun _ => ⟨c', hc, hb, hx⟩, h.N, ok, h.B, h.L.grown g h.L.size (fun k hk => by injection hk with hk; rw [← hk]; exact hb)⟩,
    ⟨.grown g (fun k hk => by injection hk with hk; subst hk; exact .inr (.inr hc)), fun k hk => .inl hk⟩⟩
set_option maxHeartbeats 1000000 in
theorem add_any (h : Mac w0 W b most op text o err over v p) (hop : op ≠ 0) (hg : Utf.Globs w0) (s : ByteArray) (last : Bool) (hs : s.size ≤ 100000) (ht : text.length ≤ 2000000) (r : Bool) (hr : addR op o last (bytes s) = r) :
    Calls Tryd.prog 67 #[.pointer (some ⟨b, 1, none⟩), .string s, .bool last] W fun e w' => ∃ v', e = .returned (.bool r) ∧ Sl (Mac w0 w' b most op (text ++ bytes s) (addO op o (bytes s)) err over v' p) ∧ Sl (Goes W w' b v p v' p) := by
  obtain ⟨v1, w2, hrun, ho1, hg1, hv1⟩ := add_str h.O s (by omega) h.L.size
  obtain ⟨hm, hgo⟩ := mac_fed h hg1 ho1 hv1
  obtain ⟨a1, n1, k1, rfl⟩ : ∃ a n k, v1 = .slice a n k := by obtain ⟨a, k, e⟩ := hm.slice; exact ⟨a, _, k, e⟩
  have HM := Sl.mk hm
  have HG1 : Sl (Goes W (w2.setCell ⟨b, 2, none⟩ (.slice a1 n1 k1)) b v p (.slice a1 n1 k1) p) := ⟨hgo⟩
  have hb2 : w2.heap[b]? = some (.cells #[.int .i64 most, .int .i64 op, v, p, .int .i64 (err : Int), .bool over] 85 (0, 0)) := by rw [hg1.block b h.lt (fun e => own_kind h.O h.X (by decide) e.symm)]; exact h.X
  have c2 : w2.cell? ⟨b, 2, none⟩ = some v := by rw [cell_of_row _ _ _ _ _ _ hb2]; rfl
  have f2 : w2.frozen? ⟨b, 2, none⟩ = false := frozen_of_row _ _ _ _ _ hb2
  have e2 := h.cells.2.2.1
  have HG := Sl.mk hg
  have HS := Sl.mk hs
  obtain ⟨w3, hw3⟩ : ∃ V, w2.setCell ⟨b, 2, none⟩ (.slice a1 n1 k1) = V := ⟨_, rfl⟩
  rw [hw3] at HM HG1
  have d1 : w3.cell? ⟨b, 1, none⟩ = some (.int .i64 op) := HM.out.cells.2.1
  have d3 : w3.cell? ⟨b, 3, none⟩ = some p := HM.out.cells.2.2.2.1
  have HOP := Sl.mk hop
  clear ho1 hg1 hv1 hm hgo hb2 hg hs ht hop h
  by_cases h1 : op = 1
  · subst h1
    obtain ⟨c, hc, hcb, hx⟩ := HM.out.C HOP.out
    subst hc
    have HX := Sl.mk hx
    have HCB := Sl.mk hcb
    obtain ⟨cap, w4, hcv, HSV, HBV⟩ := conv_str s w3
    have HM4 := Sl.mk (HM.out.below HBV.out)
    have HG4 := Sl.mk (HG1.out.trans (Goes.below b (.slice a1 n1 k1) (.pointer (some ⟨c, 0, none⟩)) HBV.out))
    have HX4 := chk_below hx HBV.out
    have hcl := chk_lt hx
    have F := feed_ex w0 w4 c o (bytes s) (.slice (some ⟨w3.heap.size, 0, none⟩) s.size cap) _ rfl hcb HM4.out.L HG.out HX4 HM.out.K (HSV.out.offs hcl) (by rw [bytes_length]; exact HS.out)
    have HK := Sl.mk HM.out.K
    have g3 : w4.cell? ⟨b, 3, none⟩ = some (.pointer (some ⟨c, 0, none⟩)) := HM4.out.cells.2.2.2.1
    unfold addR at hr
    rw [if_pos rfl] at hr
    have hao : addO 1 o (bytes s) = en o (bytes s) := if_pos rfl
    rw [hao]
    clear hx hcb HX4 hcl HSV HBV hao
    cases last with
    | true =>
      rw [if_pos rfl] at hr
      go_enter Tryd.func67, Tryd.ntmps67
      go_wp2_with (at_builtin; refine app_str rfl _ _ rfl rfl v (.slice a1 n1 k1) s rfl rfl hrun ?_)
      refine F.mono ?_
      rintro e w5 ⟨rfl, HX5, HG5, -⟩
      clear F
      obtain ⟨hm5, hg5⟩ := mac_chk HM4.out rfl HOP.out HG5.out HX5.out (HK.out.en _)
      have HM5 := Sl.mk hm5
      have HG6 := Sl.mk (HG4.out.trans hg5)
      have g5 : w5.cell? ⟨b, 3, none⟩ = some (.pointer (some ⟨c, 0, none⟩)) := hm5.cells.2.2.2.1
      have WH := whole_ex c _ w5 r HX5.out (HK.out.en _) hr
      clear hm5 hg5
      go_wp2_with fail
      refine WH.mono ?_
      rintro e w6 ⟨rfl, rfl⟩
      go_wp2
      go_ret
      exact ⟨_, rfl, HM5, HG6⟩
    | false =>
      rw [if_neg (by decide)] at hr
      go_enter Tryd.func67, Tryd.ntmps67
      go_wp2_with (at_builtin; refine app_str rfl _ _ rfl rfl v (.slice a1 n1 k1) s rfl rfl hrun ?_)
      refine F.mono ?_
      rintro e w5 ⟨rfl, HX5, HG5, -⟩
      clear F
      obtain ⟨hm5, hg5⟩ := mac_chk HM4.out rfl HOP.out HG5.out HX5.out (HK.out.en _)
      have HM5 := Sl.mk hm5
      have HG6 := Sl.mk (HG4.out.trans hg5)
      have g5 : w5.cell? ⟨b, 3, none⟩ = some (.pointer (some ⟨c, 0, none⟩)) := hm5.cells.2.2.2.1
      have WH := right_ex c _ w5 r HX5.out hr
      clear hm5 hg5
      go_wp2_with fail
      refine WH.mono ?_
      rintro e w6 ⟨rfl, rfl⟩
      go_wp2
      go_ret
      exact ⟨_, rfl, HM5, HG6⟩
  · have q1 : (op != 1) = true := by simpa using h1
    obtain rfl : r = true := by rw [← hr]; unfold addR; rw [if_neg h1]
    have ho : addO op o (bytes s) = o := if_neg h1
    rw [ho]
    clear h1 hr ho HG HS
    go_enter Tryd.func67, Tryd.ntmps67
    go_wp2_with (at_builtin; refine app_str rfl _ _ rfl rfl v (.slice a1 n1 k1) s rfl rfl hrun ?_)
    go_ret
    exact ⟨_, rfl, HM, HG1⟩
end
end Go.Proofs.YtimndpmbgfoofaaDoor.Msg
/- msg: what is told: events as values, and the closures that make them. -/
set_option maxRecDepth 100000
namespace Go.Proofs.YtimndpmbgfoofaaDoor.Msg
open Go.RowKit UtfPlain MsgPlain Fra Utf Cls
open FramePlain (Fr form chk ctl zero4)
open ClosePlain (getC)

/-- An event's cells, and its value. -/
def evC (op code : Int) (s : ByteArray) : Array Value := #[.int .i64 op, .int .i64 code, .string s]
def evV (x : Ev) : Value := .agg (evC x.op x.code (strOf x.data))
def evO : Option Ev → Value
  | some x => evV x
  | none => .agg #[.int .i64 0, .int .i64 0, .string { data := #[] }]
/-- What tells an event, or nothing. -/
def Tell (W : World) (tv : Value) : Option Ev → Prop
  | none => tv = .nilFunc
  | some x => ∃ (n : FuncId) (cs : Array Value), tv = .func (.func n) #[] cs ∧ (∀ args V, (callFunc n args).run Tryd.prog V = .ok (.enter n args) V) ∧ Calls Tryd.prog n cs W fun e w' => e = .returned (evV x) ∧ Sl (Below W.heap.size W w')
theorem ev_info {cs : Array Value} (h : cs.size = 3) : (Tryd.prog.info? 57).map (·.size) = some cs.size := by rw [h]; kernel_rfl
theorem ret_ev {fn : Func} {p : Tmp} (h : fn.results = #[.cell p 57]) (tmps : Array Value) (w : World) (g : Nat) (t : TypeId) (cs : Array Value) (fr : Nat × Nat)
    (hp : tmps.getD p undef = .pointer (some ⟨g, 0, none⟩)) (hg : w.heap[g]? = some (.cells cs t fr)) (hs : cs.size = 3) : (results fn tmps).run Tryd.prog w = .ok (.agg cs) w :=
  results_cell_row h tmps w g t cs fr _ hp hg Tryd.underlying57 rfl (ev_info hs)
theorem ev_all (a b : Int) (s : ByteArray) : (#[.int .i64 a, .int .i64 b, .string s] : Array Value).all (·.oneCell') = true := by simp [Value.oneCell']
theorem store_ev {W : World} {ev : Operand → Value} {o : Oper} {x y : Operand} {g : Nat} {old cells : Array Value} (ho : o.op = .store 57 x y) (hx : ev x = .pointer (some ⟨g, 0, none⟩)) (hy : ev y = .agg cells) (hg : W.heap[g]? = some (.cells old 57 (0, 0))) (hs : old.size = cells.size) (hi : (Tryd.prog.info? 57).map (·.size) = some cells.size) (h1 : cells.all (·.oneCell') = true) :
    (execOp ev o).run Tryd.prog W = .ok .skip (W.setRow g cells) := by
  unfold execOp
  simp only [ho, hx, hy, Instr.storeAt, Instr.sureAddr, Sem.run_bind, Sem.run_pure, Result.andThen_ok, run_storeVar_row W g 57 57 old cells hg hi hs h1]
theorem tmore_any {W : World} {base g : Nat} {op : Int} {v p : Value} {text : List Nat} (h : W.heap[g]? = some (.cells #[.int .i64 op, v, p] 83 (0, 0))) (ho : W.ownsRow base 5 1 v text.length (u8s text)) :
    Calls Tryd.prog 68 #[.pointer (some ⟨g, 0, none⟩)] W fun e w' => e = .returned (evV ⟨op, 0, text⟩) ∧ Sl (Below W.heap.size W w') := by
  obtain ⟨W1, hW1⟩ : ∃ V, W.alloc (.cells #[.int .i64 0, .int .i64 0, .string { data := #[] }] 57) = V := ⟨_, rfl⟩
  have HB : Below W.heap.size W W1 := by rw [← hW1]; exact (Below.refl _ _).alloc (Nat.le_refl _) _
  have HN : W1.heap[W.heap.size]? = some (.cells #[.int .i64 0, .int .i64 0, .string { data := #[] }] 57 (0, 0)) := by rw [← hW1]; exact alloc_new _ _ _ rfl
  have h1 := below_key h HB
  have hcv := own_conv (own_below ho HB)
  have c0 : W1.cell? ⟨g, 0, none⟩ = some (.int .i64 op) := by rw [cell_of_row _ _ _ _ _ _ h1]; rfl
  have c1 : W1.cell? ⟨g, 1, none⟩ = some v := by rw [cell_of_row _ _ _ _ _ _ h1]; rfl
  have HNS := Sl.mk HN
  have HBS := Sl.mk HB
  have HI := ev_info (cs := #[.int .i64 op, .int .i64 0, .string (strOf text)]) rfl
  obtain ⟨a, n, k, rfl⟩ : ∃ a n k, v = .slice a n k := by
    rcases ho.2 with ⟨rfl, _⟩ | ⟨g, cap, cur, rfl, _⟩
    · exact ⟨_, _, _, rfl⟩
    · exact ⟨_, _, _, rfl⟩
  clear h ho h1 HN HB
  go_enter Tryd.func68, Tryd.ntmps68
  go_wp2_with (refine wpList_store_row rfl 57 (.tmp 1) (.tmp 7) rfl W.heap.size #[.int .i64 op, .int .i64 0, .string (strOf text)] rfl rfl 57 #[.int .i64 0, .int .i64 0, .string { data := #[] }] HNS.out HI rfl (ev_all _ _ _) ?_)
  refine bodyPost_ret (ret_ev rfl _ _ W.heap.size 57 _ (0, 0) rfl (setRow_heap _ _ _ _ _ _ HNS.out) rfl) rfl ?_
  exact ⟨rfl, ⟨below_setRow HBS.out (Nat.le_refl _) _⟩⟩
theorem tend_any {W : World} {g q : Nat} {code : Int} {s : ByteArray} (h : W.heap[g]? = some (.cells #[.int .i64 code] 3 (0, 0))) (h2 : W.heap[q]? = some (.cells #[.string s] 9 (0, 0))) :
    Calls Tryd.prog 65 #[.pointer (some ⟨g, 0, none⟩), .pointer (some ⟨q, 0, none⟩)] W fun e w' => e = .returned (evV ⟨8, code, bytes s⟩) ∧ Sl (Below W.heap.size W w') := by
  obtain ⟨W1, hW1⟩ : ∃ V, W.alloc (.cells #[.int .i64 0, .int .i64 0, .string { data := #[] }] 57) = V := ⟨_, rfl⟩
  have HB : Below W.heap.size W W1 := by rw [← hW1]; exact (Below.refl _ _).alloc (Nat.le_refl _) _
  have HN : W1.heap[W.heap.size]? = some (.cells #[.int .i64 0, .int .i64 0, .string { data := #[] }] 57 (0, 0)) := by rw [← hW1]; exact alloc_new _ _ _ rfl
  have c0 := cell_of_one (below_key h HB)
  have c1 := cell_of_one (below_key h2 HB)
  have HNS := Sl.mk HN
  have HBS := Sl.mk HB
  have HI := ev_info (cs := #[.int .i64 8, .int .i64 code, .string s]) rfl
  unfold evV
  rw [strOf_bytes]
  clear h h2 HN HB
  go_enter Tryd.func65, Tryd.ntmps65
  go_wp2_with (refine wpList_store_row rfl 57 (.tmp 2) (.tmp 5) rfl W.heap.size #[.int .i64 8, .int .i64 code, .string s] rfl rfl 57 #[.int .i64 0, .int .i64 0, .string { data := #[] }] HNS.out HI rfl (ev_all _ _ _) ?_)
  refine bodyPost_ret (ret_ev rfl _ _ W.heap.size 57 _ (0, 0) rfl (setRow_heap _ _ _ _ _ _ HNS.out) rfl) rfl ?_
  exact ⟨rfl, ⟨below_setRow HBS.out (Nat.le_refl _) _⟩⟩
theorem tread_any {W : World} {g : Nat} {fin m : Bool} {op : Int} {a b c d : Nat} {s : ByteArray} (h : W.heap[g]? = some (.cells #[.bool fin, .int .i64 op, .bool m, .int .u8 ((a : Nat) : Int), .int .u8 ((b : Nat) : Int), .int .u8 ((c : Nat) : Int), .int .u8 ((d : Nat) : Int), .string s] 44 (0, 0))) (hs : s.size ≤ 1000000) :
    Calls Tryd.prog 55 #[.pointer (some ⟨g, 0, none⟩)] W fun e w' => e = .returned (evV ⟨op, 0, bytes s⟩) ∧ Sl (Below W.heap.size W w') := by
  obtain ⟨W1, hW1⟩ : ∃ V, W.alloc (.cells #[.int .i64 0, .int .i64 0, .string { data := #[] }] 57) = V := ⟨_, rfl⟩
  have HB : Below W.heap.size W W1 := by rw [← hW1]; exact (Below.refl _ _).alloc (Nat.le_refl _) _
  have HN : W1.heap[W.heap.size]? = some (.cells #[.int .i64 0, .int .i64 0, .string { data := #[] }] 57 (0, 0)) := by rw [← hW1]; exact alloc_new _ _ _ rfl
  have HNS := Sl.mk HN
  have HBS := Sl.mk HB
  have HI := ev_info (cs := #[.int .i64 op, .int .i64 0, .string s]) rfl
  unfold evV
  rw [strOf_bytes]
  have HF1 := below_key h HB
  have HGL : g < W.heap.size := (Array.getElem?_eq_some_iff.1 h).1
  have HM := Sl.mk hs
  clear h HN HB hs
  go_enter Tryd.func55, Tryd.ntmps55
  go_upto_region 1 with fail
  obtain ⟨Rw, hRw⟩ : ∃ R, W1.drew = R := ⟨_, rfl⟩
  have HBR : Below W1.heap.size W1 Rw := by rw [← hRw]; exact (Below.refl _ _).drew
  refine wp_region_noPanic ?_
  refine wp_region_held (S := fun V => V.heap[g]? = some (.cells #[.bool fin, .int .i64 op, .bool m, .int .u8 ((a : Nat) : Int), .int .u8 ((b : Nat) : Int), .int .u8 ((c : Nat) : Int), .int .u8 ((d : Nat) : Int), .string s] 44 (0, 0))) (by kernel_rfl) ?_
  change wpAnyH _ _ _ _ _ _ _ _ W1.drew
  rw [hRw]
  clear hRw
  have HS0 := below_key HF1 HBR
  have C := clone_any s Rw HM.out
  refine heldTake (d := some 2) (op := .fieldAddr 44 (Operand.tmp 0) 1) (g := none) 0 ?v0 rfl (by kernel_rfl) (by kernel_rfl) (by kernel_rfl) (by kernel_rfl) ?y0 HS0 ?_
  case y0 => intro o' ho W hS; simp only [execOp, ho]; go_simp; try rfl
  simp only [Act.put, List.setIfInBounds_toArray, List.set_cons_zero, List.set_cons_succ]
  refine heldTake (d := some 3) (op := .load 3 (Operand.tmp 2)) (g := none) 1 ?v1 rfl (by kernel_rfl) (by kernel_rfl) (by kernel_rfl) (by kernel_rfl) ?y1 HS0 ?_
  case y1 => intro o' ho W hS; obtain ⟨_, hc, _, _, _, _, _, _⟩ := bx8 hS; simp only [execOp, ho]; go_simp; try rfl
  simp only [Act.put, List.setIfInBounds_toArray, List.set_cons_zero, List.set_cons_succ]
  refine heldTake (d := some 4) (op := .fieldAddr 44 (Operand.tmp 0) 4) (g := none) 2 ?v2 rfl (by kernel_rfl) (by kernel_rfl) (by kernel_rfl) (by kernel_rfl) ?y2 HS0 ?_
  case y2 => intro o' ho W hS; simp only [execOp, ho]; go_simp; try rfl
  simp only [Act.put, List.setIfInBounds_toArray, List.set_cons_zero, List.set_cons_succ]
  refine heldTake (d := some 5) (op := .load 9 (Operand.tmp 4)) (g := none) 3 ?v3 rfl (by kernel_rfl) (by kernel_rfl) (by kernel_rfl) (by kernel_rfl) ?y3 HS0 ?_
  case y3 => intro o' ho W hS; obtain ⟨_, _, _, _, _, _, _, hc⟩ := bx8 hS; simp only [execOp, ho]; go_simp; try rfl
  simp only [Act.put, List.setIfInBounds_toArray, List.set_cons_zero, List.set_cons_succ]
  refine heldCall (d := some 6) (op := .call { callee := Callee.value (Operand.func 38), args := #[Operand.tmp 5], argTypes := #[9] }) (g := none) 4 38 #[.string s] rfl (by kernel_rfl) (by kernel_rfl) ?y4 ?_
  case y4 => intro o' ho; simp only [execOp, ho]; go_simp; try rfl
  refine (C).mono ?_
  rintro e w2 ⟨rfl, HB2⟩
  have HS2 := below_key HS0 HB2.out
  refine ⟨_, rfl, HS2, ?_⟩
  simp only [Act.put, List.setIfInBounds_toArray, List.set_cons_zero, List.set_cons_succ]
  refine heldTake (d := some 7) (op := .build 57 #[(0, Operand.tmp 3), (2, Operand.tmp 6)]) (g := none) 5 ?v5 rfl (by kernel_rfl) (by kernel_rfl) (by kernel_rfl) (by kernel_rfl) ?y5 HS2 ?_
  case y5 => intro o' ho W hS; simp only [execOp, ho]; go_simp; try rfl
  simp only [Act.put, List.setIfInBounds_toArray, List.set_cons_zero, List.set_cons_succ]
  have HBS2 : Below W1.heap.size W1 w2 := HBR.trans (HB2.out.mono HBR.size)
  have HN2 := below_key HNS.out HBS2
  obtain ⟨w3, hw3⟩ : ∃ V, w2.setRow W.heap.size #[.int .i64 op, .int .i64 0, .string s] = V := ⟨_, rfl⟩
  have HB3 : Sl (Below W.heap.size W w3) := ⟨by rw [← hw3]; exact below_setRow (HBS.out.trans (HBS2.mono HBS.out.size)) (Nat.le_refl _) _⟩
  have HN3 : Sl (w3.heap[W.heap.size]? = some (.cells #[.int .i64 op, .int .i64 0, .string s] 57 (0, 0))) := ⟨by rw [← hw3]; exact setRow_heap _ _ _ _ _ _ HN2⟩
  have HS3 : w3.heap[g]? = some (.cells #[.bool fin, .int .i64 op, .bool m, .int .u8 ((a : Nat) : Int), .int .u8 ((b : Nat) : Int), .int .u8 ((c : Nat) : Int), .int .u8 ((d : Nat) : Int), .string s] 44 (0, 0)) := by rw [← hw3, setRow_other _ _ _ _ (by omega)]; exact HS2
  refine heldStore (d := none) (op := .store 57 (Operand.tmp 1) (Operand.tmp 7)) (g := none) (t := 0) 6 w3 rfl (by kernel_rfl) (by kernel_rfl) ?y6 HS3 ?_
  case y6 => intro o' ho ht; rw [← hw3]; exact store_ev ho (by rfl) (by rfl) HN2 rfl HI (ev_all _ _ _)
  simp only [Act.put]
  refine wpAnyH_done (by kernel_rfl) ?_ _
  refine NoPanic.normal ?_
  clear HF1 HGL HBR HS0 HS2 HB2 HBS2 HN2 hw3 HS3 C
  go_wp2
  refine bodyPost_ret (ret_ev rfl _ _ W.heap.size 57 _ (0, 0) rfl HN3.out rfl) rfl ?_
  exact ⟨rfl, HB3⟩
end Go.Proofs.YtimndpmbgfoofaaDoor.Msg
