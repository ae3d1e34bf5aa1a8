/- msg: a machine in memory, what may change beside it, the bytes of a string behind a row of one's own; New, Err, Over, Part. -/
import Derived.Test.YtpbfabcjkhlanaaDoorFrC
import Derived.Test.YtpbfabcjkhlanaaDoorClA
import Derived.Test.YtpbfabcjkhlanaaDoorMsgPlain
import Derived.Lib.AppendStr
set_option maxRecDepth 100000
namespace Go.Proofs.YtpbfabcjkhlanaaDoor.Msg
open Go.RowKit UtfPlain MsgPlain Fra Utf Cls
open FramePlain (Fr form chk ctl zero4)
open ClosePlain (getC)

/-- What is a machine's own: its block, its bytes' and its checker's. -/
def Mine (b : Nat) (v p : Value) (k : Nat) : Prop := k = b ∨ v.ownBlock = some k ∨ p = .pointer (some ⟨k, 0, none⟩)
theorem mine_zero {b k : Nat} (h : Mine b (.slice none 0 0) (.pointer none) k) : k = b := by
  rcases h with h | h | h
  · exact h
  · cases h
  · cases h
/-- Of what was there nothing has changed but the blocks of S. -/
structure Kept (S : Nat → Prop) (W W' : World) : Prop where
  os : W'.os = W.os
  tape : W'.tape = W.tape
  output : W'.output = W.output
  size : W.heap.size ≤ W'.heap.size
  block : ∀ k, k < W.heap.size → ¬ S k → W'.heap[k]? = W.heap[k]?
theorem Kept.below {S : Nat → Prop} {W W' : World} (h : Below W.heap.size W W') : Kept S W W' := ⟨h.os, h.tape, h.output, h.size, fun k hk _ => h.block k hk⟩
theorem Kept.grown {S : Nat → Prop} {W W' : World} {r : Option Nat} (h : W.grownBy W' r) (hr : ∀ k, r = some k → S k) : Kept S W W' :=
  ⟨h.os, h.tape, h.output, h.size, fun k hk hn => h.block k hk (fun e => hn (hr k e.symm))⟩
theorem Kept.trans {S S2 : Nat → Prop} {W V U : World} (h : Kept S W V) (k : Kept S2 V U) (hs : ∀ j, j < W.heap.size → S2 j → S j) : Kept S W U :=
  ⟨k.os.trans h.os, k.tape.trans h.tape, k.output.trans h.output, Nat.le_trans h.size k.size, fun j hj hn => (k.block j (Nat.lt_of_lt_of_le hj h.size) (fun e => hn (hs j hj e))).trans (h.block j hj hn)⟩
theorem Kept.up {S : Nat → Prop} {w0 W V : World} {B : Nat} (h : Kept S W V) (hB : Below B w0 W) (hS : ∀ k, S k → B ≤ k) (hs : B ≤ W.heap.size) : Below B w0 V :=
  ⟨h.os.trans hB.os, h.tape.trans hB.tape, h.output.trans hB.output, Nat.le_trans hB.size h.size, fun k hk => (h.block k (by omega) (fun e => by have := hS k e; omega)).trans (hB.block k hk)⟩
/-- What a step of a machine may change, and what is its own behind. -/
structure Goes (W W' : World) (b : Nat) (v p v' p' : Value) : Prop where
  kept : Kept (Mine b v p) W W'
  mine : ∀ k, Mine b v' p' k → Mine b v p k ∨ W.heap.size ≤ k
theorem Goes.below {W W' : World} (b : Nat) (v p : Value) (h : Below W.heap.size W W') : Goes W W' b v p v p := ⟨.below h, fun _ hk => .inl hk⟩
theorem Goes.trans {W V U : World} {b : Nat} {v p v1 p1 v2 p2 : Value} (h : Goes W V b v p v1 p1) (k : Goes V U b v1 p1 v2 p2) : Goes W U b v p v2 p2 :=
  ⟨h.kept.trans k.kept (fun j hj e => by
    rcases h.mine j e with h1 | h1
    · exact h1
    · omega), fun j e => by
    rcases k.mine j e with h1 | h1
    · exact h.mine j h1
    · exact .inr (Nat.le_trans h.kept.size h1)⟩
/-- Its own block alone is written to. -/
theorem Goes.own {W W' : World} {b : Nat} (v p : Value) {v' p' : Value} (h : W.grownBy W' (some b)) (hm : ∀ k, Mine b v' p' k → Mine b v p k ∨ W.heap.size ≤ k) : Goes W W' b v p v' p' :=
  ⟨.grown h (fun k e => by injection e with e; exact .inl e.symm), hm⟩
/-- A machine: v its bytes, p its checker, o how its letters stand. -/
structure Mac (w0 W : World) (b : Nat) (most op : Int) (text : List Nat) (o : Option St) (err : Nat) (over : Bool) (v p : Value) : Prop where
  X : W.heap[b]? = some (.cells #[.int .i64 most, .int .i64 op, v, p, .int .i64 (err : Int), .bool over] 50 (0, 0))
  O : W.ownsRow w0.heap.size 5 1 v text.length (u8s text)
  C : op ≠ 0 → ∃ c, p = .pointer (some ⟨c, 0, none⟩) ∧ w0.heap.size ≤ c ∧ ChkO W c o
  N : op = 0 → p = .pointer none
  K : OkO o
  B : w0.heap.size ≤ b
  L : Below w0.heap.size w0 W
section
variable {w0 W : World} {b : Nat} {most op : Int} {text : List Nat} {o : Option St} {err : Nat} {over : Bool} {v p : Value}
theorem Mac.lt (h : Mac w0 W b most op text o err over v p) : b < W.heap.size := (Array.getElem?_eq_some_iff.1 h.X).1
theorem Mac.own (h : Mac w0 W b most op text o err over v p) {k : Nat} (hk : Mine b v p k) : w0.heap.size ≤ k ∧ k < W.heap.size := by
  rcases hk with rfl | hk | hk
  · exact ⟨h.B, h.lt⟩
  · exact h.O.lt k hk
  · by_cases h0 : op = 0
    · rw [h.N h0] at hk; cases hk
    · obtain ⟨c, hc, hb, hx⟩ := h.C h0
      rw [hc] at hk
      injection hk with hk
      injection hk with hk
      injection hk with hk
      subst hk
      exact ⟨hb, chk_lt hx⟩
/-- It stays where nothing of it is written to. -/
theorem Mac.stay {W' : World} (h : Mac w0 W b most op text o err over v p) {S : Nat → Prop} (hk : Kept S W W') (hn : ∀ k, Mine b v p k → ¬ S k) (hL : Below w0.heap.size w0 W') : Mac w0 W' b most op text o err over v p where
  X := by rw [hk.block b h.lt (hn b (.inl rfl))]; exact h.X
  O := by
    obtain ⟨h1, h2⟩ := h.O
    refine ⟨h1, ?_⟩
    rcases h2 with h2 | ⟨g, cap, cur, rfl, hb, hg, r⟩
    · exact .inl h2
    · exact .inr ⟨g, cap, cur, rfl, hb, by rw [hk.block g (Array.getElem?_eq_some_iff.1 hg).1 (hn g (.inr (.inl rfl)))]; exact hg, r⟩
  C := fun h0 => by
    obtain ⟨c, hc, hb, hx⟩ := h.C h0
    have e := hk.block c (chk_lt hx) (hn c (.inr (.inr hc)))
    refine ⟨c, hc, hb, ?_⟩
    cases o with
    | none => obtain ⟨n0, n1, l, hx⟩ := hx; exact ⟨n0, n1, l, by show _ = _; rw [e]; exact hx⟩
    | some s => obtain ⟨n0, n1, hx, hy⟩ := hx; exact ⟨n0, n1, by show _ = _; rw [e]; exact hx, hy⟩
  N := h.N
  K := h.K
  B := h.B
  L := hL
theorem Mac.below {W' : World} (h : Mac w0 W b most op text o err over v p) (hb : Below W.heap.size W W') : Mac w0 W' b most op text o err over v p :=
  h.stay (S := fun _ => False) (.below hb) (fun _ _ => id) (h.L.trans (hb.mono h.L.size))
theorem Mac.cells (h : Mac w0 W b most op text o err over v p) : W.cell? ⟨b, 0, none⟩ = some (.int .i64 most) ∧ W.cell? ⟨b, 1, none⟩ = some (.int .i64 op) ∧ W.cell? ⟨b, 2, none⟩ = some v ∧ W.cell? ⟨b, 3, none⟩ = some p ∧ W.cell? ⟨b, 4, none⟩ = some (.int .i64 (err : Int)) ∧ W.cell? ⟨b, 5, none⟩ = some (.bool over) := by
  refine ⟨?_, ?_, ?_, ?_, ?_, ?_⟩ <;> (rw [cell_of_row _ _ _ _ _ _ h.X]; rfl)
theorem Mac.froz (h : Mac w0 W b most op text o err over v p) (i : Nat) : W.frozen? ⟨b, i, none⟩ = false := frozen_of_row _ _ _ _ _ h.X
theorem Mac.slice (h : Mac w0 W b most op text o err over v p) : ∃ a c, v = .slice a text.length c := by
  rcases h.O.2 with ⟨rfl, hz⟩ | ⟨g, cap, cur, rfl, _⟩
  · rw [hz]; exact ⟨_, _, rfl⟩
  · exact ⟨_, _, rfl⟩
/-- Its row's block is neither its own nor its checker's: these are of other kinds. -/
theorem own_kind {W : World} {base g n : Nat} {v : Value} {xs : List Value} {cs : Array Value} {t : TypeId} (ho : W.ownsRow base 5 1 v n xs) (h : W.heap[g]? = some (.cells cs t (0, 0))) (ht : t ≠ 5) : v.ownBlock ≠ some g := fun e => by
  obtain ⟨_, h2⟩ := ho
  rcases h2 with ⟨rfl, _⟩ | ⟨k, cap, cur, rfl, _, hh, _⟩
  · cases e
  · obtain rfl : k = g := by simpa [Value.ownBlock] using e
    rw [h] at hh
    injection hh with hh
    injection hh with _ h4
    exact ht h4
theorem chk_kind {W : World} {c : Nat} {o : Option St} (h : ChkO W c o) : ∃ cs, W.heap[c]? = some (.cells cs 70 (0, 0)) := by
  cases o with
  | none => obtain ⟨n0, n1, l, h⟩ := h; exact ⟨_, h⟩
  | some s => obtain ⟨n0, n1, h, _⟩ := h; exact ⟨_, h⟩
/-- Its own block is written to: other cells, the bytes and the checker being the same or none. -/
theorem Mac.write {W' : World} (h : Mac w0 W b most op text o err over v p) (hg : W.grownBy W' (some b)) {op' : Int} {text' : List Nat} {o' : Option St} {err' : Nat} {over' : Bool} {v' p' : Value}
    (hX : W'.heap[b]? = some (.cells #[.int .i64 most, .int .i64 op', v', p', .int .i64 (err' : Int), .bool over'] 50 (0, 0)))
    (hz : (v' = v ∧ p' = p ∧ op' = op ∧ text' = text ∧ o' = o) ∨ (v' = .slice none 0 0 ∧ p' = .pointer none ∧ op' = 0 ∧ text' = [] ∧ OkO o')) :
    Mac w0 W' b most op' text' o' err' over' v' p' ∧ Goes W W' b v p v' p' := by
  have hL : Below w0.heap.size w0 W' := h.L.grown hg h.L.size (fun k hk => by injection hk with hk; rw [← hk]; exact h.B)
  rcases hz with ⟨rfl, rfl, rfl, rfl, rfl⟩ | ⟨rfl, rfl, rfl, rfl, hok⟩
  · refine ⟨⟨hX, h.O.kept hg (.inr (own_kind h.O h.X (by decide))), fun h0 => ?_, h.N, h.K, h.B, hL⟩, .own _ _ hg (fun k hk => .inl hk)⟩
    obtain ⟨c, hc, hb, hx⟩ := h.C h0
    refine ⟨c, hc, hb, chk_grown hx hg (fun e => ?_)⟩
    obtain ⟨cs, hcs⟩ := chk_kind hx
    rw [e, h.X] at hcs
    injection hcs with hcs
    injection hcs with _ hcs
    exact absurd hcs (by decide)
  · exact ⟨⟨hX, World.ownsRow_nil _ _ _ _, fun h0 => absurd rfl h0, fun _ => rfl, hok, h.B, hL⟩, .own _ _ hg (fun k hk => .inl (.inl (mine_zero hk)))⟩
end
/-- How the letters of a state stand. -/
def chkS (op : Int) (text : List Nat) : Option St := if op = 1 then uend s0 text else some s0
/-- A machine that frames came to. -/
structure MacS (w0 W : World) (b : Nat) (most : Int) (st : Ms) (v p : Value) : Prop where
  m : Mac w0 W b most st.op st.text (chkS st.op st.text) st.err st.over v p
  f : Fit most st
  lo : 1 ≤ most
  hi : most ≤ 1048576
theorem MacS.below {w0 W W' : World} {b : Nat} {most : Int} {st : Ms} {v p : Value} (h : MacS w0 W b most st v p) (hb : Below W.heap.size W W') : MacS w0 W' b most st v p := ⟨h.m.below hb, h.f, h.lo, h.hi⟩
theorem MacS.len {w0 W : World} {b : Nat} {most : Int} {st : Ms} {v p : Value} (h : MacS w0 W b most st v p) : st.text.length ≤ 1048576 := by have := h.f.most; have := h.hi; omega
/-- A machine stays when another one goes on. -/
theorem MacS.apart {w0 W W' : World} {b : Nat} {most : Int} {st : Ms} {v p : Value} (h : MacS w0 W b most st v p) {S : Nat → Prop} (hk : Kept S W W') (hn : ∀ k, Mine b v p k → ¬ S k) (hL : Below w0.heap.size w0 W') : MacS w0 W' b most st v p := ⟨h.m.stay hk hn hL, h.f, h.lo, h.hi⟩
theorem info5s : ∃ i, Tryd.prog.info? 5 = some i ∧ i.zero = some (.int .u8 0) ∧ i.size = 1 ∧ i.bytes = 1 := info5'
theorem strCells_eq (s : ByteArray) : Lib.strCells s = u8s (bytes s) := by
  unfold Lib.strCells u8s bytes
  rw [List.map_map]; rfl
/-- A string's bytes behind a row of one's own: its block, or a new one. -/
theorem add_str {Z : World} {base : Nat} {v : Value} {m : List Nat} (hown : Z.ownsRow base 5 1 v m.length (u8s m)) (s : ByteArray) (hl : m.length + s.size ≤ 4000000) (hbase : base ≤ Z.heap.size) :
    ∃ v1 w1, (Builtin.append_ #[22, 9] 22 #[v, .string s]).run Tryd.prog Z = .ok v1 w1 ∧ w1.ownsRow base 5 1 v1 (m ++ bytes s).length (u8s (m ++ bytes s)) ∧ Z.grownBy w1 v.ownBlock ∧ (∀ k, v1.ownBlock = some k → v.ownBlock = some k ∨ Z.heap.size ≤ k) := by
  obtain ⟨i0, hi0, hz0, hz1, hz2⟩ := info5s
  have hml : m.length + s.size ≤ maxLen := by unfold maxLen; omega
  obtain ⟨v', w', hr, h2, h3, _⟩ := Lib.run_append_own_string (P := Tryd.prog) Z base 22 9 22 5 i0 Tryd.underlying22 Tryd.underlying9 hi0 hz0 hz1 hz2 v m.length (u8s m) hown s hml (by omega) hbase
  rw [strCells_eq, ← u8s_append] at h2
  refine ⟨v', w', hr, by rw [List.length_append, bytes_length]; exact h2, h3, fun k hk => ?_⟩
  rcases hown.2 with ⟨rfl, h0⟩ | ⟨g, cap, cur, rfl, hbg, hg, hnc, hcm, hcs, htake⟩
  · have hm0 : m = [] := List.eq_nil_of_length_eq_zero h0
    subst hm0
    obtain ⟨v2, w2, hr2, h4, _⟩ := Lib.run_append_own_string (P := Tryd.prog) Z Z.heap.size 22 9 22 5 i0 Tryd.underlying22 Tryd.underlying9 hi0 hz0 hz1 hz2 _ 0 [] (World.ownsRow_nil Z Z.heap.size 5 1) s (by simpa using hml) (by simp at hl; omega) (Nat.le_refl _)
    have hr' : (Builtin.append_ #[22, 9] 22 #[.slice none 0 0, .string s]).run Tryd.prog Z = .ok v' w' := hr
    rw [hr'] at hr2
    injection hr2 with e1 e2
    subst e1 e2
    exact .inr (h4.lt k hk).1
  · by_cases hroom : m.length + s.size ≤ cap
    · have hr2 := Lib.run_append_room_string (P := Tryd.prog) Z 22 9 22 5 i0 Tryd.underlying22 Tryd.underlying9 hi0 hz1 g m.length cap cur hg s hroom (by omega)
      rw [hr] at hr2
      injection hr2 with e1 e2
      rw [e1] at hk
      exact .inl hk
    · have holds : ∀ j u, (u8s m)[j]? = some u → Z.cell? ((⟨g, 0, none⟩ : Addr).add j) = some u := hown.cells (g := g) rfl
      have hr2 := Lib.run_append_grow_string (P := Tryd.prog) Z 22 9 22 5 i0 (.int .u8 0) Tryd.underlying22 Tryd.underlying9 hi0 hz0 ⟨g, 0, none⟩ m.length cap (u8s m) (by rw [hz1]; simp) holds s (by omega) (by omega) (by rw [hz2]; exact growslice_fits (by omega) (by omega))
      rw [hr] at hr2
      injection hr2 with e1 e2
      rw [e1] at hk
      simp only [Value.ownBlock] at hk
      injection hk with hk
      exact .inr (by omega)
/-- A row of one's own, as a string. -/
theorem own_conv {W : World} {base : Nat} {v : Value} {bs : List Nat} (h : W.ownsRow base 5 1 v bs.length (u8s bs)) : (convert 22 9 v).run Tryd.prog W = .ok (.string (strOf bs)) W := by
  by_cases hp : 0 < bs.length
  · obtain ⟨g, cap, rfl, _, hs⟩ := own_src h hp
    exact hs.conv
  · have h0 : bs = [] := List.eq_nil_of_length_eq_zero (by omega)
    subst h0
    rcases h.2 with ⟨rfl, _⟩ | ⟨g, cap, cur, rfl, _⟩
    · exact run_convert_bytes_nil (P := Tryd.prog) W 22 5 Tryd.underlying22 Tryd.underlying5 0 0 9 Tryd.underlying9
    · exact run_convert_bytes_arg (P := Tryd.prog) W 22 5 Tryd.underlying22 Tryd.underlying5 g 0 0 cap [] rfl (fun i hi => absurd hi (Nat.not_lt_zero _)) 9 Tryd.underlying9
theorem new_yes (most : Int) (w0 W : World) (hB : Below w0.heap.size w0 W) (hm : 1 ≤ most ∧ most ≤ 1048576) :
    Calls Tryd.prog 9 #[.int .i64 most] W fun e w' => e = .returned (.tuple #[.pointer (some ⟨W.heap.size, 0, none⟩), .int .i64 0]) ∧ Sl (MacS w0 w' W.heap.size most M0 (.slice none 0 0) (.pointer none)) ∧ Sl (Below W.heap.size W w') := by
  have q1 : (most < 1) = False := eq_false (by omega)
  have q2 : (most > 1048576) = False := eq_false (by omega)
  have HS := Sl.mk hB.size
  have HB := Sl.mk hB
  have HM := Sl.mk hm
  clear hB hm
  go_enter Tryd.func9, Tryd.ntmps9
  go_wp2
  go_ret2
  exact ⟨rfl, ⟨⟨⟨alloc_new _ _ _ rfl, World.ownsRow_nil _ _ _ _, fun h => absurd rfl h, fun _ => rfl, okO0, HS.out, HB.out.alloc HS.out _⟩, fit0 (by have := HM.out.1; omega), HM.out.1, HM.out.2⟩⟩, ⟨(Below.refl _ _).alloc (Nat.le_refl _) _⟩⟩
theorem new_no (most : Int) (W : World) (hm : most < 1 ∨ 1048576 < most) : Calls Tryd.prog 9 #[.int .i64 most] W fun e w' => e = .returned (.tuple #[.pointer none, .int .i64 123]) ∧ W = w' := by
  by_cases h1 : most < 1
  · have q1 : (most < 1) = True := eq_true h1
    clear hm h1
    go_enter Tryd.func9, Tryd.ntmps9
    go_wp2
    go_ret2
    exact ⟨rfl, rfl⟩
  · have q1 : (most < 1) = False := eq_false h1
    have q2 : (most > 1048576) = True := eq_true (by omega)
    clear hm h1
    go_enter Tryd.func9, Tryd.ntmps9
    go_wp2
    go_ret2
    exact ⟨rfl, rfl⟩
section
variable {w0 W : World} {b : Nat} {most op : Int} {text : List Nat} {o : Option St} {err : Nat} {over : Bool} {v p : Value}
theorem err_any (h : Mac w0 W b most op text o err over v p) : Calls Tryd.prog 13 #[.pointer (some ⟨b, 0, none⟩)] W fun e w' => e = .returned (.int .i64 (err : Int)) ∧ W = w' := by
  obtain ⟨_, _, _, _, e4, _⟩ := h.cells
  clear h
  go_enter Tryd.func13, Tryd.ntmps13
  go_wp2
  go_ret
  exact ⟨rfl, rfl⟩
theorem over_any (h : Mac w0 W b most op text o err over v p) : Calls Tryd.prog 14 #[.pointer (some ⟨b, 0, none⟩)] W fun e w' => e = .returned (.bool over) ∧ W = w' := by
  obtain ⟨_, _, _, _, _, e5⟩ := h.cells
  clear h
  go_enter Tryd.func14, Tryd.ntmps14
  go_wp2
  go_ret
  exact ⟨rfl, rfl⟩
theorem part_any (h : Mac w0 W b most op text o err over v p) (n : Nat) (hn : text.length = n) : Calls Tryd.prog 15 #[.pointer (some ⟨b, 0, none⟩)] W fun e w' => e = .returned (.int .i64 (n : Int)) ∧ W = w' := by
  obtain ⟨_, _, e2, _, _, _⟩ := h.cells
  obtain ⟨a, c, rfl⟩ := h.slice
  subst hn
  clear h
  go_enter Tryd.func15, Tryd.ntmps15
  go_wp2
  go_ret
  exact ⟨rfl, rfl⟩
end
end Go.Proofs.YtpbfabcjkhlanaaDoor.Msg
