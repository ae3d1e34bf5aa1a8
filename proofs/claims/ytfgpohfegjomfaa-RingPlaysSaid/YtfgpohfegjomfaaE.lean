/- The contract of Put of package ring. Condition: what is put lies outside the ring. -/
import Derived.Test.YtfgpohfegjomfaaD
namespace Go.Proofs.Ytfgpohfegjomfaa
open Go.RowKit

/-- The bytes bs lie behind the slice v, outside block b. -/
def SrcN (w : World) (b : Nat) (v : Value) (bs : List Nat) : Prop :=
  ∃ (a : Option Addr) (cap sb so : Nat), v = .slice a bs.length cap ∧ bs.length ≤ cap ∧ (0 < bs.length → a = some ⟨sb, so, none⟩) ∧ (0 < bs.length → sb ≠ b) ∧
    ∀ i, i < bs.length → w.cell? ⟨sb, so + i, none⟩ = some (.int .u8 ((bs.getD i 0 : Nat) : Int))
/-- Of what was there nothing has changed but two blocks. -/
structure Two (w w' : World) (b p : Nat) : Prop where
  os : w'.os = w.os
  tape : w'.tape = w.tape
  output : w'.output = w.output
  size : w.heap.size ≤ w'.heap.size
  block : ∀ k, k < w.heap.size → k ≠ b → k ≠ p → w'.heap[k]? = w.heap[k]?
theorem Two.refl (w : World) (b p : Nat) : Two w w b p := ⟨rfl, rfl, rfl, Nat.le_refl _, fun _ _ _ _ => rfl⟩
theorem Two.trans {u v w : World} {b p : Nat} (h : Two u v b p) (k : Two v w b p) : Two u w b p :=
  ⟨k.os.trans h.os, k.tape.trans h.tape, k.output.trans h.output, Nat.le_trans h.size k.size, fun i hi h1 h2 => (k.block i (Nat.lt_of_lt_of_le hi h.size) h1 h2).trans (h.block i hi h1 h2)⟩
theorem Two.left {w w' : World} {b p : Nat} (h : w.grownBy w' (some b)) : Two w w' b p := ⟨h.os, h.tape, h.output, h.size, fun k hk h1 _ => h.block k hk (fun e => h1 (by injection e))⟩
theorem Two.right {w w' : World} {b p : Nat} (h : w.grownBy w' (some p)) : Two w w' b p := ⟨h.os, h.tape, h.output, h.size, fun k hk _ h1 => h.block k hk (fun e => h1 (by injection e))⟩
theorem Two.ofBelow {w w' : World} {b p : Nat} (h : Below w.heap.size w w') : Two w w' b p := ⟨h.os, h.tape, h.output, h.size, fun k hk _ _ => h.block k hk⟩
theorem Two.below {w0 w w' : World} {b p : Nat} (h : Two w w' b p) (hb : Below w0.heap.size w0 w) (h1 : w0.heap.size ≤ b) (h2 : w0.heap.size ≤ p) : Below w0.heap.size w0 w' :=
  ⟨h.os.trans hb.os, h.tape.trans hb.tape, h.output.trans hb.output, Nat.le_trans hb.size h.size, fun k hk => (h.block k (Nat.lt_of_lt_of_le hk hb.size) (by omega) (by omega)).trans (hb.block k hk)⟩
theorem take_parts (bs : List Nat) (m x y : Nat) (h : x + y = m) : bs.take x ++ (bs.drop x).take y = bs.take m := by
  rw [← h, List.take_add]
/-- What Put comes to in the ring's cells. -/
theorem put_ring {w1 w' : World} {b p a n m e x y : Nat} {l bs : List Nat} (h : RingAt w1 b p l a n) (hm : x + y = m) (hn : n + m ≤ l.length) (he : pos l.length a n = e) (hx : x = min m (l.length - e)) (hb : m ≤ bs.length) (sm : Small 256 bs)
    (hr : w'.heap[b]? = some (.cells #[.slice (some ⟨p, 0, none⟩) l.length l.length, .int .i64 a, .int .i64 ((n : Int) + ((x : Int) + (y : Int)))] 45 (0, 0))) (hp : w'.heap[p]? = some (.cells (u8s (splice (splice l e (bs.take x)) 0 ((bs.drop x).take y))).toArray 5 (0, 0))) :
    ∃ l', RingAt w' b p l' a (n + m) ∧ l'.length = l.length ∧ held l' a (n + m) = held l a n ++ bs.take m := by
  have ha := h.lt
  have hel : e < l.length := by rw [← he]; exact pos_lt h.lt h.le
  have l1 : (bs.take x).length = x := by simp; omega
  have l2 : ((bs.drop x).take y).length = y := by simp; omega
  have s1 : (splice l e (bs.take x)).length = l.length := splice_length _ _ _ (by rw [l1]; omega)
  have s2 : (splice (splice l e (bs.take x)) 0 ((bs.drop x).take y)).length = l.length := by rw [splice_length _ _ _ (by rw [l2, s1]; omega), s1]
  refine ⟨splice (splice l e (bs.take x)) 0 ((bs.drop x).take y), ⟨?_, hp, h.ne, by rw [s2]; exact ha, by rw [s2]; exact hn, by rw [s2]; exact h.top, ?_⟩, s2, ?_⟩
  · rw [hr, s2]
    have : ((n : Int) + ((x : Int) + (y : Int))) = ((n + m : Nat) : Int) := by omega
    rw [this]
  · have q := h.small
    exact ((((q.take _).append (sm.take _)).append (q.drop _)).take _ |>.append ((sm.drop _).take _)).append (Small.drop (((q.take _).append (sm.take _)).append (q.drop _)) _)
  · rw [← take_parts bs m x y hm]
    have hlen : n + m = n + (bs.take x ++ (bs.drop x).take y).length := by rw [List.length_append, l1, l2, hm]
    rw [hlen]
    by_cases hfit : e + m ≤ l.length
    · obtain rfl : x = m := by omega
      obtain rfl : y = 0 := by omega
      have e0 : (bs.drop x).take 0 = [] := rfl
      rw [e0, List.append_nil]
      have e1 : splice (splice l e (bs.take x)) 0 [] = splice l e (bs.take x) := by simp [splice]
      rw [e1]
      exact put_one l (bs.take x) a n ha (by rw [l1]; omega) e he.symm (by rw [l1]; omega)
    · have hxe : e + x = l.length := by omega
      refine put_two l (bs.take x) ((bs.drop x).take y) a n ha (by rw [l1, l2]; omega) e he.symm (by rw [l1]; exact hxe) (fun _ => Or.inl ?_)
      rw [l1]
      unfold pos at he ⊢
      split at he <;> split <;> omega

set_option maxHeartbeats 400000 in
theorem put_all (b p a n m e x y r LB : Nat) (l bs : List Nat) (v : Value) (w : World) (h : RingAt w b p l a n) (hv : SrcN w p v bs) (sm : Small 256 bs) (hL : LB ≤ 100000) (hLB : bs.length = LB) (hr : r = l.length - n) (hm : m = LB) (hlt : ¬ (r : Int) < (LB : Int)) (he : pos l.length a n = e) (hx : x = min m (l.length - e)) (hy : y = m - x) :
    Calls Try.prog 12 #[.pointer (some ⟨b, 0, none⟩), v] w fun en w' => en = .returned (.int .i64 m) ∧ Sl (∃ l', RingAt w' b p l' a (n + m) ∧ l'.length = l.length ∧ held l' a (n + m) = held l a n ++ bs.take m) ∧ Sl (Two w w' b p) := by
  subst hm
  have hn := h.le
  have ha := h.lt
  have ht := h.top
  have hel : e < l.length := by rw [← he]; exact pos_lt h.lt h.le
  have HP := Sl.mk (fun k => pieces_q b p a n n m e x y l (w.drewN k) (h.still ⟨k, rfl⟩) hn (by omega) he hx hy)
  have HR : Sl (∀ k, Calls Try.prog 18 #[.pointer (some ⟨b, 0, none⟩)] (w.drewN k) fun e w' => e = .returned (.int .i64 r) ∧ ∃ m, w' = (w.drewN k).drewN m) := ⟨fun k => by rw [hr]; exact room_any b p a n l _ (h.still ⟨k, rfl⟩)⟩
  have H := Sl.mk h
  have c2 := h.c2
  have f2 : w.frozen? ⟨b, 2, none⟩ = false := frozen_of_row _ _ _ _ _ h.hb
  obtain ⟨ad, cap, sb, so, rfl, hcap, had, hsb, hcell⟩ := hv
  rw [hLB] at hcap had hsb hcell ⊢
  have HAD := Sl.mk had
  have HSB := Sl.mk hsb
  have HC := Sl.mk hcell
  have HLB := Sl.mk hLB
  have HE := Sl.mk he
  have HX := Sl.mk hx
  have HXY : Sl (x + y = m) := ⟨by omega⟩
  have HM : Sl (n + m ≤ l.length ∧ m ≤ m) := ⟨by omega⟩
  have hxL : x ≤ m := by omega
  have hyL : y ≤ m - x := by omega
  have hn6 : n ≤ 65536 := by omega
  have L1 : Sl ((bs.take x).length = x) := ⟨by rw [List.length_take]; omega⟩
  have L2 : Sl (((bs.drop x).take y).length = y) := ⟨by rw [List.length_take, List.length_drop]; omega⟩
  have P1 : Sl (e + x ≤ l.length ∧ y ≤ l.length) := ⟨by omega⟩
  have NE := Sl.mk h.ne
  have HSM := Sl.mk sm
  clear h hr hLB he hx hy had hsb hcell sm
  go_enter Try.func12, Try.ntmps12
  go_wp2
  go_quiet (first | (go_at_call 18; exact Calls.quiet_of (HR.out _)) | (go_at_call 19; exact Calls.quiet_of (HP.out _)))
  have H1 : Sl ((w.drewN nq).heap[p]? = some (.cells (u8s l).toArray 5 (0, 0))) := ⟨H.out.hp⟩
  have HC1 : Sl (∀ j, j < m → (w.drewN nq).cell? ⟨sb, so + j, none⟩ = some (.int .u8 ((bs.getD j 0 : Nat) : Int))) := ⟨HC.out⟩
  go_wp2_with (with_reducible refine copy_into rfl (.tmp 22) (.tmp 23) 33 33 rfl 5 Try.underlying33 size5 _ _ _ _ _ _ rfl rfl p e x l (bs.take x) 5 H1.out (by rw [L1.out]) (by rw [L1.out]; omega) (fun hp => ⟨by unfold pd; rw [if_neg (by rw [L1.out] at hp; omega)], sb, so, HAD.out (by rw [L1.out] at hp; omega), fun j hj => by rw [L1.out] at hj; rw [show (bs.take x).getD j 0 = bs.getD j 0 from by simp [List.getD_eq_getElem?_getD, hj]]; exact HC1.out j (by omega)⟩) (by rw [L1.out]; exact P1.out.1) ?_)
  intro w2 HG2 HW2
  have LS : Sl ((splice l e (bs.take x)).length = l.length) := ⟨splice_length _ _ _ (by rw [L1.out]; exact P1.out.1)⟩
  have B2 : Sl (w2.heap[b]? = w.heap[b]?) := ⟨HW2.out.block b H.out.blt (fun e => NE.out (by injection e))⟩
  have HC2 : Sl (∀ j, j < m → w2.cell? ⟨sb, so + j, none⟩ = some (.int .u8 ((bs.getD j 0 : Nat) : Int))) := ⟨fun j hj => by
    rw [World.cell?_of_block (w := w) (HW2.out.block sb (block_lt_of_cell (HC.out j hj)) (fun e => HSB.out (by omega) (by injection e)))]
    exact HC.out j hj⟩
  have FIN : Sl (∀ w3 : World, Sl (w3.heap[p]? = some (.cells (u8s (splice (splice l e (bs.take x)) 0 ((bs.drop x).take y))).toArray 5 (0, 0))) → Sl (w2.grownBy w3 (some p)) →
      w3.cell? ⟨b, 2, none⟩ = some (.int .i64 n) ∧ w3.frozen? ⟨b, 2, none⟩ = false ∧ Sl (Ending.returned (.int .i64 ((x : Int) + (y : Int))) = .returned (.int .i64 m) ∧ Sl (∃ l', RingAt (w3.setCell ⟨b, 2, none⟩ (.int .i64 ((n : Int) + ((x : Int) + (y : Int))))) b p l' a (n + m) ∧ l'.length = l.length ∧ held l' a (n + m) = held l a n ++ bs.take m) ∧ Sl (Two w (w3.setCell ⟨b, 2, none⟩ (.int .i64 ((n : Int) + ((x : Int) + (y : Int))))) b p))) := ⟨by
    intro w3 hg hw
    have e3 : w3.heap[b]? = w.heap[b]? := by rw [hw.out.block b (Nat.lt_of_lt_of_le H.out.blt HW2.out.size) (fun e => NE.out (by injection e)), B2.out]
    have h3 := e3.trans H.out.hb
    refine ⟨by rw [cell_of_row _ _ _ _ _ _ h3]; rfl, frozen_of_row _ _ _ _ _ h3, ⟨ret_int (by have := HXY.out; omega), ⟨?_⟩, ⟨?_⟩⟩⟩
    · refine put_ring H.out HXY.out HM.out.1 HE.out HX.out (by rw [HLB.out]; exact HM.out.2) HSM.out ?_ ?_
      · rw [heap_setCell_same _ _ _ _ _ _ h3]; rfl
      · rw [heap_setCell_other _ _ _ _ (by exact (Ne.symm NE.out))]; exact hg.out
    · exact ((Two.ofBelow (b := b) (p := p) (Still.below ⟨nq, rfl⟩)).trans ((Two.right HW2.out).trans (Two.right hw.out))).trans (Two.left (grown_setCell _ _ _ _))⟩
  clear c2 f2
  by_cases hcx : cap = x
  · obtain rfl : y = 0 := by omega
    go_wp2_with (with_reducible refine copy_into rfl (.tmp 26) (.tmp 29) 33 33 rfl 5 Try.underlying33 size5 _ _ _ _ _ _ rfl rfl p 0 0 _ ((bs.drop x).take 0) 5 HG2.out (by rw [L2.out]) (by rw [L2.out]; simp) (fun hp => absurd hp (by rw [L2.out]; decide)) (by rw [L2.out, LS.out]; have := P1.out; omega) ?_)
    intro w3 HG3 HW3
    obtain ⟨c3, f3, F⟩ := FIN.out w3 HG3 HW3
    clear FIN HG2 HW2 HG3 HW3
    go_wp2
    go_ret
    exact F.out
  · go_wp2_with (with_reducible refine copy_into rfl (.tmp 26) (.tmp 29) 33 33 rfl 5 Try.underlying33 size5 _ _ _ _ _ _ rfl rfl p 0 y _ ((bs.drop x).take y) 5 HG2.out (by rw [L2.out]) (by rw [L2.out]; omega) (fun hp => ⟨rfl, sb, so + x, by rw [L2.out] at hp; rw [HAD.out (by omega)]; simp [Addr.add], fun j hj => by rw [L2.out] at hj; rw [show ((bs.drop x).take y).getD j 0 = bs.getD (x + j) 0 from by simp [List.getD_eq_getElem?_getD, List.getElem?_drop, hj], Nat.add_assoc]; exact HC2.out (x + j) (by omega)⟩) (by rw [L2.out, LS.out]; have := P1.out; omega) ?_)
    intro w3 HG3 HW3
    obtain ⟨c3, f3, F⟩ := FIN.out w3 HG3 HW3
    clear FIN HG2 HW2 HG3 HW3
    go_wp2
    go_ret
    exact F.out

set_option maxHeartbeats 400000 in
theorem put_some (b p a n m e x y r LB : Nat) (l bs : List Nat) (v : Value) (w : World) (h : RingAt w b p l a n) (hv : SrcN w p v bs) (sm : Small 256 bs) (hL : LB ≤ 100000) (hLB : bs.length = LB) (hr : r = l.length - n) (hm : m = r) (hlt : (r : Int) < (LB : Int)) (he : pos l.length a n = e) (hx : x = min m (l.length - e)) (hy : y = m - x) :
    Calls Try.prog 12 #[.pointer (some ⟨b, 0, none⟩), v] w fun en w' => en = .returned (.int .i64 m) ∧ Sl (∃ l', RingAt w' b p l' a (n + m) ∧ l'.length = l.length ∧ held l' a (n + m) = held l a n ++ bs.take m) ∧ Sl (Two w w' b p) := by
  subst hm
  have hn := h.le
  have ha := h.lt
  have ht := h.top
  have hel : e < l.length := by rw [← he]; exact pos_lt h.lt h.le
  have HP := Sl.mk (fun k => pieces_q b p a n n m e x y l (w.drewN k) (h.still ⟨k, rfl⟩) hn (by omega) he hx hy)
  have HR : Sl (∀ k, Calls Try.prog 18 #[.pointer (some ⟨b, 0, none⟩)] (w.drewN k) fun e w' => e = .returned (.int .i64 m) ∧ ∃ m, w' = (w.drewN k).drewN m) := ⟨fun k => by rw [hr]; exact room_any b p a n l _ (h.still ⟨k, rfl⟩)⟩
  have H := Sl.mk h
  have c2 := h.c2
  have f2 : w.frozen? ⟨b, 2, none⟩ = false := frozen_of_row _ _ _ _ _ h.hb
  obtain ⟨ad, cap, sb, so, rfl, hcap, had, hsb, hcell⟩ := hv
  rw [hLB] at hcap had hsb hcell ⊢
  have HAD := Sl.mk had
  have HSB := Sl.mk hsb
  have HC := Sl.mk hcell
  have HLB := Sl.mk hLB
  have HE := Sl.mk he
  have HX := Sl.mk hx
  have HXY : Sl (x + y = m) := ⟨by omega⟩
  have HM : Sl (n + m ≤ l.length ∧ m ≤ LB) := ⟨by omega⟩
  have hxL : x ≤ LB := by omega
  have hyL : y ≤ LB - x := by omega
  have hn6 : n ≤ 65536 := by omega
  have L1 : Sl ((bs.take x).length = x) := ⟨by rw [List.length_take]; omega⟩
  have L2 : Sl (((bs.drop x).take y).length = y) := ⟨by rw [List.length_take, List.length_drop]; omega⟩
  have P1 : Sl (e + x ≤ l.length ∧ y ≤ l.length) := ⟨by omega⟩
  have NE := Sl.mk h.ne
  have HSM := Sl.mk sm
  clear h hr hLB he hx hy had hsb hcell sm
  go_enter Try.func12, Try.ntmps12
  go_wp2
  go_quiet (first | (go_at_call 18; exact Calls.quiet_of (HR.out _)) | (go_at_call 19; exact Calls.quiet_of (HP.out _)))
  have H1 : Sl ((w.drewN nq).heap[p]? = some (.cells (u8s l).toArray 5 (0, 0))) := ⟨H.out.hp⟩
  have HC1 : Sl (∀ j, j < LB → (w.drewN nq).cell? ⟨sb, so + j, none⟩ = some (.int .u8 ((bs.getD j 0 : Nat) : Int))) := ⟨HC.out⟩
  go_wp2_with (with_reducible refine copy_into rfl (.tmp 22) (.tmp 23) 33 33 rfl 5 Try.underlying33 size5 _ _ _ _ _ _ rfl rfl p e x l (bs.take x) 5 H1.out (by rw [L1.out]) (by rw [L1.out]; omega) (fun hp => ⟨by unfold pd; rw [if_neg (by rw [L1.out] at hp; omega)], sb, so, HAD.out (by rw [L1.out] at hp; omega), fun j hj => by rw [L1.out] at hj; rw [show (bs.take x).getD j 0 = bs.getD j 0 from by simp [List.getD_eq_getElem?_getD, hj]]; exact HC1.out j (by omega)⟩) (by rw [L1.out]; exact P1.out.1) ?_)
  intro w2 HG2 HW2
  have LS : Sl ((splice l e (bs.take x)).length = l.length) := ⟨splice_length _ _ _ (by rw [L1.out]; exact P1.out.1)⟩
  have B2 : Sl (w2.heap[b]? = w.heap[b]?) := ⟨HW2.out.block b H.out.blt (fun e => NE.out (by injection e))⟩
  have HC2 : Sl (∀ j, j < LB → w2.cell? ⟨sb, so + j, none⟩ = some (.int .u8 ((bs.getD j 0 : Nat) : Int))) := ⟨fun j hj => by
    rw [World.cell?_of_block (w := w) (HW2.out.block sb (block_lt_of_cell (HC.out j hj)) (fun e => HSB.out (by omega) (by injection e)))]
    exact HC.out j hj⟩
  have FIN : Sl (∀ w3 : World, Sl (w3.heap[p]? = some (.cells (u8s (splice (splice l e (bs.take x)) 0 ((bs.drop x).take y))).toArray 5 (0, 0))) → Sl (w2.grownBy w3 (some p)) →
      w3.cell? ⟨b, 2, none⟩ = some (.int .i64 n) ∧ w3.frozen? ⟨b, 2, none⟩ = false ∧ Sl (Ending.returned (.int .i64 ((x : Int) + (y : Int))) = .returned (.int .i64 m) ∧ Sl (∃ l', RingAt (w3.setCell ⟨b, 2, none⟩ (.int .i64 ((n : Int) + ((x : Int) + (y : Int))))) b p l' a (n + m) ∧ l'.length = l.length ∧ held l' a (n + m) = held l a n ++ bs.take m) ∧ Sl (Two w (w3.setCell ⟨b, 2, none⟩ (.int .i64 ((n : Int) + ((x : Int) + (y : Int))))) b p))) := ⟨by
    intro w3 hg hw
    have e3 : w3.heap[b]? = w.heap[b]? := by rw [hw.out.block b (Nat.lt_of_lt_of_le H.out.blt HW2.out.size) (fun e => NE.out (by injection e)), B2.out]
    have h3 := e3.trans H.out.hb
    refine ⟨by rw [cell_of_row _ _ _ _ _ _ h3]; rfl, frozen_of_row _ _ _ _ _ h3, ⟨ret_int (by have := HXY.out; omega), ⟨?_⟩, ⟨?_⟩⟩⟩
    · refine put_ring H.out HXY.out HM.out.1 HE.out HX.out (by rw [HLB.out]; exact HM.out.2) HSM.out ?_ ?_
      · rw [heap_setCell_same _ _ _ _ _ _ h3]; rfl
      · rw [heap_setCell_other _ _ _ _ (by exact (Ne.symm NE.out))]; exact hg.out
    · exact ((Two.ofBelow (b := b) (p := p) (Still.below ⟨nq, rfl⟩)).trans ((Two.right HW2.out).trans (Two.right hw.out))).trans (Two.left (grown_setCell _ _ _ _))⟩
  clear c2 f2
  by_cases hcx : cap = x
  · obtain rfl : y = 0 := by omega
    go_wp2_with (with_reducible refine copy_into rfl (.tmp 26) (.tmp 29) 33 33 rfl 5 Try.underlying33 size5 _ _ _ _ _ _ rfl rfl p 0 0 _ ((bs.drop x).take 0) 5 HG2.out (by rw [L2.out]) (by rw [L2.out]; simp) (fun hp => absurd hp (by rw [L2.out]; decide)) (by rw [L2.out, LS.out]; have := P1.out; omega) ?_)
    intro w3 HG3 HW3
    obtain ⟨c3, f3, F⟩ := FIN.out w3 HG3 HW3
    clear FIN HG2 HW2 HG3 HW3
    go_wp2
    go_ret
    exact F.out
  · go_wp2_with (with_reducible refine copy_into rfl (.tmp 26) (.tmp 29) 33 33 rfl 5 Try.underlying33 size5 _ _ _ _ _ _ rfl rfl p 0 y _ ((bs.drop x).take y) 5 HG2.out (by rw [L2.out]) (by rw [L2.out]; omega) (fun hp => ⟨rfl, sb, so + x, by rw [L2.out] at hp; rw [HAD.out (by omega)]; simp [Addr.add], fun j hj => by rw [L2.out] at hj; rw [show ((bs.drop x).take y).getD j 0 = bs.getD (x + j) 0 from by simp [List.getD_eq_getElem?_getD, List.getElem?_drop, hj], Nat.add_assoc]; exact HC2.out (x + j) (by omega)⟩) (by rw [L2.out, LS.out]; have := P1.out; omega) ?_)
    intro w3 HG3 HW3
    obtain ⟨c3, f3, F⟩ := FIN.out w3 HG3 HW3
    clear FIN HG2 HW2 HG3 HW3
    go_wp2
    go_ret
    exact F.out
end Go.Proofs.Ytfgpohfegjomfaa
