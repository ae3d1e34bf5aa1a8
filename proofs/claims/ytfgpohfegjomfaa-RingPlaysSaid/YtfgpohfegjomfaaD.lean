/- The contract of Peek of package ring. -/
import Derived.Test.YtfgpohfegjomfaaC
namespace Go.Proofs.Ytfgpohfegjomfaa
open Go.RowKit

theorem RingAt.cell {w : World} {b p a n : Nat} {l : List Nat} (h : RingAt w b p l a n) (i : Nat) (hi : i < l.length) : w.cell? ⟨p, i, none⟩ = some (.int .u8 ((l.getD i 0 : Nat) : Int)) := by
  rw [cell_of_row _ _ _ _ _ _ h.hp, List.getElem?_toArray]; exact u8s_get l i hi
theorem RingAt.plt {w : World} {b p a n : Nat} {l : List Nat} (h : RingAt w b p l a n) : p < w.heap.size := (Array.getElem?_eq_some_iff.1 h.hp).1
theorem RingAt.blt {w : World} {b p a n : Nat} {l : List Nat} (h : RingAt w b p l a n) : b < w.heap.size := (Array.getElem?_eq_some_iff.1 h.hb).1
theorem RingAt.below {w w' : World} {b p a n : Nat} {l : List Nat} (h : RingAt w b p l a n) (k : Below w.heap.size w w') : RingAt w' b p l a n :=
  ⟨by rw [k.block _ h.blt]; exact h.hb, by rw [k.block _ h.plt]; exact h.hp, h.ne, h.lt, h.le, h.top, h.small⟩
theorem splice_fill (s1 s2 : List Nat) (c x y : Nat) (h1 : s1.length = x) (h2 : s2.length = y) (h : x + y = c) : splice (splice (zs c) 0 s1) x s2 = s1 ++ s2 := by
  apply ext_getD
  · rw [splice_length _ _ _ (by rw [splice_length _ _ _ (by simp; omega)]; simp; omega), splice_length _ _ _ (by simp; omega)]; simp; omega
  · intro i hi
    rw [splice_length _ _ _ (by rw [splice_length _ _ _ (by simp; omega)]; simp; omega), splice_length _ _ _ (by simp; omega), zs_length] at hi
    rw [splice_get _ _ _ _ (by rw [splice_length _ _ _ (by simp; omega)]; simp; omega), splice_get _ _ _ _ (by simp; omega)]
    by_cases hc : i < x
    · rw [if_neg (by omega), if_pos (by omega), getD_append_left' (by omega)]; simp
    · rw [if_pos (by omega), getD_append_right' (by omega), h1]
theorem held_parts (l : List Nat) (a c x y : Nat) (ha : a < l.length) (hc : c ≤ l.length) (hx : x = min c (l.length - a)) (hy : y = c - x) : held l a c = (l.drop a).take x ++ l.take y := by
  by_cases h : a + c ≤ l.length
  · obtain rfl : x = c := by omega
    obtain rfl : y = 0 := by omega
    rw [held_one l a x h]; simp
  · obtain rfl : x = l.length - a := by omega
    have e1 : (l.drop a).take (l.length - a) = l.drop a := List.take_of_length_le (by rw [List.length_drop]; exact Nat.le_refl _)
    have e2 : a + c - l.length = y := by omega
    rw [held_two l a c ha hc (by omega), e1, e2]

set_option maxHeartbeats 400000 in
theorem peek_mid (b p a n c x y : Nat) (z : Int) (l : List Nat) (w : World) (h : RingAt w b p l a n) (h1 : ¬ (n : Int) < z) (h2 : 0 < z) (hz : z = c) (hx : x = min c (l.length - a)) (hy : y = c - x) :
    Calls Try.prog 13 #[.pointer (some ⟨b, 0, none⟩), .int .i64 z] w fun e w' => e = .returned (.slice (some ⟨w.heap.size, 0, none⟩) c c) ∧ Sl (w'.heap[w.heap.size]? = some (.cells (u8s (held l a c)).toArray 5 (0, 0))) ∧ Sl (Below w.heap.size w w') := by
  have hn := h.le
  have ha := h.lt
  have ht := h.top
  have HP := Sl.mk (pieces_any b p a n 0 c a x y l w h (by omega) (by omega) (by unfold pos; rw [if_pos (by omega)]; omega) hx hy)
  have H := Sl.mk h
  have c2 := h.c2
  have HXY : Sl (x + y = c) := ⟨by omega⟩
  have h3 : y ≤ 65536 := by omega
  have h4 : x ≤ 65536 := by omega
  obtain ⟨s1, hs1⟩ : ∃ s1, s1 = (l.drop a).take x := ⟨_, rfl⟩
  obtain ⟨s2, hs2⟩ : ∃ s2, s2 = l.take y := ⟨_, rfl⟩
  have L1 : Sl (s1.length = x) := ⟨by rw [hs1]; simp; omega⟩
  have L2 : Sl (s2.length = y) := ⟨by rw [hs2]; simp; omega⟩
  have HH : Sl (held l a c = s1 ++ s2) := ⟨by rw [hs1, hs2]; exact held_parts l a c x y ha (by omega) hx hy⟩
  have G1 : Sl (∀ j, j < x → s1.getD j 0 = l.getD (a + j) 0) := ⟨fun j hj => by rw [hs1]; simp [List.getD_eq_getElem?_getD, List.getElem?_drop, hj]⟩
  have G2 : Sl (∀ j, j < y → s2.getD j 0 = l.getD j 0) := ⟨fun j hj => by rw [hs2]; simp [List.getD_eq_getElem?_getD, hj]⟩
  have X1 : Sl (x ≤ l.length - a ∧ y ≤ l.length) := ⟨by omega⟩
  clear h hx hy hs1 hs2
  subst hz
  go_enter Try.func13, Try.ntmps13
  go_wp2_with fail
  refine HP.out.mono ?_
  rintro e1 w1 ⟨d, rfl, hd, -, k1⟩
  have hmk := make_u8 ((x : Int) + (y : Int)) c (by have := HXY.out; omega) (by have := HXY.out; omega) w1
  have HD := Sl.mk hd
  have K1 := Sl.mk k1
  have hsz : w1.heap.size = w.heap.size := by rw [k1.heap]
  have HSZ := Sl.mk hsz
  have R1 := Sl.mk (H.out.still k1)
  clear hd k1 hsz
  go_wp2_with (with_reducible refine copy_into rfl (.tmp 26) (.tmp 27) 33 33 rfl 5 Try.underlying33 size5 _ _ _ _ _ _ rfl rfl w1.heap.size 0 x (zs c) s1 5 (alloc_new _ _ _ rfl) (by rw [L1.out]) (by rw [L1.out]; have := HXY.out; omega) (fun hp => ⟨rfl, p, a, by rw [HD.out (by rw [← L1.out]; exact hp)], fun j hj => by rw [L1.out] at hj; rw [G1.out j hj, (R1.out.below ((Below.refl _ _).alloc (Nat.le_refl _) _)).cell _ (by have := X1.out; omega)]⟩) (by rw [L1.out]; have := HXY.out; simp; omega) ?_)
  intro w2 HG2 HW2
  have e2 := HG2.out
  have K2 : Sl (Below w.heap.size w w2) := ⟨((Still.below K1.out).alloc (by have := HSZ.out; omega) _).grown HW2.out (by rw [alloc_size]; have := HSZ.out; omega) (fun k hk => by injection hk with hk; have := HSZ.out; omega)⟩
  clear e2
  have R2 := Sl.mk (H.out.below K2.out)
  clear hmk
  have hxc : x ≤ c := by have := HXY.out; omega
  have FIN : ∀ w3 : World, Sl (w3.heap[w1.heap.size]? = some (.cells (u8s (splice (splice (zs c) 0 s1) x s2)).toArray 5 (0, 0))) → Sl (w2.grownBy w3 (some w1.heap.size)) →
      (Ending.returned (.slice (some ⟨w1.heap.size, 0, none⟩) c c) = .returned (.slice (some ⟨w.heap.size, 0, none⟩) c c) ∧ Sl (w3.heap[w.heap.size]? = some (.cells (u8s (held l a c)).toArray 5 (0, 0))) ∧ Sl (Below w.heap.size w w3)) := by
    intro w3 hg hw
    refine ⟨by rw [HSZ.out], ⟨?_⟩, ⟨K2.out.grown hw.out (by have := K2.out.size; omega) (fun k hk => by injection hk with hk; have := HSZ.out; omega)⟩⟩
    rw [← HSZ.out, hg.out, splice_fill s1 s2 c x y L1.out L2.out HXY.out, HH.out]
  have FN := Sl.mk FIN
  clear FIN
  by_cases hy0 : y = 0
  · have q : Sl (c = x) := ⟨by have := HXY.out; omega⟩
    obtain rfl := q.out
    subst hy0
    go_wp2_with (with_reducible refine copy_into rfl (.tmp 32) (.tmp 33) 33 33 rfl 5 Try.underlying33 size5 _ _ _ _ _ _ rfl rfl w1.heap.size c 0 _ s2 5 HG2.out (by rw [L2.out]) (by rw [L2.out]; simp) (fun hp => absurd hp (by rw [L2.out]; decide)) (by rw [L2.out, splice_length _ _ _ (by simp [L1.out])]; simp) ?_)
    intro w3 HG3 HW3
    have F := Sl.mk (FN.out w3 HG3 HW3)
    clear FN HG2 HW2 HG3 HW3
    go_wp2
    go_ret
    exact F.out
  · have q : ¬ (c = x) := by have := HXY.out; omega
    go_wp2_with (with_reducible refine copy_into rfl (.tmp 32) (.tmp 33) 33 33 rfl 5 Try.underlying33 size5 _ _ _ _ _ _ rfl rfl w1.heap.size x y _ s2 5 HG2.out (by rw [L2.out]) (by rw [L2.out]; have := HXY.out; omega) (fun hp => ⟨rfl, p, 0, rfl, fun j hj => by rw [L2.out] at hj; rw [G2.out j hj, Nat.zero_add, R2.out.cell _ (by have := X1.out; omega)]⟩) (by rw [L2.out, splice_length _ _ _ (by simp [L1.out]; exact hxc)]; simp; have := HXY.out; omega) ?_)
    intro w3 HG3 HW3
    have F := Sl.mk (FN.out w3 HG3 HW3)
    clear FN HG2 HW2 HG3 HW3
    go_wp2
    go_ret
    exact F.out


set_option maxHeartbeats 400000 in
theorem peek_high (b p a n c x y : Nat) (z : Int) (l : List Nat) (w : World) (h : RingAt w b p l a n) (h1 : (n : Int) < z) (h2 : 0 < (n : Int)) (hz : c = n) (hx : x = min c (l.length - a)) (hy : y = c - x) :
    Calls Try.prog 13 #[.pointer (some ⟨b, 0, none⟩), .int .i64 z] w fun e w' => e = .returned (.slice (some ⟨w.heap.size, 0, none⟩) c c) ∧ Sl (w'.heap[w.heap.size]? = some (.cells (u8s (held l a c)).toArray 5 (0, 0))) ∧ Sl (Below w.heap.size w w') := by
  have hn := h.le
  have ha := h.lt
  have ht := h.top
  have HP := Sl.mk (pieces_any b p a n 0 c a x y l w h (by omega) (by omega) (by unfold pos; rw [if_pos (by omega)]; omega) hx hy)
  have H := Sl.mk h
  have c2 := h.c2
  have HXY : Sl (x + y = c) := ⟨by omega⟩
  have h3 : y ≤ 65536 := by omega
  have h4 : x ≤ 65536 := by omega
  obtain ⟨s1, hs1⟩ : ∃ s1, s1 = (l.drop a).take x := ⟨_, rfl⟩
  obtain ⟨s2, hs2⟩ : ∃ s2, s2 = l.take y := ⟨_, rfl⟩
  have L1 : Sl (s1.length = x) := ⟨by rw [hs1]; simp; omega⟩
  have L2 : Sl (s2.length = y) := ⟨by rw [hs2]; simp; omega⟩
  have HH : Sl (held l a c = s1 ++ s2) := ⟨by rw [hs1, hs2]; exact held_parts l a c x y ha (by omega) hx hy⟩
  have G1 : Sl (∀ j, j < x → s1.getD j 0 = l.getD (a + j) 0) := ⟨fun j hj => by rw [hs1]; simp [List.getD_eq_getElem?_getD, List.getElem?_drop, hj]⟩
  have G2 : Sl (∀ j, j < y → s2.getD j 0 = l.getD j 0) := ⟨fun j hj => by rw [hs2]; simp [List.getD_eq_getElem?_getD, hj]⟩
  have X1 : Sl (x ≤ l.length - a ∧ y ≤ l.length) := ⟨by omega⟩
  clear h hx hy hs1 hs2
  subst hz
  go_enter Try.func13, Try.ntmps13
  go_wp2_with fail
  refine HP.out.mono ?_
  rintro e1 w1 ⟨d, rfl, hd, -, k1⟩
  have hmk := make_u8 ((x : Int) + (y : Int)) c (by have := HXY.out; omega) (by have := HXY.out; omega) w1
  have HD := Sl.mk hd
  have K1 := Sl.mk k1
  have hsz : w1.heap.size = w.heap.size := by rw [k1.heap]
  have HSZ := Sl.mk hsz
  have R1 := Sl.mk (H.out.still k1)
  clear hd k1 hsz
  go_wp2_with (with_reducible refine copy_into rfl (.tmp 26) (.tmp 27) 33 33 rfl 5 Try.underlying33 size5 _ _ _ _ _ _ rfl rfl w1.heap.size 0 x (zs c) s1 5 (alloc_new _ _ _ rfl) (by rw [L1.out]) (by rw [L1.out]; have := HXY.out; omega) (fun hp => ⟨rfl, p, a, by rw [HD.out (by rw [← L1.out]; exact hp)], fun j hj => by rw [L1.out] at hj; rw [G1.out j hj, (R1.out.below ((Below.refl _ _).alloc (Nat.le_refl _) _)).cell _ (by have := X1.out; omega)]⟩) (by rw [L1.out]; have := HXY.out; simp; omega) ?_)
  intro w2 HG2 HW2
  have e2 := HG2.out
  have K2 : Sl (Below w.heap.size w w2) := ⟨((Still.below K1.out).alloc (by have := HSZ.out; omega) _).grown HW2.out (by rw [alloc_size]; have := HSZ.out; omega) (fun k hk => by injection hk with hk; have := HSZ.out; omega)⟩
  clear e2
  have R2 := Sl.mk (H.out.below K2.out)
  clear hmk
  have hxc : x ≤ c := by have := HXY.out; omega
  have FIN : ∀ w3 : World, Sl (w3.heap[w1.heap.size]? = some (.cells (u8s (splice (splice (zs c) 0 s1) x s2)).toArray 5 (0, 0))) → Sl (w2.grownBy w3 (some w1.heap.size)) →
      (Ending.returned (.slice (some ⟨w1.heap.size, 0, none⟩) c c) = .returned (.slice (some ⟨w.heap.size, 0, none⟩) c c) ∧ Sl (w3.heap[w.heap.size]? = some (.cells (u8s (held l a c)).toArray 5 (0, 0))) ∧ Sl (Below w.heap.size w w3)) := by
    intro w3 hg hw
    refine ⟨by rw [HSZ.out], ⟨?_⟩, ⟨K2.out.grown hw.out (by have := K2.out.size; omega) (fun k hk => by injection hk with hk; have := HSZ.out; omega)⟩⟩
    rw [← HSZ.out, hg.out, splice_fill s1 s2 c x y L1.out L2.out HXY.out, HH.out]
  have FN := Sl.mk FIN
  clear FIN
  by_cases hy0 : y = 0
  · have q : Sl (c = x) := ⟨by have := HXY.out; omega⟩
    obtain rfl := q.out
    subst hy0
    go_wp2_with (with_reducible refine copy_into rfl (.tmp 32) (.tmp 33) 33 33 rfl 5 Try.underlying33 size5 _ _ _ _ _ _ rfl rfl w1.heap.size c 0 _ s2 5 HG2.out (by rw [L2.out]) (by rw [L2.out]; simp) (fun hp => absurd hp (by rw [L2.out]; decide)) (by rw [L2.out, splice_length _ _ _ (by simp [L1.out])]; simp) ?_)
    intro w3 HG3 HW3
    have F := Sl.mk (FN.out w3 HG3 HW3)
    clear FN HG2 HW2 HG3 HW3
    go_wp2
    go_ret
    exact F.out
  · have q : ¬ (c = x) := by have := HXY.out; omega
    go_wp2_with (with_reducible refine copy_into rfl (.tmp 32) (.tmp 33) 33 33 rfl 5 Try.underlying33 size5 _ _ _ _ _ _ rfl rfl w1.heap.size x y _ s2 5 HG2.out (by rw [L2.out]) (by rw [L2.out]; have := HXY.out; omega) (fun hp => ⟨rfl, p, 0, rfl, fun j hj => by rw [L2.out] at hj; rw [G2.out j hj, Nat.zero_add, R2.out.cell _ (by have := X1.out; omega)]⟩) (by rw [L2.out, splice_length _ _ _ (by simp [L1.out]; exact hxc)]; simp; have := HXY.out; omega) ?_)
    intro w3 HG3 HW3
    have F := Sl.mk (FN.out w3 HG3 HW3)
    clear FN HG2 HW2 HG3 HW3
    go_wp2
    go_ret
    exact F.out


set_option maxHeartbeats 400000 in
theorem peek_low (b p a n : Nat) (z : Int) (l : List Nat) (w : World) (h : RingAt w b p l a n) (h1 : ¬ (n : Int) < z) (h2 : ¬ 0 < z) :
    Calls Try.prog 13 #[.pointer (some ⟨b, 0, none⟩), .int .i64 z] w fun e w' => e = .returned (.slice (some ⟨w.heap.size, 0, none⟩) 0 0) ∧ Sl (w'.heap[w.heap.size]? = some (.cells (u8s (held l a 0)).toArray 5 (0, 0))) ∧ Sl (Below w.heap.size w w') := by
  have ha := h.lt
  have HP : Sl (Calls Try.prog 19 #[.pointer (some ⟨b, 0, none⟩), .int .i64 0, .int .i64 0] w (Pcs w p a 0 0)) := ⟨pieces_any b p a n 0 0 a 0 0 l w h (by omega) (by omega) (by unfold pos; rw [if_pos (by omega)]; omega) (by omega) (by omega)⟩
  have c2 := h.c2
  clear h
  go_enter Try.func13, Try.ntmps13
  go_wp2_with fail
  refine HP.out.mono ?_
  rintro e1 w1 ⟨d, rfl, hd, -, k1⟩
  have hmk := make_u8 0 0 rfl (by omega) w1
  have K1 := Sl.mk k1
  have HSZ : Sl (w1.heap.size = w.heap.size) := ⟨by rw [k1.heap]⟩
  clear hd k1
  go_wp2_with (with_reducible refine copy_into rfl (.tmp 26) (.tmp 27) 33 33 rfl 5 Try.underlying33 size5 _ _ _ _ _ _ rfl rfl w1.heap.size 0 0 (zs 0) [] 5 (alloc_new _ _ _ rfl) rfl rfl (fun hp => absurd hp (by decide)) (by decide) ?_)
  intro w2 HG2 HW2
  have K2 : Sl (Below w.heap.size w w2) := ⟨((Still.below K1.out).alloc (by have := HSZ.out; omega) _).grown HW2.out (by rw [alloc_size]; have := HSZ.out; omega) (fun k hk => by injection hk with hk; have := HSZ.out; omega)⟩
  have FN : Sl (∀ w3 : World, Sl (w3.heap[w1.heap.size]? = some (.cells (u8s (splice (splice (zs 0) 0 []) 0 [])).toArray 5 (0, 0))) → Sl (w2.grownBy w3 (some w1.heap.size)) →
      (Ending.returned (.slice (some ⟨w1.heap.size, 0, none⟩) 0 0) = .returned (.slice (some ⟨w.heap.size, 0, none⟩) 0 0) ∧ Sl (w3.heap[w.heap.size]? = some (.cells (u8s (held l a 0)).toArray 5 (0, 0))) ∧ Sl (Below w.heap.size w w3))) := ⟨by
    intro w3 hg hw
    refine ⟨by rw [HSZ.out], ⟨?_⟩, ⟨K2.out.grown hw.out (by have := K2.out.size; omega) (fun k hk => by injection hk with hk; have := HSZ.out; omega)⟩⟩
    rw [← HSZ.out, hg.out]; rfl⟩
  clear hmk
  go_wp2_with (with_reducible refine copy_into rfl (.tmp 32) (.tmp 33) 33 33 rfl 5 Try.underlying33 size5 _ _ _ _ _ _ rfl rfl w1.heap.size 0 0 _ [] 5 HG2.out rfl rfl (fun hp => absurd hp (by decide)) (by decide) ?_)
  intro w3 HG3 HW3
  have F := Sl.mk (FN.out w3 HG3 HW3)
  clear FN HG2 HW2 HG3 HW3
  go_wp2
  go_ret
  exact F.out


set_option maxHeartbeats 400000 in
theorem peek_none (b p a n : Nat) (z : Int) (l : List Nat) (w : World) (h : RingAt w b p l a n) (h1 : (n : Int) < z) (hn0 : n = 0) :
    Calls Try.prog 13 #[.pointer (some ⟨b, 0, none⟩), .int .i64 z] w fun e w' => e = .returned (.slice (some ⟨w.heap.size, 0, none⟩) 0 0) ∧ Sl (w'.heap[w.heap.size]? = some (.cells (u8s (held l a 0)).toArray 5 (0, 0))) ∧ Sl (Below w.heap.size w w') := by
  have ha := h.lt
  have HP : Sl (Calls Try.prog 19 #[.pointer (some ⟨b, 0, none⟩), .int .i64 0, .int .i64 0] w (Pcs w p a 0 0)) := ⟨pieces_any b p a n 0 0 a 0 0 l w h (by omega) (by omega) (by unfold pos; rw [if_pos (by omega)]; omega) (by omega) (by omega)⟩
  have c2 := h.c2
  rw [hn0] at c2 h1
  clear hn0
  clear h
  go_enter Try.func13, Try.ntmps13
  go_wp2_with fail
  refine HP.out.mono ?_
  rintro e1 w1 ⟨d, rfl, hd, -, k1⟩
  have hmk := make_u8 0 0 rfl (by omega) w1
  have K1 := Sl.mk k1
  have HSZ : Sl (w1.heap.size = w.heap.size) := ⟨by rw [k1.heap]⟩
  clear hd k1
  go_wp2_with (with_reducible refine copy_into rfl (.tmp 26) (.tmp 27) 33 33 rfl 5 Try.underlying33 size5 _ _ _ _ _ _ rfl rfl w1.heap.size 0 0 (zs 0) [] 5 (alloc_new _ _ _ rfl) rfl rfl (fun hp => absurd hp (by decide)) (by decide) ?_)
  intro w2 HG2 HW2
  have K2 : Sl (Below w.heap.size w w2) := ⟨((Still.below K1.out).alloc (by have := HSZ.out; omega) _).grown HW2.out (by rw [alloc_size]; have := HSZ.out; omega) (fun k hk => by injection hk with hk; have := HSZ.out; omega)⟩
  have FN : Sl (∀ w3 : World, Sl (w3.heap[w1.heap.size]? = some (.cells (u8s (splice (splice (zs 0) 0 []) 0 [])).toArray 5 (0, 0))) → Sl (w2.grownBy w3 (some w1.heap.size)) →
      (Ending.returned (.slice (some ⟨w1.heap.size, 0, none⟩) 0 0) = .returned (.slice (some ⟨w.heap.size, 0, none⟩) 0 0) ∧ Sl (w3.heap[w.heap.size]? = some (.cells (u8s (held l a 0)).toArray 5 (0, 0))) ∧ Sl (Below w.heap.size w w3))) := ⟨by
    intro w3 hg hw
    refine ⟨by rw [HSZ.out], ⟨?_⟩, ⟨K2.out.grown hw.out (by have := K2.out.size; omega) (fun k hk => by injection hk with hk; have := HSZ.out; omega)⟩⟩
    rw [← HSZ.out, hg.out]; rfl⟩
  clear hmk
  go_wp2_with (with_reducible refine copy_into rfl (.tmp 32) (.tmp 33) 33 33 rfl 5 Try.underlying33 size5 _ _ _ _ _ _ rfl rfl w1.heap.size 0 0 _ [] 5 HG2.out rfl rfl (fun hp => absurd hp (by decide)) (by decide) ?_)
  intro w3 HG3 HW3
  have F := Sl.mk (FN.out w3 HG3 HW3)
  clear FN HG2 HW2 HG3 HW3
  go_wp2
  go_ret
  exact F.out


/-- How many bytes are handed out where n wait and z are asked for. -/
def got (n : Nat) (z : Int) : Nat := min n z.toNat
theorem got_le (n : Nat) (z : Int) : got n z ≤ n := Nat.min_le_left _ _
theorem peek_any (b p a n : Nat) (z : Int) (l : List Nat) (w : World) (h : RingAt w b p l a n) :
    Calls Try.prog 13 #[.pointer (some ⟨b, 0, none⟩), .int .i64 z] w fun e w' => e = .returned (.slice (some ⟨w.heap.size, 0, none⟩) (got n z) (got n z)) ∧ Sl (w'.heap[w.heap.size]? = some (.cells (u8s (held l a (got n z))).toArray 5 (0, 0))) ∧ Sl (Below w.heap.size w w') := by
  by_cases h1 : (n : Int) < z
  · have e : got n z = n := by unfold got; omega
    rw [e]
    by_cases h0 : n = 0
    · rw [h0]
      exact peek_none b p a n z l w h h1 h0
    · exact peek_high b p a n n _ _ z l w h h1 (by omega) rfl rfl rfl
  · by_cases h2 : 0 < z
    · exact peek_mid b p a n _ _ _ z l w h h1 h2 (by unfold got; omega) rfl rfl
    · rw [show got n z = 0 from by unfold got; omega]
      exact peek_low b p a n z l w h h1 h2
end Go.Proofs.Ytfgpohfegjomfaa
