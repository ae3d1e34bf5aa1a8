/- The contracts of package ring in the form in which they are used: a ring at block b with its places in block p, room for L bytes, and the bytes hs that wait. -/
import Derived.Test.YtfgpohfegjomfaaE
namespace Go.Proofs.Ytfgpohfegjomfaa
open Go.RowKit

set_option maxHeartbeats 400000 in
theorem take_cells (b p a n g : Nat) (z : Int) (l : List Nat) (w : World) (h : RingAt w b p l a n) (hg : got n z = g) :
    Calls Try.prog 16 #[.pointer (some ⟨b, 0, none⟩), .int .i64 z] w fun e w' => e = .returned (.slice (some ⟨w.heap.size, 0, none⟩) g g) ∧ Sl (w'.heap[w.heap.size]? = some (.cells (u8s (held l a g)).toArray 5 (0, 0))) ∧ Sl (RingAt w' b p l (pos l.length a g) (n - g)) ∧ Sl (Two w w' b p) := by
  have HP := Sl.mk (peek_any b p a n z l w h)
  rw [hg] at HP
  have H := Sl.mk h
  have HG := Sl.mk hg
  have hgn : g ≤ n := by rw [← hg]; exact got_le n z
  have hn := h.le
  have ha := h.lt
  have ht := h.top
  have hq : pos l.length a g < l.length := pos_lt ha (by omega)
  have hn6 : n ≤ 65536 := by omega
  clear h hg
  go_enter Try.func16, Try.ntmps16
  go_wp2_with fail
  refine HP.out.mono ?_
  rintro e1 w1 ⟨rfl, HX1, HB1⟩
  have R1 := Sl.mk (H.out.below HB1.out)
  have hb := R1.out.hb
  have f1 : w1.frozen? ⟨b, 1, none⟩ = false := frozen_of_row _ _ _ _ _ hb
  have c1 := R1.out.c1
  obtain ⟨q, hq'⟩ : ∃ q, pos l.length a g = q := ⟨_, rfl⟩
  have PL : Sl (Calls Try.prog 20 #[.pointer (some ⟨b, 0, none⟩), .int .i64 g] w1 fun e w' => e = .returned (.int .i64 q) ∧ Still w1 w') := ⟨by rw [← hq']; exact place_any b p a n g l w1 R1.out (by omega)⟩
  have HQ := Sl.mk hq'
  rw [hq'] at hq
  clear hq' hb f1 c1
  go_wp2_with fail
  refine PL.out.mono ?_
  rintro e2 w2 ⟨rfl, k2⟩
  have R2 := Sl.mk (R1.out.still k2)
  have K2 := Sl.mk k2
  have c1 := R2.out.c1
  have c2 := R2.out.c2
  have f1 : w2.frozen? ⟨b, 1, none⟩ = false := frozen_of_row _ _ _ _ _ R2.out.hb
  have f2 : w2.frozen? ⟨b, 2, none⟩ = false := frozen_of_row _ _ _ _ _ R2.out.hb
  have FIN : Sl (Sl ((((w2.setCell ⟨b, 1, none⟩ (.int .i64 q)).setCell ⟨b, 2, none⟩ (.int .i64 ((n : Int) - (g : Int)))).heap[w.heap.size]? = some (.cells (u8s (held l a g)).toArray 5 (0, 0)))) ∧ Sl (RingAt ((w2.setCell ⟨b, 1, none⟩ (.int .i64 q)).setCell ⟨b, 2, none⟩ (.int .i64 ((n : Int) - (g : Int)))) b p l (pos l.length a g) (n - g)) ∧ Sl (Two w ((w2.setCell ⟨b, 1, none⟩ (.int .i64 q)).setCell ⟨b, 2, none⟩ (.int .i64 ((n : Int) - (g : Int)))) b p)) := ⟨by
    have hbn : b ≠ w.heap.size := by have := H.out.blt; omega
    refine ⟨⟨?_⟩, ⟨⟨?_, ?_, R2.out.ne, ?_, ?_, R2.out.top, R2.out.small⟩⟩, ⟨?_⟩⟩
    · rw [heap_setCell_other _ _ _ _ (by exact Ne.symm hbn), heap_setCell_other _ _ _ _ (by exact Ne.symm hbn), K2.out.heap]; exact HX1.out
    · rw [heap_setCell_same _ _ _ _ _ _ (heap_setCell_same _ _ _ _ _ _ R2.out.hb), HQ.out]
      have : ((n : Int) - (g : Int)) = ((n - g : Nat) : Int) := by omega
      rw [this]; rfl
    · rw [heap_setCell_other _ _ _ _ (by exact Ne.symm R2.out.ne), heap_setCell_other _ _ _ _ (by exact Ne.symm R2.out.ne)]; exact R2.out.hp
    · rw [HQ.out]; exact hq
    · omega
    · exact (((Two.ofBelow HB1.out).trans (Two.ofBelow K2.out.below)).trans (Two.left (grown_setCell _ _ _ _))).trans (Two.left (grown_setCell _ _ _ _))⟩
  clear k2 hn ha ht
  go_wp2
  go_ret
  exact ⟨rfl, FIN.out⟩

theorem new_any (L : Nat) (w : World) (h1 : 1 ≤ L) (h2 : L ≤ 65536) :
    Calls Try.prog 9 #[.int .i64 L] w fun e w' => e = .returned (.tuple #[.pointer (some ⟨w.heap.size + 1, 0, none⟩), .int .i64 0]) ∧ Sl (RingAt w' (w.heap.size + 1) w.heap.size (zs L) 0 0) ∧ Sl (Below w.heap.size w w') ∧ Sl (w.heap.size + 1 < w'.heap.size) := by
  have hmk := make_u8 L L rfl (by omega) w
  have g1 : ¬ (L : Int) < 1 := by omega
  have g2 : ¬ (65536 : Int) < (L : Int) := by omega
  go_enter Try.func9, Try.ntmps9
  go_wp2
  go_ret2
  refine ⟨rfl, ⟨⟨?_, ?_, by omega, by simp; omega, by omega, by simp; exact h2, zs_small L⟩⟩, ⟨((Below.refl _ _).alloc (Nat.le_refl _) _).alloc (by simp) _⟩, ⟨by simp⟩⟩
  · rw [alloc_new _ _ _ (by simp)]; simp
  · rw [alloc_old _ _ _ (by simp), alloc_new _ _ _ rfl]
theorem new_no (z : Int) (w : World) (h : z < 1 ∨ 65536 < z) :
    Calls Try.prog 9 #[.int .i64 z] w fun e w' => e = .returned (.tuple #[.pointer none, .int .i64 40]) ∧ w = w' := by
  by_cases h1 : z < 1
  · clear h
    go_enter Try.func9, Try.ntmps9
    go_wp2
    go_ret2
    exact ⟨rfl, rfl⟩
  · have h2 : 65536 < z := by omega
    clear h
    go_enter Try.func9, Try.ntmps9
    go_wp2
    go_ret2
    exact ⟨rfl, rfl⟩
end Go.Proofs.Ytfgpohfegjomfaa
