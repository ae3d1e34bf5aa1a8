/- The ring's cells; the contracts of place, Len, Room of package ring. -/
import Derived.Test.YtfgpohfegjomfaaA0
namespace Go.Proofs.Ytfgpohfegjomfaa
open Go.RowKit

/-- A ring's cells: the places l, the first byte's place a, n bytes wait. -/
structure RingAt (w : World) (b p : Nat) (l : List Nat) (a n : Nat) : Prop where
  hb : w.heap[b]? = some (.cells #[.slice (some ⟨p, 0, none⟩) l.length l.length, .int .i64 a, .int .i64 n] 45 (0, 0))
  hp : w.heap[p]? = some (.cells (u8s l).toArray 5 (0, 0))
  ne : b ≠ p
  lt : a < l.length
  le : n ≤ l.length
  top : l.length ≤ 65536
  small : Small 256 l
/-- Nothing but the count of draws has moved. -/
def Still (w w' : World) : Prop := ∃ m, w' = w.drewN m
theorem drewN_heap (w : World) (m : Nat) : (w.drewN m).heap = w.heap := rfl
theorem Still.heap {w w' : World} (h : Still w w') : w'.heap = w.heap := by obtain ⟨m, rfl⟩ := h; rfl
theorem Still.below {w w' : World} (h : Still w w') : Below w.heap.size w w' := by obtain ⟨m, rfl⟩ := h; exact ⟨rfl, rfl, rfl, Nat.le_refl _, fun _ _ => rfl⟩
theorem RingAt.still {w w' : World} {b p a n : Nat} {l : List Nat} (h : RingAt w b p l a n) (k : Still w w') : RingAt w' b p l a n :=
  ⟨by rw [k.heap]; exact h.hb, by rw [k.heap]; exact h.hp, h.ne, h.lt, h.le, h.top, h.small⟩
theorem RingAt.c0 {w : World} {b p a n : Nat} {l : List Nat} (h : RingAt w b p l a n) : w.cell? ⟨b, 0, none⟩ = some (.slice (some ⟨p, 0, none⟩) l.length l.length) := by rw [cell_of_row _ _ _ _ _ _ h.hb]; rfl
theorem RingAt.c1 {w : World} {b p a n : Nat} {l : List Nat} (h : RingAt w b p l a n) : w.cell? ⟨b, 1, none⟩ = some (.int .i64 a) := by rw [cell_of_row _ _ _ _ _ _ h.hb]; rfl
theorem RingAt.c2 {w : World} {b p a n : Nat} {l : List Nat} (h : RingAt w b p l a n) : w.cell? ⟨b, 2, none⟩ = some (.int .i64 n) := by rw [cell_of_row _ _ _ _ _ _ h.hb]; rfl

theorem mod_pos {L a k : Nat} (ha : a < L) (hk : k ≤ L) : ((a : Int) + (k : Int)) % (L : Int) = (pos L a k : Nat) := by
  unfold pos
  split
  · rw [Int.emod_eq_of_lt (by omega) (by omega)]; omega
  · have e : ((a : Int) + (k : Int)) = ((a + k - L : Nat) : Int) + (L : Int) := by omega
    rw [e, Int.add_emod_right, Int.emod_eq_of_lt (by omega) (by omega)]
theorem pos_lt {L a k : Nat} (ha : a < L) (hk : k ≤ L) : pos L a k < L := by unfold pos; split <;> omega

theorem len_any (b p a n : Nat) (l : List Nat) (w : World) (h : RingAt w b p l a n) : Calls Try.prog 17 #[.pointer (some ⟨b, 0, none⟩)] w fun e w' => e = .returned (.int .i64 n) ∧ w = w' := by
  have c2 := h.c2
  clear h
  go_enter Try.func17, Try.ntmps17
  go_wp2
  go_ret
  exact ⟨rfl, rfl⟩
theorem room_any (b p a n : Nat) (l : List Nat) (w : World) (h : RingAt w b p l a n) : Calls Try.prog 18 #[.pointer (some ⟨b, 0, none⟩)] w fun e w' => e = .returned (.int .i64 ((l.length - n : Nat) : Int)) ∧ Still w w' := by
  have c0 := h.c0
  have c2 := h.c2
  have h1 := h.le
  have h2 := h.top
  clear h
  generalize l.length = L at *
  go_enter Try.func18, Try.ntmps18
  go_wp2
  go_quiet (fail)
  go_wp2
  go_ret
  exact ⟨ret_int (by omega), ⟨_, rfl⟩⟩
theorem place_any (b p a n k : Nat) (l : List Nat) (w : World) (h : RingAt w b p l a n) (hk : k ≤ l.length) : Calls Try.prog 20 #[.pointer (some ⟨b, 0, none⟩), .int .i64 k] w fun e w' => e = .returned (.int .i64 (pos l.length a k : Nat)) ∧ Still w w' := by
  have c0 := h.c0
  have c1 := h.c1
  have h1 := h.lt
  have h2 := h.top
  clear h
  generalize l.length = L at *
  have HM := Sl.mk (mod_pos h1 hk)
  go_enter Try.func20, Try.ntmps20
  go_wp2
  go_quiet (fail)
  go_wp2
  go_ret
  exact ⟨ret_int HM.out, ⟨_, rfl⟩⟩
end Go.Proofs.Ytfgpohfegjomfaa
