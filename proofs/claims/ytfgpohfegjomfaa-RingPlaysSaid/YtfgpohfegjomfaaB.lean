/- The contract of pieces of package ring. -/
import Derived.Test.YtfgpohfegjomfaaA
namespace Go.Proofs.Ytfgpohfegjomfaa
open Go.RowKit

/-- Two pieces of a ring's places: x of them from e on, y of them from the beginning on. -/
def Pcs (w : World) (p e x y : Nat) (en : Ending) (w' : World) : Prop :=
  ∃ d : Addr, en = .returned (.tuple #[.slice (some d) x x, .slice (some ⟨p, 0, none⟩) y y]) ∧ (0 < x → d = ⟨p, e, none⟩) ∧ (x = 0 → d = ⟨p, 0, none⟩) ∧ Still w w'
theorem ret_pcs {d : Addr} {p x x' y y' : Nat} (hx : x = x') (hy : y = y') : Ending.returned (.tuple #[.slice (some d) x x, .slice (some ⟨p, 0, none⟩) y y]) = .returned (.tuple #[.slice (some d) x' x', .slice (some ⟨p, 0, none⟩) y' y']) := by rw [hx, hy]
theorem Still.drewN {w w' : World} (h : Still w w') (n : Nat) : Still w (w'.drewN n) := by
  obtain ⟨m, rfl⟩ := h
  exact ⟨m + n, by rw [World.drewN_drewN]⟩

set_option maxHeartbeats 400000 in
theorem pieces_fit (b p a n k m e : Nat) (l : List Nat) (w : World) (h : RingAt w b p l a n) (hk : k ≤ l.length) (he : pos l.length a k = e) (hm : 0 < m) (hf : e + m ≤ l.length) :
    Calls Try.prog 19 #[.pointer (some ⟨b, 0, none⟩), .int .i64 k, .int .i64 m] w (Pcs w p e m 0) := by
  have HP : Sl (Calls Try.prog 20 #[.pointer (some ⟨b, 0, none⟩), .int .i64 k] w fun e' w' => e' = .returned (.int .i64 e) ∧ Still w w') := ⟨by rw [← he]; exact place_any b p a n k l w h hk⟩
  have H := Sl.mk h
  have h2 := h.top
  have h3 : e < l.length := by rw [← he]; exact pos_lt h.lt hk
  clear h he
  go_enter Try.func19, Try.ntmps19
  go_wp2_with fail
  refine HP.out.mono ?_
  rintro e1 w1 ⟨rfl, k1⟩
  have h1 := H.out.still k1
  have c0 := h1.c0
  have K1 := Sl.mk k1
  clear h1 k1
  generalize l.length = L at *
  have g1 : ¬ (L : Int) < (e : Int) + (m : Int) := by omega
  have g2 : ¬ ((e : Int) + (m : Int) = (e : Int)) := by omega
  go_wp2
  go_quiet (fail)
  go_wp2
  go_ret2
  exact ⟨_, ret_pcs (by omega) rfl, fun _ => rfl, fun h => by omega, K1.out.drewN _⟩

set_option maxHeartbeats 400000 in
theorem pieces_none (b p a n k m e : Nat) (l : List Nat) (w : World) (h : RingAt w b p l a n) (hk : k ≤ l.length) (he : pos l.length a k = e) (hm : m = 0) :
    Calls Try.prog 19 #[.pointer (some ⟨b, 0, none⟩), .int .i64 k, .int .i64 m] w (Pcs w p e 0 0) := by
  have HP : Sl (Calls Try.prog 20 #[.pointer (some ⟨b, 0, none⟩), .int .i64 k] w fun e' w' => e' = .returned (.int .i64 e) ∧ Still w w') := ⟨by rw [← he]; exact place_any b p a n k l w h hk⟩
  have H := Sl.mk h
  have h2 := h.top
  have h3 : e < l.length := by rw [← he]; exact pos_lt h.lt hk
  clear h he
  go_enter Try.func19, Try.ntmps19
  go_wp2_with fail
  refine HP.out.mono ?_
  rintro e1 w1 ⟨rfl, k1⟩
  have h1 := H.out.still k1
  have c0 := h1.c0
  have K1 := Sl.mk k1
  clear h1 k1
  generalize l.length = L at *
  subst hm
  have g1 : ¬ (L : Int) < (e : Int) := by omega
  go_wp2
  go_quiet (fail)
  go_wp2
  go_ret2
  exact ⟨_, ret_pcs (by omega) (by omega), fun h => by omega, fun _ => rfl, K1.out.drewN _⟩

set_option maxHeartbeats 400000 in
theorem pieces_over (b p a n k m e : Nat) (l : List Nat) (w : World) (h : RingAt w b p l a n) (hk : k ≤ l.length) (he : pos l.length a k = e) (hf : l.length < e + m) (hm : m ≤ l.length) :
    Calls Try.prog 19 #[.pointer (some ⟨b, 0, none⟩), .int .i64 k, .int .i64 m] w (Pcs w p e (l.length - e) (e + m - l.length)) := by
  have HP : Sl (Calls Try.prog 20 #[.pointer (some ⟨b, 0, none⟩), .int .i64 k] w fun e' w' => e' = .returned (.int .i64 e) ∧ Still w w') := ⟨by rw [← he]; exact place_any b p a n k l w h hk⟩
  have H := Sl.mk h
  have h2 := h.top
  have h3 : e < l.length := by rw [← he]; exact pos_lt h.lt hk
  clear h he
  go_enter Try.func19, Try.ntmps19
  go_wp2_with fail
  refine HP.out.mono ?_
  rintro e1 w1 ⟨rfl, k1⟩
  have h1 := H.out.still k1
  have c0 := h1.c0
  have K1 := Sl.mk k1
  clear h1 k1
  generalize l.length = L at *
  have g1 : (L : Int) < (e : Int) + (m : Int) := by omega
  have g2 : ¬ (L = e) := by omega
  have g3 : ((e : Int) + (m : Int) - (L : Int)) ≤ (L : Int) := by omega
  go_wp2
  go_quiet (fail)
  go_wp2
  go_ret2
  exact ⟨_, ret_pcs (by omega) (by omega), fun _ => rfl, fun h => by omega, K1.out.drewN _⟩

/-- All three: x of them up to the end, y of them round it. -/
theorem pieces_any (b p a n k m e x y : Nat) (l : List Nat) (w : World) (h : RingAt w b p l a n) (hk : k ≤ l.length) (hm : m ≤ l.length) (he : pos l.length a k = e) (hx : x = min m (l.length - e)) (hy : y = m - x) :
    Calls Try.prog 19 #[.pointer (some ⟨b, 0, none⟩), .int .i64 k, .int .i64 m] w (Pcs w p e x y) := by
  have h3 : e < l.length := by rw [← he]; exact pos_lt h.lt hk
  by_cases h0 : m = 0
  · obtain rfl : x = 0 := by omega
    obtain rfl : y = 0 := by omega
    exact pieces_none b p a n k m e l w h hk he h0
  · by_cases hf : e + m ≤ l.length
    · obtain rfl : x = m := by omega
      obtain rfl : y = 0 := by omega
      exact pieces_fit b p a n k x e l w h hk he (by omega) hf
    · obtain rfl : x = l.length - e := by omega
      obtain rfl : y = e + m - l.length := by omega
      exact pieces_over b p a n k m e l w h hk he (by omega) hm
/-- Where the first piece lies. -/
def pd (p e x : Nat) : Addr := if x = 0 then ⟨p, 0, none⟩ else ⟨p, e, none⟩
theorem pieces_q (b p a n k m e x y : Nat) (l : List Nat) (w : World) (h : RingAt w b p l a n) (hk : k ≤ l.length) (hm : m ≤ l.length) (he : pos l.length a k = e) (hx : x = min m (l.length - e)) (hy : y = m - x) :
    Calls Try.prog 19 #[.pointer (some ⟨b, 0, none⟩), .int .i64 k, .int .i64 m] w fun en w' => en = .returned (.tuple #[.slice (some (pd p e x)) x x, .slice (some ⟨p, 0, none⟩) y y]) ∧ ∃ m, w' = w.drewN m :=
  (pieces_any b p a n k m e x y l w h hk hm he hx hy).mono fun en w' ⟨d, h1, h2, h3, h4⟩ => ⟨by
    rw [h1]
    have : d = pd p e x := by
      unfold pd
      by_cases h0 : x = 0
      · rw [if_pos h0]; exact h3 h0
      · rw [if_neg h0]; exact h2 (by omega)
    rw [this], h4⟩
end Go.Proofs.Ytfgpohfegjomfaa
