/- Bytes in a ring, plain facts: which bytes wait where they lie round an end; what a copy into one or two pieces does. Nothing here speaks of the program. -/
namespace Go.Proofs.Ytfgpohfegjomfaa

/-- The row l with c in place of its cells from i on. -/
def splice (l : List Nat) (i : Nat) (c : List Nat) : List Nat := l.take i ++ c ++ l.drop (i + c.length)
theorem splice_length (l c : List Nat) (i : Nat) (h : i + c.length ≤ l.length) : (splice l i c).length = l.length := by
  simp only [splice, List.length_append, List.length_take, List.length_drop]; omega
theorem splice_get (l c : List Nat) (i k : Nat) (h : i + c.length ≤ l.length) : (splice l i c).getD k 0 = if i ≤ k ∧ k < i + c.length then c.getD (k - i) 0 else l.getD k 0 := by
  unfold splice
  have hl : (l.take i).length = i := by rw [List.length_take]; omega
  simp only [List.getD_eq_getElem?_getD]
  by_cases h1 : k < i
  · rw [if_neg (by omega), List.append_assoc, List.getElem?_append_left (by omega), List.getElem?_take, if_pos h1]
  · by_cases h2 : k < i + c.length
    · rw [if_pos ⟨by omega, h2⟩, List.append_assoc, List.getElem?_append_right (by omega), List.getElem?_append_left (by omega), hl]
    · rw [if_neg (by omega), List.getElem?_append_right (by rw [List.length_append]; omega), List.getElem?_drop, List.length_append, hl]
      congr 2; omega
/-- Where the i-th of the bytes that wait lies. -/
def pos (L a i : Nat) : Nat := if a + i < L then a + i else a + i - L
/-- The bytes that wait: n of them, the first one at a. -/
def held (l : List Nat) (a n : Nat) : List Nat := (List.range n).map fun i => l.getD (pos l.length a i) 0
@[simp] theorem held_length (l : List Nat) (a n : Nat) : (held l a n).length = n := by simp [held]
theorem held_get (l : List Nat) (a n i : Nat) (h : i < n) : (held l a n).getD i 0 = l.getD (pos l.length a i) 0 := by
  simp [held, List.getD_eq_getElem?_getD, h]
theorem ext_getD {a b : List Nat} (hl : a.length = b.length) (h : ∀ i, i < a.length → a.getD i 0 = b.getD i 0) : a = b := by
  apply List.ext_getElem hl
  intro i h1 h2
  have := h i h1
  simpa [List.getD_eq_getElem?_getD, List.getElem?_eq_getElem h1, List.getElem?_eq_getElem h2] using this
theorem getD_append_left' {a b : List Nat} {i : Nat} (h : i < a.length) : (a ++ b).getD i 0 = a.getD i 0 := by
  simp only [List.getD_eq_getElem?_getD]; rw [List.getElem?_append_left h]
theorem getD_append_right' {a b : List Nat} {i : Nat} (h : a.length ≤ i) : (a ++ b).getD i 0 = b.getD (i - a.length) 0 := by
  simp only [List.getD_eq_getElem?_getD]; rw [List.getElem?_append_right h]
/-- One copy: behind all that wait, no end between. -/
theorem put_one (l c : List Nat) (a n : Nat) (_ha : a < l.length) (hn : n + c.length ≤ l.length) (e : Nat) (he : e = pos l.length a n) (hfit : e + c.length ≤ l.length) :
    held (splice l e c) a (n + c.length) = held l a n ++ c := by
  have hL := splice_length l c e hfit
  apply ext_getD (by simp)
  intro i hi
  rw [held_length] at hi
  rw [held_get _ _ _ _ hi, hL, splice_get l c e _ hfit]
  by_cases h1 : i < n
  · rw [getD_append_left' (by rw [held_length]; exact h1), held_get _ _ _ _ h1]
    rw [if_neg]
    rw [he]; unfold pos; split <;> split <;> omega
  · rw [getD_append_right' (by rw [held_length]; omega), held_length]
    have hp : e ≤ pos l.length a i ∧ pos l.length a i < e + c.length ∧ pos l.length a i - e = i - n := by
      rw [he] at hfit ⊢; unfold pos at *; split at hfit <;> split <;> split <;> omega
    rw [if_pos ⟨hp.1, hp.2.1⟩, hp.2.2]
/-- Bytes that are taken away. -/
theorem held_drop (l : List Nat) (a n k : Nat) (ha : a < l.length) (hk : k ≤ n) (hn : n ≤ l.length) (b : Nat) (hb : b = pos l.length a k ∨ (n = k)) (hbl : b < l.length) : held l b (n - k) = (held l a n).drop k := by
  apply ext_getD (by simp)
  intro i hi
  rw [held_length] at hi
  have e : ((held l a n).drop k).getD i 0 = (held l a n).getD (k + i) 0 := by simp [List.getD_eq_getElem?_getD, List.getElem?_drop]
  rw [e, held_get _ _ _ _ hi, held_get _ _ _ _ (by omega)]
  congr 1
  rcases hb with rfl | h
  · unfold pos at *; split at hbl <;> split <;> split <;> split <;> omega
  · omega
/-- The first k, as one piece or as two. -/
theorem held_take (l : List Nat) (a n k : Nat) (hk : k ≤ n) : (held l a n).take k = held l a k := by
  apply ext_getD (by simp; omega)
  intro i hi
  have hi' : i < k := by simp at hi; omega
  have e : ((held l a n).take k).getD i 0 = (held l a n).getD i 0 := by simp [List.getD_eq_getElem?_getD, hi']
  rw [e, held_get _ _ _ _ (by omega), held_get _ _ _ _ hi']
theorem held_one (l : List Nat) (a k : Nat) (h : a + k ≤ l.length) : held l a k = (l.drop a).take k := by
  apply ext_getD (by simp; omega)
  intro i hi
  rw [held_length] at hi
  have e : ((l.drop a).take k).getD i 0 = l.getD (a + i) 0 := by simp [List.getD_eq_getElem?_getD, List.getElem?_drop, hi]
  rw [held_get _ _ _ _ hi, e]
  congr 1
  unfold pos; rw [if_pos (by omega)]
theorem held_two (l : List Nat) (a k : Nat) (ha : a < l.length) (hk : k ≤ l.length) (h : l.length ≤ a + k) : held l a k = l.drop a ++ l.take (a + k - l.length) := by
  apply ext_getD (by simp; omega)
  intro i hi
  rw [held_length] at hi
  rw [held_get _ _ _ _ hi]
  by_cases h1 : a + i < l.length
  · rw [getD_append_left' (by rw [List.length_drop]; omega)]
    simp only [List.getD_eq_getElem?_getD, List.getElem?_drop]
    unfold pos; rw [if_pos h1]
  · rw [getD_append_right' (by rw [List.length_drop]; omega), List.length_drop]
    simp only [List.getD_eq_getElem?_getD, List.getElem?_take]
    unfold pos; rw [if_neg h1, if_pos (by omega)]
    congr 2; omega
/-- Two copies: up to the end, and from the beginning on. -/
theorem put_two (l c d : List Nat) (a n : Nat) (ha : a < l.length) (hn : n + c.length + d.length ≤ l.length) (e : Nat) (he : e = pos l.length a n) (hc : e + c.length = l.length) (hd : c.length ≤ l.length → pos l.length a (n + c.length) = 0 ∨ d = []) :
    held (splice (splice l e c) 0 d) a (n + (c ++ d).length) = held l a n ++ (c ++ d) := by
  have h1 := put_one l c a n ha (by omega) e he (by omega)
  have hL := splice_length l c e (by omega)
  rcases hd (by omega) with hp | hp
  · have h2 := put_one (splice l e c) d a (n + c.length) (by omega) (by omega) 0 (by rw [hL, hp]) (by omega)
    rw [List.length_append, ← Nat.add_assoc, h2, h1, List.append_assoc]
  · subst hp
    have e0 : splice (splice l e c) 0 [] = splice l e c := by simp [splice]
    rw [e0, List.append_nil, h1]
end Go.Proofs.Ytfgpohfegjomfaa
