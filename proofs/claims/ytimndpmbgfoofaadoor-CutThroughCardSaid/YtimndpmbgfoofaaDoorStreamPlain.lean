/- stream, plain: the frame that bytes begin with as it must be masked, all of them, what stays when more comes. -/
import Derived.Test.YtimndpmbgfoofaaDoorFramePlain
namespace StreamPlain
open MaskPlain FramePlain

/-- The frame that bytes begin with, masked as it must be. -/
def one (s : List Nat) (masked : Bool) (most : Int) : Fr × Nat × Nat :=
  match s with
  | [] => (Fr0, 0, 90)
  | x :: xs =>
    if bad x then (Fr0, 0, 91)
    else if 0 < xs.length ∧ decide (128 ≤ xs.getD 0 0) ≠ masked then (Fr0, 0, 100)
    else getF (x :: xs) most
theorem one_cons (x : Nat) (xs : List Nat) (masked : Bool) (most : Int) : one (x :: xs) masked most = if bad x then (Fr0, 0, 91) else if 0 < xs.length ∧ decide (128 ≤ xs.getD 0 0) ≠ masked then (Fr0, 0, 100) else getF (x :: xs) most := rfl
theorem get_cons (x : Nat) (xs : List Nat) (most : Int) : getF (x :: xs) most = if bad x then (Fr0, 0, 91)
    else if 0 < xs.length ∧ 8 ≤ x % 16 ∧ 125 < xs.getD 0 0 % 128 then (Fr0, 0, 91)
    else if (getL xs).2.2 = 81 then (Fr0, 0, 91)
    else if (getL xs).2.2 = 80 then (Fr0, 0, 90)
    else if most < ((getL xs).1 : Int) then (Fr0, 0, 92)
    else rest x (xs.getD 0 0) (getL xs).1 (getL xs).2.1 (xs.drop (getL xs).2.1) := rfl
/-- The first byte alone tells ErrFrameForm. -/
theorem get_first (x : Nat) (most : Int) : (getF [x] most).2.2 = if bad x then 91 else 90 := by
  rw [get_cons]
  by_cases h : bad x = true
  · rw [if_pos h, if_pos h]
  · rw [if_neg h, if_neg h]; rfl
/-- What is known of a beginning stays so with more behind. -/
theorem one_on {a : List Nat} (b : List Nat) (masked : Bool) (most : Int) (h : (one a masked most).2.2 ≠ 90) : one (a ++ b) masked most = one a masked most := by
  cases a with
  | nil => exact absurd rfl h
  | cons x xs =>
    rw [List.cons_append, one_cons, one_cons]
    rw [one_cons] at h
    by_cases h1 : bad x = true
    · rw [if_pos h1, if_pos h1]
    rw [if_neg h1] at h ⊢
    rw [if_neg h1]
    by_cases h2 : 0 < xs.length ∧ decide (128 ≤ xs.getD 0 0) ≠ masked
    · have hg : (xs ++ b).getD 0 0 = xs.getD 0 0 := by
        rw [List.getD_eq_getElem?_getD, List.getElem?_append_left h2.1, ← List.getD_eq_getElem?_getD]
      rw [if_pos h2, if_pos ⟨by rw [List.length_append]; omega, by rw [hg]; exact h2.2⟩]
    · rw [if_neg h2] at h ⊢
      cases xs with
      | nil =>
        rw [get_first, if_neg h1] at h
        exact absurd rfl h
      | cons y ys =>
        have h3 : ¬ (0 < (y :: ys ++ b).length ∧ decide (128 ≤ (y :: ys ++ b).getD 0 0) ≠ masked) := fun hh => h2 ⟨by simp, hh.2⟩
        rw [if_neg h3, ← List.cons_append]
        exact get_on b most h
theorem one_err (a : List Nat) (masked : Bool) (most : Int) : (one a masked most).2.2 = 0 ∨ (∃ e, one a masked most = (Fr0, 0, e) ∧ (e = 90 ∨ e = 91 ∨ e = 92 ∨ e = 100)) := by
  cases a with
  | nil => exact .inr ⟨90, rfl, .inl rfl⟩
  | cons x xs =>
    rw [one_cons]
    by_cases h1 : bad x = true
    · rw [if_pos h1]; exact .inr ⟨91, rfl, by omega⟩
    rw [if_neg h1]
    by_cases h2 : 0 < xs.length ∧ decide (128 ≤ xs.getD 0 0) ≠ masked
    · rw [if_pos h2]; exact .inr ⟨100, rfl, by omega⟩
    · rw [if_neg h2]
      rcases get_err (x :: xs) most with h | ⟨e, h, he⟩
      · exact .inl h
      · exact .inr ⟨e, h, by omega⟩
/-- A frame that is told is one that Get tells. -/
theorem one_ok {a : List Nat} {masked : Bool} {most : Int} {f : Fr} {n : Nat} (h : one a masked most = (f, n, 0)) : getF a most = (f, n, 0) ∧ 0 < a.length := by
  cases a with
  | nil => injection h with _ h; injection h with _ h; cases h
  | cons x xs =>
    rw [one_cons] at h
    by_cases h1 : bad x = true
    · rw [if_pos h1] at h; injection h with _ h; injection h with _ h; cases h
    rw [if_neg h1] at h
    by_cases h2 : 0 < xs.length ∧ decide (128 ≤ xs.getD 0 0) ≠ masked
    · rw [if_pos h2] at h; injection h with _ h; injection h with _ h; cases h
    · rw [if_neg h2] at h; exact ⟨h, by simp⟩
/-- All frames of bytes, what is wrong behind them, and how many bytes are left (as many steps as there are bytes are enough). -/
def allN : Nat → List Nat → Bool → Int → List Fr × Nat × Nat
  | 0, s, _, _ => ([], 0, s.length)
  | k + 1, s, masked, most =>
    if (one s masked most).2.2 = 90 then ([], 0, s.length)
    else if (one s masked most).2.2 ≠ 0 then ([], (one s masked most).2.2, 0)
    else ((one s masked most).1 :: (allN k (s.drop (one s masked most).2.1) masked most).1, (allN k (s.drop (one s masked most).2.1) masked most).2)
theorem allN_succ (k : Nat) (s : List Nat) (masked : Bool) (most : Int) : allN (k + 1) s masked most =
    if (one s masked most).2.2 = 90 then ([], 0, s.length)
    else if (one s masked most).2.2 ≠ 0 then ([], (one s masked most).2.2, 0)
    else ((one s masked most).1 :: (allN k (s.drop (one s masked most).2.1) masked most).1, (allN k (s.drop (one s masked most).2.1) masked most).2) := rfl
def all (s : List Nat) (masked : Bool) (most : Int) : List Fr × Nat × Nat := allN s.length s masked most
theorem one_len {a : List Nat} {masked : Bool} {most : Int} (hs : ∀ y ∈ a, y < 256) (h : (one a masked most).2.2 = 0) : 2 ≤ (one a masked most).2.1 ∧ (one a masked most).2.1 ≤ a.length := by
  obtain ⟨⟨f, n, e⟩, ho⟩ : ∃ r, one a masked most = r := ⟨_, rfl⟩
  rw [ho] at h ⊢
  simp only at h
  subst h
  obtain ⟨_, _, h3, h4, _⟩ := get_ok hs (one_ok ho).1
  exact ⟨h4, h3⟩
/-- More steps than there are bytes change nothing. -/
theorem allN_more (masked : Bool) (most : Int) : ∀ (k : Nat) (s : List Nat), (∀ y ∈ s, y < 256) → s.length ≤ k → allN (k + 1) s masked most = allN k s masked most
  | 0, s, _, h => by
    obtain rfl : s = [] := List.eq_nil_of_length_eq_zero (by omega)
    rfl
  | k + 1, s, hs, h => by
    have e1 := allN_succ (k + 1) s masked most
    have e2 := allN_succ k s masked most
    rw [e1, e2]
    by_cases h1 : (one s masked most).2.2 = 90
    · rw [if_pos h1, if_pos h1]
    rw [if_neg h1, if_neg h1]
    by_cases h2 : (one s masked most).2.2 ≠ 0
    · rw [if_pos h2, if_pos h2]
    rw [if_neg h2, if_neg h2]
    have h3 := one_len hs (by omega : (one s masked most).2.2 = 0)
    have ih := allN_more masked most k (s.drop (one s masked most).2.1) (fun y hy => hs y (List.mem_of_mem_drop hy)) (by rw [List.length_drop]; omega)
    rw [ih]
theorem allN_enough (masked : Bool) (most : Int) (s : List Nat) (hs : ∀ y ∈ s, y < 256) : ∀ k, s.length ≤ k → allN k s masked most = all s masked most := by
  intro k hk
  obtain ⟨d, rfl⟩ : ∃ d, k = s.length + d := ⟨k - s.length, by omega⟩
  clear hk
  induction d with
  | zero => rfl
  | succ d ih => rw [← Nat.add_assoc, allN_more masked most _ s hs (by omega)]; exact ih
/-- One step. -/
theorem all_step (s : List Nat) (masked : Bool) (most : Int) (hs : ∀ y ∈ s, y < 256) : all s masked most =
    if (one s masked most).2.2 = 90 then ([], 0, s.length)
    else if (one s masked most).2.2 ≠ 0 then ([], (one s masked most).2.2, 0)
    else ((one s masked most).1 :: (all (s.drop (one s masked most).2.1) masked most).1, (all (s.drop (one s masked most).2.1) masked most).2) := by
  rw [← allN_enough masked most s hs (s.length + 1) (by omega), allN_succ]
  by_cases h1 : (one s masked most).2.2 = 90
  · rw [if_pos h1, if_pos h1]
  rw [if_neg h1, if_neg h1]
  by_cases h2 : (one s masked most).2.2 ≠ 0
  · rw [if_pos h2, if_pos h2]
  rw [if_neg h2, if_neg h2, allN_enough masked most _ (fun y hy => hs y (List.mem_of_mem_drop hy)) _ (by rw [List.length_drop]; omega)]
/-- What is left is an end of the bytes. -/
theorem all_left (masked : Bool) (most : Int) : ∀ (k : Nat) (s : List Nat), s.length ≤ k → (∀ y ∈ s, y < 256) → (all s masked most).2.2 ≤ s.length
  | 0, s, h, hs => by
    obtain rfl : s = [] := List.eq_nil_of_length_eq_zero (by omega)
    exact Nat.zero_le _
  | k + 1, s, h, hs => by
    rw [all_step s masked most hs]
    by_cases h1 : (one s masked most).2.2 = 90
    · rw [if_pos h1]; exact Nat.le_refl _
    rw [if_neg h1]
    by_cases h2 : (one s masked most).2.2 ≠ 0
    · rw [if_pos h2]; exact Nat.zero_le _
    rw [if_neg h2]
    have h3 := one_len hs (by omega : (one s masked most).2.2 = 0)
    have ih := all_left masked most k (s.drop (one s masked most).2.1) (by rw [List.length_drop]; omega) (fun y hy => hs y (List.mem_of_mem_drop hy))
    rw [List.length_drop] at ih
    show (all (s.drop (one s masked most).2.1) masked most).2.2 ≤ s.length
    omega
/-- More bytes: those that are left come first; behind an error nothing. -/
theorem all_append (masked : Bool) (most : Int) (b : List Nat) (hb : ∀ y ∈ b, y < 256) : ∀ (k : Nat) (a : List Nat), a.length ≤ k → (∀ y ∈ a, y < 256) → all (a ++ b) masked most =
    if (all a masked most).2.1 = 0 then ((all a masked most).1 ++ (all (a.drop (a.length - (all a masked most).2.2) ++ b) masked most).1, (all (a.drop (a.length - (all a masked most).2.2) ++ b) masked most).2) else all a masked most
  | 0, a, h, ha => by
    obtain rfl : a = [] := List.eq_nil_of_length_eq_zero (by omega)
    rfl
  | k + 1, a, h, ha => by
    have hab : ∀ y ∈ a ++ b, y < 256 := fun y hy => by rcases List.mem_append.1 hy with hy | hy; exact ha y hy; exact hb y hy
    by_cases h1 : (one a masked most).2.2 = 90
    · have e : all a masked most = ([], 0, a.length) := by rw [all_step a masked most ha, if_pos h1]
      rw [e]
      simp
    · have ho := one_on b masked most h1
      by_cases h2 : (one a masked most).2.2 ≠ 0
      · have e : all a masked most = ([], (one a masked most).2.2, 0) := by rw [all_step a masked most ha, if_neg h1, if_pos h2]
        rw [e, if_neg h2, all_step _ masked most hab, ho, if_neg h1, if_pos h2]
      · have h3 := one_len ha (by omega : (one a masked most).2.2 = 0)
        obtain ⟨n, hn⟩ : ∃ n, (one a masked most).2.1 = n := ⟨_, rfl⟩
        have e : all a masked most = ((one a masked most).1 :: (all (a.drop n) masked most).1, (all (a.drop n) masked most).2) := by rw [all_step a masked most ha, if_neg h1, if_neg h2, hn]
        have e2 : all (a ++ b) masked most = ((one a masked most).1 :: (all (a.drop n ++ b) masked most).1, (all (a.drop n ++ b) masked most).2) := by
          rw [all_step _ masked most hab, ho, if_neg h1, if_neg h2, hn, List.drop_append_of_le_length (by omega)]
        have ih := all_append masked most b hb k (a.drop n) (by rw [List.length_drop]; omega) (fun y hy => ha y (List.mem_of_mem_drop hy))
        have hl := all_left masked most (a.drop n).length (a.drop n) (Nat.le_refl _) (fun y hy => ha y (List.mem_of_mem_drop hy))
        rw [List.length_drop] at hl
        rw [e2, ih, e]
        by_cases h4 : (all (a.drop n) masked most).2.1 = 0
        · rw [if_pos h4, if_pos h4]
          have h5 : (a.drop n).drop ((a.drop n).length - (all (a.drop n) masked most).2.2) = a.drop (a.length - (all (a.drop n) masked most).2.2) := by
            rw [List.drop_drop, List.length_drop]; congr 1; omega
          rw [h5]; rfl
        · rw [if_neg h4, if_neg h4]
/-- What is left holds no frame. -/
theorem all_rest (masked : Bool) (most : Int) : ∀ (k : Nat) (s : List Nat), s.length ≤ k → (∀ y ∈ s, y < 256) → (all s masked most).2.1 = 0 → (one (s.drop (s.length - (all s masked most).2.2)) masked most).2.2 = 90
  | 0, s, h, hs, h0 => by
    obtain rfl : s = [] := List.eq_nil_of_length_eq_zero (by omega)
    rfl
  | k + 1, s, h, hs, h0 => by
    by_cases h1 : (one s masked most).2.2 = 90
    · rw [show all s masked most = ([], 0, s.length) by rw [all_step s masked most hs, if_pos h1]]
      simpa using h1
    by_cases h2 : (one s masked most).2.2 ≠ 0
    · rw [show all s masked most = ([], (one s masked most).2.2, 0) by rw [all_step s masked most hs, if_neg h1, if_pos h2]] at h0
      exact absurd h0 h2
    have h3 := one_len hs (by omega : (one s masked most).2.2 = 0)
    obtain ⟨n, hn⟩ : ∃ n, (one s masked most).2.1 = n := ⟨_, rfl⟩
    rw [hn] at h3
    have e : all s masked most = ((one s masked most).1 :: (all (s.drop n) masked most).1, (all (s.drop n) masked most).2) := by rw [all_step s masked most hs, if_neg h1, if_neg h2, hn]
    rw [e] at h0 ⊢
    have ih := all_rest masked most k (s.drop n) (by rw [List.length_drop]; omega) (fun y hy => hs y (List.mem_of_mem_drop hy)) h0
    have hl := all_left masked most (s.drop n).length (s.drop n) (Nat.le_refl _) (fun y hy => hs y (List.mem_of_mem_drop hy))
    rw [List.length_drop] at hl
    rw [List.drop_drop, List.length_drop] at ih
    have h5 : n + (s.length - n - (all (s.drop n) masked most).2.2) = s.length - (all (s.drop n) masked most).2.2 := by omega
    rw [h5] at ih
    exact ih
/-- How many bytes the frames have, and what is left, are all. -/
theorem all_sum (masked : Bool) (most : Int) (hm : most ≤ 9223372036854775807) : ∀ (k : Nat) (s : List Nat), s.length ≤ k → (∀ y ∈ s, y < 256) → (all s masked most).2.1 = 0 → ((all s masked most).1.map fun f => (text f).length).sum + (all s masked most).2.2 = s.length
  | 0, s, h, hs, h0 => by
    obtain rfl : s = [] := List.eq_nil_of_length_eq_zero (by omega)
    rfl
  | k + 1, s, h, hs, h0 => by
    by_cases h1 : (one s masked most).2.2 = 90
    · rw [show all s masked most = ([], 0, s.length) by rw [all_step s masked most hs, if_pos h1]]
      simp
    by_cases h2 : (one s masked most).2.2 ≠ 0
    · rw [show all s masked most = ([], (one s masked most).2.2, 0) by rw [all_step s masked most hs, if_neg h1, if_pos h2]] at h0
      exact absurd h0 h2
    obtain ⟨⟨f, n, c⟩, ho⟩ : ∃ r, one s masked most = r := ⟨_, rfl⟩
    have hc : c = 0 := by rw [ho] at h2; simp only at h2; omega
    subst hc
    obtain ⟨_, h4, h5, h6, _⟩ := get_ok hs (one_ok ho).1
    have e : all s masked most = (f :: (all (s.drop n) masked most).1, (all (s.drop n) masked most).2) := by rw [all_step s masked most hs, if_neg h1, if_neg h2, ho]
    rw [e] at h0 ⊢
    have ih := all_sum masked most hm k (s.drop n) (by rw [List.length_drop]; omega) (fun y hy => hs y (List.mem_of_mem_drop hy)) h0
    rw [List.length_drop] at ih
    have h7 : (text f).length = n := by rw [h4, List.length_take]; omega
    simp only [List.map_cons, List.sum_cons]
    omega
/-- A frame's bytes are that frame, whatever stands behind. -/
theorem one_text {f : Fr} {masked : Bool} {most : Int} (hf : form f = true) (hm : f.masked = masked) (hk : f.key.length = 4) (hd : (f.data.length : Int) ≤ most) (hmo : most ≤ 9223372036854775807) (more : List Nat) : one (text f ++ more) masked most = (f, size f, 0) := by
  have hn : f.data.length ≤ 9223372036854775807 := by omega
  have hg := get_text hf hn hk more most
  rw [if_neg (by omega)] at hg
  obtain ⟨b1, _⟩ := byte0_facts hf
  obtain ⟨l1, _⟩ := lenB_low hn
  have hpos : 0 < (lenB f.data.length).length := by rw [lenB_length hn]; split <;> (try split) <;> omega
  have ht : ∃ y ys, text f = byte0 f :: y :: ys ∧ decide (128 ≤ y) = f.masked := by
    unfold text headB
    obtain ⟨L, hL⟩ : ∃ L, lenB f.data.length = L := ⟨_, rfl⟩
    rw [hL] at hpos l1 ⊢
    cases L with
    | nil => cases hpos
    | cons y ys =>
      have hy : y < 128 := l1
      by_cases h : f.masked = true
      · rw [if_pos h, if_pos h]
        exact ⟨y + 128, ys ++ f.key ++ turn f.key 0 f.data, by simp, by rw [h]; exact decide_eq_true (by omega)⟩
      · rw [if_neg h, if_neg h]
        exact ⟨y, ys ++ f.data, by simp, by rw [Bool.eq_false_iff.2 h]; exact decide_eq_false (by omega)⟩
  obtain ⟨y, ys, e, hy⟩ := ht
  rw [e] at hg ⊢
  rw [List.cons_append] at hg ⊢
  rw [one_cons, if_neg (by rw [b1]; decide), if_neg (fun hh => hh.2 (by show decide (128 ≤ y) = masked; rw [hy, hm]))]
  exact hg
end StreamPlain
