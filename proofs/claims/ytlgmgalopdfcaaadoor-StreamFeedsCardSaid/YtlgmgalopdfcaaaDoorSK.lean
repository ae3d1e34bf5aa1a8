/- stream, plain: the frames that are told, how long what is kept can be, pieces. -/
import Derived.Test.YtlgmgalopdfcaaaDoorStreamPlain
set_option maxRecDepth 100000
namespace StreamPlain
open MaskPlain FramePlain

theorem getL_k (xs : List Nat) : (getL xs).2.1 ≤ 9 ∧ ((getL xs).2.2 = 80 → xs.length ≤ 8) := by
  cases xs with
  | nil => exact ⟨by decide, fun _ => by decide⟩
  | cons x xs =>
    rw [getL]
    split
    · exact ⟨by simp, fun h => by simp at h⟩
    split
    · split
      · exact ⟨by simp, fun _ => by simp; omega⟩
      split
      · exact ⟨by simp, fun h => by simp at h⟩
      · exact ⟨by simp, fun h => by simp at h⟩
    split
    · exact ⟨by simp, fun h => by simp at h⟩
    split
    · exact ⟨by simp, fun h => by simp at h⟩
    split
    · exact ⟨by simp, fun _ => by simp; omega⟩
    · exact ⟨by simp, fun h => by simp at h⟩
/-- What isn't there to its end is no longer than a frame can be. -/
theorem one_more_le {s : List Nat} {masked : Bool} {most : Int} (hm : 0 ≤ most) (h : (one s masked most).2.2 = 90) : (s.length : Int) ≤ 13 + most := by
  cases s with
  | nil => simp; omega
  | cons x xs =>
    rw [one_cons] at h
    by_cases h1 : bad x = true
    · rw [if_pos h1] at h; exact absurd h (by decide)
    rw [if_neg h1] at h
    by_cases h2 : 0 < xs.length ∧ decide (128 ≤ xs.getD 0 0) ≠ masked
    · rw [if_pos h2] at h; exact absurd h (by decide)
    rw [if_neg h2, get_cons, if_neg h1] at h
    obtain ⟨k1, k2⟩ := getL_k xs
    by_cases h3 : 0 < xs.length ∧ 8 ≤ x % 16 ∧ 125 < xs.getD 0 0 % 128
    · rw [if_pos h3] at h; exact absurd h (by decide)
    rw [if_neg h3] at h
    by_cases h4 : (getL xs).2.2 = 81
    · rw [if_pos h4] at h; exact absurd h (by decide)
    rw [if_neg h4] at h
    by_cases h5 : (getL xs).2.2 = 80
    · have := k2 h5
      simp; omega
    rw [if_neg h5] at h
    by_cases h6 : most < ((getL xs).1 : Int)
    · rw [if_pos h6] at h; exact absurd h (by decide)
    rw [if_neg h6] at h
    unfold rest at h
    have hl : (xs.drop (getL xs).2.1).length = xs.length - (getL xs).2.1 := List.length_drop ..
    rw [hl] at h
    simp only [List.length_cons]
    split at h
    · split at h
      · omega
      · simp at h
    · split at h
      · omega
      · simp at h
/-- Behind an error nothing is left. -/
theorem all_zero (masked : Bool) (most : Int) : ∀ (k : Nat) (s : List Nat), s.length ≤ k → (∀ y ∈ s, y < 256) → (all s masked most).2.1 ≠ 0 → (all s masked most).2.2 = 0
  | 0, s, h, hs, h0 => by
    obtain rfl : s = [] := List.eq_nil_of_length_eq_zero (by omega)
    exact absurd rfl h0
  | k + 1, s, h, hs, h0 => by
    rw [all_step s masked most hs] at h0 ⊢
    by_cases h1 : (one s masked most).2.2 = 90
    · rw [if_pos h1] at h0; exact absurd rfl h0
    rw [if_neg h1] at h0 ⊢
    by_cases h2 : (one s masked most).2.2 ≠ 0
    · rw [if_pos h2]
    rw [if_neg h2] at h0 ⊢
    have h3 := one_len hs (by omega : (one s masked most).2.2 = 0)
    exact all_zero masked most k (s.drop (one s masked most).2.1) (by rw [List.length_drop]; omega) (fun y hy => hs y (List.mem_of_mem_drop hy)) h0
/-- How many bytes frames have. -/
def sumT (fs : List Fr) : Nat := (fs.map fun f => (text f).length).sum
theorem sumT_take_le (fs : List Fr) (j : Nat) : sumT (fs.take j) ≤ sumT fs := by
  have h : sumT fs = sumT (fs.take j) + sumT (fs.drop j) := by
    unfold sumT
    rw [← List.sum_append, ← List.map_append, List.take_append_drop]
  omega
theorem sumT_take_succ (fs : List Fr) (j : Nat) (h : j < fs.length) : sumT (fs.take (j + 1)) = sumT (fs.take j) + (text (fs.getD j Fr0)).length := by
  unfold sumT
  rw [List.take_add_one, List.map_append, List.sum_append, List.getElem?_eq_getElem h, List.getD_eq_getElem?_getD, List.getElem?_eq_getElem h]
  simp
/-- The frames that are told: what they are, and how many bytes they have. -/
theorem all_frs (masked : Bool) (most : Int) : ∀ (k : Nat) (s : List Nat), s.length ≤ k → (∀ y ∈ s, y < 256) →
    (∀ f ∈ (all s masked most).1, form f = true ∧ f.key.length = 4 ∧ (∀ y ∈ f.key, y < 256) ∧ (∀ y ∈ f.data, y < 256) ∧ (f.data.length : Int) ≤ most) ∧ sumT (all s masked most).1 ≤ s.length ∧ 2 * (all s masked most).1.length ≤ s.length
  | 0, s, h, hs => by
    obtain rfl : s = [] := List.eq_nil_of_length_eq_zero (by omega)
    exact ⟨fun f hf => (by cases hf), Nat.le_refl _, Nat.le_refl _⟩
  | k + 1, s, h, hs => by
    by_cases h1 : (one s masked most).2.2 = 90
    · rw [show all s masked most = ([], 0, s.length) by rw [all_step s masked most hs, if_pos h1]]
      exact ⟨fun f hf => (by cases hf), Nat.zero_le _, Nat.zero_le _⟩
    by_cases h2 : (one s masked most).2.2 ≠ 0
    · rw [show all s masked most = ([], (one s masked most).2.2, 0) by rw [all_step s masked most hs, if_neg h1, if_pos h2]]
      exact ⟨fun f hf => (by cases hf), Nat.zero_le _, Nat.zero_le _⟩
    obtain ⟨⟨f, n, c⟩, ho⟩ : ∃ r, one s masked most = r := ⟨_, rfl⟩
    have hc : c = 0 := by rw [ho] at h2; simp only at h2; omega
    subst hc
    obtain ⟨h3, h4, h5, h6, h7, h8, h9, h10⟩ := get_ok hs (one_ok ho).1
    have e : all s masked most = (f :: (all (s.drop n) masked most).1, (all (s.drop n) masked most).2) := by rw [all_step s masked most hs, if_neg h1, if_neg h2, ho]
    rw [e]
    obtain ⟨i1, i2, i3⟩ := all_frs masked most k (s.drop n) (by rw [List.length_drop]; omega) (fun y hy => hs y (List.mem_of_mem_drop hy))
    rw [List.length_drop] at i2 i3
    have hl : (text f).length = n := by rw [h4, List.length_take]; omega
    refine ⟨fun g hg => ?_, ?_, ?_⟩
    · rcases List.mem_cons.1 hg with rfl | hg
      · exact ⟨h3, h7, h8, h9, h10⟩
      · exact i1 g hg
    · show (text f).length + sumT (all (s.drop n) masked most).1 ≤ _
      omega
    · show 2 * ((all (s.drop n) masked most).1.length + 1) ≤ _
      omega
end StreamPlain
