/- Plain facts on bits: what turning, choosing and the rest do bit by bit. -/
import Derived.Test.YtmiemklgekhfeaaDoorT
namespace Go.Proofs.YtmiemklgekhfeaaDoor
open Go.RowKit

theorem list_ext_getD {l m : List Nat} (hl : l.length = m.length) (h : ∀ i, i < l.length → l.getD i 0 = m.getD i 0) : l = m := by
  apply List.ext_getElem hl
  intro i h1 h2
  have := h i h1
  simpa [List.getD, List.getElem?_eq_getElem h1, List.getElem?_eq_getElem h2] using this
theorem bit_eq (n j : Nat) : n / 2 ^ j % 2 = (n.testBit j).toNat := (Nat.toNat_testBit n j).symm
theorem rot_testBit (n k j : Nat) (hn : n < 4294967296) (hk : k ≤ 31) (hj : j < 32) : (rot n k).testBit j = if k ≤ j then n.testBit (j - k) else n.testBit (j + 32 - k) := by
  unfold rot
  rw [Nat.testBit_or, show (4294967296 : Nat) = 2 ^ 32 from rfl, Nat.testBit_mod_two_pow, Nat.testBit_div_two_pow, Nat.testBit_mul_two_pow]
  by_cases h : k ≤ j
  · have hz : n.testBit (j + (32 - k)) = false := Nat.testBit_lt_two_pow (Nat.lt_of_lt_of_le hn (by
      rw [show (4294967296 : Nat) = 2 ^ 32 from rfl]; exact Nat.pow_le_pow_right (by decide) (by omega)))
    simp [h, hj, hz]
  · simp [h, show j + 32 - k = j + (32 - k) by omega]
theorem turn_list (n k : Nat) (hn : n < 4294967296) (hk : k ≤ 31) : (bitsTo n 32).drop k ++ (bitsTo n 32).take k = bitsTo (rot n k) 32 := by
  refine list_ext_getD (by simp [bitsTo_length]; omega) (fun i hi => ?_)
  have hi32 : i < 32 := by simp [bitsTo_length] at hi; omega
  rw [bitsTo_get _ 32 i hi32, bit_eq, rot_testBit n k _ hn hk (by omega)]
  by_cases h : i + k < 32
  · rw [if_pos (by omega)]
    have e : ((bitsTo n 32).drop k ++ (bitsTo n 32).take k).getD i 0 = (bitsTo n 32).getD (k + i) 0 := by
      simp only [List.getD]
      rw [List.getElem?_append_left (by simp [bitsTo_length]; omega), List.getElem?_drop]
    rw [e, bitsTo_get _ 32 _ (by omega), bit_eq, show 31 - (k + i) = 31 - i - k by omega]
  · rw [if_neg (by omega)]
    have e : ((bitsTo n 32).drop k ++ (bitsTo n 32).take k).getD i 0 = (bitsTo n 32).getD (i + k - 32) 0 := by
      simp only [List.getD]
      rw [List.getElem?_append_right (by simp [bitsTo_length]; omega), List.getElem?_take]
      simp only [List.length_drop, bitsTo_length]
      rw [if_pos (by omega), show i - (32 - k) = i + k - 32 by omega]
    rw [e, bitsTo_get _ 32 _ (by omega), bit_eq, show 31 - (i + k - 32) = 31 - i + 32 - k by omega]

theorem toNat_and (a b : Bool) : (a && b).toNat = if a.toNat = 1 then b.toNat else 0 := by cases a <;> cases b <;> rfl
theorem ones_testBit (j : Nat) (hj : j < 32) : (4294967295 : Nat).testBit j = true := by
  rw [show (4294967295 : Nat) = 2 ^ 32 - 1 from rfl, Nat.testBit_two_pow_sub_one]
  simpa using hj
theorem ch_bit1 (t b c d j : Nat) (ht : t < 20) (hj : j < 32) (h : b / 2 ^ j % 2 = 1) : ch t b c d / 2 ^ j % 2 = c / 2 ^ j % 2 := by
  rw [bit_eq] at h
  rw [bit_eq, bit_eq]
  unfold ch
  rw [if_pos ht, Nat.testBit_or, Nat.testBit_and, Nat.testBit_and, Nat.testBit_xor, ones_testBit j hj]
  cases hb : b.testBit j
  · rw [hb] at h; cases h
  · simp
theorem ch_bit0 (t b c d j : Nat) (ht : t < 20) (hj : j < 32) (h : ¬ b / 2 ^ j % 2 = 1) : ch t b c d / 2 ^ j % 2 = d / 2 ^ j % 2 := by
  rw [bit_eq] at h
  rw [bit_eq, bit_eq]
  unfold ch
  rw [if_pos ht, Nat.testBit_or, Nat.testBit_and, Nat.testBit_and, Nat.testBit_xor, ones_testBit j hj]
  cases hb : b.testBit j
  · simp
  · rw [hb] at h; exact absurd rfl h
theorem ch_maj (t b c d j : Nat) (h1 : 40 ≤ t) (h2 : t < 60) : ch t b c d / 2 ^ j % 2 = if 2 ≤ b / 2 ^ j % 2 + c / 2 ^ j % 2 + d / 2 ^ j % 2 then 1 else 0 := by
  rw [bit_eq, bit_eq, bit_eq, bit_eq]
  unfold ch
  rw [if_neg (by omega), if_neg (by omega), if_pos h2, Nat.testBit_or, Nat.testBit_or, Nat.testBit_and, Nat.testBit_and, Nat.testBit_and]
  cases b.testBit j <;> cases c.testBit j <;> cases d.testBit j <;> rfl
theorem ch_par (t b c d j : Nat) (h1 : ¬ t < 20) (h2 : ¬ (40 ≤ t ∧ t < 60)) : ch t b c d / 2 ^ j % 2 = (b / 2 ^ j % 2 + c / 2 ^ j % 2 + d / 2 ^ j % 2) % 2 := by
  have e : ch t b c d = b ^^^ c ^^^ d := by
    unfold ch
    rw [if_neg h1]
    by_cases h3 : t < 40
    · rw [if_pos h3]
    · rw [if_neg h3, if_neg (by omega)]
  rw [e, bit_eq, bit_eq, bit_eq, bit_eq, Nat.testBit_xor, Nat.testBit_xor]
  cases b.testBit j <;> cases c.testBit j <;> cases d.testBit j <;> rfl
end Go.Proofs.YtmiemklgekhfeaaDoor
