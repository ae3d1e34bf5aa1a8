/- The document's answer, bits as lists: the contracts of number and plus. -/
import Derived.Test.YtmiemklgekhfeaaDoorR
namespace Go.Proofs.YtmiemklgekhfeaaDoor
open Go.RowKit

theorem bitsTo_get (n : Nat) : ∀ m i, i < m → (bitsTo n m).getD i 0 = n / 2 ^ (31 - i) % 2
  | 0, i, h => by omega
  | m + 1, i, h => by
    by_cases e : i = m
    · subst e
      simp only [bitsTo, List.getD]
      rw [List.getElem?_append_right (by rw [bitsTo_length]; exact Nat.le_refl _), bitsTo_length, Nat.sub_self]
      rfl
    · simp only [bitsTo, List.getD]
      rw [List.getElem?_append_left (by rw [bitsTo_length]; omega)]
      exact bitsTo_get n m i (by omega)
theorem bits_cell {W : World} {g n : Nat} (h : W.rangeAt g 0 (ints (bitsTo n 32))) (k : Nat) (hk : k < 32) : W.cell? ⟨g, k, none⟩ = some (.int .i64 ((n / 2 ^ (31 - k) % 2 : Nat) : Int)) := by
  have := h k _ (ints_get _ k (by rw [bitsTo_length]; exact hk))
  rw [Nat.zero_add, bitsTo_get n 32 k hk] at this
  exact this
theorem half_step (n k : Nat) (hk : k < 32) : 2 * (n / 2 ^ (32 - k)) + n / 2 ^ (31 - k) % 2 = n / 2 ^ (31 - k) := by
  have e : n / 2 ^ (32 - k) = n / 2 ^ (31 - k) / 2 := by
    rw [Nat.div_div_eq_div_mul, ← Nat.pow_succ, show (31 - k).succ = 32 - k by omega]
  rw [e]; omega

set_option maxHeartbeats 400000 in
theorem number_any (v : Value) (n : Nat) (w : World) (hv : Bits w v n) (hn : n < 4294967296) :
    Calls Tryd.prog 23 #[v] w fun e w' => e = .returned (.int .u64 n) ∧ w = w' := by
  obtain ⟨g, c, rfl, hc, hg, hr⟩ := hv
  have HR := Sl.mk hr
  clear hr
  go_enter Tryd.func23, Tryd.ntmps23
  go_wp2
  go_loop [3, 4] (fun x i => ∃ k q : Nat, k ≤ 32 ∧ i = .int .i64 k ∧ x = .int .u64 q ∧ q = n / 2 ^ (32 - k)) (fun _ i => 32 - (intOf i).toNat)
  case atStart => exact ⟨0, 0, by omega, rfl, rfl, (Nat.div_eq_of_lt hn).symm⟩
  case round =>
    obtain ⟨k, q, hk, rfl, rfl, hq⟩ := hrel
    have HQ := Sl.mk hq
    have hql : q < 4294967296 := by rw [hq]; exact Nat.lt_of_le_of_lt (Nat.div_le_self _ _) hn
    clear hq
    by_cases hlt : k < 32
    · have hcell := bits_cell HR.out k hlt
      obtain ⟨b, hb⟩ : ∃ b : Nat, b = n / 2 ^ (31 - k) % 2 := ⟨_, rfl⟩
      rw [← hb] at hcell
      have hb2 : b < 2 := by rw [hb]; exact Nat.mod_lt _ (by decide)
      have HS : Sl (2 * q + b = n / 2 ^ (32 - (k + 1))) := ⟨by rw [HQ.out, hb, half_step n k hlt, show 31 - k = 32 - (k + 1) by omega]⟩
      clear hb
      go_wp2
      go_round
      case rel => exact ⟨k + 1, 2 * q + b, by omega, by go_num, by simp, HS.out⟩
      case measure => simp [intOf]; omega
    · have hge : 32 ≤ k := by omega
      have HE : Sl (q = n) := ⟨by have e : k = 32 := by omega
                                  rw [HQ.out, e]; simp⟩
      go_wp2
      go_ret
      exact ⟨by rw [HE.out]; rfl, rfl⟩

theorem word_ex (n : Nat) (X : Int) (w : World) (hX : X = (n : Int)) (hn : n < 4294967296) :
    Calls Tryd.prog 18 #[.int .u64 X] w fun e w' => ∃ v, e = .returned v ∧ Sl (Bits w' v n) ∧ Sl (Below w.heap.size w w') := by
  subst hX
  exact (word_any n w hn).mono fun _ _ ⟨v, he, h1, h2⟩ => ⟨v, he, ⟨h1⟩, ⟨h2⟩⟩

set_option maxHeartbeats 400000 in
theorem plus_any (v u : Value) (m n : Nat) (w : World) (hv : Bits w v m) (hu : Bits w u n) (hm : m < 4294967296) (hn : n < 4294967296) :
    Calls Tryd.prog 21 #[v, u] w fun e w' => ∃ x, e = .returned x ∧ Sl (Bits w' x ((m + n) % 4294967296)) ∧ Sl (Below w.heap.size w w') := by
  have HV := Sl.mk hv
  have HU := Sl.mk hu
  clear hv hu
  go_enter Tryd.func21, Tryd.ntmps21
  go_wp2_with fail
  refine (number_any v m _ HV.out hm).mono ?_
  rintro e w1 ⟨rfl, rfl⟩
  go_wp2_with fail
  refine (number_any u n _ HU.out hn).mono ?_
  rintro e w2 ⟨rfl, rfl⟩
  go_wp2_with fail
  refine (word_ex ((m + n) % 4294967296) _ _ (by simp) (Nat.mod_lt _ (by decide))).mono ?_
  rintro e w3 ⟨x, rfl, HX, HB⟩
  go_wp2
  go_ret
  exact ⟨x, rfl, HX, HB⟩
end Go.Proofs.YtmiemklgekhfeaaDoor
