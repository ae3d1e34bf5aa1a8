/- close: Put, Get. -/
import Derived.Test.YtnogaaalpfjgcaaDoorCC
set_option maxRecDepth 100000
namespace Go.Proofs.YtnogaaalpfjgcaaDoor
open Go.RowKit UtfPlain ClosePlain Utf

theorem bytes_nil {s : ByteArray} (h : s.size = 0) : bytes s = [] := List.eq_nil_of_length_eq_zero (by rw [bytes_length, h])
theorem nil_size {s : ByteArray} (h : bytes s = []) : s.size = 0 := by rw [← bytes_length, h]; rfl
theorem empty_no {s : ByteArray} (h : s.size ≠ 0) : (s.toList == []) = false := by
  rw [beq_bytes, decide_eq_false]
  intro e
  exact h (by rw [← bytes_length, e]; rfl)
theorem put_chk {n : Int} {l : List Nat} (h : ¬ (n = 0 ∧ l = [])) : putC n l = if chkE n l = 0 then (two n.toNat ++ l, 0) else ([], chkE n l) := by
  unfold putC chkE
  rw [if_neg h]
  by_cases h1 : valid n = false ∨ 123 < l.length
  · rw [if_pos h1, if_pos h1]; rfl
  rw [if_neg h1, if_neg h1]
  by_cases h2 : ClosePlain.lets l = false
  · rw [if_pos h2, if_pos h2]; rfl
  · rw [if_neg h2, if_neg h2]; rfl
theorem chk_zero {n : Int} {l : List Nat} (h : chkE n l = 0) : valid n = true ∧ l.length ≤ 123 ∧ ClosePlain.lets l = true := by
  unfold chkE at h
  by_cases h1 : valid n = false ∨ 123 < l.length
  · rw [if_pos h1] at h; cases h
  rw [if_neg h1] at h
  by_cases h2 : ClosePlain.lets l = false
  · rw [if_pos h2] at h; cases h
  · exact ⟨by by_cases hv : valid n = true; exact hv; exact absurd (.inl (by simpa using hv)) h1, by omega, by simpa using h2⟩
/-- What Put answers. -/
theorem put_any (n : Int) (s : ByteArray) (w : World) (hg : Globs w) : Calls Tryd.prog 10 #[.int .i64 n, .string s] w fun e w' => e = .returned (.tuple #[.string (strOf (putC n (bytes s)).1), .int .i64 ((putC n (bytes s)).2 : Nat)]) ∧ Sl (Below w.heap.size w w') := by
  by_cases h0 : n = 0 ∧ s.size = 0
  · obtain ⟨rfl, h0⟩ := h0
    obtain rfl := size_zero h0
    go_enter Tryd.func10, Tryd.ntmps10
    go_wp2
    go_ret2
    exact ⟨rfl, ⟨Below.refl _ _⟩⟩
  rw [put_chk (fun h => h0 ⟨h.1, nil_size h.2⟩)]
  have CH := check_any n s w hg
  obtain ⟨k, hk⟩ : ∃ k, chkE n (bytes s) = k := ⟨_, rfl⟩
  rw [hk] at CH ⊢
  have hsp : ((n == 0) = false) ∨ ((n == 0) = true ∧ (s.toList == []) = false) := by
    by_cases hn : n = 0
    · exact .inr ⟨by rw [hn]; rfl, empty_no (fun h => h0 ⟨hn, h⟩)⟩
    · exact .inl (beq_eq_false_iff_ne.2 hn)
  by_cases hk0 : k = 0
  · subst hk0
    obtain ⟨hv, hl, ht⟩ := chk_zero hk
    have hp := valid_pos hv
    rw [bytes_length] at hl
    obtain ⟨N, rfl⟩ := Int.eq_ofNat_of_zero_le (show 0 ≤ n by omega)
    rw [if_pos rfl]
    have hN : N < 65536 := by omega
    obtain ⟨hi, hhi⟩ : ∃ x, N / 256 = x := ⟨_, rfl⟩
    obtain ⟨lo, hlo⟩ : ∃ x, N % 256 = x := ⟨_, rfl⟩
    have e1 : (N : Int) / 256 = (hi : Int) := by omega
    have e2 : IntKind.u8.wrap (hi : Int) = (hi : Int) := by rw [IntKind.wrap_u8']; omega
    have e3 : IntKind.u8.wrap (N : Int) = (lo : Int) := by rw [IntKind.wrap_u8']; omega
    have HK : Sl (two ((N : Int)).toNat ++ bytes s = bytes (strOf [hi, lo] ++ s)) := ⟨by
      rw [bytes_append, bytes_strOf _ (fun x hx => by simp at hx; omega), show ((N : Int)).toNat = N from rfl, two, hhi, hlo]⟩
    rw [HK.out, strOf_bytes]
    have HZ : Sl ((strOf [hi, lo]).size + s.size ≤ 1000) := ⟨by rw [strOf_size]; simp; omega⟩
    clear hk hv hl ht hhi hlo hN
    rcases hsp with hq | ⟨hq, hq2⟩
    · clear h0 hp
      go_enter Tryd.func10, Tryd.ntmps10
      go_wp2_with fail
      refine CH.mono ?_
      rintro e w1 ⟨rfl, HB⟩
      clear CH
      have hst := RowB.strs (bs := [hi, lo]) (k := 2) rfl (w1.alloc (.cells #[.int .u8 hi, .int .u8 lo] 5)) (g := w1.heap.size) (alloc_new _ _ _ rfl)
      have HB2 : Sl (Below w.heap.size w (w1.alloc (.cells #[.int .u8 hi, .int .u8 lo] 5))) := ⟨HB.out.alloc HB.out.size _⟩
      go_wp2
      · exfalso
        have := HZ.out
        omega
      go_ret2
      exact ⟨rfl, HB2⟩
    · exfalso
      have h1 : N = 0 := by simpa using hq
      omega
  · rw [if_neg hk0, show strOf [] = { data := #[] } from rfl]
    have hkq : ((k : Int) == 0) = false := beq_eq_false_iff_ne.2 (by omega)
    clear hk hk0 h0
    rcases hsp with hq | ⟨hq, hq2⟩
    · go_enter Tryd.func10, Tryd.ntmps10
      go_wp2_with fail
      refine CH.mono ?_
      rintro e w1 ⟨rfl, HB⟩
      clear CH
      go_wp2
      go_ret2
      exact ⟨rfl, HB⟩
    · go_enter Tryd.func10, Tryd.ntmps10
      go_wp2_with fail
      refine CH.mono ?_
      rintro e w1 ⟨rfl, HB⟩
      clear CH
      go_wp2
      go_ret2
      exact ⟨rfl, HB⟩

end Go.Proofs.YtnogaaalpfjgcaaDoor
