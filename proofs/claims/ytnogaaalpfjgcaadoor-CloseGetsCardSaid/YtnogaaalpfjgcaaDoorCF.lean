/- close: the document's Valid, letters, Put. -/
import Derived.Test.YtnogaaalpfjgcaaDoorCE
import Derived.Test.YtnogaaalpfjgcaaDoorUtC
set_option maxRecDepth 100000
namespace Go.Proofs.YtnogaaalpfjgcaaDoor
open Go.RowKit UtfPlain ClosePlain Utf

theorem refValid_any (n : Int) (w : World) : Calls Tryd.prog 13 #[.int .i64 n] w fun e w' => e = .returned (.bool (valid n)) ∧ w = w' := by
  by_cases h1000 : n = 1000
  · subst h1000
    rw [show valid 1000 = true from by decide]
    go_enter Tryd.func13, Tryd.ntmps13
    go_wp2
    go_ret
    exact ⟨rfl, rfl⟩
  by_cases h1001 : n = 1001
  · subst h1001
    rw [show valid 1001 = true from by decide]
    go_enter Tryd.func13, Tryd.ntmps13
    go_wp2
    go_ret
    exact ⟨rfl, rfl⟩
  by_cases h1002 : n = 1002
  · subst h1002
    rw [show valid 1002 = true from by decide]
    go_enter Tryd.func13, Tryd.ntmps13
    go_wp2
    go_ret
    exact ⟨rfl, rfl⟩
  by_cases h1003 : n = 1003
  · subst h1003
    rw [show valid 1003 = true from by decide]
    go_enter Tryd.func13, Tryd.ntmps13
    go_wp2
    go_ret
    exact ⟨rfl, rfl⟩
  by_cases h1007 : n = 1007
  · subst h1007
    rw [show valid 1007 = true from by decide]
    go_enter Tryd.func13, Tryd.ntmps13
    go_wp2
    go_ret
    exact ⟨rfl, rfl⟩
  by_cases h1008 : n = 1008
  · subst h1008
    rw [show valid 1008 = true from by decide]
    go_enter Tryd.func13, Tryd.ntmps13
    go_wp2
    go_ret
    exact ⟨rfl, rfl⟩
  by_cases h1009 : n = 1009
  · subst h1009
    rw [show valid 1009 = true from by decide]
    go_enter Tryd.func13, Tryd.ntmps13
    go_wp2
    go_ret
    exact ⟨rfl, rfl⟩
  by_cases h1010 : n = 1010
  · subst h1010
    rw [show valid 1010 = true from by decide]
    go_enter Tryd.func13, Tryd.ntmps13
    go_wp2
    go_ret
    exact ⟨rfl, rfl⟩
  by_cases h1011 : n = 1011
  · subst h1011
    rw [show valid 1011 = true from by decide]
    go_enter Tryd.func13, Tryd.ntmps13
    go_wp2
    go_ret
    exact ⟨rfl, rfl⟩
  have e1000 : (n == 1000) = false := beq_eq_false_iff_ne.2 h1000
  have e1001 : (n == 1001) = false := beq_eq_false_iff_ne.2 h1001
  have e1002 : (n == 1002) = false := beq_eq_false_iff_ne.2 h1002
  have e1003 : (n == 1003) = false := beq_eq_false_iff_ne.2 h1003
  have e1007 : (n == 1007) = false := beq_eq_false_iff_ne.2 h1007
  have e1008 : (n == 1008) = false := beq_eq_false_iff_ne.2 h1008
  have e1009 : (n == 1009) = false := beq_eq_false_iff_ne.2 h1009
  have e1010 : (n == 1010) = false := beq_eq_false_iff_ne.2 h1010
  have e1011 : (n == 1011) = false := beq_eq_false_iff_ne.2 h1011
  by_cases h3 : 3000 ≤ n
  · have e3 : (n ≥ 3000) = True := eq_true h3
    by_cases h5 : n < 5000
    · have e5 : (n < 5000) = True := eq_true h5
      rw [(valid_iff n).2 (by omega)]
      clear h1000 h1001 h1002 h1003 h1007 h1008 h1009 h1010 h1011 h3 h5
      go_enter Tryd.func13, Tryd.ntmps13
      go_wp2
      go_ret
      exact ⟨rfl, rfl⟩
    · have e5 : (n < 5000) = False := eq_false h5
      rw [(valid_no n).2 (by omega)]
      clear h1000 h1001 h1002 h1003 h1007 h1008 h1009 h1010 h1011 h3 h5
      go_enter Tryd.func13, Tryd.ntmps13
      go_wp2
      go_ret
      exact ⟨rfl, rfl⟩
  · have e3 : (n ≥ 3000) = False := eq_false h3
    rw [(valid_no n).2 (by omega)]
    clear h1000 h1001 h1002 h1003 h1007 h1008 h1009 h1010 h1011 h3
    go_enter Tryd.func13, Tryd.ntmps13
    go_wp2
    go_ret
    exact ⟨rfl, rfl⟩
theorem letters_any (s : ByteArray) (w : World) (hL : s.size ≤ 100000) : Calls Tryd.prog 21 #[.string s] w fun e w' => e = .returned (.bool (ClosePlain.lets (bytes s))) ∧ Sl (Below w.heap.size w w') := by
  have R := read_r w w s _ _ _ rfl rfl rfl hL (Below.refl _ _)
  rw [lets_vb]
  obtain ⟨a, ha⟩ : ∃ a, rt (some s0) (bytes s) = a := ⟨_, rfl⟩
  obtain ⟨b, hb⟩ : ∃ a, ucount s0 (bytes s) = a := ⟨_, rfl⟩
  obtain ⟨c, hc⟩ : ∃ a, vb (bytes s) = a := ⟨_, rfl⟩
  rw [ha, hb, hc] at R
  rw [hc]
  clear ha hb hc hL
  go_enter Tryd.func21, Tryd.ntmps21
  go_wp2_with fail
  refine R.mono ?_
  rintro e w1 ⟨rfl, _, HB⟩
  clear R
  go_wp2
  go_ret
  exact ⟨rfl, HB⟩
/-- What the document's Put answers. -/
theorem refput_any (n : Int) (s : ByteArray) (w : World) (hL : s.size ≤ 100000) : Calls Tryd.prog 11 #[.int .i64 n, .string s] w fun e w' => e = .returned (.tuple #[.string (strOf (putC n (bytes s)).1), .int .i64 ((putC n (bytes s)).2 : Nat)]) ∧ Sl (Below w.heap.size w w') := by
  by_cases h0 : n = 0 ∧ s.size = 0
  · obtain ⟨rfl, h0⟩ := h0
    obtain rfl := size_zero h0
    clear h0 hL
    go_enter Tryd.func11, Tryd.ntmps11
    go_wp2
    go_ret2
    exact ⟨rfl, ⟨Below.refl _ _⟩⟩
  have hsp : ((n == 0) = false) ∨ ((n == 0) = true ∧ (s.toList == []) = false) := by
    by_cases hn : n = 0
    · exact .inr ⟨by rw [hn]; rfl, empty_no (fun h => h0 ⟨hn, h⟩)⟩
    · exact .inl (beq_eq_false_iff_ne.2 hn)
  have V := refValid_any n w
  unfold putC
  rw [if_neg (fun h => h0 ⟨h.1, nil_size h.2⟩), bytes_length]
  clear h0
  by_cases hv : valid n = false
  · rw [hv] at V
    rw [if_pos (.inl hv), show strOf [] = { data := #[] } from rfl]
    clear hv hL
    rcases hsp with hq | ⟨hq, hq2⟩
    · go_enter Tryd.func11, Tryd.ntmps11
      go_wp2_with fail
      refine V.mono ?_
      rintro e w1 ⟨rfl, rfl⟩
      clear V
      go_wp2
      go_ret2
      exact ⟨rfl, ⟨Below.refl _ _⟩⟩
    · go_enter Tryd.func11, Tryd.ntmps11
      go_wp2_with fail
      refine V.mono ?_
      rintro e w1 ⟨rfl, rfl⟩
      clear V
      go_wp2
      go_ret2
      exact ⟨rfl, ⟨Below.refl _ _⟩⟩
  have hv' : valid n = true := by simpa using hv
  have hp := valid_pos hv'
  have hq : (n == 0) = false := beq_eq_false_iff_ne.2 (by omega)
  clear hsp
  rw [hv'] at V
  by_cases hs : 123 < s.size
  · rw [if_pos (.inr hs), show strOf [] = { data := #[] } from rfl]
    have hg : ((s.size : Int) > 123) = True := eq_true (by omega)
    clear hv hv' hp hs hL
    go_enter Tryd.func11, Tryd.ntmps11
    go_wp2_with fail
    refine V.mono ?_
    rintro e w1 ⟨rfl, rfl⟩
    clear V
    go_wp2
    go_ret2
    exact ⟨rfl, ⟨Below.refl _ _⟩⟩
  rw [if_neg (by rintro (h | h); exact hv h; exact hs h)]
  have hg : ((s.size : Int) > 123) = False := eq_false (by omega)
  have LE := letters_any s w hL
  obtain ⟨d, hd⟩ : ∃ d, ClosePlain.lets (bytes s) = d := ⟨_, rfl⟩
  rw [hd] at LE ⊢
  clear hd
  cases d with
  | false =>
    rw [if_pos rfl, show strOf [] = { data := #[] } from rfl]
    clear hv hv' hp hs hL
    go_enter Tryd.func11, Tryd.ntmps11
    go_wp2_with fail
    refine V.mono ?_
    rintro e w1 ⟨rfl, rfl⟩
    clear V
    go_wp2_with fail
    refine LE.mono ?_
    rintro e w1 ⟨rfl, HB⟩
    clear LE
    go_wp2
    go_ret2
    exact ⟨rfl, HB⟩
  | true =>
    rw [if_neg (by decide)]
    obtain ⟨N, rfl⟩ := Int.eq_ofNat_of_zero_le (show 0 ≤ n by omega)
    obtain ⟨hi, hhi⟩ : ∃ x, N / 256 = x := ⟨_, rfl⟩
    obtain ⟨lo, hlo⟩ : ∃ x, N % 256 = x := ⟨_, rfl⟩
    have e1 : (N : Int) / 256 = (hi : Int) := by omega
    have e2 : IntKind.u8.wrap (hi : Int) = (hi : Int) := by rw [IntKind.wrap_u8']; omega
    have e3 : (N : Int) % 256 = (lo : Int) := by omega
    have e4 : IntKind.u8.wrap (lo : Int) = (lo : Int) := by rw [IntKind.wrap_u8']; omega
    have e8 : wrap64 (hi : Int) = (hi : Int) := by unfold wrap64; omega
    have e5 : (N : Int).tdiv 256 = (hi : Int) := by rw [Int.tdiv_eq_ediv_of_nonneg (by omega)]; exact e1
    have e6 : (N : Int).tmod 256 = (lo : Int) := by rw [Int.tmod_eq_emod_of_nonneg (by omega)]; exact e3
    have HK : Sl (two ((N : Int)).toNat ++ bytes s = bytes (strOf [hi, lo] ++ s)) := ⟨by
      rw [bytes_append, bytes_strOf _ (fun x hx => by simp at hx; omega), show ((N : Int)).toNat = N from rfl, two, hhi, hlo]⟩
    rw [HK.out, strOf_bytes]
    have HZ : Sl ((strOf [hi, lo]).size + s.size ≤ 1000) := ⟨by rw [strOf_size]; simp; omega⟩
    clear hv hv' hp hs hL hhi hlo
    go_enter Tryd.func11, Tryd.ntmps11
    go_wp2_with fail
    refine V.mono ?_
    rintro e w1 ⟨rfl, rfl⟩
    clear V
    go_wp2_with fail
    refine LE.mono ?_
    rintro e w1 ⟨rfl, HB⟩
    clear LE
    have hst := RowB.strs (bs := [hi, lo]) (k := 2) rfl (w1.alloc (.cells #[.int .u8 hi, .int .u8 lo] 5)) (g := w1.heap.size) (alloc_new _ _ _ rfl)
    have HB2 : Sl (Below w.heap.size w (w1.alloc (.cells #[.int .u8 hi, .int .u8 lo] 5))) := ⟨HB.out.alloc HB.out.size _⟩
    go_wp2
    · exfalso
      have := HZ.out
      omega
    go_ret2
    exact ⟨rfl, HB2⟩
end Go.Proofs.YtnogaaalpfjgcaaDoor
