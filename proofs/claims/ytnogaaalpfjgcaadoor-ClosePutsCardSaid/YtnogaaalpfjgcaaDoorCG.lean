/- close: the document's Get, Code, Across. -/
import Derived.Test.YtnogaaalpfjgcaaDoorCF
set_option maxRecDepth 100000
namespace Go.Proofs.YtnogaaalpfjgcaaDoor
open Go.RowKit UtfPlain ClosePlain Utf

theorem refCode_any (e : Int) (w : World) : Calls Tryd.prog 18 #[.int .i64 e] w fun en w' => en = .returned (.int .i64 (codeC e)) ∧ w = w' := by
  by_cases h0 : e = 0
  · subst h0
    rw [show codeC 0 = 1000 from by decide]
    go_enter Tryd.func18, Tryd.ntmps18
    go_wp2
    go_ret
    exact ⟨rfl, rfl⟩
  by_cases h91 : e = 91
  · subst h91
    rw [show codeC 91 = 1002 from by decide]
    go_enter Tryd.func18, Tryd.ntmps18
    go_wp2
    go_ret
    exact ⟨rfl, rfl⟩
  by_cases h100 : e = 100
  · subst h100
    rw [show codeC 100 = 1002 from by decide]
    go_enter Tryd.func18, Tryd.ntmps18
    go_wp2
    go_ret
    exact ⟨rfl, rfl⟩
  by_cases h110 : e = 110
  · subst h110
    rw [show codeC 110 = 1002 from by decide]
    go_enter Tryd.func18, Tryd.ntmps18
    go_wp2
    go_ret
    exact ⟨rfl, rfl⟩
  by_cases h120 : e = 120
  · subst h120
    rw [show codeC 120 = 1002 from by decide]
    go_enter Tryd.func18, Tryd.ntmps18
    go_wp2
    go_ret
    exact ⟨rfl, rfl⟩
  by_cases h111 : e = 111
  · subst h111
    rw [show codeC 111 = 1007 from by decide]
    go_enter Tryd.func18, Tryd.ntmps18
    go_wp2
    go_ret
    exact ⟨rfl, rfl⟩
  by_cases h122 : e = 122
  · subst h122
    rw [show codeC 122 = 1007 from by decide]
    go_enter Tryd.func18, Tryd.ntmps18
    go_wp2
    go_ret
    exact ⟨rfl, rfl⟩
  by_cases h92 : e = 92
  · subst h92
    rw [show codeC 92 = 1009 from by decide]
    go_enter Tryd.func18, Tryd.ntmps18
    go_wp2
    go_ret
    exact ⟨rfl, rfl⟩
  by_cases h121 : e = 121
  · subst h121
    rw [show codeC 121 = 1009 from by decide]
    go_enter Tryd.func18, Tryd.ntmps18
    go_wp2
    go_ret
    exact ⟨rfl, rfl⟩
  have e0 : (e == 0) = false := beq_eq_false_iff_ne.2 h0
  have e91 : (e == 91) = false := beq_eq_false_iff_ne.2 h91
  have e100 : (e == 100) = false := beq_eq_false_iff_ne.2 h100
  have e110 : (e == 110) = false := beq_eq_false_iff_ne.2 h110
  have e120 : (e == 120) = false := beq_eq_false_iff_ne.2 h120
  have e111 : (e == 111) = false := beq_eq_false_iff_ne.2 h111
  have e122 : (e == 122) = false := beq_eq_false_iff_ne.2 h122
  have e92 : (e == 92) = false := beq_eq_false_iff_ne.2 h92
  have e121 : (e == 121) = false := beq_eq_false_iff_ne.2 h121
  have hc : codeC e = 1011 := by
    unfold codeC
    rw [if_neg h0, if_neg (by omega), if_neg (by omega), if_neg (by omega)]
  rw [hc]
  clear hc h0 h91 h100 h110 h120 h111 h122 h92 h121
  go_enter Tryd.func18, Tryd.ntmps18
  go_wp2
  go_ret
  exact ⟨rfl, rfl⟩
theorem refAcross_any (n : Int) (w : World) : Calls Tryd.prog 19 #[.int .i64 n] w fun e w' => e = .returned (.int .i64 (acrossC n)) ∧ w = w' := by
  by_cases h0 : n = 1005
  · subst h0
    go_enter Tryd.func19, Tryd.ntmps19
    go_wp2
    go_ret
    exact ⟨rfl, rfl⟩
  · have e0 : (n == 1005) = false := beq_eq_false_iff_ne.2 h0
    have V := refValid_any n w
    unfold acrossC
    rw [if_neg h0]
    obtain ⟨r, hr⟩ : ∃ r, valid n = r := ⟨_, rfl⟩
    rw [hr] at V ⊢
    clear hr h0
    cases r with
    | true =>
      go_enter Tryd.func19, Tryd.ntmps19
      go_wp2_with fail
      refine V.mono ?_
      rintro e w1 ⟨rfl, rfl⟩
      clear V
      go_wp2
      go_ret
      exact ⟨rfl, rfl⟩
    | false =>
      go_enter Tryd.func19, Tryd.ntmps19
      go_wp2_with fail
      refine V.mono ?_
      rintro e w1 ⟨rfl, rfl⟩
      clear V
      go_wp2
      go_ret
      exact ⟨rfl, rfl⟩
/-- What the document's Get answers. -/
theorem refget_any (s : ByteArray) (w : World) (hm : s.size ≤ 100000) : Calls Tryd.prog 15 #[.string s] w fun e w' => e = .returned (gotV (getC (bytes s))) ∧ Sl (Below w.heap.size w w') := by
  by_cases h0 : s.size = 0
  · obtain rfl := size_zero h0
    clear h0 hm
    go_enter Tryd.func15, Tryd.ntmps15
    go_wp2
    go_ret3
    exact ⟨rfl, ⟨Below.refl _ _⟩⟩
  have hse := empty_no h0
  by_cases h1 : s.size = 1
  · have hq : ((s.size : Int) == 1) = true := by rw [h1]; rfl
    have HR : Sl (getC (bytes s) = (0, [], 110)) := ⟨by
      have := bytes_length s
      match hb : bytes s with
      | [] => rw [hb] at this; simp at this; omega
      | [_] => rfl
      | _ :: _ :: _ => rw [hb] at this; simp at this; omega⟩
    clear h0 h1 hm
    go_enter Tryd.func15, Tryd.ntmps15
    go_wp2
    go_ret3
    exact ⟨by rw [HR.out]; rfl, ⟨Below.refl _ _⟩⟩
  have hq : ((s.size : Int) == 1) = false := beq_eq_false_iff_ne.2 (by omega)
  obtain ⟨x, y, hb, hx, hy, hx0, hy0⟩ := two_bytes (s := s) (by omega)
  have h0s : 0 < s.size := by omega
  have h1s : 1 < s.size := by omega
  have hi0 : (s[0]'h0s).toNat = x := hx0
  have hi1 : (s[1]'h1s).toNat = y := hy0
  clear hx0 hy0
  obtain ⟨t, ht⟩ : ∃ t, s.extract 2 s.size = t := ⟨_, rfl⟩
  have hts : t.size = s.size - 2 := by rw [← ht, ByteArray.size_extract]; omega
  have htm : t.size ≤ 100000 := by omega
  rw [ht] at hb
  rw [hb, getC_two, bytes_length]
  by_cases h125 : s.size > 125
  · have hq2 : ((s.size : Int) > 125) = True := eq_true (by omega)
    rw [if_pos (.inl (by omega)), gotV, show strOf [] = { data := #[] } from rfl]
    clear hb hx hy htm hts h0 h1 hm h125
    go_enter Tryd.func15, Tryd.ntmps15
    go_wp2
    go_ret3
    exact ⟨rfl, ⟨Below.refl _ _⟩⟩
  have hq2 : ((s.size : Int) > 125) = False := eq_false (by omega)
  obtain ⟨X, hX⟩ : ∃ X, 256 * x = X := ⟨_, rfl⟩
  have e1 : 256 * (x : Int) = (X : Int) := by omega
  obtain ⟨K, hK⟩ : ∃ K, 256 * x + y = K := ⟨_, rfl⟩
  have e2 : (X : Int) + (y : Int) = (K : Int) := by omega
  have hKs : K < 65536 := by omega
  have z1 : IntKind.i64.wrap (x : Int) = (x : Int) := by rw [IntKind.wrap_i64]; omega
  have z2 : IntKind.i64.wrap (y : Int) = (y : Int) := by rw [IntKind.wrap_i64]; omega
  have z3 : IntKind.i64.wrap (X : Int) = (X : Int) := by rw [IntKind.wrap_i64]; omega
  have z4 : IntKind.i64.wrap (K : Int) = (K : Int) := by rw [IntKind.wrap_i64]; omega
  have k1 : ((1 : Int) < (s.size : Int)) = True := eq_true (by omega)
  have k2 : ((2 : Int) ≤ (s.size : Int)) = True := eq_true (by omega)
  have V := refValid_any (K : Int) w.drew
  rw [hK]
  have hn : ¬ 123 < t.size := by omega
  have HD : Sl (Below w.heap.size w w.drew) := ⟨(Below.refl _ _).drew⟩
  clear hb hX hK hx hy hts h0 h1 hm h125
  obtain ⟨r, hr⟩ : ∃ r, valid (K : Int) = r := ⟨_, rfl⟩
  rw [hr] at V ⊢
  clear hr
  cases r with
  | false =>
    rw [if_pos (.inr rfl), gotV, show strOf [] = { data := #[] } from rfl]
    clear hn htm
    go_enter Tryd.func15, Tryd.ntmps15
    go_upto_region 5 with fail
    go_still (by kernel_rfl)
    go_wp2_with fail
    refine V.mono ?_
    rintro e w1 ⟨rfl, rfl⟩
    clear V
    go_wp2
    go_ret3
    exact ⟨rfl, HD⟩
  | true =>
    rw [if_neg (by rintro (h | h); exact hn h; cases h)]
    have LE := letters_any t w.drew htm
    obtain ⟨d, hd⟩ : ∃ d, ClosePlain.lets (bytes t) = d := ⟨_, rfl⟩
    rw [hd] at LE ⊢
    clear hd hn htm
    cases d with
    | false =>
      rw [if_pos rfl, gotV, show strOf [] = { data := #[] } from rfl]
      go_enter Tryd.func15, Tryd.ntmps15
      go_upto_region 5 with fail
      go_still (by kernel_rfl)
      go_wp2_with fail
      refine V.mono ?_
      rintro e w1 ⟨rfl, rfl⟩
      clear V
      go_wp2_with fail
      refine LE.mono ?_
      rintro e w1 ⟨rfl, HB⟩
      clear LE
      go_wp2
      go_ret3
      exact ⟨rfl, ⟨HD.out.trans HB.out⟩⟩
    | true =>
      rw [if_neg (by decide), gotV, strOf_bytes]
      go_enter Tryd.func15, Tryd.ntmps15
      go_upto_region 5 with fail
      go_still (by kernel_rfl)
      go_wp2_with fail
      refine V.mono ?_
      rintro e w1 ⟨rfl, rfl⟩
      clear V
      go_wp2_with fail
      refine LE.mono ?_
      rintro e w1 ⟨rfl, HB⟩
      clear LE
      have HF : Sl (Below w.heap.size w w1.drew) := ⟨(HD.out.trans HB.out).drew⟩
      go_upto_region 10 with fail
      go_still (by kernel_rfl)
      go_wp2
      go_ret3
      exact ⟨rfl, HF⟩
end Go.Proofs.YtnogaaalpfjgcaaDoor
