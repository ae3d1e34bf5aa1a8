/- CloseCodes' walk. -/
import Derived.Test.YtnogaaalpfjgcaaDoorCH
import Derived.Test.YtnogaaalpfjgcaaDoorCG
set_option maxRecDepth 100000
namespace Go.Proofs.YtnogaaalpfjgcaaDoor
open Go.RowKit UtfPlain ClosePlain Utf

theorem codes_walk (e n : Int) (w : World) (hg : Globs w) : Calls Tryd.prog 5 #[.int .i64 e, .int .i64 n] w fun en w' => en = .returned (.bool true) ∧ Below w.heap.size w w' := by
  have HG := Sl.mk hg
  clear hg
  have RC := refCode_any e
  have RA := refAcross_any n
  obtain ⟨a, ha⟩ : ∃ a, codeC e = a := ⟨_, rfl⟩
  have HA := Sl.mk ha
  have HV : Sl (valid a = true) := ⟨by rw [← ha]; exact code_valid e⟩
  have HAA : Sl (acrossC a = a) := ⟨across_same HV.out⟩
  have haa : (a == a) = true := beq_self_eq_true _
  obtain ⟨b, hb⟩ : ∃ b, acrossC n = b := ⟨_, rfl⟩
  have HB := Sl.mk hb
  have hbb : (b == b) = true := beq_self_eq_true _
  rw [ha] at RC
  rw [hb] at RA
  have C1 := code_ex w w e a ha (Below.refl _ _)
  clear ha
  by_cases h0 : n = 1005
  · subst h0
    obtain rfl : b = 0 := by rw [← hb]; rfl
    clear hb
    go_enter Tryd.func5, Tryd.ntmps5
    go_wp2_with fail
    refine C1.mono ?_
    rintro en w1 ⟨rfl, HB1⟩
    clear C1
    have C2 := across_ex w w1 1005 0 HB.out HB1.out
    go_wp2_with fail
    refine C2.mono ?_
    rintro en w2 ⟨rfl, HB2⟩
    clear C2
    have C3 := awake_ex w w2 HB2.out HG.out
    go_wp2_with fail
    refine C3.mono ?_
    rintro en w3 ⟨rfl, HB3⟩
    clear C3
    go_wp2_with fail
    refine (RC _).mono ?_
    rintro en w4 ⟨rfl, rfl⟩
    go_wp2_with fail
    refine (RA _).mono ?_
    rintro en w4 ⟨rfl, rfl⟩
    have C4 := valid_ex' w w3 a true HV.out HB3.out
    go_wp2_with fail
    refine C4.mono ?_
    rintro en w4 ⟨rfl, HB4⟩
    clear C4
    have C5 := across_ex w w4 a a HAA.out HB4.out
    go_wp2_with fail
    refine C5.mono ?_
    rintro en w5 ⟨rfl, HB5⟩
    clear C5
    go_wp2
    go_ret
    exact ⟨rfl, HB5.out⟩
  · have hn0 : (n == 1005) = false := beq_eq_false_iff_ne.2 h0
    have hbz : (b == 0) = false := beq_eq_false_iff_ne.2 (fun h => h0 ((across_zero n).1 (hb.trans h)))
    have HVB : Sl (valid b = true) := ⟨by
      rcases across_valid n with h | h
      · exact absurd ((across_zero n).1 h) h0
      · rw [← hb]; exact h⟩
    clear hb h0
    go_enter Tryd.func5, Tryd.ntmps5
    go_wp2_with fail
    refine C1.mono ?_
    rintro en w1 ⟨rfl, HB1⟩
    clear C1
    have C2 := across_ex w w1 n b HB.out HB1.out
    go_wp2_with fail
    refine C2.mono ?_
    rintro en w2 ⟨rfl, HB2⟩
    clear C2
    have C3 := awake_ex w w2 HB2.out HG.out
    go_wp2_with fail
    refine C3.mono ?_
    rintro en w3 ⟨rfl, HB3⟩
    clear C3
    go_wp2_with fail
    refine (RC _).mono ?_
    rintro en w4 ⟨rfl, rfl⟩
    go_wp2_with fail
    refine (RA _).mono ?_
    rintro en w4 ⟨rfl, rfl⟩
    have C4 := valid_ex' w w3 a true HV.out HB3.out
    go_wp2_with fail
    refine C4.mono ?_
    rintro en w4 ⟨rfl, HB4⟩
    clear C4
    have C6 := valid_ex' w w4 b true HVB.out HB4.out
    go_wp2_with fail
    refine C6.mono ?_
    rintro en w6 ⟨rfl, HB6⟩
    clear C6
    have C5 := across_ex w w6 a a HAA.out HB6.out
    go_wp2_with fail
    refine C5.mono ?_
    rintro en w5 ⟨rfl, HB5⟩
    clear C5
    go_wp2
    go_ret
    exact ⟨rfl, HB5.out⟩
end Go.Proofs.YtnogaaalpfjgcaaDoor
