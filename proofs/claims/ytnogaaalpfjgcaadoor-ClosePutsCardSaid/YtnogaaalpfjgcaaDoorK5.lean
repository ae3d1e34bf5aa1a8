/- ClosePuts' walk. -/
import Derived.Test.YtnogaaalpfjgcaaDoorK1
import Derived.Test.YtnogaaalpfjgcaaDoorCG
set_option maxRecDepth 100000
namespace Go.Proofs.YtnogaaalpfjgcaaDoor
open Go.RowKit UtfPlain ClosePlain Utf

theorem refput_ex (w0 W : World) (n : Int) (s t : ByteArray) (k : Nat) (h : putC n (bytes s) = (bytes t, k)) (hm : s.size ≤ 100000) (hB : Below w0.heap.size w0 W) :
    Calls Tryd.prog 11 #[.int .i64 n, .string s] W fun e w' => e = .returned (.tuple #[.string t, .int .i64 (k : Int)]) ∧ Sl (Below w0.heap.size w0 w') :=
  (refput_any n s W hm).mono fun _ _ ⟨he, h1⟩ => ⟨by rw [he, h, strOf_bytes], ⟨hB.trans (h1.out.mono hB.size)⟩⟩
theorem puts_walk (n : Int) (s : ByteArray) (w : World) (hg : Globs w) : Calls Tryd.prog 3 #[.int .i64 n, .string s] w fun e w' => e = .returned (.bool true) ∧ Below w.heap.size w w' := by
  have HG := Sl.mk hg
  have A1 := awake_ex w w (Below.refl _ _) hg
  clear hg
  by_cases hs : s.size > 300
  · have hq : ((s.size : Int) > 300) = True := eq_true (by omega)
    clear hs
    go_enter Tryd.func3, Tryd.ntmps3
    go_wp2_with fail
    refine A1.mono ?_
    rintro e w1 ⟨rfl, HB1⟩
    clear A1
    have A2 := awake_ex w w1 HB1.out HG.out
    go_wp2_with fail
    refine A2.mono ?_
    rintro e w2 ⟨rfl, HB2⟩
    clear A2
    go_wp2
    go_ret
    exact ⟨rfl, HB2.out⟩
  have hq : ((s.size : Int) > 300) = False := eq_false (by omega)
  obtain ⟨t, k, hp⟩ := put_str n s
  have HP := Sl.mk hp
  have hss : (s.toList == s.toList) = true := by simp
  have htt : (t.toList == t.toList) = true := by simp
  have htn : (t.toList != t.toList) = false := by simp
  have HM : Sl (s.size ≤ 100000) := ⟨by omega⟩
  obtain ⟨r, hr⟩ : ∃ r, valid n = r := ⟨_, rfl⟩
  have HV := Sl.mk hr
  have hrr : (r == r) = true := beq_self_eq_true _
  have hrn : (r != r) = false := by simp
  have RV := refValid_any n
  rw [hr] at RV
  by_cases hk : k = 0
  · subst hk
    by_cases h0 : n = 0
    · subst h0
      clear hs hp hr
      go_enter Tryd.func3, Tryd.ntmps3
      go_wp2_with fail
      refine A1.mono ?_
      rintro e w1 ⟨rfl, HB1⟩
      clear A1
      have P := put_ex w w1 0 s t 0 HP.out HB1.out HG.out
      go_wp2_with fail
      refine P.mono ?_
      rintro e w2 ⟨rfl, HB2⟩
      clear P
      have P := refput_ex w w2 0 s t 0 HP.out HM.out HB2.out
      go_wp2_with fail
      refine P.mono ?_
      rintro e w3 ⟨rfl, HB3⟩
      clear P
      have P := valid_ex' w w3 0 r HV.out HB3.out
      go_wp2_with fail
      refine P.mono ?_
      rintro e w4 ⟨rfl, HB4⟩
      clear P
      go_wp2_with fail
      refine (RV _).mono ?_
      rintro e w5 ⟨rfl, rfl⟩
      clear RV
      go_wp2
      go_ret
      exact ⟨rfl, HB4.out⟩
    · have hn0 : (n == 0) = false := beq_eq_false_iff_ne.2 h0
      have HT : Sl (t.size ≤ 1000000) := ⟨by
        have h := (put_sizes hp).1
        rw [bytes_length] at h
        omega⟩
      have HQ := Sl.mk (put_get hp h0)
      have hnn : (n == n) = true := beq_self_eq_true _
      clear hs hp hr h0
      go_enter Tryd.func3, Tryd.ntmps3
      go_wp2_with fail
      refine A1.mono ?_
      rintro e w1 ⟨rfl, HB1⟩
      clear A1
      have P := put_ex w w1 n s t 0 HP.out HB1.out HG.out
      go_wp2_with fail
      refine P.mono ?_
      rintro e w2 ⟨rfl, HB2⟩
      clear P
      have P := refput_ex w w2 n s t 0 HP.out HM.out HB2.out
      go_wp2_with fail
      refine P.mono ?_
      rintro e w3 ⟨rfl, HB3⟩
      clear P
      have P := valid_ex' w w3 n r HV.out HB3.out
      go_wp2_with fail
      refine P.mono ?_
      rintro e w4 ⟨rfl, HB4⟩
      clear P
      go_wp2_with fail
      refine (RV _).mono ?_
      rintro e w5 ⟨rfl, rfl⟩
      clear RV
      have P := get_ex w w4 t s n 0 HQ.out HT.out HB4.out HG.out
      go_wp2_with fail
      refine P.mono ?_
      rintro e w6 ⟨rfl, HB6⟩
      clear P
      go_wp2
      go_ret
      exact ⟨rfl, HB6.out⟩
  · have hk0 : ((k : Int) == 0) = false := beq_eq_false_iff_ne.2 (by omega)
    have hk1 : ((k : Int) != 0) = true := bne_iff_ne.2 (by omega)
    have hkk : ((k : Int) == (k : Int)) = true := beq_self_eq_true _
    have hkn : ((k : Int) != (k : Int)) = false := by simp
    clear hs hp hr hk
    go_enter Tryd.func3, Tryd.ntmps3
    go_wp2_with fail
    refine A1.mono ?_
    rintro e w1 ⟨rfl, HB1⟩
    clear A1
    have P := put_ex w w1 n s t k HP.out HB1.out HG.out
    go_wp2_with fail
    refine P.mono ?_
    rintro e w2 ⟨rfl, HB2⟩
    clear P
    have P := refput_ex w w2 n s t k HP.out HM.out HB2.out
    go_wp2_with fail
    refine P.mono ?_
    rintro e w3 ⟨rfl, HB3⟩
    clear P
    have P := valid_ex' w w3 n r HV.out HB3.out
    go_wp2_with fail
    refine P.mono ?_
    rintro e w4 ⟨rfl, HB4⟩
    clear P
    go_wp2_with fail
    refine (RV _).mono ?_
    rintro e w5 ⟨rfl, rfl⟩
    clear RV
    go_wp2
    go_ret
    exact ⟨rfl, HB4.out⟩
end Go.Proofs.YtnogaaalpfjgcaaDoor
