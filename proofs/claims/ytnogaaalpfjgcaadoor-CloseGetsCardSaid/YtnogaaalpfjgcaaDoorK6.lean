/- CloseGets' walk. -/
import Derived.Test.YtnogaaalpfjgcaaDoorK1
import Derived.Test.YtnogaaalpfjgcaaDoorCG
set_option maxRecDepth 100000
namespace Go.Proofs.YtnogaaalpfjgcaaDoor
open Go.RowKit UtfPlain ClosePlain Utf

/-- What Get answers, as strings. -/
theorem get_str (s : ByteArray) : ∃ n t k, getC (bytes s) = (n, bytes t, k) := by
  have h : ∃ n l k, getC (bytes s) = (n, l, k) ∧ ∀ y ∈ l, y < 256 := by
    have hs := bytes_small s
    match hb : bytes s with
    | [] => exact ⟨_, _, _, rfl, fun y hy => by cases hy⟩
    | [_] => exact ⟨_, _, _, rfl, fun y hy => by cases hy⟩
    | x :: y :: r =>
      rw [hb] at hs
      rw [get_chk]
      by_cases h : chkE ((256 * x + y : Nat) : Int) r = 0
      · rw [if_pos h]; exact ⟨_, _, _, rfl, fun z hz => hs z (by simp [hz])⟩
      · rw [if_neg h]; exact ⟨_, _, _, rfl, fun y hy => by cases hy⟩
  obtain ⟨n, l, k, h1, h2⟩ := h
  exact ⟨n, strOf l, k, by rw [h1, bytes_strOf l h2]⟩
theorem refget_ex (w0 W : World) (s t : ByteArray) (n : Int) (k : Nat) (h : getC (bytes s) = (n, bytes t, k)) (hm : s.size ≤ 100000) (hB : Below w0.heap.size w0 W) :
    Calls Tryd.prog 15 #[.string s] W fun en w' => en = .returned (.tuple #[.int .i64 n, .string t, .int .i64 (k : Int)]) ∧ Sl (Below w0.heap.size w0 w') :=
  (refget_any s W hm).mono fun _ _ ⟨he, h1⟩ => ⟨by rw [he, h, gotV, strOf_bytes], ⟨hB.trans (h1.out.mono hB.size)⟩⟩
theorem gets_walk (s : ByteArray) (w : World) (hg : Globs w) : Calls Tryd.prog 4 #[.string s] w fun e w' => e = .returned (.bool true) ∧ Below w.heap.size w w' := by
  have HG := Sl.mk hg
  have A1 := awake_ex w w (Below.refl _ _) hg
  clear hg
  by_cases hs : s.size > 300
  · have hq : ((s.size : Int) > 300) = True := eq_true (by omega)
    clear hs
    go_enter Tryd.func4, Tryd.ntmps4
    go_wp2_with fail
    refine A1.mono ?_
    rintro e w1 ⟨rfl, HB1⟩
    clear A1
    have A2 := awake_ex w w1 HB1.out HG.out
    go_wp2_with fail
    refine A2.mono ?_
    rintro e w2 ⟨rfl, HB2⟩
    clear A2
    go_wp2
    go_ret
    exact ⟨rfl, HB2.out⟩
  have hq : ((s.size : Int) > 300) = False := eq_false (by omega)
  obtain ⟨n, t, k, hp⟩ := get_str s
  have HP := Sl.mk hp
  have hss : (s.toList == s.toList) = true := by simp
  have htt : (t.toList == t.toList) = true := by simp
  have htn : (t.toList != t.toList) = false := by simp
  have hnn : (n == n) = true := beq_self_eq_true _
  have hnn2 : (n != n) = false := by simp
  have HM : Sl (s.size ≤ 100000) := ⟨by omega⟩
  have HM2 : Sl (s.size ≤ 1000000) := ⟨by omega⟩
  obtain ⟨c, hc⟩ : ∃ c, acrossC n = c := ⟨_, rfl⟩
  have HC := Sl.mk hc
  by_cases hk : k = 0
  · subst hk
    have HQ : Sl (putC c (bytes t) = (bytes s, 0)) := ⟨by rw [← hc]; exact get_put (bytes_small s) hp⟩
    clear hs hp hc
    go_enter Tryd.func4, Tryd.ntmps4
    go_wp2_with fail
    refine A1.mono ?_
    rintro e w1 ⟨rfl, HB1⟩
    clear A1
    have P := get_ex w w1 s t n 0 HP.out HM2.out HB1.out HG.out
    go_wp2_with fail
    refine P.mono ?_
    rintro e w2 ⟨rfl, HB2⟩
    clear P
    have P := refget_ex w w2 s t n 0 HP.out HM.out HB2.out
    go_wp2_with fail
    refine P.mono ?_
    rintro e w3 ⟨rfl, HB3⟩
    clear P
    have P := across_ex w w3 n c HC.out HB3.out
    go_wp2_with fail
    refine P.mono ?_
    rintro e w4 ⟨rfl, HB4⟩
    clear P
    have P := put_ex w w4 c t s 0 HQ.out HB4.out HG.out
    go_wp2_with fail
    refine P.mono ?_
    rintro e w5 ⟨rfl, HB5⟩
    clear P
    go_wp2
    go_ret
    exact ⟨rfl, HB5.out⟩
  · have hk0 : ((k : Int) == 0) = false := beq_eq_false_iff_ne.2 (by omega)
    have hk1 : ((k : Int) != 0) = true := bne_iff_ne.2 (by omega)
    have hkk : ((k : Int) == (k : Int)) = true := beq_self_eq_true _
    have hkn : ((k : Int) != (k : Int)) = false := by simp
    obtain ⟨s2, k2, hq2⟩ := put_str c t
    have HQ := Sl.mk hq2
    clear hs hp hc hk hq2
    go_enter Tryd.func4, Tryd.ntmps4
    go_wp2_with fail
    refine A1.mono ?_
    rintro e w1 ⟨rfl, HB1⟩
    clear A1
    have P := get_ex w w1 s t n k HP.out HM2.out HB1.out HG.out
    go_wp2_with fail
    refine P.mono ?_
    rintro e w2 ⟨rfl, HB2⟩
    clear P
    have P := refget_ex w w2 s t n k HP.out HM.out HB2.out
    go_wp2_with fail
    refine P.mono ?_
    rintro e w3 ⟨rfl, HB3⟩
    clear P
    have P := across_ex w w3 n c HC.out HB3.out
    go_wp2_with fail
    refine P.mono ?_
    rintro e w4 ⟨rfl, HB4⟩
    clear P
    have P := put_ex w w4 c t s2 k2 HQ.out HB4.out HG.out
    go_wp2_with fail
    refine P.mono ?_
    rintro e w5 ⟨rfl, HB5⟩
    clear P
    go_wp2
    go_ret
    exact ⟨rfl, HB5.out⟩
end Go.Proofs.YtnogaaalpfjgcaaDoor
