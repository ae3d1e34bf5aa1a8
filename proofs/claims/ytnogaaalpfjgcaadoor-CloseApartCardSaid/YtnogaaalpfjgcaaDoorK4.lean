/- CloseApart's walk. -/
import Derived.Test.YtnogaaalpfjgcaaDoorK1
set_option maxRecDepth 100000
namespace Go.Proofs.YtnogaaalpfjgcaaDoor
open Go.RowKit UtfPlain ClosePlain Utf

theorem apart_walk (a b : Int) (v u : ByteArray) (w : World) (hg : Globs w) : Calls Tryd.prog 6 #[.int .i64 a, .int .i64 b, .string v, .string u] w fun e w' => e = .returned (.bool true) ∧ Below w.heap.size w w' := by
  have HG := Sl.mk hg
  have A1 := awake_ex w w (Below.refl _ _) hg
  clear hg
  by_cases hs : v.size > 130
  · have hq : ((v.size : Int) > 130) = True := eq_true (by omega)
    clear hs
    go_enter Tryd.func6, Tryd.ntmps6
    go_wp2_with fail
    refine A1.mono ?_
    rintro e w1 ⟨rfl, HB1⟩
    clear A1
    have A2 := awake_ex w w1 HB1.out HG.out
    go_wp2_with fail
    refine A2.mono ?_
    rintro e w2 ⟨rfl, HB2⟩
    clear A2
    go_wp2
    go_ret
    exact ⟨rfl, HB2.out⟩
  have hq : ((v.size : Int) > 130) = False := eq_false (by omega)
  by_cases hu : u.size > 130
  · have hq2 : ((u.size : Int) > 130) = True := eq_true (by omega)
    clear hs hu
    go_enter Tryd.func6, Tryd.ntmps6
    go_wp2_with fail
    refine A1.mono ?_
    rintro e w1 ⟨rfl, HB1⟩
    clear A1
    have A2 := awake_ex w w1 HB1.out HG.out
    go_wp2_with fail
    refine A2.mono ?_
    rintro e w2 ⟨rfl, HB2⟩
    clear A2
    go_wp2
    go_ret
    exact ⟨rfl, HB2.out⟩
  have hq2 : ((u.size : Int) > 130) = False := eq_false (by omega)
  obtain ⟨x, k, hp⟩ := put_str a v
  have HP := Sl.mk hp
  obtain ⟨y, j, hr⟩ := put_str b u
  have HR := Sl.mk hr
  by_cases hk : k = 0
  · by_cases hj : j = 0
    · subst hk hj
      have hap := put_apart hp hr
      obtain ⟨d1, hd1⟩ : ∃ d, (x.toList == y.toList) = d := ⟨_, rfl⟩
      obtain ⟨d2, hd2⟩ : ∃ d, (a == b) = d := ⟨_, rfl⟩
      obtain ⟨d3, hd3⟩ : ∃ d, (v.toList == u.toList) = d := ⟨_, rfl⟩
      have hdd : d1 = (d2 && d3) := by
        rw [← hd1, ← hd2, ← hd3, beq_bytes2, beq_bytes2, decide_eq_decide.2 hap, Bool.decide_and]
        congr 1
      subst hdd
      clear hs hu hap hp hr
      cases d2 with
      | false =>
        rw [Bool.false_and] at hd1
        go_enter Tryd.func6, Tryd.ntmps6
        go_wp2_with fail
        refine A1.mono ?_
        rintro e w1 ⟨rfl, HB1⟩
        clear A1
        have P := put_ex w w1 a v _ 0 HP.out HB1.out HG.out
        go_wp2_with fail
        refine P.mono ?_
        rintro e w2 ⟨rfl, HB2⟩
        clear P
        have P := put_ex w w2 b u _ 0 HR.out HB2.out HG.out
        go_wp2_with fail
        refine P.mono ?_
        rintro e w3 ⟨rfl, HB3⟩
        clear P
        go_wp2
        go_ret
        exact ⟨rfl, HB3.out⟩
      | true =>
        rw [Bool.true_and] at hd1
        have HD : Sl (((x.toList == y.toList) == (v.toList == u.toList)) = true) := ⟨by rw [hd1, hd3]; exact beq_self_eq_true _⟩
        clear hd1 hd3
        go_enter Tryd.func6, Tryd.ntmps6
        go_wp2_with fail
        refine A1.mono ?_
        rintro e w1 ⟨rfl, HB1⟩
        clear A1
        have P := put_ex w w1 a v _ 0 HP.out HB1.out HG.out
        go_wp2_with fail
        refine P.mono ?_
        rintro e w2 ⟨rfl, HB2⟩
        clear P
        have P := put_ex w w2 b u _ 0 HR.out HB2.out HG.out
        go_wp2_with fail
        refine P.mono ?_
        rintro e w3 ⟨rfl, HB3⟩
        clear P
        go_wp2
        go_ret
        exact ⟨congrArg (fun b => Ending.returned (.bool b)) HD.out, HB3.out⟩
    · subst hk
      have hj0 : ((j : Int) == 0) = false := beq_eq_false_iff_ne.2 (by omega)
      have hj1 : ((j : Int) != 0) = true := bne_iff_ne.2 (by omega)
      clear hs hu hp hr hj
      go_enter Tryd.func6, Tryd.ntmps6
      go_wp2_with fail
      refine A1.mono ?_
      rintro e w1 ⟨rfl, HB1⟩
      clear A1
      have P := put_ex w w1 a v _ 0 HP.out HB1.out HG.out
      go_wp2_with fail
      refine P.mono ?_
      rintro e w2 ⟨rfl, HB2⟩
      clear P
      have P := put_ex w w2 b u _ j HR.out HB2.out HG.out
      go_wp2_with fail
      refine P.mono ?_
      rintro e w3 ⟨rfl, HB3⟩
      clear P
      go_wp2
      go_ret
      exact ⟨rfl, HB3.out⟩
  · have hk0 : ((k : Int) == 0) = false := beq_eq_false_iff_ne.2 (by omega)
    have hk1 : ((k : Int) != 0) = true := bne_iff_ne.2 (by omega)
    clear hs hu hp hr hk
    go_enter Tryd.func6, Tryd.ntmps6
    go_wp2_with fail
    refine A1.mono ?_
    rintro e w1 ⟨rfl, HB1⟩
    clear A1
    have P := put_ex w w1 a v _ k HP.out HB1.out HG.out
    go_wp2_with fail
    refine P.mono ?_
    rintro e w2 ⟨rfl, HB2⟩
    clear P
    have P := put_ex w w2 b u _ j HR.out HB2.out HG.out
    go_wp2_with fail
    refine P.mono ?_
    rintro e w3 ⟨rfl, HB3⟩
    clear P
    go_wp2
    go_ret
    exact ⟨rfl, HB3.out⟩
end Go.Proofs.YtnogaaalpfjgcaaDoor
