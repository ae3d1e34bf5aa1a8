/- CloseEvery's walk. -/
import Derived.Test.YtnogaaalpfjgcaaDoorCH
set_option maxRecDepth 100000
namespace Go.Proofs.YtnogaaalpfjgcaaDoor
open Go.RowKit UtfPlain ClosePlain Utf

theorem every_walk (n : Nat) (w : World) (hg : Globs w) (hn : n < 65536) : Calls Tryd.prog 8 #[.int .u16 (n : Int)] w fun e w' => e = .returned (.bool true) ∧ Below w.heap.size w w' := by
  have HG := Sl.mk hg
  obtain ⟨hi, hhi⟩ : ∃ x, n / 256 = x := ⟨_, rfl⟩
  obtain ⟨lo, hlo⟩ : ∃ x, n % 256 = x := ⟨_, rfl⟩
  have e1 : (n : Int) / 256 = (hi : Int) := by omega
  have e2 : IntKind.u8.wrap (hi : Int) = (hi : Int) := by rw [IntKind.wrap_u8']; omega
  have e3 : (n : Int) % 256 = (lo : Int) := by omega
  have e4 : IntKind.u8.wrap (lo : Int) = (lo : Int) := by rw [IntKind.wrap_u8']; omega
  have e5 : (n : Int).tdiv 256 = (hi : Int) := by rw [Int.tdiv_eq_ediv_of_nonneg (by omega)]; exact e1
  have e6 : (n : Int).tmod 256 = (lo : Int) := by rw [Int.tmod_eq_emod_of_nonneg (by omega)]; exact e3
  have e8 : IntKind.u16.wrap (hi : Int) = (hi : Int) := by rw [IntKind.wrap_u16]; omega
  have e9 : IntKind.i64.wrap (n : Int) = (n : Int) := by rw [IntKind.wrap_i64]; omega
  have hst := RowB.strs (bs := [hi, lo]) (k := 2) rfl (w.alloc (.cells #[.int .u8 hi, .int .u8 lo] 5)) (g := w.heap.size) (alloc_new _ _ _ rfl)
  have HB0 : Sl (Below w.heap.size w (w.alloc (.cells #[.int .u8 hi, .int .u8 lo] 5))) := ⟨(Below.refl _ _).alloc (Nat.le_refl _) _⟩
  have HS : Sl (bytes (strOf [hi, lo]) = [hi, lo]) := ⟨bytes_strOf _ (fun x hx => by simp at hx; omega)⟩
  have HZ : Sl ((strOf [hi, lo]).size ≤ 1000000) := ⟨by rw [strOf_size]; simp⟩
  have hnn : ((n : Int) == (n : Int)) = true := beq_self_eq_true _
  obtain ⟨r, hr⟩ : ∃ r, valid (n : Int) = r := ⟨_, rfl⟩
  have HV := Sl.mk hr
  have gt := get_two hi lo
  rw [show 256 * hi + lo = n by omega, hr] at gt
  cases r with
  | false =>
    have HQ : Sl (getC (bytes (strOf [hi, lo])) = (0, bytes { data := #[] }, 110)) := ⟨by rw [HS.out, gt]; rfl⟩
    have G := get_ex w _ _ _ _ _ HQ.out HZ.out HB0.out hg
    clear hg hhi hlo hr gt hn
    go_enter Tryd.func8, Tryd.ntmps8
    go_wp2_with fail
    refine G.mono ?_
    rintro e w1 ⟨rfl, HB1⟩
    clear G hst HB0
    have V := valid_ex' w w1 n false HV.out HB1.out
    go_wp2_with fail
    refine V.mono ?_
    rintro e w2 ⟨rfl, HB2⟩
    clear V HB1
    have A := awake_ex w w2 HB2.out HG.out
    go_wp2_with fail
    refine A.mono ?_
    rintro e w3 ⟨rfl, HB3⟩
    clear A
    go_wp2
    go_ret
    exact ⟨rfl, HB3.out⟩
  | true =>
    have HQ : Sl (getC (bytes (strOf [hi, lo])) = ((n : Int), bytes { data := #[] }, 0)) := ⟨by rw [HS.out, gt]; rfl⟩
    have G := get_ex w _ _ _ _ _ HQ.out HZ.out HB0.out hg
    have HA : Sl (acrossC (n : Int) = (n : Int)) := ⟨across_same hr⟩
    clear hg hhi hlo hr gt hn
    go_enter Tryd.func8, Tryd.ntmps8
    go_wp2_with fail
    refine G.mono ?_
    rintro e w1 ⟨rfl, HB1⟩
    clear G hst HB0
    have V := valid_ex' w w1 n true HV.out HB1.out
    go_wp2_with fail
    refine V.mono ?_
    rintro e w2 ⟨rfl, HB2⟩
    clear V HB1
    have A := awake_ex w w2 HB2.out HG.out
    go_wp2_with fail
    refine A.mono ?_
    rintro e w3 ⟨rfl, HB3⟩
    clear A
    have C := across_ex w w3 n n HA.out HB3.out
    go_wp2_with fail
    refine C.mono ?_
    rintro e w4 ⟨rfl, HB4⟩
    clear C
    go_wp2
    go_ret
    exact ⟨rfl, HB4.out⟩
end Go.Proofs.YtnogaaalpfjgcaaDoor
