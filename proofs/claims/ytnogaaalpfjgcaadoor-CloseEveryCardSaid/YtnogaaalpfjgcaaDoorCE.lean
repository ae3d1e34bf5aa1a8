/- close: Get. -/
import Derived.Test.YtnogaaalpfjgcaaDoorCD
import Derived.Test.YtnogaaalpfjgcaaDoorHeld
import Derived.Deep.DeepCutAuto
set_option maxRecDepth 100000
namespace Go.Proofs.YtnogaaalpfjgcaaDoor
open Go.RowKit UtfPlain ClosePlain Utf

theorem or_two (x y : Nat) (hx : x < 256) (hy : y < 256) : bits .or .i64 ((256 * x : Nat) : Int) (y : Int) = ((256 * x + y : Nat) : Int) := by
  have h : 256 * x ||| y = 256 * x + y := nat_join 8 (256 * x) y (by omega) (by omega)
  show IntKind.i64.wrap ((BitVec.ofInt 64 ((256 * x : Nat) : Int) ||| BitVec.ofInt 64 (y : Int)).toNat : Int) = _
  rw [BitVec.toNat_or, ofInt_u64 _ (by omega), ofInt_u64 _ (by omega), h, IntKind.wrap_i64]
  omega
theorem get_chk (x y : Nat) (l : List Nat) : getC (x :: y :: l) = if chkE ((256 * x + y : Nat) : Int) l = 0 then (((256 * x + y : Nat) : Int), l, 0) else (0, [], chkE ((256 * x + y : Nat) : Int) l) := by
  rw [getC_two]
  by_cases h1 : 123 < l.length ∨ valid ((256 * x + y : Nat) : Int) = false
  · rw [if_pos h1, show chkE ((256 * x + y : Nat) : Int) l = 110 from if_pos h1.symm]; rfl
  have n1 : ¬ (valid ((256 * x + y : Nat) : Int) = false ∨ 123 < l.length) := fun h => h1 h.symm
  rw [if_neg h1]
  by_cases h2 : ClosePlain.lets l = false
  · rw [if_pos h2, show chkE ((256 * x + y : Nat) : Int) l = 111 from by unfold chkE; rw [if_neg n1, if_pos h2]]; rfl
  · rw [if_neg h2, show chkE ((256 * x + y : Nat) : Int) l = 0 from by unfold chkE; rw [if_neg n1, if_neg h2]]; rfl
/-- What Get answers, as a value. -/
def gotV (r : Int × List Nat × Nat) : Value := .tuple #[.int .i64 r.1, .string (strOf r.2.1), .int .i64 (r.2.2 : Nat)]
theorem two_bytes {s : ByteArray} (h : 2 ≤ s.size) : ∃ x y, bytes s = x :: y :: bytes (s.extract 2 s.size) ∧ x < 256 ∧ y < 256 ∧ (s[0]'(by omega)).toNat = x ∧ (s[1]'(by omega)).toNat = y := by
  have he : bytes (s.extract 2 s.size) = (bytes s).drop 2 := by
    rw [bytes_extract, List.take_of_length_le (by rw [bytes_length]; exact Nat.le_refl _)]
  have hs := bytes_small s
  have g0 := bytes_getD s 0 (by omega)
  have g1 := bytes_getD s 1 (by omega)
  have hl := bytes_length s
  rw [he]
  match hb : bytes s with
  | [] => rw [hb] at hl; simp at hl; omega
  | [_] => rw [hb] at hl; simp at hl; omega
  | x :: y :: r =>
    rw [hb] at hs g0 g1
    exact ⟨x, y, rfl, hs x (by simp), hs y (by simp), g0.symm, g1.symm⟩
theorem get_any (s : ByteArray) (w : World) (hg : Globs w) (hm : s.size ≤ 1000000) : Calls Tryd.prog 14 #[.string s] w fun e w' => e = .returned (gotV (getC (bytes s))) ∧ Sl (Below w.heap.size w w') := by
  by_cases h0 : s.size = 0
  · obtain rfl := size_zero h0
    clear h0 hm
    go_enter Tryd.func14, Tryd.ntmps14
    go_wp2
    go_ret3
    exact ⟨rfl, ⟨Below.refl _ _⟩⟩
  have hse := empty_no h0
  by_cases h1 : s.size < 2
  · have hq : ((s.size : Int) < 2) = True := eq_true (by omega)
    have HR : Sl (getC (bytes s) = (0, [], 110)) := ⟨by
      have := bytes_length s
      match hb : bytes s with
      | [] => rw [hb] at this; simp at this; omega
      | [_] => rfl
      | _ :: _ :: _ => rw [hb] at this; simp at this; omega⟩
    clear h0 h1 hm
    go_enter Tryd.func14, Tryd.ntmps14
    go_wp2
    go_ret3
    exact ⟨by rw [HR.out]; rfl, ⟨Below.refl _ _⟩⟩
  have hq : ((s.size : Int) < 2) = False := eq_false (by omega)
  obtain ⟨x, y, hb, hx, hy, hx0, hy0⟩ := two_bytes (s := s) (by omega)
  have h0s : 0 < s.size := by omega
  have h1s : 1 < s.size := by omega
  have hi0 : (s[0]'h0s).toNat = x := hx0
  have hi1 : (s[1]'h1s).toNat = y := hy0
  clear hx0 hy0
  obtain ⟨t, ht⟩ : ∃ t, s.extract 2 s.size = t := ⟨_, rfl⟩
  have htm : t.size ≤ 1000000 := by rw [← ht, ByteArray.size_extract]; omega
  rw [ht] at hb
  rw [hb, get_chk]
  obtain ⟨X, hX⟩ : ∃ X, 256 * x = X := ⟨_, rfl⟩
  have e1 : (x : Int) * 256 = (X : Int) := by omega
  obtain ⟨K, hK⟩ : ∃ K, 256 * x + y = K := ⟨_, rfl⟩
  have e2 : bits .or .i64 (X : Int) (y : Int) = (K : Int) := by rw [← hX, ← hK]; exact or_two x y hx hy
  have BD : Below w.heap.size w w.drew := (Below.refl _ _).drew
  have CH := check_any (K : Int) t w.drew (hg.below BD hg.size)
  have HD := Sl.mk BD
  clear BD
  rw [hK]
  obtain ⟨k, hk⟩ : ∃ k, chkE (K : Int) (bytes t) = k := ⟨_, rfl⟩
  rw [hk] at CH ⊢
  have hXs : X < 65536 := by omega
  have z1 : IntKind.i64.wrap (x : Int) = (x : Int) := by rw [IntKind.wrap_i64]; omega
  have z2 : IntKind.i64.wrap (y : Int) = (y : Int) := by rw [IntKind.wrap_i64]; omega
  have z3 : IntKind.i64.wrap (X : Int) = (X : Int) := by rw [IntKind.wrap_i64]; omega
  have k1 : ((1 : Int) < (s.size : Int)) = True := eq_true (by omega)
  have k2 : ((2 : Int) ≤ (s.size : Int)) = True := eq_true (by omega)
  have HM := Sl.mk htm
  clear hb hX hK hx hy hk htm h1 h0 hm hg
  by_cases hk0 : k = 0
  · subst hk0
    rw [if_pos rfl, gotV, strOf_bytes]
    go_enter Tryd.func14, Tryd.ntmps14
    go_upto_region 5 with fail
    go_still (by kernel_rfl)
    go_wp2_with fail
    refine CH.mono ?_
    rintro e w1 ⟨rfl, HX⟩
    have HB : Sl (Below w.heap.size w w1) := ⟨HD.out.trans HX.out⟩
    clear CH HX
    have CL := clone_any t w1 HM.out
    go_wp2_with fail
    refine CL.mono ?_
    rintro e w2 ⟨rfl, HB2⟩
    clear CL
    go_wp2
    go_ret3
    exact ⟨rfl, ⟨HB.out.trans (HB2.out.mono HB.out.size)⟩⟩
  · rw [if_neg hk0, gotV, show strOf [] = { data := #[] } from rfl]
    have hkq : ((k : Int) == 0) = false := beq_eq_false_iff_ne.2 (by omega)
    clear hk0
    go_enter Tryd.func14, Tryd.ntmps14
    go_upto_region 5 with fail
    go_still (by kernel_rfl)
    go_wp2_with fail
    refine CH.mono ?_
    rintro e w1 ⟨rfl, HX⟩
    have HB : Sl (Below w.heap.size w w1) := ⟨HD.out.trans HX.out⟩
    clear CH HX
    go_wp2
    go_ret3
    exact ⟨rfl, HB⟩
end Go.Proofs.YtnogaaalpfjgcaaDoor
