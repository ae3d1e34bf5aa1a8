/- BaseOnes, the walk: whatever two bytes are handed over, the law's Go text returns true, and nothing that was in memory changes. Conditions: the table of package base is as its text lays it; the bytes are numbers of their kind. -/
import Derived.Test.YtdcgddoginaioaaDoorL
namespace Go.Proofs.YtdcgddoginaioaaDoor
open Go.RowKit

/-- Put of a row of bytes. -/
theorem putB (w0 : World) (bs : List Nat) (v : Value) (W : World) (hv : SrcAt W v bs) (hs : Small 256 bs) (hB : Below w0.heap.size w0 W) (hg : Globs w0) (hL : bs.length ≤ 100000) :
    Calls Tryd.prog 12 #[v] W fun e w' => e = .returned (.string (strOf (enc bs))) ∧ Sl (Below W.heap.size W w') ∧ Sl (Below w0.heap.size w0 w') :=
  (put_ex bs v W hv hs (hg.below hB hg.size) hL).mono fun _ _ ⟨he, hb⟩ => ⟨he, hb, ⟨hB.trans (hb.out.mono hB.size)⟩⟩
theorem at_of_bytes (x : ByteArray) (i : Nat) (h : i < x.size) (c : Nat) (hc : (bytes x).getD i 0 = c) : (x[i]'h).toNat = c := by rw [← hc, bytes_getD x i h]; rfl

set_option maxHeartbeats 2000000 in
theorem ones_walk (a b : Nat) (w : World) (hg : Globs w) (ha : a < 256) (hb : b < 256) :
    Calls Tryd.prog 10 #[.int .u8 a, .int .u8 b] w fun e w' => e = .returned (.bool true) ∧ Below w.heap.size w w' := by
  have HG := Sl.mk hg
  clear hg
  have sm1 : Small 256 [a] := fun x hx => by simp at hx; omega
  have sm2 : Small 256 [a, b] := fun x hx => by simp at hx; omega
  have sm3 : Small 256 [a, b, 0] := fun x hx => by simp at hx; omega
  obtain ⟨x, hx⟩ : ∃ x, x = strOf (enc [a]) := ⟨_, rfl⟩
  obtain ⟨y, hy⟩ : ∃ y, y = strOf (enc [a, b]) := ⟨_, rfl⟩
  obtain ⟨z, hz⟩ : ∃ z, z = strOf (enc [a, b, 0]) := ⟨_, rfl⟩
  have HX := Sl.mk hx
  have HY := Sl.mk hy
  have HZ := Sl.mk hz
  have bx : bytes x = enc [a] := by rw [hx]; exact bytes_enc _ sm1
  have by' : bytes y = enc [a, b] := by rw [hy]; exact bytes_enc _ sm2
  have bz : bytes z = enc [a, b, 0] := by rw [hz]; exact bytes_enc _ sm3
  have sx : x.size = 4 := by rw [← bytes_length, bx]; rfl
  have sy : y.size = 4 := by rw [← bytes_length, by']; rfl
  have sz : z.size = 4 := by rw [← bytes_length, bz]; rfl
  have q1 : ((x.extract 2 4).toList == [61, 61]) = true := by rw [beq_bytes, bytes_extract, bx]; rfl
  have q2 : ((y.extract 3 4).toList == [61]) = true := by rw [beq_bytes, bytes_extract, by']; rfl
  have e2 : (y[2]'(by omega)).toNat = letter (b % 16 * 4) := at_of_bytes y 2 _ _ (by rw [by']; rfl)
  have q3 : (((letter (b % 16 * 4) : Nat) : Int) != 61) = true := by have := letter_ne (b % 16 * 4) (by omega); simp; omega
  have e0 : (x[0]'(by omega)).toNat = letter (a / 4) := at_of_bytes x 0 _ _ (by rw [bx]; rfl)
  have f0 : (y[0]'(by omega)).toNat = letter (a / 4) := at_of_bytes y 0 _ _ (by rw [by']; rfl)
  have q4 : ((z.extract 0 3).toList == (y.extract 0 3).toList) = true := by rw [beq_bytes2, bytes_extract, bytes_extract, by', bz]; simp [enc]
  have e3 : (z[3]'(by omega)).toNat = 65 := at_of_bytes z 3 _ _ (by rw [bz]; rfl)
  clear hx hy hz bx by' bz
  go_enter Tryd.func10, Tryd.ntmps10
  go_wp2_with fail
  refine (putB w [a] _ _ (src_new _ [a] _ _ _ rfl) sm1 ((Below.refl _ _).alloc (Nat.le_refl _) _) HG.out (by simp)).mono ?_
  rw [← HX.out]
  rintro e w1 ⟨rfl, HX1, HB1⟩
  go_wp2_with fail
  refine (putB w [a, b] _ _ (src_new _ [a, b] _ _ _ rfl) sm2 (HB1.out.alloc HB1.out.size _) HG.out (by simp)).mono ?_
  rw [← HY.out]
  rintro e w2 ⟨rfl, HX2, HB2⟩
  go_wp2_with fail
  refine (putB w [a, b, 0] _ _ (src_new _ [a, b, 0] _ _ _ rfl) sm3 (HB2.out.alloc HB2.out.size _) HG.out (by simp)).mono ?_
  rw [← HZ.out]
  rintro e w3 ⟨rfl, HX3, HB3⟩
  go_wp2
  have hb3 := HB3.out.drew
  go_region_held3 (fun W => Below w.heap.size w W) (first | exact hb3 | assumption) (first | (go_at_call 11; refine (awake_ex w _ (by assumption) HG.out).mono ?_; rintro e w4 ⟨rfl, HX4, HB4⟩; have hb4 := HB4.out))
  all_goals go_wp2
  all_goals (go_ret; exact ⟨rfl, by assumption⟩)
end Go.Proofs.YtdcgddoginaioaaDoor
