/- BasePuts, the walk: whatever string is handed over, the law's Go text returns true, and nothing that was in memory changes. Conditions: the table of package base is as its text lays it; the string fits in memory. -/
import Derived.Test.YtdcgddoginaioaaDoorL
import Derived.Test.YtdcgddoginaioaaDoorJ
namespace Go.Proofs.YtdcgddoginaioaaDoor
open Go.RowKit

theorem refPutX (w0 : World) (s : ByteArray) (W : World) (hB : Below w0.heap.size w0 W) (hs : s.size ≤ 1000) :
    Calls Tryd.prog 14 #[.string s] W fun e w' => e = .returned (.string (strOf (enc (bytes s)))) ∧ Sl (Below W.heap.size W w') ∧ Sl (Below w0.heap.size w0 w') :=
  (ref_put s W hs).mono fun _ _ ⟨he, hb⟩ => ⟨he, ⟨hb⟩, ⟨hB.trans (hb.mono hB.size)⟩⟩
theorem getYesX (w0 : World) (s : ByteArray) (b : List Nat) (W : World) (hB : Below w0.heap.size w0 W) (hs : s.size ≤ 100000) (hr : rd (bytes s) = some b) :
    Calls Tryd.prog 13 #[.string s] W fun e w' => ∃ v, e = .returned (.tuple #[v, .int .i64 0]) ∧ Sl (w'.ownsRow W.heap.size 5 1 v b.length (u8s b)) ∧ Sl (Below W.heap.size W w') ∧ Sl (Below w0.heap.size w0 w') :=
  (get_yes s b W hs hr).mono fun _ _ ⟨v, he, ho, hb⟩ => ⟨v, he, ho, hb, ⟨hB.trans (hb.out.mono hB.size)⟩⟩
theorem getNoX (w0 : World) (s : ByteArray) (W : World) (hB : Below w0.heap.size w0 W) (hs : s.size ≤ 100000) (hr : rd (bytes s) = none) :
    Calls Tryd.prog 13 #[.string s] W fun e w' => e = .returned (.tuple #[.slice none 0 0, .int .i64 20]) ∧ Sl (Below W.heap.size W w') ∧ Sl (Below w0.heap.size w0 w') :=
  (get_no s W hs hr).mono fun _ _ ⟨he, hb⟩ => ⟨he, hb, ⟨hB.trans (hb.out.mono hB.size)⟩⟩
theorem hasX (w0 : World) (s : ByteArray) (n : Int) (r : Bool) (W : World) (hB : Below w0.heap.size w0 W) (hs : s.size ≤ 100000) (hr : hasB (bytes s) n = r) :
    Calls Tryd.prog 16 #[.string s, .int .i64 n] W fun e w' => e = .returned (.bool r) ∧ Sl (Below W.heap.size W w') ∧ Sl (Below w0.heap.size w0 w') :=
  (has_ex s n r W hs hr).mono fun _ _ ⟨he, hb⟩ => ⟨he, hb, ⟨hB.trans (hb.out.mono hB.size)⟩⟩

set_option maxHeartbeats 400000 in
theorem puts_long (a : ByteArray) (w : World) (hg : Globs w) (h : 300 < a.size) (ha : a.size ≤ maxLen) :
    Calls Tryd.prog 3 #[.string a] w fun e w' => e = .returned (.bool true) ∧ Below w.heap.size w w' := by
  unfold maxLen at ha
  have HG := Sl.mk hg
  clear hg
  go_enter Tryd.func3, Tryd.ntmps3
  go_wp2_with fail
  refine (awake_ex w _ (Below.refl _ _) HG.out).mono ?_
  rintro e w1 ⟨rfl, HX1, HB1⟩
  go_wp2
  go_ret
  exact ⟨rfl, HB1.out⟩

set_option maxHeartbeats 1000000 in
theorem puts_short (a : ByteArray) (w : World) (hg : Globs w) (h : a.size ≤ 300) :
    Calls Tryd.prog 3 #[.string a] w fun e w' => e = .returned (.bool true) ∧ Below w.heap.size w w' := by
  have HG := Sl.mk hg
  clear hg
  obtain ⟨s, hs⟩ : ∃ s, s = strOf (enc (bytes a)) := ⟨_, rfl⟩
  have HBS : Sl (bytes s = enc (bytes a)) := ⟨by rw [hs]; exact bytes_enc _ (bytes_small a)⟩
  have HRD : Sl (rd (bytes s) = some (bytes a)) := ⟨by rw [HBS.out]; exact rd_enc _ (bytes_small a)⟩
  have HSZ : Sl (s.size = 4 * ((a.size + 2) / 3)) := ⟨by rw [hs, strOf_size, enc_length, bytes_length]⟩
  have hsl : s.size ≤ 1000 := by rw [HSZ.out]; omega
  have HH1 : Sl (hasB (bytes s) (a.size : Int) = true) := ⟨by unfold hasB; rw [HRD.out]; simp [bytes_length]⟩
  have HH2 : Sl (hasB (bytes s) ((a.size : Int) + 1) = false) := ⟨by unfold hasB; rw [HRD.out]; simp [bytes_length]; omega⟩
  have q1 : ((s.size : Int) == sizeI (a.size : Int)) = true := by
    rw [HSZ.out]; unfold sizeI
    by_cases h0 : a.size = 0
    · rw [h0]; rfl
    · rw [if_neg (by omega)]; simp
  have HS := Sl.mk hs
  have q2 : (s.toList == s.toList) = true := by simp
  clear hs
  obtain ⟨c0, w1, hc0, HV1, HB1⟩ := conv_str a w
  go_enter Tryd.func3, Tryd.ntmps3
  go_wp2_with fail
  refine (putS w a _ _ HV1.out HB1.out HG.out (by omega)).mono ?_
  rw [← HS.out]
  rintro e w2 ⟨rfl, HX2, HB2⟩
  clear hc0
  go_wp2_with fail
  refine (getYesX w s (bytes a) _ HB2.out (by omega) HRD.out).mono ?_
  rintro e w3 ⟨v, rfl, HO3, HX3, HB3⟩
  go_wp2_with fail
  refine (awake_ex w _ HB3.out HG.out).mono ?_
  rintro e w4 ⟨rfl, HX4, HB4⟩
  go_wp2_with fail
  refine (refPutX w a _ HB4.out (by omega)).mono ?_
  rw [← HS.out]
  rintro e w5 ⟨rfl, HX5, HB5⟩
  have hcv := conv_later HO3.out (HX4.out.trans (HX5.out.mono HX4.out.size))
  rw [strOf_bytes] at hcv
  go_wp2_with fail
  refine (size_any (a.size : Int) _).mono ?_
  rintro e w6 ⟨rfl, rfl⟩
  go_wp2_with fail
  refine (hasX w s (a.size : Int) true _ HB5.out (by omega) HH1.out).mono ?_
  rintro e w7 ⟨rfl, HX7, HB7⟩
  go_wp2_with fail
  refine (hasX w s ((a.size : Int) + 1) false _ HB7.out (by omega) HH2.out).mono ?_
  rintro e w8 ⟨rfl, HX8, HB8⟩
  go_wp2
  go_ret
  exact ⟨rfl, HB8.out⟩

theorem puts_walk (a : ByteArray) (w : World) (hg : Globs w) (ha : a.size ≤ maxLen) :
    Calls Tryd.prog 3 #[.string a] w fun e w' => e = .returned (.bool true) ∧ Below w.heap.size w w' := by
  by_cases h : 300 < a.size
  · exact puts_long a w hg h ha
  · exact puts_short a w hg (by omega)
end Go.Proofs.YtdcgddoginaioaaDoor
