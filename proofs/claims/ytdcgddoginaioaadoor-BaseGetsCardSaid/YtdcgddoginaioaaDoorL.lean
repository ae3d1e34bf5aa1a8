/- BaseApart, the walk: whatever two strings are handed over, the law's Go text returns true, and nothing that was in memory changes. Conditions: the table of package base is as its text lays it; the strings fit in memory. -/
import Derived.Test.YtdcgddoginaioaaDoorK
namespace Go.Proofs.YtdcgddoginaioaaDoor
open Go.RowKit

set_option maxHeartbeats 400000 in
theorem apart_long (a b : ByteArray) (w : World) (hg : Globs w) (h : 200 < a.size ∨ 200 < b.size) (ha : a.size ≤ maxLen) (hb : b.size ≤ maxLen) :
    Calls Tryd.prog 5 #[.string a, .string b] w fun e w' => e = .returned (.bool true) ∧ Below w.heap.size w w' := by
  unfold maxLen at ha hb
  have HG := Sl.mk hg
  clear hg
  by_cases h1 : 200 < a.size
  · clear h
    go_enter Tryd.func5, Tryd.ntmps5
    go_wp2_with fail
    refine (awake_ex w _ (Below.refl _ _) HG.out).mono ?_
    rintro e w1 ⟨rfl, HX1, HB1⟩
    go_wp2
    go_ret
    exact ⟨rfl, HB1.out⟩
  · have h2 : 200 < b.size := by omega
    clear h
    go_enter Tryd.func5, Tryd.ntmps5
    go_wp2_with fail
    refine (awake_ex w _ (Below.refl _ _) HG.out).mono ?_
    rintro e w1 ⟨rfl, HX1, HB1⟩
    go_wp2
    go_ret
    exact ⟨rfl, HB1.out⟩

/-- Put of a string's bytes. -/
theorem putS (w0 : World) (a : ByteArray) (v : Value) (W : World) (hv : SrcAt W v (bytes a)) (hB : Below w0.heap.size w0 W) (hg : Globs w0) (hL : a.size ≤ 100000) :
    Calls Tryd.prog 12 #[v] W fun e w' => e = .returned (.string (strOf (enc (bytes a)))) ∧ Sl (Below W.heap.size W w') ∧ Sl (Below w0.heap.size w0 w') :=
  (put_ex (bytes a) v W hv (bytes_small a) (hg.below hB hg.size) (by rw [bytes_length]; exact hL)).mono fun _ _ ⟨he, hb⟩ => ⟨he, hb, ⟨hB.trans (hb.out.mono hB.size)⟩⟩
theorem strOf_append (a b : List Nat) : strOf a ++ strOf b = strOf (a ++ b) := by
  unfold strOf
  rw [List.map_append]
  cases h : strOfNums (List.map (fun (n : Nat) => (n : Int)) a) ++ strOfNums (List.map (fun (n : Nat) => (n : Int)) b)
  cases h2 : strOfNums (List.map (fun (n : Nat) => (n : Int)) a ++ List.map (fun (n : Nat) => (n : Int)) b)
  congr 1
  apply Array.ext'
  have e1 := congrArg (fun x : ByteArray => x.data.toList) h
  have e2 := congrArg (fun x : ByteArray => x.data.toList) h2
  simp only at e1 e2
  rw [← e1, ← e2]
  simp [strOfNums_data]

set_option maxHeartbeats 1000000 in
theorem apart_short (a b : ByteArray) (w : World) (hg : Globs w) (h1 : a.size ≤ 200) (h2 : b.size ≤ 200) :
    Calls Tryd.prog 5 #[.string a, .string b] w fun e w' => e = .returned (.bool true) ∧ Below w.heap.size w w' := by
  have HG := Sl.mk hg
  clear hg
  obtain ⟨c0, w1, hc0, HV1, HB1⟩ := conv_str a w
  have q1 : (((strOf (enc (bytes a))).toList == (strOf (enc (bytes b))).toList) == (a.toList == b.toList)) = true := by
    rw [beq_bytes2, beq_bytes2, bytes_enc _ (bytes_small a), bytes_enc _ (bytes_small b)]
    by_cases e : bytes a = bytes b
    · simp [e]
    · have : ¬ enc (bytes a) = enc (bytes b) := fun h => e (enc_inj (bytes_small a) (bytes_small b) h)
      simp [e, this]
  have s1 : (strOf (enc (bytes a))).size ≤ 300 := by rw [strOf_size, enc_length, bytes_length]; omega
  have s2 : (strOf (enc (bytes b))).size ≤ 300 := by rw [strOf_size, enc_length, bytes_length]; omega
  by_cases h3 : a.size % 3 = 0
  · have q2 : ((a.size : Int) % 3 != 0) = false := by simp; omega
    have q3 : ((strOf (enc (bytes (a ++ b)))).toList == (strOf (enc (bytes a)) ++ strOf (enc (bytes b))).toList) = true := by
      rw [strOf_append, bytes_append, enc_append _ _ (by rw [bytes_length]; exact h3)]; simp
    clear h3
    go_enter Tryd.func5, Tryd.ntmps5
    go_wp2_with fail
    refine (putS w a _ _ HV1.out HB1.out HG.out (by omega)).mono ?_
    rintro e w2 ⟨rfl, HX2, HB2⟩
    obtain ⟨c3, w3, hc3, HV3, HX3⟩ := conv_str b w2
    have HB3 : Sl (Below w.heap.size w w3) := ⟨HB2.out.trans (HX3.out.mono HB2.out.size)⟩
    clear hc0
    go_wp2_with fail
    refine (putS w b _ _ HV3.out HB3.out HG.out (by omega)).mono ?_
    rintro e w4 ⟨rfl, HX4, HB4⟩
    clear hc3
    go_wp2_with fail
    refine (awake_ex w _ HB4.out HG.out).mono ?_
    rintro e w5 ⟨rfl, HX5, HB5⟩
    obtain ⟨c6, w6, hc6, HV6, HX6⟩ := conv_str (a ++ b) w5
    have HB6 : Sl (Below w.heap.size w w6) := ⟨HB5.out.trans (HX6.out.mono HB5.out.size)⟩
    have hsz : (a ++ b).size ≤ 400 := by rw [ByteArray.size_append]; omega
    rw [ByteArray.size_append] at hc6 HV6
    go_wp2_with fail
    refine (putS w (a ++ b) _ _ HV6.out HB6.out HG.out (by omega)).mono ?_
    rintro e w7 ⟨rfl, HX7, HB7⟩
    clear hc6
    go_wp2
    go_ret
    exact ⟨rfl, HB7.out⟩
  · have q2 : ((a.size : Int) % 3 != 0) = true := by simp; omega
    clear h3
    go_enter Tryd.func5, Tryd.ntmps5
    go_wp2_with fail
    refine (putS w a _ _ HV1.out HB1.out HG.out (by omega)).mono ?_
    rintro e w2 ⟨rfl, HX2, HB2⟩
    obtain ⟨c3, w3, hc3, HV3, HX3⟩ := conv_str b w2
    have HB3 : Sl (Below w.heap.size w w3) := ⟨HB2.out.trans (HX3.out.mono HB2.out.size)⟩
    clear hc0
    go_wp2_with fail
    refine (putS w b _ _ HV3.out HB3.out HG.out (by omega)).mono ?_
    rintro e w4 ⟨rfl, HX4, HB4⟩
    clear hc3
    go_wp2_with fail
    refine (awake_ex w _ HB4.out HG.out).mono ?_
    rintro e w5 ⟨rfl, HX5, HB5⟩
    go_wp2
    go_ret
    exact ⟨rfl, HB5.out⟩

theorem apart_walk (a b : ByteArray) (w : World) (hg : Globs w) (ha : a.size ≤ maxLen) (hb : b.size ≤ maxLen) :
    Calls Tryd.prog 5 #[.string a, .string b] w fun e w' => e = .returned (.bool true) ∧ Below w.heap.size w w' := by
  by_cases h : 200 < a.size ∨ 200 < b.size
  · exact apart_long a b w hg h ha hb
  · exact apart_short a b w hg (by omega) (by omega)
end Go.Proofs.YtdcgddoginaioaaDoor
