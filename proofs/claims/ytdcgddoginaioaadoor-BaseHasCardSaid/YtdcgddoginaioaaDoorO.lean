/- BaseHas, the walk: whatever string is handed over, the law's Go text returns true, and nothing that was in memory changes. Conditions: the table of package base is as its text lays it; the string fits in memory. -/
import Derived.Test.YtdcgddoginaioaaDoorM
namespace Go.Proofs.YtdcgddoginaioaaDoor
open Go.RowKit

/-- How many numbers below j - 1 were the right one. -/
def cnt (r : Option (List Nat)) (j : Nat) : Nat := match r with | none => 0 | some b => if b.length + 1 < j then 1 else 0
theorem cnt_yes (l : List Nat) (j : Nat) (h : hasB l ((j : Int) - 1) = true) : cnt (rd l) (j + 1) = cnt (rd l) j + 1 := by
  unfold hasB at h
  unfold cnt
  cases hr : rd l with
  | none => rw [hr] at h; cases h
  | some b =>
    rw [hr] at h
    simp only [decide_eq_true_eq] at h
    simp only
    rw [if_pos (by omega), if_neg (by omega)]
theorem cnt_no (l : List Nat) (j : Nat) (h : hasB l ((j : Int) - 1) = false) : cnt (rd l) (j + 1) = cnt (rd l) j := by
  unfold hasB at h
  unfold cnt
  cases hr : rd l with
  | none => rfl
  | some b =>
    rw [hr] at h
    simp only [decide_eq_false_iff_not] at h
    simp only
    by_cases hb : b.length + 1 < j
    · rw [if_pos (by omega), if_pos hb]
    · rw [if_neg (by omega), if_neg hb]
theorem cnt_le (r : Option (List Nat)) (j : Nat) : cnt r j ≤ 1 := by
  unfold cnt
  cases r with
  | none => exact Nat.zero_le _
  | some b => simp only; split <;> omega
theorem cnt_end (s : ByteArray) (b : List Nat) (j : Nat) (hr : rd (bytes s) = some b) (hj : 3 * s.size / 4 + 2 < j) : cnt (rd (bytes s)) j = 1 := by
  rw [hr]; unfold cnt; simp only
  have h := (enc_of_rd hr).1
  have hl : s.size = 4 * ((b.length + 2) / 3) := by rw [← bytes_length, ← h, enc_length]
  rw [if_pos (by omega)]
/-- What the loop holds to. -/
def HS (w : World) (s : ByteArray) (n k : Value) (wr : World) : Prop := ∃ (j c : Nat), j ≤ 3 * s.size / 4 + 3 ∧ k = .int .i64 ((j : Int) - 1) ∧ n = .int .i64 c ∧ Sl (c = cnt (rd (bytes s)) j) ∧ c ≤ 1 ∧ Below w.heap.size w wr

set_option maxHeartbeats 400000 in
theorem hasL_long (s : ByteArray) (w : World) (hg : Globs w) (h : 400 < s.size) (hs : s.size ≤ maxLen) :
    Calls Tryd.prog 9 #[.string s] w fun e w' => e = .returned (.bool true) ∧ Below w.heap.size w w' := by
  unfold maxLen at hs
  have HG := Sl.mk hg
  clear hg
  go_enter Tryd.func9, Tryd.ntmps9
  go_wp2_with fail
  refine (awake_ex w _ (Below.refl _ _) HG.out).mono ?_
  rintro e w1 ⟨rfl, HX1, HB1⟩
  go_wp2_with fail
  refine (awake_ex w _ HB1.out HG.out).mono ?_
  rintro e w2 ⟨rfl, HX2, HB2⟩
  go_wp2
  go_ret
  exact ⟨rfl, HB2.out⟩

set_option maxHeartbeats 1000000 in
theorem hasL_short (s : ByteArray) (w : World) (hg : Globs w) (h : s.size ≤ 400) :
    Calls Tryd.prog 9 #[.string s] w fun e w' => e = .returned (.bool true) ∧ Below w.heap.size w w' := by
  have HG := Sl.mk hg
  clear hg
  go_enter Tryd.func9, Tryd.ntmps9
  go_wp2_with fail
  refine (awake_ex w _ (Below.refl _ _) HG.out).mono ?_
  rintro e w1 ⟨rfl, HX1, HB1⟩
  go_wp2
  go_loopw [3, 4] (fun n k wr => HS w s n k wr) (fun _ k _ => (3 * (s.size : Int) / 4 + 2 - intOf k).toNat)
  case atStart => exact ⟨0, 0, Nat.zero_le _, rfl, rfl, ⟨by unfold cnt; cases rd (bytes s) <;> rfl⟩, by decide, HB1.out⟩
  case round =>
    obtain ⟨j, c, hj, rfl, rfl, HC, hc1, hrel⟩ := hrel
    have HR := Sl.mk hrel
    clear hrel
    by_cases hlt : (j : Int) - 1 ≤ 3 * (s.size : Int) / 4 + 1
    · cases hh : hasB (bytes s) ((j : Int) - 1) with
      | true =>
        have HH := Sl.mk hh
        have HC1 : Sl (c + 1 = cnt (rd (bytes s)) (j + 1)) := ⟨by rw [cnt_yes _ _ hh, HC.out]⟩
        have hc2 : c + 1 ≤ 1 := by rw [HC1.out]; exact cnt_le _ _
        clear hh
        go_wp2_with fail
        refine (hasX w s ((j : Int) - 1) true _ HR.out (by omega) HH.out).mono ?_
        rintro e w2 ⟨rfl, HX2, HB2⟩
        go_wp2
        go_roundw
        case rel => exact ⟨j + 1, c + 1, by omega, by go_num, by go_num, HC1, hc2, HB2.out⟩
        case measure => simp [intOf]; omega
      | false =>
        have HH := Sl.mk hh
        have HC1 : Sl (c = cnt (rd (bytes s)) (j + 1)) := ⟨by rw [cnt_no _ _ hh, HC.out]⟩
        clear hh
        go_wp2_with fail
        refine (hasX w s ((j : Int) - 1) false _ HR.out (by omega) HH.out).mono ?_
        rintro e w2 ⟨rfl, HX2, HB2⟩
        go_wp2
        go_roundw
        case rel => exact ⟨j + 1, c, by omega, by go_num, rfl, HC1, hc1, HB2.out⟩
        case measure => simp [intOf]; omega
    · cases hr : rd (bytes s) with
      | none =>
        have HRD := Sl.mk hr
        obtain rfl : c = 0 := by rw [HC.out, hr]; rfl
        clear hr HC
        go_wp2_with fail
        refine (getNoX w s _ HR.out (by omega) HRD.out).mono ?_
        rintro e w2 ⟨rfl, HX2, HB2⟩
        go_wp2
        go_ret
        exact ⟨rfl, HB2.out⟩
      | some b =>
        have HRD := Sl.mk hr
        obtain rfl : c = 1 := by rw [HC.out, cnt_end s b j hr (by omega)]
        clear hr HC
        go_wp2_with fail
        refine (getYesX w s b _ HR.out (by omega) HRD.out).mono ?_
        rintro e w2 ⟨v, rfl, HO2, HX2, HB2⟩
        go_wp2
        go_ret
        exact ⟨rfl, HB2.out⟩

theorem hasL_walk (s : ByteArray) (w : World) (hg : Globs w) (hs : s.size ≤ maxLen) :
    Calls Tryd.prog 9 #[.string s] w fun e w' => e = .returned (.bool true) ∧ Below w.heap.size w w' := by
  by_cases h : 400 < s.size
  · exact hasL_long s w hg h hs
  · exact hasL_short s w hg (by omega)
end Go.Proofs.YtdcgddoginaioaaDoor
