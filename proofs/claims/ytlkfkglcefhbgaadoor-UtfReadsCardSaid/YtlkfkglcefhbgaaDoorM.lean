/- UtfLetter, the walk: whatever number and byte are handed over, the law's Go text returns true, and nothing that was in memory changes. Conditions: the table of package utf is as its text lays it; the byte is a number of its kind. -/
import Derived.Test.YtlkfkglcefhbgaaDoorL
namespace Go.Proofs.YtlkfkglcefhbgaaDoor
open Go.RowKit

theorem letter_no (n : Int) (b : Nat) (w : World) (hg : Globs w) (h : putL n = none) :
    Calls Tryd.prog 4 #[.int .i64 n, .int .u8 b] w fun e w' => e = .returned (.bool true) ∧ Below w.heap.size w w' := by
  have HG := Sl.mk hg
  have HZ := Sl.mk h
  clear hg h
  go_enter Tryd.func4, Tryd.ntmps4
  go_wp2_with fail
  refine (putNo_ex w _ n (Below.refl _ _) HZ.out).mono ?_
  rintro e w1 ⟨rfl, HB1⟩
  go_wp2_with fail
  refine (awake_ex w _ HB1.out HG.out).mono ?_
  rintro e w2 ⟨rfl, HX2, HB2⟩
  go_wp2
  go_ret
  exact ⟨rfl, HB2.out⟩

theorem take_more {l : List Nat} {k : Nat} (h : k < l.length) : l.take (k + 1) = l.take k ++ [l.getD k 0] := by
  rw [List.take_succ_eq_append_getElem h]; simp [List.getD, List.getElem?_eq_getElem h]
theorem extract_one {x : ByteArray} {l : List Nat} {k : Nat} (hx : bytes x = l) (h : k < l.length) : bytes (x.extract k (k + 1)) = [l.getD k 0] := by
  rw [bytes_extract, hx, take_more h, List.drop_append_of_le_length (by rw [List.length_take]; omega), List.drop_of_length_le (by rw [List.length_take]; omega)]
  rfl
theorem rt_one {n : Int} {l : List Nat} (h : putL n = some l) (k : Nat) (hk : k < l.length) : rt (en (some s0) (l.take k)) [l.getD k 0] = 1 := by
  have h1 := rt_append (some s0) (l.take k) [l.getD k 0]
  rw [← take_more hk] at h1
  have e1 : rt (some s0) (l.take (k + 1)) = k + 1 := by
    have := (uend_iff (l.take (k + 1)) s0).1 (uend_take (put_run n l h).1 _)
    rw [List.length_take, Nat.min_eq_left (by omega)] at this; exact this
  have e2 : rt (some s0) (l.take k) = k := by
    have := (uend_iff (l.take k) s0).1 (uend_take (put_run n l h).1 _)
    rw [List.length_take, Nat.min_eq_left (by omega)] at this; exact this
  omega
theorem en_one {n : Int} {l : List Nat} (h : putL n = some l) (k : Nat) (hk : k < l.length) : (en (some s0) (l.take (k + 1))).isSome = true ∧ decide (en (some s0) (l.take (k + 1)) = some s0) = decide (k + 1 = l.length) := by
  obtain ⟨h1, h2⟩ := (put_run n l h).2.2 k hk
  exact ⟨h1, decide_eq_decide.2 h2⟩
theorem rt_single (b : Nat) : (rt (some s0) [b] = 1 ∧ (en (some s0) [b]).isSome = true) ∨ (rt (some s0) [b] = 0 ∧ (en (some s0) [b]).isSome = false) := by
  show (uright s0 [b] = 1 ∧ (uend s0 [b]).isSome = true) ∨ (uright s0 [b] = 0 ∧ (uend s0 [b]).isSome = false)
  simp only [uright, uend]
  cases ustep s0 b with
  | none => exact .inr ⟨rfl, rfl⟩
  | some t => exact .inl ⟨rfl, rfl⟩

/-- What the loop holds to. -/
def LE (w : World) (b : Nat) (l : List Nat) (i : Value) (wr : World) : Prop :=
  ∃ k : Nat, k ≤ l.length ∧ i = .int .i64 k ∧ Sl (ChkO wr b (en (some s0) (l.take k))) ∧ Below w.heap.size w wr

set_option maxHeartbeats 1000000 in
set_option maxRecDepth 100000 in
theorem letter_yes (n : Int) (b : Nat) (l : List Nat) (w : World) (hg : Globs w) (h : putL n = some l) (_hb : b < 256) :
    Calls Tryd.prog 4 #[.int .i64 n, .int .u8 b] w fun e w' => e = .returned (.bool true) ∧ Below w.heap.size w w' := by
  have HG := Sl.mk hg
  have HZ := Sl.mk h
  obtain ⟨x, hx⟩ : ∃ x, x = strOf l := ⟨_, rfl⟩
  have HXS := Sl.mk hx
  have HBX : Sl (bytes x = l) := ⟨by rw [hx]; exact bytes_strOf _ (put_small h)⟩
  obtain ⟨m, hm⟩ : ∃ m, l.length = m := ⟨_, rfl⟩
  have hsx : x.size = m := by rw [hx, strOf_size, hm]
  have HM := Sl.mk hm
  have hm4 : m ≤ 4 := by rw [← hm]; exact put_size h
  clear hg h hx hm
  go_enter Tryd.func4, Tryd.ntmps4
  go_wp2_with fail
  refine (put_ex w _ n l (Below.refl _ _) HZ.out).mono ?_
  rw [← HXS.out]
  rintro e w1 ⟨rfl, HB1⟩
  go_wp2_with fail
  refine (new_ex w _ HB1.out).mono ?_
  rintro e w2 ⟨rfl, HC2, HX2, HB2⟩
  go_wp2_with fail
  refine (awake_ex w _ HB2.out HG.out).mono ?_
  rintro e w3 ⟨rfl, HX3, HB3⟩
  have HC3 : Sl (ChkO w3 w1.heap.size (some s0)) := ⟨chk_below HC2.out HX3.out⟩
  have HW1 : Sl (w.heap.size ≤ w1.heap.size) := ⟨HB1.out.size⟩
  clear HC2 HX2 HB2 HX3 HB1
  generalize w1.heap.size = g at *
  go_wp2
  go_loopw [8] (fun i wr => LE w g l i wr) (fun i _ => m - (intOf i).toNat)
  case atStart => exact ⟨0, Nat.zero_le _, rfl, HC3, HB3.out⟩
  case round =>
    obtain ⟨k, hk, rfl, HC, hrel⟩ := hrel
    have HR := Sl.mk hrel
    have hkm : k ≤ m := by rw [← HM.out]; exact hk
    clear hrel
    by_cases hlt : k < m
    · have HLT : Sl (k < l.length) := ⟨by rw [HM.out]; exact hlt⟩
      have HEX : Sl (bytes (x.extract k (k + 1)) = [l.getD k 0]) := ⟨extract_one HBX.out HLT.out⟩
      have ES : (x.extract k (k + 1)).size = 1 := by rw [ByteArray.size_extract]; omega
      have H1 : Sl (rt (en (some s0) (l.take k)) (bytes (x.extract k (k + 1))) = 1) := ⟨by rw [HEX.out]; exact rt_one HZ.out k HLT.out⟩
      have HE : Sl (en (en (some s0) (l.take k)) (bytes (x.extract k (k + 1))) = en (some s0) (l.take (k + 1))) := ⟨by rw [HEX.out, take_more HLT.out, en_append]⟩
      have HP : Sl ((en (some s0) (l.take (k + 1))).isSome = true) := ⟨(en_one HZ.out k HLT.out).1⟩
      have HL : Sl ((bytes (x.extract k (k + 1))).length ≤ 100000) := ⟨by rw [HEX.out]; simp⟩
      obtain ⟨c4, w4, hc4, HV4, HX4⟩ := conv_str (x.extract k (k + 1)) wr
      have HB4 : Sl (Below w.heap.size w w4) := ⟨HR.out.trans (HX4.out.mono HR.out.size)⟩
      have HC4 : Sl (ChkO w4 g (en (some s0) (l.take k))) := ⟨chk_below HC.out HX4.out⟩
      rw [ES] at hc4 HV4
      by_cases hlast : k + 1 = m
      · have HQ : Sl (decide (en (some s0) (l.take (k + 1)) = some s0) = true) := ⟨by rw [(en_one HZ.out k HLT.out).2, HM.out]; exact decide_eq_true hlast⟩
        have hl1 : ((k : Int) + 1 == (m : Int)) = true := by simp; omega
        have HLA := Sl.mk hlast
        clear hlast
        go_wp2_with fail
        refine (feed_ex w _ g _ (bytes (x.extract k (k + 1))) _ 1 H1.out HW1.out HB4.out HG.out HC4.out (okO0.en _) (HV4.out.offs (chk_lt HC.out)) HL.out).mono ?_
        rw [HE.out]
        rintro e w5 ⟨rfl, HC5, HX5, HB5⟩
        clear hc4
        go_wp2_with fail
        refine (right_ex g _ _ true HC5.out HP.out).mono ?_
        rintro e w5' ⟨rfl, rfl⟩
        go_wp2_with fail
        refine (whole_ex g _ _ true HC5.out (okO0.en _) HQ.out).mono ?_
        rintro e w5' ⟨rfl, rfl⟩
        go_wp2
        go_roundw
        case rel => exact ⟨k + 1, HLT.out, by go_num, HC5, HB5.out⟩
        case measure => simp [intOf]; omega
      · have HQ : Sl (decide (en (some s0) (l.take (k + 1)) = some s0) = false) := ⟨by rw [(en_one HZ.out k HLT.out).2, HM.out]; exact decide_eq_false hlast⟩
        have hl1 : ((k : Int) + 1 == (m : Int)) = false := by simp; omega
        have HLA := Sl.mk hlast
        clear hlast
        go_wp2_with fail
        refine (feed_ex w _ g _ (bytes (x.extract k (k + 1))) _ 1 H1.out HW1.out HB4.out HG.out HC4.out (okO0.en _) (HV4.out.offs (chk_lt HC.out)) HL.out).mono ?_
        rw [HE.out]
        rintro e w5 ⟨rfl, HC5, HX5, HB5⟩
        clear hc4
        go_wp2_with fail
        refine (right_ex g _ _ true HC5.out HP.out).mono ?_
        rintro e w5' ⟨rfl, rfl⟩
        go_wp2_with fail
        refine (whole_ex g _ _ false HC5.out (okO0.en _) HQ.out).mono ?_
        rintro e w5' ⟨rfl, rfl⟩
        go_wp2
        go_roundw
        case rel => exact ⟨k + 1, HLT.out, by go_num, HC5, HB5.out⟩
        case measure => simp [intOf]; omega
    · have hge : ¬ (k : Int) < (m : Int) := by omega
      have HC' : Sl (ChkO wr g (some s0)) := ⟨by
        have hc := HC.out
        rw [List.take_of_length_le (by rw [HM.out]; omega), show en (some s0) l = some s0 from (put_run n l HZ.out).1] at hc
        exact hc⟩
      have HVX : Sl (vb (bytes x) = true) := ⟨by rw [HBX.out]; exact put_vb HZ.out⟩
      have HCX : Sl (cb (bytes x) = 1) := ⟨by rw [HBX.out]; exact put_cb HZ.out⟩
      have HLX : Sl ((bytes x).length ≤ 100000) := ⟨by rw [bytes_length]; omega⟩
      obtain ⟨c4, w4, hc4, HV4, HX4⟩ := conv_str x wr
      have HB4 : Sl (Below w.heap.size w w4) := ⟨HR.out.trans (HX4.out.mono HR.out.size)⟩
      rw [hsx] at hc4 HV4
      go_wp2_with fail
      refine (count_ex w _ (bytes x) _ 1 true HCX.out HVX.out HB4.out HG.out HV4.out HLX.out).mono ?_
      rintro e w5 ⟨rfl, HX5, HB5⟩
      have HC5 : Sl (ChkO w5 g (some s0)) := ⟨chk_below (chk_below HC'.out HX4.out) HX5.out⟩
      clear hc4
      rcases rt_single b with hb | hb
      · have HR1 := Sl.mk hb
        clear hb
        go_wp2_with fail
        refine (feed_ex w _ g (some s0) [b] _ 1 HR1.out.1 HW1.out (HB5.out.alloc HB5.out.size _) HG.out (chk_below HC5.out ((Below.refl _ _).alloc (Nat.le_refl _) _)) okO0 ((src_new _ [b] _ _ _ rfl).offs (chk_lt HC5.out)) (by simp)).mono ?_
        rintro e w6 ⟨rfl, HC6, HX6, HB6⟩
        go_wp2_with fail
        refine (right_ex g _ _ true HC6.out HR1.out.2).mono ?_
        rintro e w6' ⟨rfl, rfl⟩
        go_wp2
        go_ret
        exact ⟨by first | rfl | kernel_rfl, HB6.out⟩
      · have HR1 := Sl.mk hb
        clear hb
        go_wp2_with fail
        refine (feed_ex w _ g (some s0) [b] _ 0 HR1.out.1 HW1.out (HB5.out.alloc HB5.out.size _) HG.out (chk_below HC5.out ((Below.refl _ _).alloc (Nat.le_refl _) _)) okO0 ((src_new _ [b] _ _ _ rfl).offs (chk_lt HC5.out)) (by simp)).mono ?_
        rintro e w6 ⟨rfl, HC6, HX6, HB6⟩
        go_wp2_with fail
        refine (right_ex g _ _ false HC6.out HR1.out.2).mono ?_
        rintro e w6' ⟨rfl, rfl⟩
        go_wp2
        go_ret
        exact ⟨by first | rfl | kernel_rfl, HB6.out⟩
theorem letter_walk (n : Int) (b : Nat) (w : World) (hg : Globs w) (hb : b < 256) :
    Calls Tryd.prog 4 #[.int .i64 n, .int .u8 b] w fun e w' => e = .returned (.bool true) ∧ Below w.heap.size w w' := by
  cases h : putL n with
  | none => exact letter_no n b w hg h
  | some l => exact letter_yes n b l w hg h hb
end Go.Proofs.YtlkfkglcefhbgaaDoor
