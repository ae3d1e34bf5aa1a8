/- MsgBound's walk. -/
import Derived.Test.YtpbfabcjkhlanaaDoorMJ
set_option maxRecDepth 100000
namespace Go.Proofs.YtpbfabcjkhlanaaDoor.Msg
open Go.RowKit UtfPlain MsgPlain Fra Utf Cls
open FramePlain (Fr Fr0 form chk ctl zero4 form_cases)
open ClosePlain (getC)

set_option maxHeartbeats 4000000 in
theorem bound_walk (n : Nat) (a b : ByteArray) (w : World) (hg : Utf.Globs w) (hn : n < 256) : Calls Tryd.prog 6 #[.int .u8 (n : Int), .string a, .string b] w fun e w' => e = .returned (.bool true) ∧ Below w.heap.size w w' := by
  have HG := Sl.mk hg
  obtain ⟨M, hM⟩ : ∃ M : Int, 1 + (n : Int) = M := ⟨_, rfl⟩
  have N0 := new_yes M w w (Below.refl _ _) (by omega)
  have z0 : IntKind.i64.wrap (n : Int) = (n : Int) := by rw [IntKind.wrap_i64]; omega
  have z1 : IntKind.i64.wrap (1 + (n : Int)) = M := by rw [IntKind.wrap_i64]; omega
  have z2 : wrap64 (1 + (n : Int)) = M := by unfold wrap64; omega
  have HI := ev_info (cs := #[.int .i64 0, .int .i64 0, .string { data := #[] }]) rfl
  have hM9 : Sl (M ≤ 256 ∧ 1 ≤ M) := ⟨by omega⟩
  clear hg hM hn
  by_cases ha : a.size > 300
  · have hq : ((a.size : Int) > 300) = True := eq_true (by omega)
    clear ha
    go_enter Tryd.func6, Tryd.ntmps6
    go_wp2_with fail
    refine N0.mono ?_
    rintro e w1 ⟨rfl, HS1, _⟩
    clear N0
    have A3 := awake_any w1 (HG.out.below HS1.out.m.L HG.out.size)
    go_wp2_with fail
    refine A3.mono ?_
    rintro e w3 ⟨rfl, HB3⟩
    have HS3 := Sl.mk (HS1.out.below HB3.out)
    clear A3 HS1 HB3
    have A4 := awake_any w3 (HG.out.below HS3.out.m.L HG.out.size)
    go_wp2_with fail
    refine A4.mono ?_
    rintro e w4 ⟨rfl, HB4⟩
    have HL := Sl.mk (HS3.out.m.L.trans (HB4.out.mono HS3.out.m.L.size))
    go_wp2
    go_ret
    exact ⟨rfl, HL.out⟩
  by_cases hb : b.size > 300
  · have hqa : ((a.size : Int) > 300) = False := eq_false (by omega)
    have hq : ((b.size : Int) > 300) = True := eq_true (by omega)
    clear ha hb
    go_enter Tryd.func6, Tryd.ntmps6
    go_wp2_with fail
    refine N0.mono ?_
    rintro e w1 ⟨rfl, HS1, _⟩
    clear N0
    have A3 := awake_any w1 (HG.out.below HS1.out.m.L HG.out.size)
    go_wp2_with fail
    refine A3.mono ?_
    rintro e w3 ⟨rfl, HB3⟩
    have HS3 := Sl.mk (HS1.out.below HB3.out)
    clear A3 HS1 HB3
    have A4 := awake_any w3 (HG.out.below HS3.out.m.L HG.out.size)
    go_wp2_with fail
    refine A4.mono ?_
    rintro e w4 ⟨rfl, HB4⟩
    have HL := Sl.mk (HS3.out.m.L.trans (HB4.out.mono HS3.out.m.L.size))
    go_wp2
    go_ret
    exact ⟨rfl, HL.out⟩
  have hqa : ((a.size : Int) > 300) = False := eq_false (by omega)
  have hqb : ((b.size : Int) > 300) = False := eq_false (by omega)
  have HA : Sl (a.size ≤ 100000 ∧ b.size ≤ 100000) := ⟨by omega, by omega⟩
  have R1 : MsgPlain.take M M0 (⟨false, 2, false, [0, 0, 0, 0], bytes a⟩ : Fr) = if M < (a.size : Int) then (bad 121, none) else (⟨0, false, true, 2, bytes a⟩, none) := by
    rw [take_m0]
    refine (step_first M (.inr rfl) false _).trans ?_
    rw [more_bin, bytes_length, if_neg (show ¬ (false = true) by decide)]
  by_cases hla : M < (a.size : Int)
  · rw [if_pos hla] at R1
    have R1s := Sl.mk R1
    have hl1 : ((a.size : Int) > M) = True := eq_true hla
    clear ha hb hla R1
    go_enter Tryd.func6, Tryd.ntmps6
    go_wp2_with fail
    refine N0.mono ?_
    rintro e w1 ⟨rfl, HS1, _⟩
    clear N0
    have A3 := awake_any w1 (HG.out.below HS1.out.m.L HG.out.size)
    go_wp2_with fail
    refine A3.mono ?_
    rintro e w3 ⟨rfl, HB3⟩
    have HS3 := Sl.mk (HS1.out.below HB3.out)
    clear A3 HS1 HB3
    have T1 := take_ex HS3.out HG.out false 2 false 0 0 0 0 a small0 HA.out.1 _ rfl _ none R1s.out 0 0 { data := #[] } rfl false rfl 121 rfl
    go_wp2_with fail
    refine T1.mono ?_
    rintro e w4 ⟨v4, p4, rfl, HS4, _⟩
    clear T1
    obtain ⟨V4, hV4, HBV4, HEV4⟩ := laid_ev w4 #[.int .i64 0, .int .i64 0, .string { data := #[] }]
    go_upto_region 5 with (refine wpList_store_row rfl 30 (.tmp 9) (.tmp 48) rfl w4.heap.size #[.int .i64 0, .int .i64 0, .string { data := #[] }] rfl rfl 30 #[.int .i64 0, .int .i64 0, .string { data := #[] }] (ev_new w4) HI rfl (ev_all _ _ _) ?_)
    (try rw [hV4])
    clear hV4
    have HS5 := Sl.mk (HS4.out.below HBV4.out)
    clear HS3 HS4 HBV4 HEV4
    have PM := part_any HS5.out.m 0 rfl
    go_wp2_with fail
    refine PM.mono ?_
    rintro e w5 ⟨rfl, rfl⟩
    clear PM
    go_wp2
    go_ret
    exact ⟨rfl, HS5.out.m.L⟩
  · rw [if_neg hla] at R1
    have R1s := Sl.mk R1
    have hl1 : ((a.size : Int) > M) = False := eq_false hla
    obtain ⟨S, hS⟩ : ∃ S, a.size + b.size = S := ⟨_, rfl⟩
    have y1 : IntKind.i64.wrap ((a.size : Int) + (b.size : Int)) = (S : Int) := by rw [IntKind.wrap_i64]; omega
    have y2 : wrap64 ((a.size : Int) + (b.size : Int)) = (S : Int) := by unfold wrap64; omega
    have HSUM : Sl (a.size + b.size ≤ 600) := ⟨by omega⟩
    have R2 : MsgPlain.take M ⟨0, false, true, 2, bytes a⟩ (⟨true, 0, false, [0, 0, 0, 0], bytes b⟩ : Fr) = if M < (S : Int) then (bad 121, none) else (M0, some ⟨2, 0, bytes (a ++ b)⟩) := by
      rw [take_mid]
      refine (step_more M 2 true _ _).trans ?_
      rw [more_bin, ← bytes_append, bytes_length, ByteArray.size_append, hS, if_pos (show true = true from rfl)]
    clear ha hb hla R1 hS
    have hlen : Sl ((bytes a).length = a.size) := ⟨bytes_length a⟩
    by_cases hlb : M < (S : Int)
    · rw [if_pos hlb] at R2
      have R2s := Sl.mk R2
      have hl2 : ((S : Int) > M) = True := eq_true hlb
      clear hlb R2
      go_enter Tryd.func6, Tryd.ntmps6
      go_wp2_with fail
      refine N0.mono ?_
      rintro e w1 ⟨rfl, HS1, _⟩
      clear N0
      have A3 := awake_any w1 (HG.out.below HS1.out.m.L HG.out.size)
      go_wp2_with fail
      refine A3.mono ?_
      rintro e w3 ⟨rfl, HB3⟩
      have HS3 := Sl.mk (HS1.out.below HB3.out)
      clear A3 HS1 HB3
      have T1 := take_ex HS3.out HG.out false 2 false 0 0 0 0 a small0 HA.out.1 _ rfl _ none R1s.out 0 0 { data := #[] } rfl false rfl 0 rfl
      go_wp2_with fail
      refine T1.mono ?_
      rintro e w4 ⟨v4, p4, rfl, HS4, _⟩
      clear T1
      obtain ⟨V4, hV4, HBV4, HEV4⟩ := laid_ev w4 #[.int .i64 0, .int .i64 0, .string { data := #[] }]
      go_upto_region 5 with (refine wpList_store_row rfl 30 (.tmp 9) (.tmp 48) rfl w4.heap.size #[.int .i64 0, .int .i64 0, .string { data := #[] }] rfl rfl 30 #[.int .i64 0, .int .i64 0, .string { data := #[] }] (ev_new w4) HI rfl (ev_all _ _ _) ?_)
      (try rw [hV4])
      clear hV4
      have HS5 := Sl.mk (HS4.out.below HBV4.out)
      clear HS3 HS4 HBV4 HEV4
      have PM := part_any HS5.out.m a.size hlen.out
      go_wp2_with fail
      refine PM.mono ?_
      rintro e w5 ⟨rfl, rfl⟩
      clear PM
      have T2 := take_ex HS5.out HG.out true 0 false 0 0 0 0 b small0 HA.out.2 _ rfl _ none R2s.out 0 0 { data := #[] } rfl false rfl 121 rfl
      go_wp2_with fail
      refine T2.mono ?_
      rintro e w6 ⟨v6, p6, rfl, HS6, _⟩
      clear T2
      obtain ⟨V6, hV6, HBV6, HEV6⟩ := laid_ev w6 #[.int .i64 0, .int .i64 0, .string { data := #[] }]
      go_upto_region 10 with (refine wpList_store_row rfl 30 (.tmp 12) (.tmp 85) rfl w6.heap.size #[.int .i64 0, .int .i64 0, .string { data := #[] }] rfl rfl 30 #[.int .i64 0, .int .i64 0, .string { data := #[] }] (ev_new w6) HI rfl (ev_all _ _ _) ?_)
      (try rw [hV6])
      clear hV6
      have HS7 := Sl.mk (HS6.out.below HBV6.out)
      clear HS5 HS6 HBV6 HEV6
      go_wp2
      go_ret
      exact ⟨rfl, HS7.out.m.L⟩
    · rw [if_neg hlb] at R2
      have R2s := Sl.mk R2
      have hl2 : ((S : Int) > M) = False := eq_false hlb
      obtain ⟨T, hT⟩ : ∃ T, a ++ b = T := ⟨_, rfl⟩
      rw [hT] at R2s
      have hev := ev_same 2 0 T
      have HIT := ev_info (cs := #[.int .i64 2, .int .i64 0, .string T]) rfl
      clear hlb R2
      go_enter Tryd.func6, Tryd.ntmps6
      go_wp2_with fail
      refine N0.mono ?_
      rintro e w1 ⟨rfl, HS1, _⟩
      clear N0
      have A3 := awake_any w1 (HG.out.below HS1.out.m.L HG.out.size)
      go_wp2_with fail
      refine A3.mono ?_
      rintro e w3 ⟨rfl, HB3⟩
      have HS3 := Sl.mk (HS1.out.below HB3.out)
      clear A3 HS1 HB3
      have T1 := take_ex HS3.out HG.out false 2 false 0 0 0 0 a small0 HA.out.1 _ rfl _ none R1s.out 0 0 { data := #[] } rfl false rfl 0 rfl
      go_wp2_with fail
      refine T1.mono ?_
      rintro e w4 ⟨v4, p4, rfl, HS4, _⟩
      clear T1
      obtain ⟨V4, hV4, HBV4, HEV4⟩ := laid_ev w4 #[.int .i64 0, .int .i64 0, .string { data := #[] }]
      go_upto_region 5 with (refine wpList_store_row rfl 30 (.tmp 9) (.tmp 48) rfl w4.heap.size #[.int .i64 0, .int .i64 0, .string { data := #[] }] rfl rfl 30 #[.int .i64 0, .int .i64 0, .string { data := #[] }] (ev_new w4) HI rfl (ev_all _ _ _) ?_)
      (try rw [hV4])
      clear hV4
      have HS5 := Sl.mk (HS4.out.below HBV4.out)
      clear HS3 HS4 HBV4 HEV4
      have PM := part_any HS5.out.m a.size hlen.out
      go_wp2_with fail
      refine PM.mono ?_
      rintro e w5 ⟨rfl, rfl⟩
      clear PM
      have T2 := take_ex HS5.out HG.out true 0 false 0 0 0 0 b small0 HA.out.2 _ rfl _ (some ⟨2, 0, bytes T⟩) R2s.out 2 0 T (evO_some _ _ _) true rfl 0 rfl
      go_wp2_with fail
      refine T2.mono ?_
      rintro e w6 ⟨v6, p6, rfl, HS6, _⟩
      clear T2
      obtain ⟨V6, hV6, HBV6, HEV6⟩ := laid_ev w6 #[.int .i64 2, .int .i64 0, .string T]
      go_upto_region 10 with (refine wpList_store_row rfl 30 (.tmp 12) (.tmp 85) rfl w6.heap.size #[.int .i64 2, .int .i64 0, .string T] rfl rfl 30 #[.int .i64 0, .int .i64 0, .string { data := #[] }] (ev_new w6) HIT rfl (ev_all _ _ _) ?_)
      (try rw [hV6])
      clear hV6
      have HS7 := Sl.mk (HS6.out.below HBV6.out)
      obtain ⟨b0, b1, b2⟩ := ev_cells HEV6.out
      clear HS5 HS6 HBV6
      go_wp2
      · exfalso
        have h := HSUM.out
        omega
      · go_ret
        exact ⟨rfl, HS7.out.m.L⟩
end Go.Proofs.YtpbfabcjkhlanaaDoor.Msg
