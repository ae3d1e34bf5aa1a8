/- MsgOrder's walk. -/
import Derived.Test.YtpbfabcjkhlanaaDoorMJ
set_option maxRecDepth 100000
namespace Go.Proofs.YtpbfabcjkhlanaaDoor.Msg
open Go.RowKit UtfPlain MsgPlain Fra Utf Cls
open FramePlain (Fr Fr0 form chk ctl zero4 form_cases)
open ClosePlain (getC)

set_option maxHeartbeats 4000000 in
theorem order_walk (a b : ByteArray) (text : Bool) (w : World) (hg : Utf.Globs w) : Calls Tryd.prog 8 #[.string a, .string b, .bool text] w fun e w' => e = .returned (.bool true) ∧ Below w.heap.size w w' := by
  have HG := Sl.mk hg
  have N0 := new_yes 300 w w (Below.refl _ _) (by omega)
  have HI := ev_info (cs := #[.int .i64 0, .int .i64 0, .string { data := #[] }]) rfl
  clear hg
  by_cases ha : a.size > 100
  · have hq : ((a.size : Int) > 100) = True := eq_true (by omega)
    clear ha
    go_enter Tryd.func8, Tryd.ntmps8
    go_wp2_with fail
    refine N0.mono ?_
    rintro e w1 ⟨rfl, HS1, _⟩
    clear N0
    have N1 := new_yes 300 w w1 HS1.out.m.L (by omega)
    go_wp2_with fail
    refine N1.mono ?_
    rintro e w2 ⟨rfl, HS2, HB2⟩
    clear N1
    have HP2 := Sl.mk (Pair.new HS1.out HB2.out HS2.out)
    have A3 := awake_any w2 (HG.out.below HP2.out.one.m.L HG.out.size)
    go_wp2_with fail
    refine A3.mono ?_
    rintro e w3 ⟨rfl, HB3⟩
    have HP3 := Sl.mk (HP2.out.below HB3.out)
    clear A3 HS1 HS2 HB2 HB3 HP2
    have A4 := awake_any w3 (HG.out.below HP3.out.one.m.L HG.out.size)
    go_wp2_with fail
    refine A4.mono ?_
    rintro e w4 ⟨rfl, HB4⟩
    have HL := Sl.mk (HP3.out.one.m.L.trans (HB4.out.mono HP3.out.one.m.L.size))
    go_wp2
    go_ret
    exact ⟨rfl, HL.out⟩
  by_cases hb : b.size > 100
  · have hqa : ((a.size : Int) > 100) = False := eq_false (by omega)
    have hq : ((b.size : Int) > 100) = True := eq_true (by omega)
    clear ha hb
    go_enter Tryd.func8, Tryd.ntmps8
    go_wp2_with fail
    refine N0.mono ?_
    rintro e w1 ⟨rfl, HS1, _⟩
    clear N0
    have N1 := new_yes 300 w w1 HS1.out.m.L (by omega)
    go_wp2_with fail
    refine N1.mono ?_
    rintro e w2 ⟨rfl, HS2, HB2⟩
    clear N1
    have HP2 := Sl.mk (Pair.new HS1.out HB2.out HS2.out)
    have A3 := awake_any w2 (HG.out.below HP2.out.one.m.L HG.out.size)
    go_wp2_with fail
    refine A3.mono ?_
    rintro e w3 ⟨rfl, HB3⟩
    have HP3 := Sl.mk (HP2.out.below HB3.out)
    clear A3 HS1 HS2 HB2 HB3 HP2
    have A4 := awake_any w3 (HG.out.below HP3.out.one.m.L HG.out.size)
    go_wp2_with fail
    refine A4.mono ?_
    rintro e w4 ⟨rfl, HB4⟩
    have HL := Sl.mk (HP3.out.one.m.L.trans (HB4.out.mono HP3.out.one.m.L.size))
    go_wp2
    go_ret
    exact ⟨rfl, HL.out⟩
  have hqa : ((a.size : Int) > 100) = False := eq_false (by omega)
  have hqb : ((b.size : Int) > 100) = False := eq_false (by omega)
  have HA : Sl (a.size ≤ 100000 ∧ b.size ≤ 100000 ∧ a.size ≤ 100) := ⟨by omega, by omega, by omega⟩
  have R1 : Sl (MsgPlain.take 300 M0 (⟨text, 0, false, [0, 0, 0, 0], bytes a⟩ : Fr) = (bad 120, none)) := ⟨by rw [take_m0]; exact step_more_none 300 text _⟩
  have R2 : Sl (MsgPlain.take 300 M0 (⟨false, 2, false, [0, 0, 0, 0], bytes a⟩ : Fr) = (⟨0, false, true, 2, bytes a⟩, none)) := ⟨by
    rw [take_m0]
    refine (step_first 300 (.inr rfl) false _).trans ?_
    rw [more_bin, if_neg (by rw [bytes_length]; omega), if_neg (by decide)]⟩
  obtain ⟨op, hop⟩ : ∃ op : Int, (if text = true then 1 else 2) = op := ⟨_, rfl⟩
  have HOP : Sl (op = 1 ∨ op = 2) := ⟨by rw [← hop]; split <;> simp⟩
  have R3 : Sl (MsgPlain.take 300 ⟨0, false, true, 2, bytes a⟩ (⟨true, op, false, [0, 0, 0, 0], bytes b⟩ : Fr) = (bad 120, none)) := ⟨by rw [take_mid]; exact step_in 300 HOP.out 2 true _ _⟩
  clear ha hb
  go_enter Tryd.func8, Tryd.ntmps8
  go_wp2_with fail
  refine N0.mono ?_
  rintro e w1 ⟨rfl, HS1, _⟩
  clear N0
  have N1 := new_yes 300 w w1 HS1.out.m.L (by omega)
  go_wp2_with fail
  refine N1.mono ?_
  rintro e w2 ⟨rfl, HS2, HB2⟩
  clear N1
  have HP2 := Sl.mk (Pair.new HS1.out HB2.out HS2.out)
  have A3 := awake_any w2 (HG.out.below HP2.out.one.m.L HG.out.size)
  go_wp2_with fail
  refine A3.mono ?_
  rintro e w3 ⟨rfl, HB3⟩
  have HP3 := Sl.mk (HP2.out.below HB3.out)
  clear A3 HS1 HS2 HB2 HB3 HP2
  have T1 := take_ex HP3.out.one HG.out text 0 false 0 0 0 0 a small0 HA.out.1 _ rfl _ none R1.out 0 0 { data := #[] } rfl false rfl 120 rfl
  go_wp2_with fail
  refine T1.mono ?_
  rintro e w4 ⟨v4, p4, rfl, HS4, HX4⟩
  clear T1
  have HP4 := Sl.mk (HP3.out.go HS4.out HX4.out)
  clear HS4 HX4 HP3
  obtain ⟨V4, hV4, HBV4, HEV4⟩ := laid_ev w4 #[.int .i64 0, .int .i64 0, .string { data := #[] }]
  go_upto_region 6 with (refine wpList_store_row rfl 30 (.tmp 11) (.tmp 64) rfl w4.heap.size #[.int .i64 0, .int .i64 0, .string { data := #[] }] rfl rfl 30 #[.int .i64 0, .int .i64 0, .string { data := #[] }] (ev_new w4) HI rfl (ev_all _ _ _) ?_)
  (try rw [hV4])
  clear hV4
  have HP5 := Sl.mk (HP4.out.below HBV4.out)
  clear HP4 HBV4 HEV4
  have T2 := take_ex HP5.out.two HG.out false 2 false 0 0 0 0 a small0 HA.out.1 _ rfl _ none R2.out 0 0 { data := #[] } rfl false rfl 0 rfl
  go_wp2_with fail
  refine T2.mono ?_
  rintro e w6 ⟨v6, p6, rfl, HS6, HX6⟩
  clear T2
  have HP6 := Sl.mk (HP5.out.symm.go HS6.out HX6.out)
  clear HS6 HX6 HP5
  obtain ⟨V6, hV6, HBV6, HEV6⟩ := laid_ev w6 #[.int .i64 0, .int .i64 0, .string { data := #[] }]
  go_upto_region 7 with (refine wpList_store_row rfl 30 (.tmp 14) (.tmp 72) rfl w6.heap.size #[.int .i64 0, .int .i64 0, .string { data := #[] }] rfl rfl 30 #[.int .i64 0, .int .i64 0, .string { data := #[] }] (ev_new w6) HI rfl (ev_all _ _ _) ?_)
  (try rw [hV6])
  clear hV6
  have HP7 := Sl.mk (HP6.out.below HBV6.out)
  clear HP6 HBV6 HEV6
  have T3 := take_ex HP7.out.one HG.out true op false 0 0 0 0 b small0 HA.out.2.1 _ rfl _ none R3.out 0 0 { data := #[] } rfl false rfl 120 rfl
  cases text with
  | true =>
    obtain rfl : op = 1 := by rw [← hop]; rfl
    go_wp2_with fail
    refine T3.mono ?_
    rintro e w8 ⟨v8, p8, rfl, HS8, HX8⟩
    clear T3
    have HP8 := Sl.mk (HP7.out.go HS8.out HX8.out)
    clear HS8 HX8 HP7
    obtain ⟨V8, hV8, HBV8, HEV8⟩ := laid_ev w8 #[.int .i64 0, .int .i64 0, .string { data := #[] }]
    go_upto_region 11 with (refine wpList_store_row rfl 30 (.tmp 18) (.tmp 82) rfl w8.heap.size #[.int .i64 0, .int .i64 0, .string { data := #[] }] rfl rfl 30 #[.int .i64 0, .int .i64 0, .string { data := #[] }] (ev_new w8) HI rfl (ev_all _ _ _) ?_)
    (try rw [hV8])
    clear hV8
    have HP9 := Sl.mk (HP8.out.below HBV8.out)
    clear HP8 HBV8 HEV8
    have PM := part_any HP9.out.two.m 0 rfl
    have PN := part_any HP9.out.one.m 0 rfl
    have EN := err_any HP9.out.one.m
    go_wp2_with fail
    refine PM.mono ?_
    rintro e w10 ⟨rfl, rfl⟩
    clear PM
    go_wp2_with fail
    refine PN.mono ?_
    rintro e w11 ⟨rfl, rfl⟩
    clear PN
    go_wp2_with fail
    refine EN.mono ?_
    rintro e w12 ⟨rfl, rfl⟩
    clear EN
    go_wp2
    go_ret
    exact ⟨rfl, HP9.out.one.m.L⟩
  | false =>
    obtain rfl : op = 2 := by rw [← hop]; rfl
    go_wp2_with fail
    refine T3.mono ?_
    rintro e w8 ⟨v8, p8, rfl, HS8, HX8⟩
    clear T3
    have HP8 := Sl.mk (HP7.out.go HS8.out HX8.out)
    clear HS8 HX8 HP7
    obtain ⟨V8, hV8, HBV8, HEV8⟩ := laid_ev w8 #[.int .i64 0, .int .i64 0, .string { data := #[] }]
    go_upto_region 11 with (refine wpList_store_row rfl 30 (.tmp 18) (.tmp 82) rfl w8.heap.size #[.int .i64 0, .int .i64 0, .string { data := #[] }] rfl rfl 30 #[.int .i64 0, .int .i64 0, .string { data := #[] }] (ev_new w8) HI rfl (ev_all _ _ _) ?_)
    (try rw [hV8])
    clear hV8
    have HP9 := Sl.mk (HP8.out.below HBV8.out)
    clear HP8 HBV8 HEV8
    have PM := part_any HP9.out.two.m 0 rfl
    have PN := part_any HP9.out.one.m 0 rfl
    have EN := err_any HP9.out.one.m
    go_wp2_with fail
    refine PM.mono ?_
    rintro e w10 ⟨rfl, rfl⟩
    clear PM
    go_wp2_with fail
    refine PN.mono ?_
    rintro e w11 ⟨rfl, rfl⟩
    clear PN
    go_wp2_with fail
    refine EN.mono ?_
    rintro e w12 ⟨rfl, rfl⟩
    clear EN
    go_wp2
    go_ret
    exact ⟨rfl, HP9.out.one.m.L⟩
end Go.Proofs.YtpbfabcjkhlanaaDoor.Msg
