/- MsgWhole's walk. -/
import Derived.Test.YtpbfabcjkhlanaaDoorMJ
import Derived.Test.YtpbfabcjkhlanaaDoorOpenStrs
set_option maxRecDepth 100000
namespace Go.Proofs.YtpbfabcjkhlanaaDoor.Msg
open Go.RowKit UtfPlain MsgPlain Fra Utf Cls
open FramePlain (Fr Fr0 form chk ctl zero4 form_cases)
open ClosePlain (getC)

set_option maxHeartbeats 8000000 in
theorem whole_walk (v : Value) (l : List ByteArray) (u : Value) (ps : List ByteArray) (w : World) (hg : Utf.Globs w) (hv : StrsAt w v l) (hu : StrsAt w u ps) : Calls Tryd.prog 5 #[v, u] w fun e w' => e = .returned (.bool true) ∧ Below w.heap.size w w' := by
  have HG := Sl.mk hg
  have N0 := new_yes 200 w w (Below.refl _ _) (by omega)
  have HI := ev_info (cs := #[.int .i64 0, .int .i64 0, .string { data := #[] }]) rfl
  obtain ⟨a, cap, sb, so, rfl, hm, ha, hce, _⟩ := hv
  obtain ⟨a', cap', sb', so', rfl, hm', ha', hce', _⟩ := hu
  obtain ⟨n, hn⟩ : ∃ n, l.length = n := ⟨_, rfl⟩
  obtain ⟨n', hn'⟩ : ∃ n, ps.length = n := ⟨_, rfl⟩
  rw [hn] at ha hce hm ⊢
  rw [hn'] at ha' hce' hm' ⊢
  have HA := Sl.mk ha
  have HCE := Sl.mk hce
  have HA2 := Sl.mk ha'
  have HCE2 := Sl.mk hce'
  have HM2 : Sl (n' ≤ 9223372036854775807) := ⟨by unfold maxLen at hm'; omega⟩
  clear hg ha hce ha' hce' hm hm' hn hn'
  by_cases hl : n > 20
  · have hq : ((n : Int) > 20) = True := eq_true (by omega)
    clear hl
    go_enter Tryd.func5, Tryd.ntmps5
    go_wp2_with fail
    refine N0.mono ?_
    rintro e w1 ⟨rfl, HS1, _⟩
    clear N0
    have A3 := awake_any w1 (HG.out.below HS1.out.m.L HG.out.size)
    go_wp2_with fail
    refine A3.mono ?_
    rintro e w3 ⟨rfl, HB3⟩
    have HS3 := Sl.mk (HS1.out.below HB3.out)
    clear A3 HS1 HB3
    have A4 := awake_any w3 (HG.out.below HS3.out.m.L HG.out.size)
    go_wp2_with fail
    refine A4.mono ?_
    rintro e w4 ⟨rfl, HB4⟩
    have HL := Sl.mk (HS3.out.m.L.trans (HB4.out.mono HS3.out.m.L.size))
    go_wp2
    go_ret
    exact ⟨rfl, HL.out⟩
  have hq : ((n : Int) > 20) = False := eq_false (by omega)
  have HN : Sl (n ≤ 20) := ⟨by omega⟩
  clear hl
  go_enter Tryd.func5, Tryd.ntmps5
  go_wp2_with fail
  refine N0.mono ?_
  rintro e w1 ⟨rfl, HS1, _⟩
  clear N0
  have A3 := awake_any w1 (HG.out.below HS1.out.m.L HG.out.size)
  go_wp2_with fail
  refine A3.mono ?_
  rintro e w3 ⟨rfl, HB3⟩
  have HS3 := Sl.mk (HS1.out.below HB3.out)
  clear A3 HS1 HB3
  go_wp2
  go_loopw [7] (fun i wr => ∃ (k : Nat) (x y : Value), i = .int .i64 (k : Int) ∧ k ≤ n ∧ Sl (MacS w wr w.heap.size 200 M0 x y)) (fun i _ => n - (intOf i).toNat)
  case atStart => exact ⟨0, _, _, rfl, Nat.zero_le _, HS3⟩
  case round =>
    obtain ⟨k, x, y, rfl, hk, HS⟩ := hrel
    by_cases hkn : k < n
    · have hlt : ((k : Int) < (n : Int)) = True := eq_true (by omega)
      obtain rfl := HA.out (by omega)
      obtain ⟨s, hs⟩ : ∃ s, l.getD k ByteArray.empty = s := ⟨_, rfl⟩
      have hc := HCE.out k hkn
      rw [hs] at hc
      have HC := Sl.mk hc
      have HLT := Sl.mk (block_lt_of_cell hc)
      have hc' : wr.cell? ⟨sb, so + k, none⟩ = some (.string s) := (HS.out.m.L.cell HLT.out).trans hc
      have hn9 : n ≤ 9223372036854775807 := by have := HN.out; omega
      clear hs hc
      by_cases hz : s.size > 200
      · have hq2 : ((s.size : Int) > 200) = True := eq_true (by omega)
        clear hz
        go_wp2
        go_ret
        exact ⟨rfl, HS.out.m.L⟩
      have hq2 : ((s.size : Int) > 200) = False := eq_false (by omega)
      have HSZ : Sl (s.size ≤ 100000) := ⟨by omega⟩
      have R1 : Sl (MsgPlain.take 200 M0 (⟨true, 2, false, [0, 0, 0, 0], bytes s⟩ : Fr) = (M0, some ⟨2, 0, bytes s⟩)) := ⟨by
        rw [take_m0]
        refine (step_first 200 (.inr rfl) true _).trans ?_
        rw [more_bin, bytes_length, if_neg (by omega), if_pos rfl]⟩
      have hev := ev_same 2 0 s
      have HIS := ev_info (cs := #[.int .i64 2, .int .i64 0, .string s]) rfl
      clear hz
      have T1 := take_ex HS.out HG.out true 2 false 0 0 0 0 s small0 HSZ.out _ rfl _ _ R1.out 2 0 s (evO_some _ _ _) true rfl 0 rfl
      go_wp2_with fail
      refine T1.mono ?_
      rintro e w4 ⟨v4, p4, rfl, HS4, _⟩
      clear T1
      obtain ⟨V4, hV4, HBV4, HEV4⟩ := laid_ev w4 #[.int .i64 2, .int .i64 0, .string s]
      go_upto_region 10 with (refine wpList_store_row rfl 30 (.tmp 8) (.tmp 54) rfl w4.heap.size #[.int .i64 2, .int .i64 0, .string s] rfl rfl 30 #[.int .i64 0, .int .i64 0, .string { data := #[] }] (ev_new w4) HIS rfl (ev_all _ _ _) ?_)
      (try rw [hV4])
      clear hV4
      have HS5 := Sl.mk (HS4.out.below HBV4.out)
      have HX5 := Sl.mk HEV4.out
      clear HS HS4 HBV4 HEV4
      obtain ⟨a0, a1, a2⟩ := ev_cells HX5.out
      have c5 : V4.cell? ⟨sb, so + k, none⟩ = some (.string s) := (HS5.out.m.L.cell HLT.out).trans HC.out
      clear hc'
      go_still_tail 17, (by kernel_rfl)
      change wpList _ _ _ _ _ V4.drew
      have HS6 := Sl.mk (HS5.out.below (Below.refl V4.heap.size V4).drew)
      obtain ⟨R, hR⟩ : ∃ R, V4.drew = R := ⟨_, rfl⟩
      rw [hR] at HS6 ⊢
      clear hR HS5 HX5 a0 a1 a2 c5 hev
      have PM := part_any HS6.out.m 0 rfl
      go_wp2_with fail
      refine PM.mono ?_
      rintro e w7 ⟨rfl, rfl⟩
      clear PM
      by_cases hkp : k < n'
      · have hlp : ((k : Int) < (n' : Int)) = True := eq_true (by omega)
        obtain rfl := HA2.out (by omega)
        obtain ⟨s', hs'⟩ : ∃ s, ps.getD k ByteArray.empty = s := ⟨_, rfl⟩
        have hc2 := HCE2.out k hkp
        rw [hs'] at hc2
        have HC2 := Sl.mk hc2
        have HLT2 := Sl.mk (block_lt_of_cell hc2)
        have hc3 : R.cell? ⟨sb', so' + k, none⟩ = some (.string s') := (HS6.out.m.L.cell HLT2.out).trans hc2
        have hn8 := HM2.out
        clear hs' hc2
        by_cases hz2 : s'.size ≤ 125
        · have hq3 : ((s'.size : Int) ≤ 125) = True := eq_true (by omega)
          have HSZ2 : Sl (s'.size ≤ 100000) := ⟨by omega⟩
          have R2 : Sl (MsgPlain.take 200 M0 (⟨true, 10, false, [0, 0, 0, 0], bytes s'⟩ : Fr) = (M0, some ⟨10, 0, bytes s'⟩)) := ⟨by
            rw [take_m0]
            exact step_ping 200 M0 (.inr rfl) _ false (by rw [bytes_length]; omega) (.inr rfl)⟩
          have hev2 := ev_same 10 0 s'
          have HIS2 := ev_info (cs := #[.int .i64 10, .int .i64 0, .string s']) rfl
          clear hz2
          have T2 := take_ex HS6.out HG.out true 10 false 0 0 0 0 s' small0 HSZ2.out _ rfl _ _ R2.out 10 0 s' (evO_some _ _ _) true rfl 0 rfl
          go_wp2_with fail
          refine T2.mono ?_
          rintro e w8 ⟨v8, p8, rfl, HS8, _⟩
          clear T2
          obtain ⟨V8, hV8, HBV8, HEV8⟩ := laid_ev w8 #[.int .i64 10, .int .i64 0, .string s']
          go_upto_region 14 with (refine wpList_store_row rfl 30 (.tmp 11) (.tmp 97) rfl w8.heap.size #[.int .i64 10, .int .i64 0, .string s'] rfl rfl 30 #[.int .i64 0, .int .i64 0, .string { data := #[] }] (ev_new w8) HIS2 rfl (ev_all _ _ _) ?_)
          (try rw [hV8])
          clear hV8
          have HS9 := Sl.mk (HS8.out.below HBV8.out)
          have HX9 := Sl.mk HEV8.out
          clear HS6 HS8 HBV8 HEV8
          obtain ⟨a0, a1, a2⟩ := ev_cells HX9.out
          have c9 : V8.cell? ⟨sb', so' + k, none⟩ = some (.string s') := (HS9.out.m.L.cell HLT2.out).trans HC2.out
          clear hc3
          go_still (by kernel_rfl)
          change Exit.then _ _ Exit.normal _ V8.drew
          have HS10 := Sl.mk (HS9.out.below (Below.refl V8.heap.size V8).drew)
          clear HS9 HX9 a0 a1 a2 c9 hev2
          go_wp2
          exact ⟨⟨k + 1, _, _, by go_num, by omega, HS10⟩, by simp [intOf]; omega⟩
        · have hq3 : ((s'.size : Int) ≤ 125) = False := eq_false (by omega)
          clear hz2
          go_wp2
          exact ⟨⟨k + 1, _, _, by go_num, by omega, HS6⟩, by simp [intOf]; omega⟩
      · have hlp : ((k : Int) < (n' : Int)) = False := eq_false (by omega)
        go_wp2
        exact ⟨⟨k + 1, _, _, by go_num, by omega, HS6⟩, by simp [intOf]; omega⟩
    · obtain rfl : k = n := by omega
      have hlt : ((k : Int) < (k : Int)) = False := eq_false (by omega)
      have EM := err_any HS.out.m
      have OM := over_any HS.out.m
      go_wp2_with fail
      refine EM.mono ?_
      rintro e w8 ⟨rfl, rfl⟩
      clear EM
      go_wp2_with fail
      refine OM.mono ?_
      rintro e w9 ⟨rfl, rfl⟩
      clear OM
      go_wp2
      go_ret
      exact ⟨rfl, HS.out.m.L⟩
end Go.Proofs.YtpbfabcjkhlanaaDoor.Msg
