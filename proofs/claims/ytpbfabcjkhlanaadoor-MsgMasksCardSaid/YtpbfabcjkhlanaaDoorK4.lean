/- MsgStops' walk. -/
import Derived.Test.YtpbfabcjkhlanaaDoorMJ
set_option maxRecDepth 100000
namespace Go.Proofs.YtpbfabcjkhlanaaDoor.Msg
open Go.RowKit UtfPlain MsgPlain Fra Utf Cls
open FramePlain (Fr Fr0 form chk ctl zero4 form_cases)
open ClosePlain (getC)

theorem fr_at {fs : List Fr} (hk : ∀ f ∈ fs, FrOk f) (i : Nat) (hi : i < fs.length) : ∃ fin op m, ∃ ka kb kc kd : Nat, ∃ s, fs.getD i Fr0 = (⟨fin, op, m, [ka, kb, kc, kd], bytes s⟩ : Fr) ∧ (cv (fs.getD i Fr0)).toArray = #[.bool fin, .int .i64 op, .bool m, .int .u8 ((ka : Nat) : Int), .int .u8 ((kb : Nat) : Int), .int .u8 ((kc : Nat) : Int), .int .u8 ((kd : Nat) : Int), .string s] ∧ Small 256 [ka, kb, kc, kd] ∧ fs.getD i Fr0 ∈ fs := by
  have hm : fs.getD i Fr0 ∈ fs := by rw [List.getD_eq_getElem?_getD, List.getElem?_eq_getElem hi]; exact List.getElem_mem _
  obtain ⟨fin, op, m, ka, kb, kc, kd, s, h1, h2, h3⟩ := fr_parts (hk _ hm)
  exact ⟨fin, op, m, ka, kb, kc, kd, s, h1, h2, h3, hm⟩
theorem fr_take (fs : List Fr) (i : Nat) (hi : i < fs.length) : fs.take (i + 1) = fs.take i ++ [fs.getD i Fr0] := by
  rw [List.take_add_one, List.getElem?_eq_getElem hi, List.getD_eq_getElem?_getD, List.getElem?_eq_getElem hi]; rfl
theorem strOf_le {s : ByteArray} (h : (strOf (bytes s)).size ≤ 300) : s.size ≤ 100000 := by rw [strOf_bytes] at h; omega
/-- The state behind frames. -/
def after (most : Int) (fs : List Fr) (k : Nat) : Ms := (MsgPlain.run most M0 (fs.take k)).1
theorem after_zero (most : Int) (fs : List Fr) : after most fs 0 = M0 := rfl
theorem after_succ (most : Int) (fs : List Fr) (k : Nat) (hk : k < fs.length) : after most fs (k + 1) = (MsgPlain.take most (after most fs k) (fs.getD k Fr0)).1 := by
  unfold after
  rw [fr_take fs k hk, run_append, run_one]
set_option maxHeartbeats 8000000 in
theorem stops_walk (v : Value) (l : List Fr) (u : Value) (l2 : List Fr) (w : World) (hg : Utf.Globs w) (hv : FrsAt w v l) (ok : ∀ f ∈ l, FrOk f) (ml : l.length ≤ maxLen) (hu : FrsAt w u l2) (ok2 : ∀ f ∈ l2, FrOk f) (ml2 : l2.length ≤ maxLen) : Calls Tryd.prog 4 #[v, u] w fun e w' => e = .returned (.bool true) ∧ Below w.heap.size w w' := by
  have HG := Sl.mk hg
  have N0 := new_yes 200 w w (Below.refl _ _) (by omega)
  have HI := ev_info (cs := #[.int .i64 0, .int .i64 0, .string { data := #[] }]) rfl
  obtain ⟨a, cap, rfl⟩ := hv.slice
  obtain ⟨a', cap', rfl⟩ := hu.slice
  have HV := Sl.mk hv
  have HU := Sl.mk hu
  have HOK := Sl.mk ok
  have HOK2 := Sl.mk ok2
  have HML := Sl.mk ml
  have HML2 := Sl.mk ml2
  obtain ⟨n, hn⟩ : ∃ n, l.length = n := ⟨_, rfl⟩
  obtain ⟨n', hn'⟩ : ∃ n, l2.length = n := ⟨_, rfl⟩
  have HN := Sl.mk hn
  have HN2 := Sl.mk hn'
  rw [hn] at HV ⊢
  rw [hn'] at HU ⊢
  obtain ⟨fw, hfw⟩ : ∃ b, fewF l = b := ⟨_, rfl⟩
  obtain ⟨fw2, hfw2⟩ : ∃ b, fewF l2 = b := ⟨_, rfl⟩
  have HFW := Sl.mk hfw
  have HFW2 := Sl.mk hfw2
  clear hg hv hu ok ok2 ml ml2 hn hn' hfw hfw2
  cases fw with
  | false =>
    go_enter Tryd.func4, Tryd.ntmps4
    go_wp2_with fail
    refine N0.mono ?_
    rintro e w1 ⟨rfl, HS1, _⟩
    clear N0
    have A3 := awake_any w1 (HG.out.below HS1.out.m.L HG.out.size)
    go_wp2_with fail
    refine A3.mono ?_
    rintro e w3 ⟨rfl, HB3⟩
    have HS3 := Sl.mk (HS1.out.below HB3.out)
    clear A3 HS1 HB3
    have HF := few_any l _ w3 (HV.out.below HS3.out.m.L) HML.out
    rw [HFW.out] at HF
    go_wp2_with fail
    refine HF.mono ?_
    rintro e w4 ⟨rfl, rfl⟩
    clear HF
    have A4 := awake_any w3 (HG.out.below HS3.out.m.L HG.out.size)
    go_wp2_with fail
    refine A4.mono ?_
    rintro e w4 ⟨rfl, HB4⟩
    have HL := Sl.mk (HS3.out.m.L.trans (HB4.out.mono HS3.out.m.L.size))
    go_wp2
    go_ret
    exact ⟨rfl, HL.out⟩
  | true =>
    cases fw2 with
    | false =>
      go_enter Tryd.func4, Tryd.ntmps4
      go_wp2_with fail
      refine N0.mono ?_
      rintro e w1 ⟨rfl, HS1, _⟩
      clear N0
      have A3 := awake_any w1 (HG.out.below HS1.out.m.L HG.out.size)
      go_wp2_with fail
      refine A3.mono ?_
      rintro e w3 ⟨rfl, HB3⟩
      have HS3 := Sl.mk (HS1.out.below HB3.out)
      clear A3 HS1 HB3
      have HF := few_any l _ w3 (HV.out.below HS3.out.m.L) HML.out
      rw [HFW.out] at HF
      go_wp2_with fail
      refine HF.mono ?_
      rintro e w4 ⟨rfl, rfl⟩
      clear HF
      have HF := few_any l2 _ w3 (HU.out.below HS3.out.m.L) HML2.out
      rw [HFW2.out] at HF
      go_wp2_with fail
      refine HF.mono ?_
      rintro e w4 ⟨rfl, rfl⟩
      clear HF
      have A4 := awake_any w3 (HG.out.below HS3.out.m.L HG.out.size)
      go_wp2_with fail
      refine A4.mono ?_
      rintro e w4 ⟨rfl, HB4⟩
      have HL := Sl.mk (HS3.out.m.L.trans (HB4.out.mono HS3.out.m.L.size))
      go_wp2
      go_ret
      exact ⟨rfl, HL.out⟩
    | true =>
      go_enter Tryd.func4, Tryd.ntmps4
      go_wp2_with fail
      refine N0.mono ?_
      rintro e w1 ⟨rfl, HS1, _⟩
      clear N0
      have A3 := awake_any w1 (HG.out.below HS1.out.m.L HG.out.size)
      go_wp2_with fail
      refine A3.mono ?_
      rintro e w3 ⟨rfl, HB3⟩
      have HS3 := Sl.mk (HS1.out.below HB3.out)
      clear A3 HS1 HB3
      have HF := few_any l _ w3 (HV.out.below HS3.out.m.L) HML.out
      rw [HFW.out] at HF
      go_wp2_with fail
      refine HF.mono ?_
      rintro e w4 ⟨rfl, rfl⟩
      clear HF
      have HF := few_any l2 _ w3 (HU.out.below HS3.out.m.L) HML2.out
      rw [HFW2.out] at HF
      go_wp2_with fail
      refine HF.mono ?_
      rintro e w4 ⟨rfl, rfl⟩
      clear HF
      have HFA := Sl.mk (few_all HFW.out)
      have HFA2 := Sl.mk (few_all HFW2.out)
      go_wp2
      go_loopw [7] (fun i wr => ∃ (k : Nat) (x y : Value), i = .int .i64 (k : Int) ∧ k ≤ n ∧ Sl (MacS w wr w.heap.size 200 (after 200 l k) x y)) (fun i _ => n - (intOf i).toNat)
      case atStart => exact ⟨0, _, _, rfl, Nat.zero_le _, HS3⟩
      case round =>
        obtain ⟨k, x, y, rfl, hk, HS⟩ := hrel
        by_cases hkn : k < n
        · have hlt : ((k : Int) < (n : Int)) = True := eq_true (by omega)
          have hkl : k < l.length := by rw [HN.out]; exact hkn
          obtain ⟨sb, so, rfl⟩ := HV.out.cap.2 (by omega)
          obtain ⟨fin, op, m, ka, kb, kc, kd, s, hf, hcv, hsm, hmem⟩ := fr_at HOK.out k hkl
          have hn9 : n ≤ 9223372036854775807 := by have := HFA.out.2; rw [HN.out] at this; omega
          obtain ⟨c0, c1, c2, c3, c4, c5, c6, c7⟩ := (HV.out.below HS.out.m.L).at8 k hkl hcv
          have hsz : s.size ≤ 100000 := strOf_le (by have := HFA.out.1 _ hmem; rw [hf] at this; exact this)
          have T1 := take_any HS.out HG.out fin op m ka kb kc kd s hsm hsz
          rw [← hf, ← after_succ 200 l k hkl] at T1
          clear hf hcv hsm hmem hsz
          go_wp2_with fail
          refine T1.mono ?_
          rintro e w5 ⟨v5, p5, rfl, HS5, _⟩
          clear T1 c0 c1 c2 c3 c4 c5 c6 c7
          go_wp2
          exact ⟨⟨k + 1, _, _, by go_num, by omega, HS5⟩, by simp [intOf]; omega⟩
        · obtain rfl : k = n := by omega
          have hlt : ((k : Int) < (k : Int)) = False := eq_false (by omega)
          obtain ⟨st, hst⟩ : ∃ st, after 200 l k = st := ⟨_, rfl⟩
          rw [hst] at HS
          clear hst
          have EM := err_any HS.out.m
          go_wp2_with fail
          refine EM.mono ?_
          rintro e w5 ⟨rfl, rfl⟩
          clear EM
          by_cases hstop : st.err ≠ 0 ∨ st.over = true
          · have HTX : Sl (st.text = []) := ⟨stop_text HS.out.f hstop⟩
            have HST := Sl.mk hstop
            by_cases he : st.err = 0
            · have hov : st.over = true := by
                rcases hstop with h | h
                · exact absurd he h
                · exact h
              have hq0 : ((st.err : Int) == 0) = true := by rw [he]; rfl
              have hee : ((st.err : Int) != (st.err : Int)) = false := by simp
              have hee2 : ((st.err : Int) == (st.err : Int)) = true := by simp
              have OM := over_any HS.out.m
              rw [hov] at OM
              clear hstop he hov
              go_wp2_with fail
              refine OM.mono ?_
              rintro e w6 ⟨rfl, rfl⟩
              clear OM
              go_wp2
              go_loopw [9] (fun i wr => ∃ (k : Nat) (x y : Value), i = .int .i64 (k : Int) ∧ k ≤ n' ∧ Sl (MacS w wr w.heap.size 200 st x y)) (fun i _ => n' - (intOf i).toNat)
              case atStart => exact ⟨0, _, _, rfl, Nat.zero_le _, HS⟩
              case round =>
                obtain ⟨j, x', y', rfl, hj, HSJ⟩ := hrel
                by_cases hjn : j < n'
                · have hlt2 : ((j : Int) < (n' : Int)) = True := eq_true (by omega)
                  have hjl : j < l2.length := by rw [HN2.out]; exact hjn
                  obtain ⟨sb', so', rfl⟩ := HU.out.cap.2 (by omega)
                  obtain ⟨fin, op, m, ka, kb, kc, kd, s, hf, hcv, hsm, hmem⟩ := fr_at HOK2.out j hjl
                  have hn9 : n' ≤ 9223372036854775807 := by have := HFA2.out.2; rw [HN2.out] at this; omega
                  obtain ⟨c0, c1, c2, c3, c4, c5, c6, c7⟩ := (HU.out.below HSJ.out.m.L).at8 j hjl hcv
                  have hsz : s.size ≤ 100000 := strOf_le (by have := HFA2.out.1 _ hmem; rw [hf] at this; exact this)
                  have T2 := take_ex HSJ.out HG.out fin op m ka kb kc kd s hsm hsz _ rfl _ none (take_stop 200 HST.out _) 0 0 { data := #[] } rfl false rfl (st.err : Int) rfl
                  have hev := ev_same 0 0 { data := #[] }
                  clear hf hcv hsm hmem hsz
                  go_wp2_with fail
                  refine T2.mono ?_
                  rintro e w6 ⟨v6, p6, rfl, HS6, _⟩
                  clear T2
                  obtain ⟨V6, hV6, HBV6, HEV6⟩ := laid_ev w6 #[.int .i64 0, .int .i64 0, .string { data := #[] }]
                  go_upto_region 15 with (refine wpList_store_row rfl 30 (.tmp 10) (.tmp 72) rfl w6.heap.size #[.int .i64 0, .int .i64 0, .string { data := #[] }] rfl rfl 30 #[.int .i64 0, .int .i64 0, .string { data := #[] }] (ev_new w6) HI rfl (ev_all _ _ _) ?_)
                  (try rw [hV6])
                  clear hV6
                  have HS7 := Sl.mk (HS6.out.below HBV6.out)
                  have HX7 := Sl.mk HEV6.out
                  clear HSJ HS6 HBV6 HEV6 c0 c1 c2 c3 c4 c5 c6 c7
                  obtain ⟨a0, a1, a2⟩ := ev_cells HX7.out
                  have PM := part_any HS7.out.m 0 (by rw [HTX.out]; rfl)
                  go_wp2_with fail
                  refine PM.mono ?_
                  rintro e w7 ⟨rfl, rfl⟩
                  clear PM
                  go_wp2
                  exact ⟨⟨j + 1, _, _, by go_num, by omega, HS7⟩, by simp [intOf]; omega⟩
                · obtain rfl : j = n' := by omega
                  have hlt2 : ((j : Int) < (j : Int)) = False := eq_false (by omega)
                  have EM := err_any HSJ.out.m
                  go_wp2_with fail
                  refine EM.mono ?_
                  rintro e w8 ⟨rfl, rfl⟩
                  clear EM
                  go_wp2
                  go_ret
                  exact ⟨rfl, HSJ.out.m.L⟩
            · have hq0 : ((st.err : Int) == 0) = false := by simpa using he
              have hee : ((st.err : Int) != (st.err : Int)) = false := by simp
              have hee2 : ((st.err : Int) == (st.err : Int)) = true := by simp
              clear hstop he
              go_wp2
              go_loopw [9] (fun i wr => ∃ (k : Nat) (x y : Value), i = .int .i64 (k : Int) ∧ k ≤ n' ∧ Sl (MacS w wr w.heap.size 200 st x y)) (fun i _ => n' - (intOf i).toNat)
              case atStart => exact ⟨0, _, _, rfl, Nat.zero_le _, HS⟩
              case round =>
                obtain ⟨j, x', y', rfl, hj, HSJ⟩ := hrel
                by_cases hjn : j < n'
                · have hlt2 : ((j : Int) < (n' : Int)) = True := eq_true (by omega)
                  have hjl : j < l2.length := by rw [HN2.out]; exact hjn
                  obtain ⟨sb', so', rfl⟩ := HU.out.cap.2 (by omega)
                  obtain ⟨fin, op, m, ka, kb, kc, kd, s, hf, hcv, hsm, hmem⟩ := fr_at HOK2.out j hjl
                  have hn9 : n' ≤ 9223372036854775807 := by have := HFA2.out.2; rw [HN2.out] at this; omega
                  obtain ⟨c0, c1, c2, c3, c4, c5, c6, c7⟩ := (HU.out.below HSJ.out.m.L).at8 j hjl hcv
                  have hsz : s.size ≤ 100000 := strOf_le (by have := HFA2.out.1 _ hmem; rw [hf] at this; exact this)
                  have T2 := take_ex HSJ.out HG.out fin op m ka kb kc kd s hsm hsz _ rfl _ none (take_stop 200 HST.out _) 0 0 { data := #[] } rfl false rfl (st.err : Int) rfl
                  have hev := ev_same 0 0 { data := #[] }
                  clear hf hcv hsm hmem hsz
                  go_wp2_with fail
                  refine T2.mono ?_
                  rintro e w6 ⟨v6, p6, rfl, HS6, _⟩
                  clear T2
                  obtain ⟨V6, hV6, HBV6, HEV6⟩ := laid_ev w6 #[.int .i64 0, .int .i64 0, .string { data := #[] }]
                  go_upto_region 15 with (refine wpList_store_row rfl 30 (.tmp 10) (.tmp 72) rfl w6.heap.size #[.int .i64 0, .int .i64 0, .string { data := #[] }] rfl rfl 30 #[.int .i64 0, .int .i64 0, .string { data := #[] }] (ev_new w6) HI rfl (ev_all _ _ _) ?_)
                  (try rw [hV6])
                  clear hV6
                  have HS7 := Sl.mk (HS6.out.below HBV6.out)
                  have HX7 := Sl.mk HEV6.out
                  clear HSJ HS6 HBV6 HEV6 c0 c1 c2 c3 c4 c5 c6 c7
                  obtain ⟨a0, a1, a2⟩ := ev_cells HX7.out
                  have PM := part_any HS7.out.m 0 (by rw [HTX.out]; rfl)
                  go_wp2_with fail
                  refine PM.mono ?_
                  rintro e w7 ⟨rfl, rfl⟩
                  clear PM
                  go_wp2
                  exact ⟨⟨j + 1, _, _, by go_num, by omega, HS7⟩, by simp [intOf]; omega⟩
                · obtain rfl : j = n' := by omega
                  have hlt2 : ((j : Int) < (j : Int)) = False := eq_false (by omega)
                  have EM := err_any HSJ.out.m
                  go_wp2_with fail
                  refine EM.mono ?_
                  rintro e w8 ⟨rfl, rfl⟩
                  clear EM
                  go_wp2
                  go_ret
                  exact ⟨rfl, HSJ.out.m.L⟩
          · have he : st.err = 0 := by
              by_cases h : st.err = 0
              · exact h
              · exact absurd (.inl h) hstop
            have hov : st.over = false := by
              cases h : st.over with
              | true => exact absurd (.inr h) hstop
              | false => rfl
            have hq0 : ((st.err : Int) == 0) = true := by rw [he]; rfl
            have OM := over_any HS.out.m
            rw [hov] at OM
            clear hstop he hov
            go_wp2_with fail
            refine OM.mono ?_
            rintro e w6 ⟨rfl, rfl⟩
            clear OM
            go_wp2
            go_ret
            exact ⟨rfl, HS.out.m.L⟩
end Go.Proofs.YtpbfabcjkhlanaaDoor.Msg
