/- QueueFlows' walk. -/
import Derived.Test.YtflnmjiopeoodaaQJ
set_option maxRecDepth 100000
namespace Go.Proofs.Ytflnmjiopeoodaa.Que
open Go.RowKit Evt QueuePlain
open MsgPlain (Ev)

set_option maxHeartbeats 32000000 in
theorem flows_walk (n0 n1 : Nat) (v : Value) (l : List Ev) (tv : Value) (ts : List Nat) (w : World) (lt0 : n0 < 256) (lt1 : n1 < 65536) (hv : EvsAt w v l) (ok : ∀ e ∈ l, EvOk e) (ml : l.length ≤ maxLen) (ht : SrcAt w tv ts) (hsm : Small 256 ts) (mt : ts.length ≤ maxLen) : Calls Try.prog 4 #[.int .u8 (n0 : Int), .int .u16 (n1 : Int), v, tv] w fun e w' => e = .returned (.bool true) ∧ Below w.heap.size w w' := by
  have N1 := new_yes w w (1 + (n0 : Int)) (1 + (n1 : Int)) (by omega) (Below.refl _ _)
  obtain ⟨q, hq⟩ : ∃ q, w.heap.size = q := ⟨_, rfl⟩
  have HQQ := Sl.mk hq
  obtain ⟨ad, cap, rfl⟩ := hv.slice
  have HV := Sl.mk hv
  have HOK := Sl.mk ok
  obtain ⟨n, hn⟩ : ∃ n, l.length = n := ⟨_, rfl⟩
  have HN := Sl.mk hn
  rw [hn] at HV ml ⊢
  have hn9 : n ≤ 9223372036854775807 := by unfold maxLen at ml; omega
  obtain ⟨nt, hnt⟩ : ∃ n, ts.length = n := ⟨_, rfl⟩
  have HNT := Sl.mk hnt
  obtain ⟨at', ct, rfl⟩ : ∃ a c, tv = .slice a nt c := by
    obtain ⟨a, c, sb, so, h1, _⟩ := ht
    exact ⟨a, c, by rw [h1, hnt]⟩
  have HT := Sl.mk ht
  have HSM := Sl.mk hsm
  have hnt9 : nt ≤ 9223372036854775807 := by rw [hnt] at mt; unfold maxLen at mt; omega
  have w0 : IntKind.i64.wrap (n0 : Int) = (n0 : Int) := by rw [IntKind.wrap_i64]; omega
  have w1' : IntKind.i64.wrap (n1 : Int) = (n1 : Int) := by rw [IntKind.wrap_i64]; omega
  clear hv ok hn ml ht hsm mt hnt
  by_cases hgt : n > 100
  · have hq30 : ((n : Int) > 100) = True := eq_true (by omega)
    go_enter Try.func4, Try.ntmps4
    go_wp2_with fail
    refine N1.mono ?_
    rintro e w1 ⟨rfl, HQ1, HB1⟩
    clear N1
    rw [hq] at HQ1 ⊢
    have A1 := awake_any w1
    go_wp2_with fail
    refine A1.mono ?_
    rintro e w2 ⟨rfl, HB2⟩
    clear A1
    have HQ2 := Sl.mk (HQ1.out.below HB2.out)
    clear HQ1 HB1 HB2 hq
    have A2 := awake_below w w2 HQ2.out.N.L
    go_wp2_with fail
    refine A2.mono ?_
    rintro e w3 ⟨rfl, HB3⟩
    clear A2
    go_wp2
    go_ret
    exact ⟨rfl, HB3.out⟩
  have hq30 : ((n : Int) > 100) = False := eq_false (by omega)
  go_enter Try.func4, Try.ntmps4
  go_wp2_with fail
  refine N1.mono ?_
  rintro e w1 ⟨rfl, HQ1, HB1⟩
  clear N1
  rw [hq] at HQ1 ⊢
  have A1 := awake_any w1
  go_wp2_with fail
  refine A1.mono ?_
  rintro e w2 ⟨rfl, HB2⟩
  clear A1
  have HQ2 := Sl.mk (HQ1.out.below HB2.out)
  clear HQ1 HB1 HB2 hq
  obtain ⟨wa, hwa⟩ : ∃ V, w2.alloc (.cells #[] 32) = V := ⟨_, rfl⟩
  obtain ⟨wb, hwb⟩ : ∃ V, wa.alloc (.cells #[] 32) = V := ⟨_, rfl⟩
  have HF := Sl.mk (Flow.new HQ2.out hwa hwb)
  clear HQ2
  go_wp2
  clear hwa hwb
  go_loopw [11, 12, 13, 14] (fun y z i k0 wr => ∃ (k : Nat) (u vi vo : Value) (la li lo : List Ev), y = vi ∧ z = vo ∧ i = .int .i64 (k : Int) ∧ k ≤ n ∧ Sl (li.length ≤ k) ∧ Sl (lo ++ la = li) ∧ Sl (Flow w wr q u (1 + (n0 : Int)) (1 + (n1 : Int)) la vi li vo lo)) (fun _ _ i _ _ => n - (intOf i).toNat)
  case atStart => exact ⟨0, _, _, _, [], [], [], rfl, rfl, rfl, Nat.zero_le _, ⟨Nat.zero_le _⟩, ⟨rfl⟩, HF⟩
  case round =>
    clear HF
    obtain ⟨k, u, vi, vo, la, li, lo, hvi, hvo, rfl, hk, HLI, HEQ, HF⟩ := hrel
    have hvi := hvi.symm
    have hvo := hvo.symm
    subst hvi hvo
    by_cases hkn : k < n
    · have hlt : ((k : Int) < (n : Int)) = True := eq_true (by omega)
      have hkl : k < l.length := by rw [HN.out]; exact hkn
      obtain ⟨sb, so, rfl⟩ := HV.out.cap.2.2 (by omega)
      obtain ⟨o, c, s, he⟩ := ev_parts HOK.out k hkl
      obtain ⟨c0, c1, c2⟩ := ev_cells_at (HV.out.below HF.out.Q.N.L) k hkl he
      by_cases h3 : s.size > 300
      · have hq3 : ((s.size : Int) > 300) = True := eq_true (by omega)
        clear he
        go_wp2
        go_ret
        exact ⟨rfl, HF.out.Q.N.L⟩
      · have hq3 : ((s.size : Int) > 300) = False := eq_false (by omega)
        have hs300 : s.size ≤ 300 := by omega
        have HE := Sl.mk he
        obtain ⟨la1, r1, hp1⟩ : ∃ l1 r1, put (1 + (n0 : Int)) (1 + (n1 : Int)) la ⟨o, c, bytes s⟩ = (l1, r1) := ⟨_, _, rfl⟩
        have HPF := Sl.mk (put_fst hp1).2
        have P := put_any o c s r1 HF.out.Q (by omega) hp1
        clear he hp1 h3
        go_wp2_with fail
        refine P.mono ?_
        rintro e w5 ⟨u5, rfl, HQ5, HG5⟩
        clear P
        have HF5 := Sl.mk (HF.out.queue HQ5.out HG5.out)
        clear HQ5 HG5 HF c0 c1 c2
        cases r1 with
        | false =>
          obtain rfl : la1 = la := HPF.out.1 rfl
          obtain ⟨vi2, hvi2⟩ : ∃ x, vi = x := ⟨_, rfl⟩
          obtain ⟨li2, hli2⟩ : ∃ x, li = x := ⟨_, rfl⟩
          rw [hvi2, hli2] at HF5
          rw [hli2] at HLI HEQ
          rw [hvi2]
          have HF2 := HF5
          have HEQ2 := HEQ
          have HLI2 : Sl (li2.length ≤ k + 1) := ⟨by have := HLI.out; omega⟩
          clear HF5 HEQ HLI hvi2 hli2
          obtain ⟨T, hT⟩ : ∃ T, (if k < nt then ts.getD k 0 % 4 else 0) = T := ⟨_, rfl⟩
          go_wp2
          go_loopw [12, 14] (fun z i wr => ∃ (j : Nat) (u vo : Value) (la lo : List Ev), z = vo ∧ i = .int .i64 (j : Int) ∧ j ≤ T ∧ Sl (lo ++ la = li2) ∧ Sl (Flow w wr q u (1 + (n0 : Int)) (1 + (n1 : Int)) la vi2 li2 vo lo)) (fun _ i _ => T - (intOf i).toNat)
          case atStart => exact ⟨0, _, _, _, _, rfl, rfl, Nat.zero_le _, HEQ2, HF2⟩
          case round =>
            clear HF2 HEQ2
            obtain ⟨j, u3, vo3, la3, lo3, hvo, rfl, hj, HEQ3, HF3⟩ := hrel
            have hvo := hvo.symm
            subst hvo
            by_cases hkt : k < nt
            · have hkt1 : ((k : Int) < (nt : Int)) = True := eq_true (by omega)
              rw [if_pos hkt] at hT
              obtain ⟨y, hy⟩ : ∃ y, ts.getD k 0 = y := ⟨_, rfl⟩
              have hyb : y < 256 := by rw [← hy]; exact HSM.out.getD (by decide) k
              rw [hy] at hT
              obtain ⟨tb, tof, rfl, ht1⟩ := src_at (HT.out.below (Nat.le_refl _) HF3.out.Q.N.L) k (by rw [HNT.out]; exact hkt)
              rw [hy] at ht1
              have hwy : IntKind.i64.wrap (y : Int) = (y : Int) := by rw [IntKind.wrap_i64]; omega
              have htm : (y : Int).tmod 4 = (T : Int) := by rw [Int.tmod_eq_emod_of_nonneg (by omega)]; omega
              have htm2 : (y : Int) % 4 = (T : Int) := by omega
              by_cases hjT : j < T
              · have hjT1 : ((j : Int) < (T : Int)) = True := eq_true (by omega)
                clear hT hy hyb
                cases la3 with
                | nil =>
                  have TK := take_any 0 0 { data := #[] } false HF3.out.Q evV_nil rfl
                  go_wp2_with fail
                  refine TK.mono ?_
                  rintro e w6 ⟨u6, rfl, HQ6, HG6⟩
                  clear TK
                  have HF6 := Sl.mk (HF3.out.queue HQ6.out HG6.out)
                  clear HQ6 HG6
                  obtain ⟨w70, hww70, HBw70, hbw70⟩ := box_ev w6
                  obtain ⟨w7, hww7, HBw7, HCw7⟩ := set_ev hbw70 HBw70.out (Nat.le_refl _) #[.int .i64 0, .int .i64 0, .string { data := #[] }]
                  have HIw7 : (Try.prog.info? 32).map (·.size) = some (#[Value.int .i64 0, .int .i64 0, .string { data := #[] }]).size := ev_info rfl
                  go_upto_region 16 with (refine wpList_store_row rfl 32 (.tmp 15) (.tmp 92) rfl w6.heap.size #[.int .i64 0, .int .i64 0, .string { data := #[] }] rfl rfl 32 #[.int .i64 0, .int .i64 0, .string { data := #[] }] hbw70 HIw7 rfl (ev_all _ _ _) ?_)
                  (try rw [hww7])
                  clear hww70 hww7 hbw70 HBw70 HIw7
                  have HF7 := Sl.mk (HF6.out.below HBw7.out)
                  clear HF6 HBw7 HCw7
                  go_wp2
                  exact ⟨⟨j + 1, _, _, _, _, rfl, by go_num, by omega, HEQ3, HF7⟩, by simp [intOf]; omega⟩
                | cons f r =>
                  obtain ⟨o2, c2', s2, hf⟩ : ∃ o c s, evV f = .agg #[.int .i64 o, .int .i64 c, .string s] := ⟨_, _, _, rfl⟩
                  have HEF := Sl.mk hf
                  have TK := take_any o2 c2' s2 true HF3.out.Q hf rfl
                  clear hf
                  go_wp2_with fail
                  refine TK.mono ?_
                  rintro e w6 ⟨u6, rfl, HQ6, HG6⟩
                  clear TK
                  have HF6 := Sl.mk (HF3.out.queue HQ6.out HG6.out)
                  clear HQ6 HG6
                  obtain ⟨w70, hww70, HBw70, hbw70⟩ := box_ev w6
                  obtain ⟨w7, hww7, HBw7, HCw7⟩ := set_ev hbw70 HBw70.out (Nat.le_refl _) #[.int .i64 o2, .int .i64 c2', .string s2]
                  have HIw7 : (Try.prog.info? 32).map (·.size) = some (#[Value.int .i64 o2, .int .i64 c2', .string s2]).size := ev_info rfl
                  go_upto_region 16 with (refine wpList_store_row rfl 32 (.tmp 15) (.tmp 92) rfl w6.heap.size #[.int .i64 o2, .int .i64 c2', .string s2] rfl rfl 32 #[.int .i64 0, .int .i64 0, .string { data := #[] }] hbw70 HIw7 rfl (ev_all _ _ _) ?_)
                  (try rw [hww7])
                  clear hww70 hww7 hbw70 HBw70 HIw7
                  have HF7 := Sl.mk (HF6.out.below HBw7.out)
                  obtain ⟨d0, d1, d2⟩ := ev_cells HCw7.out
                  clear HF6 HBw7
                  obtain ⟨w8, hw8⟩ : ∃ V, w7.alloc (.cells #[.int .i64 o2, .int .i64 c2', .string s2] 32) = V := ⟨_, rfl⟩
                  have hB8 : Below w7.heap.size w7 w8 := by rw [← hw8]; exact (Below.refl _ _).alloc (Nat.le_refl _) _
                  have hX8 : w8.heap[w7.heap.size]? = some (.cells #[.int .i64 o2, .int .i64 c2', .string s2] 32 (0, 0)) := by rw [← hw8]; exact alloc_new _ _ _ rfl
                  obtain ⟨v9, w9, hap9, hfl9⟩ := (HF7.out.below hB8).outof (e := f) (evs_one hX8 (ev_cs HEF.out)) (by have := congrArg List.length HEQ3.out; rw [List.length_append] at this; have := HLI2.out; omega)
                  have HF9 := Sl.mk hfl9
                  obtain ⟨a9, m9, k9, rfl⟩ : ∃ a n c, v9 = .slice a n c := by
                    obtain ⟨a, c, h⟩ := OwnE.slice hfl9.O
                    exact ⟨a, _, c, h⟩
                  clear hB8 hX8 hfl9 HF7
                  go_wp2_with (at_builtin; refine wpList_appV rfl (.tmp 95) (.tmp 97) 28 28 rfl rfl _ _ _ w9 rfl rfl hap9 ?_)
                  have HEQ9 : Sl ((lo3 ++ [f]) ++ r = li2) := ⟨by rw [← HEQ3.out]; simp⟩
                  exact ⟨⟨j + 1, _, _, _, _, rfl, by go_num, by omega, HEQ9, HF9⟩, by simp [intOf]; omega⟩
              · have hjT1 : ((j : Int) < (T : Int)) = False := eq_false (by omega)
                clear hT hy
                go_wp2
                exact ⟨⟨k + 1, _, _, _, _, _, _, rfl, rfl, by go_num, by omega, HLI2, HEQ3, HF3⟩, by simp [intOf]; omega⟩
            · have hkt1 : ((k : Int) < (nt : Int)) = False := eq_false (by omega)
              clear hT
              go_wp2
              exact ⟨⟨k + 1, _, _, _, _, _, _, rfl, rfl, by go_num, by omega, HLI2, HEQ3, HF3⟩, by simp [intOf]; omega⟩
        | true =>
          have hla1 : la1 = la ++ [⟨o, c, bytes s⟩] := HPF.out.2 rfl
          obtain ⟨c0, c1, c2⟩ := ev_cells_at (HV.out.below HF5.out.Q.N.L) k hkl HE.out
          obtain ⟨w6, hw6⟩ : ∃ V, w5.alloc (.cells #[.int .i64 o, .int .i64 c, .string s] 32) = V := ⟨_, rfl⟩
          have hB6 : Below w5.heap.size w5 w6 := by rw [← hw6]; exact (Below.refl _ _).alloc (Nat.le_refl _) _
          have hX6 : w6.heap[w5.heap.size]? = some (.cells #[.int .i64 o, .int .i64 c, .string s] 32 (0, 0)) := by rw [← hw6]; exact alloc_new _ _ _ rfl
          obtain ⟨v7, w7, hap7, hfl7⟩ := (HF5.out.below hB6).into (e := ⟨o, c, bytes s⟩) (evs_one hX6 (by simp [ec, strOf_bytes])) (by have := HLI.out; omega)
          have HF2 := Sl.mk hfl7
          obtain ⟨a7, m7, k7, rfl⟩ : ∃ a n c, v7 = .slice a n c := by
            obtain ⟨a, c, h⟩ := OwnE.slice hfl7.I
            exact ⟨a, _, c, h⟩
          clear hB6 hX6 hfl7 HF5
          go_upto_region 12 with (at_builtin; refine wpList_appV rfl (.tmp 66) (.tmp 71) 28 28 rfl rfl _ _ _ w7 rfl rfl hap7 ?_)
          clear c0 c1 c2 hap7 hw6
          obtain ⟨vi2, hvi2⟩ : ∃ x, Value.slice a7 m7 k7 = x := ⟨_, rfl⟩
          obtain ⟨li2, hli2⟩ : ∃ x, li ++ [⟨o, c, bytes s⟩] = x := ⟨_, rfl⟩
          have HLI2 : Sl (li2.length ≤ k + 1) := ⟨by rw [← hli2, List.length_append]; have := HLI.out; simp only [List.length_singleton]; omega⟩
          have HEQ2 : Sl (lo ++ la1 = li2) := ⟨by rw [hla1, ← hli2, ← HEQ.out, List.append_assoc]⟩
          rw [hvi2, hli2] at HF2
          rw [hvi2]
          clear hla1 HEQ HLI hli2
          obtain ⟨T, hT⟩ : ∃ T, (if k < nt then ts.getD k 0 % 4 else 0) = T := ⟨_, rfl⟩
          go_wp2
          go_loopw [12, 14] (fun z i wr => ∃ (j : Nat) (u vo : Value) (la lo : List Ev), z = vo ∧ i = .int .i64 (j : Int) ∧ j ≤ T ∧ Sl (lo ++ la = li2) ∧ Sl (Flow w wr q u (1 + (n0 : Int)) (1 + (n1 : Int)) la vi2 li2 vo lo)) (fun _ i _ => T - (intOf i).toNat)
          case atStart => exact ⟨0, _, _, _, _, rfl, rfl, Nat.zero_le _, HEQ2, HF2⟩
          case round =>
            clear HF2 HEQ2
            obtain ⟨j, u3, vo3, la3, lo3, hvo, rfl, hj, HEQ3, HF3⟩ := hrel
            have hvo := hvo.symm
            subst hvo
            by_cases hkt : k < nt
            · have hkt1 : ((k : Int) < (nt : Int)) = True := eq_true (by omega)
              rw [if_pos hkt] at hT
              obtain ⟨y, hy⟩ : ∃ y, ts.getD k 0 = y := ⟨_, rfl⟩
              have hyb : y < 256 := by rw [← hy]; exact HSM.out.getD (by decide) k
              rw [hy] at hT
              obtain ⟨tb, tof, rfl, ht1⟩ := src_at (HT.out.below (Nat.le_refl _) HF3.out.Q.N.L) k (by rw [HNT.out]; exact hkt)
              rw [hy] at ht1
              have hwy : IntKind.i64.wrap (y : Int) = (y : Int) := by rw [IntKind.wrap_i64]; omega
              have htm : (y : Int).tmod 4 = (T : Int) := by rw [Int.tmod_eq_emod_of_nonneg (by omega)]; omega
              have htm2 : (y : Int) % 4 = (T : Int) := by omega
              by_cases hjT : j < T
              · have hjT1 : ((j : Int) < (T : Int)) = True := eq_true (by omega)
                clear hT hy hyb
                cases la3 with
                | nil =>
                  have TK := take_any 0 0 { data := #[] } false HF3.out.Q evV_nil rfl
                  go_wp2_with fail
                  refine TK.mono ?_
                  rintro e w6 ⟨u6, rfl, HQ6, HG6⟩
                  clear TK
                  have HF6 := Sl.mk (HF3.out.queue HQ6.out HG6.out)
                  clear HQ6 HG6
                  obtain ⟨w70, hww70, HBw70, hbw70⟩ := box_ev w6
                  obtain ⟨w7, hww7, HBw7, HCw7⟩ := set_ev hbw70 HBw70.out (Nat.le_refl _) #[.int .i64 0, .int .i64 0, .string { data := #[] }]
                  have HIw7 : (Try.prog.info? 32).map (·.size) = some (#[Value.int .i64 0, .int .i64 0, .string { data := #[] }]).size := ev_info rfl
                  go_upto_region 16 with (refine wpList_store_row rfl 32 (.tmp 15) (.tmp 92) rfl w6.heap.size #[.int .i64 0, .int .i64 0, .string { data := #[] }] rfl rfl 32 #[.int .i64 0, .int .i64 0, .string { data := #[] }] hbw70 HIw7 rfl (ev_all _ _ _) ?_)
                  (try rw [hww7])
                  clear hww70 hww7 hbw70 HBw70 HIw7
                  have HF7 := Sl.mk (HF6.out.below HBw7.out)
                  clear HF6 HBw7 HCw7
                  go_wp2
                  exact ⟨⟨j + 1, _, _, _, _, rfl, by go_num, by omega, HEQ3, HF7⟩, by simp [intOf]; omega⟩
                | cons f r =>
                  obtain ⟨o2, c2', s2, hf⟩ : ∃ o c s, evV f = .agg #[.int .i64 o, .int .i64 c, .string s] := ⟨_, _, _, rfl⟩
                  have HEF := Sl.mk hf
                  have TK := take_any o2 c2' s2 true HF3.out.Q hf rfl
                  clear hf
                  go_wp2_with fail
                  refine TK.mono ?_
                  rintro e w6 ⟨u6, rfl, HQ6, HG6⟩
                  clear TK
                  have HF6 := Sl.mk (HF3.out.queue HQ6.out HG6.out)
                  clear HQ6 HG6
                  obtain ⟨w70, hww70, HBw70, hbw70⟩ := box_ev w6
                  obtain ⟨w7, hww7, HBw7, HCw7⟩ := set_ev hbw70 HBw70.out (Nat.le_refl _) #[.int .i64 o2, .int .i64 c2', .string s2]
                  have HIw7 : (Try.prog.info? 32).map (·.size) = some (#[Value.int .i64 o2, .int .i64 c2', .string s2]).size := ev_info rfl
                  go_upto_region 16 with (refine wpList_store_row rfl 32 (.tmp 15) (.tmp 92) rfl w6.heap.size #[.int .i64 o2, .int .i64 c2', .string s2] rfl rfl 32 #[.int .i64 0, .int .i64 0, .string { data := #[] }] hbw70 HIw7 rfl (ev_all _ _ _) ?_)
                  (try rw [hww7])
                  clear hww70 hww7 hbw70 HBw70 HIw7
                  have HF7 := Sl.mk (HF6.out.below HBw7.out)
                  obtain ⟨d0, d1, d2⟩ := ev_cells HCw7.out
                  clear HF6 HBw7
                  obtain ⟨w8, hw8⟩ : ∃ V, w7.alloc (.cells #[.int .i64 o2, .int .i64 c2', .string s2] 32) = V := ⟨_, rfl⟩
                  have hB8 : Below w7.heap.size w7 w8 := by rw [← hw8]; exact (Below.refl _ _).alloc (Nat.le_refl _) _
                  have hX8 : w8.heap[w7.heap.size]? = some (.cells #[.int .i64 o2, .int .i64 c2', .string s2] 32 (0, 0)) := by rw [← hw8]; exact alloc_new _ _ _ rfl
                  obtain ⟨v9, w9, hap9, hfl9⟩ := (HF7.out.below hB8).outof (e := f) (evs_one hX8 (ev_cs HEF.out)) (by have := congrArg List.length HEQ3.out; rw [List.length_append] at this; have := HLI2.out; omega)
                  have HF9 := Sl.mk hfl9
                  obtain ⟨a9, m9, k9, rfl⟩ : ∃ a n c, v9 = .slice a n c := by
                    obtain ⟨a, c, h⟩ := OwnE.slice hfl9.O
                    exact ⟨a, _, c, h⟩
                  clear hB8 hX8 hfl9 HF7
                  go_wp2_with (at_builtin; refine wpList_appV rfl (.tmp 95) (.tmp 97) 28 28 rfl rfl _ _ _ w9 rfl rfl hap9 ?_)
                  have HEQ9 : Sl ((lo3 ++ [f]) ++ r = li2) := ⟨by rw [← HEQ3.out]; simp⟩
                  exact ⟨⟨j + 1, _, _, _, _, rfl, by go_num, by omega, HEQ9, HF9⟩, by simp [intOf]; omega⟩
              · have hjT1 : ((j : Int) < (T : Int)) = False := eq_false (by omega)
                clear hT hy
                go_wp2
                exact ⟨⟨k + 1, _, _, _, _, _, _, rfl, rfl, by go_num, by omega, HLI2, HEQ3, HF3⟩, by simp [intOf]; omega⟩
            · have hkt1 : ((k : Int) < (nt : Int)) = False := eq_false (by omega)
              clear hT
              go_wp2
              exact ⟨⟨k + 1, _, _, _, _, _, _, rfl, rfl, by go_num, by omega, HLI2, HEQ3, HF3⟩, by simp [intOf]; omega⟩
    · obtain rfl : k = n := by omega
      have hlt : ((k : Int) < (k : Int)) = False := eq_false (by omega)
      go_wp2
      go_loopw [12] (fun z wr => ∃ (u vo : Value) (la lo : List Ev), z = vo ∧ lenS vo = lo.length ∧ Sl (lo ++ la = li) ∧ Sl (Flow w wr q u (1 + (n0 : Int)) (1 + (n1 : Int)) la vi li vo lo)) (fun z _ => li.length - lenS z)
      case atStart =>
        obtain ⟨a, c, h⟩ := OwnE.slice HF.out.O
        exact ⟨_, _, _, _, rfl, by rw [h]; rfl, HEQ, HF⟩
      case round =>
        clear HF HEQ
        obtain ⟨u3, vo3, la3, lo3, hvo, hlo3, HEQ3, HF3⟩ := hrel
        have hvo := hvo.symm
        subst hvo
        cases la3 with
        | nil =>
          have LL := len_any (n := 0) rfl HF3.out.Q.N
          have hz : (((0 : Nat) : Int) > 0) = False := eq_false (by omega)
          have hlo : lo3 = li := by rw [← HEQ3.out, List.append_nil]
          go_wp2_with fail
          refine LL.mono ?_
          rintro e w4 ⟨rfl, rfl⟩
          clear LL
          have SM := esame_any li vi vo3 _ HF3.out.I.evs (by rw [← hlo]; exact HF3.out.O.evs) (by have := HLI.out; omega)
          have HLL := Sl.mk hlo
          clear hlo
          go_wp2_with fail
          refine SM.mono ?_
          rintro e w5 ⟨rfl, HB5⟩
          clear SM
          have HF5 := Sl.mk (HF3.out.below HB5.out)
          have SS := size_any (n := 0) (l := []) HF5.out.Q.N
          go_wp2_with fail
          refine SS.mono ?_
          rintro e w6 ⟨rfl, rfl⟩
          clear SS
          go_wp2
          go_ret
          exact ⟨rfl, HF5.out.Q.N.L⟩
        | cons f r =>
          have LL := len_any (n := r.length + 1) rfl HF3.out.Q.N
          have hz : (((r.length + 1 : Nat) : Int) > 0) = True := eq_true (by omega)
          have hz2 : ((r.length : Int) + 1 > 0) = True := eq_true (by omega)
          have hlen : lo3.length < li.length := by rw [← HEQ3.out, List.length_append, List.length_cons]; omega
          go_wp2_with fail
          refine LL.mono ?_
          rintro e w4 ⟨rfl, rfl⟩
          clear LL
          obtain ⟨o2, c2', s2, hf⟩ : ∃ o c s, evV f = .agg #[.int .i64 o, .int .i64 c, .string s] := ⟨_, _, _, rfl⟩
          have HEF := Sl.mk hf
          have TK := take_any o2 c2' s2 true HF3.out.Q hf rfl
          clear hf
          go_wp2_with fail
          refine TK.mono ?_
          rintro e w6 ⟨u6, rfl, HQ6, HG6⟩
          clear TK
          have HF6 := Sl.mk (HF3.out.queue HQ6.out HG6.out)
          clear HQ6 HG6
          obtain ⟨w70, hww70, HBw70, hbw70⟩ := box_ev w6
          obtain ⟨w7, hww7, HBw7, HCw7⟩ := set_ev hbw70 HBw70.out (Nat.le_refl _) #[.int .i64 o2, .int .i64 c2', .string s2]
          have HIw7 : (Try.prog.info? 32).map (·.size) = some (#[Value.int .i64 o2, .int .i64 c2', .string s2]).size := ev_info rfl
          go_upto_region 20 with (refine wpList_store_row rfl 32 (.tmp 17) (.tmp 105) rfl w6.heap.size #[.int .i64 o2, .int .i64 c2', .string s2] rfl rfl 32 #[.int .i64 0, .int .i64 0, .string { data := #[] }] hbw70 HIw7 rfl (ev_all _ _ _) ?_)
          (try rw [hww7])
          clear hww70 hww7 hbw70 HBw70 HIw7
          have HF7 := Sl.mk (HF6.out.below HBw7.out)
          obtain ⟨d0, d1, d2⟩ := ev_cells HCw7.out
          clear HF6 HBw7
          obtain ⟨w8, hw8⟩ : ∃ V, w7.alloc (.cells #[.int .i64 o2, .int .i64 c2', .string s2] 32) = V := ⟨_, rfl⟩
          have hB8 : Below w7.heap.size w7 w8 := by rw [← hw8]; exact (Below.refl _ _).alloc (Nat.le_refl _) _
          have hX8 : w8.heap[w7.heap.size]? = some (.cells #[.int .i64 o2, .int .i64 c2', .string s2] 32 (0, 0)) := by rw [← hw8]; exact alloc_new _ _ _ rfl
          obtain ⟨v9, w9, hap9, hfl9⟩ := (HF7.out.below hB8).outof (e := f) (evs_one hX8 (ev_cs HEF.out)) (by have := congrArg List.length HEQ3.out; rw [List.length_append, List.length_cons] at this; have := HLI.out; omega)
          have HF9 := Sl.mk hfl9
          obtain ⟨a9, m9, k9, rfl⟩ : ∃ a n c, v9 = .slice a n c := by
            obtain ⟨a, c, h⟩ := OwnE.slice hfl9.O
            exact ⟨a, _, c, h⟩
          clear hB8 hX8 hfl9 HF7
          go_wp2_with (at_builtin; refine wpList_appV rfl (.tmp 109) (.tmp 111) 28 28 rfl rfl _ _ _ w9 rfl rfl hap9 ?_)
          have HEQ9 : Sl ((lo3 ++ [f]) ++ r = li) := ⟨by rw [← HEQ3.out]; simp⟩
          have h9 := OwnE.slice HF9.out.O
          have h9l : m9 = lo3.length + 1 := by
            obtain ⟨a, c, h⟩ := h9
            injection h with _ h _
            rw [h, List.length_append]; rfl
          exact ⟨⟨_, _, _, _, rfl, by rw [List.length_append, h9l]; rfl, HEQ9, HF9⟩, by rw [hlo3]; show li.length - m9 < _; omega⟩
end Go.Proofs.Ytflnmjiopeoodaa.Que
