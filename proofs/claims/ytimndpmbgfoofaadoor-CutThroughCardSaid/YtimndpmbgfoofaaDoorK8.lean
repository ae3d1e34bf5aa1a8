/- CutThrough's walk. -/
import Derived.Test.YtimndpmbgfoofaaDoorCP
set_option maxRecDepth 100000
namespace Go.Proofs.YtimndpmbgfoofaaDoor.Cut
open Go.RowKit MaskPlain Mas Fra Stm CutPlain
open FramePlain (Fr Fr0 form chk ctl zero4)
open MsgPlain (M0)
open Msg (laid_ev ev_new ev_all)

theorem size_pos (f : Fr) : 2 ≤ FramePlain.size f := by unfold FramePlain.size; omega
theorem stt_err (N : Nat) (op : Int) (t : List Nat) (M j : Nat) : (stt N op t M j).err = 0 := by
  unfold stt mid
  split
  · split <;> rfl
  · rfl
theorem evO_none : Msg.evO none = .agg #[.int .i64 0, .int .i64 0, .string { data := #[] }] := rfl
theorem own_at {W : World} {base n c : Nat} {a : Option Addr} {fs : List Fr} (h : OwnR W base (.slice a n c) fs) (hp : 0 < n) : ∃ sb, a = some ⟨sb, 0, none⟩ ∧ FrsAt W (.slice (some ⟨sb, 0, none⟩) n c) fs := by
  have hf := h.frs
  obtain ⟨hl, h2⟩ := h
  rcases h2 with ⟨e, hz⟩ | ⟨g, cap, cur, e, _⟩
  · injection e with _ e2 _
    omega
  · injection e with e1 e2 e3
    subst e1
    exact ⟨g, rfl, hf⟩
theorem got_get {m gs : List Fr} {j i : Nat} (h : gs = (m.drop j).take gs.length) (hi : i < gs.length) : gs.getD i Fr0 = m.getD (j + i) Fr0 := by
  have e : gs.getD i Fr0 = ((m.drop j).take gs.length).getD i Fr0 := congrArg (fun l => l.getD i Fr0) h
  rw [e]
  simp only [List.getD_eq_getElem?_getD, List.getElem?_take_of_lt hi, List.getElem?_drop]
set_option maxHeartbeats 32000000 in
theorem through_walk (tb : Bool) (s : ByteArray) (x : Nat) (u : Value) (ds : List Nat) (y : Nat) (w : World) (hg : Mas.Globs w ∧ Utf.Globs w) (hx : x < 65536) (hu : U32At w u ds) (hs : Small 4294967296 ds) (md : ds.length ≤ maxLen) (hy : y < 256) :
    Calls Tryd.prog 5 #[.bool tb, .string s, .int .u16 (x : Int), u, .int .u8 (y : Int)] w fun e w' => e = .returned (.bool true) ∧ Below w.heap.size w w' := by
  have HG := Sl.mk hg
  have A1 := awake_any w hg.1
  obtain ⟨a', cap', rfl⟩ := hu.slice
  have HU := Sl.mk hu
  have HSM := Sl.mk hs
  obtain ⟨nd, hnd⟩ : ∃ n, ds.length = n := ⟨_, rfl⟩
  have HND := Sl.mk hnd
  have HMD := Sl.mk md
  rw [hnd] at HU md ⊢
  have hd9 : nd ≤ 9223372036854775807 := by unfold maxLen at md; omega
  clear hg hu hs md hnd
  by_cases hl : s.size > 500
  · have hq : ((s.size : Int) > 500) = True := eq_true (by omega)
    clear hl
    go_enter Tryd.func5, Tryd.ntmps5
    go_wp2_with fail
    refine A1.mono ?_
    rintro e w1 ⟨rfl, HB1⟩
    clear A1
    have A2 := awake_any w1 (HG.out.1.below HB1.out HG.out.1.size)
    go_wp2_with fail
    refine A2.mono ?_
    rintro e w3 ⟨rfl, HB2⟩
    clear A2
    have HL := Sl.mk (HB1.out.trans (HB2.out.mono HB1.out.size))
    go_wp2
    go_ret
    exact ⟨rfl, HL.out⟩
  have hq : ((s.size : Int) > 500) = False := eq_false (by omega)
  by_cases hdd : nd < 600
  · have hq2 : ((nd : Int) < 600) = True := eq_true (by omega)
    clear hl hdd
    go_enter Tryd.func5, Tryd.ntmps5
    go_wp2_with fail
    refine A1.mono ?_
    rintro e w1 ⟨rfl, HB1⟩
    clear A1
    have A2 := awake_any w1 (HG.out.1.below HB1.out HG.out.1.size)
    go_wp2_with fail
    refine A2.mono ?_
    rintro e w3 ⟨rfl, HB2⟩
    clear A2
    have HL := Sl.mk (HB1.out.trans (HB2.out.mono HB1.out.size))
    go_wp2
    go_ret
    exact ⟨rfl, HL.out⟩
  have hq2 : ((nd : Int) < 600) = False := eq_false (by omega)
  obtain ⟨M, hM⟩ : ∃ M, 1 + x = M := ⟨_, rfl⟩
  have hM1 : 1 ≤ M ∧ M ≤ 65536 := by omega
  have z0 : IntKind.i64.wrap (x : Int) = (x : Int) := by rw [IntKind.wrap_i64]; omega
  have z1 : IntKind.i64.wrap (1 + (x : Int)) = (M : Int) := by rw [IntKind.wrap_i64]; omega
  obtain ⟨p, hp⟩ : ∃ p, 1 + y = p := ⟨_, rfl⟩
  have z2 : IntKind.i64.wrap (y : Int) = (y : Int) := by rw [IntKind.wrap_i64]; omega
  have z3 : IntKind.i64.wrap (1 + (y : Int)) = (p : Int) := by rw [IntKind.wrap_i64]; omega
  have hp1 : 1 ≤ p ∧ p ≤ 256 := by omega
  have HP := Sl.mk hp1
  have HM := Sl.mk hM1
  have HSZ : Sl (s.size ≤ 500) := ⟨by omega⟩
  have HD6 : Sl (600 ≤ nd) := ⟨by omega⟩
  clear hl hdd hM hM1 hp hp1 hx hy
  cases tb with
  | false =>
    go_enter Tryd.func5, Tryd.ntmps5
    go_wp2_with fail
    refine A1.mono ?_
    rintro e w1 ⟨rfl, HB1⟩
    clear A1
    obtain ⟨n, hn⟩ : ∃ n, (frs M 2 (bytes s)).length = n := ⟨_, rfl⟩
    have hcn : cnt s.size M = n := by rw [← hn, frs_length HM.out.1 _ 2 (bytes s) (Nat.le_refl _), bytes_length]
    obtain ⟨hn1, hn2, hn3, hn4⟩ := cnt_enough (size := s.size) HM.out.1
    clear hn2 hn3
    rw [hcn] at hn1 hn4
    have hn5 : n ≤ 501 := by have := HSZ.out; omega
    have HNN : Sl (1 ≤ n ∧ n ≤ 501) := ⟨hn1, hn5⟩
    have HN := Sl.mk hn
    have hdle : (frs M 2 (bytes s)).length ≤ ds.length := by rw [hn, HND.out]; have := HD6.out; omega
    have HLT : Sl (∀ f ∈ msk K4 (frs M 2 (bytes s)) ds, FrLet f true) := ⟨msk_let HM.out.1 (.inr rfl) (bytes_small s) (by rw [bytes_length]; exact HSZ.out) hdle⟩
    have hml : (msk K4 (frs M 2 (bytes s)) ds).length = n := by rw [msk_length K4 _ _ hdle, hn]
    have hmd : (dataOf (msk K4 (frs M 2 (bytes s)) ds)).length ≤ 500 := by rw [msk_data K4 _ _ hdle, frs_data HM.out.1 _ 2 (bytes s) (Nat.le_refl _), bytes_length]; exact HSZ.out
    have HSTEP : Sl (∀ j, j < n → _) := ⟨fun j hj => stt_take (ds := ds) HM.out.1 (op := 2) (.inr rfl) (t := bytes s) (by rw [bytes_length]; exact HSZ.out) hn (by rw [HND.out]; have := HD6.out; omega) (j := j) hj⟩
    obtain ⟨m, hm⟩ : ∃ m, msk K4 (frs M 2 (bytes s)) ds = m := ⟨_, rfl⟩
    rw [hm] at HLT hml hmd HSTEP
    have HOKM : Sl (∀ f ∈ m, FrOk f) := ⟨fun f hf => (HLT.out f hf).ok⟩
    have HML : Sl (m.length = n) := ⟨hml⟩
    obtain ⟨B, hB⟩ : ∃ B, texts m = B := ⟨_, rfl⟩
    obtain ⟨NB, hNB⟩ : ∃ N, B.length = N := ⟨_, rfl⟩
    have hbf : bytesF m = (B, 0) := by rw [← hB]; exact let_bytes HLT.out
    have HALL : Sl (StreamPlain.all B true 65536 = (m, 0, 0)) := ⟨by rw [← hB]; exact all_texts HLT.out⟩
    have HBS : Sl (Small 256 B) := ⟨by rw [← hB]; exact texts_small HLT.out⟩
    have hlen : NB = sumZ m := by rw [← hNB, ← hB]; exact texts_len m HOKM.out (by omega)
    have HNB : Sl (0 < NB ∧ NB ≤ 10000) := ⟨by
      refine ⟨?_, by have := sumZ_le m; omega⟩
      match m, hml with
      | f :: r, _ =>
        have := size_pos f
        have h2 : sumZ (f :: r) = FramePlain.size f + sumZ r := by simp [sumZ]
        omega
      | [], h => simp at h; omega⟩
    have F1 := frames_yes 2 s M n w1 (.inr rfl) (by have := HSZ.out; omega) HM.out hn
    clear hn hcn hn1 hn4 hn5 hdle hml hlen
    go_wp2_with fail
    refine F1.mono ?_
    rintro e w2 ⟨g, rfl, HR2, _, HX2⟩
    have HB2 : Sl (Below w.heap.size w w2) := ⟨HB1.out.trans (HX2.out.mono HB1.out.size)⟩
    have F2 := masked_yes (frs M 2 (bytes s)) ds _ _ n w2 (HR2.out.frs HN.out (Nat.le_refl _)) (frs_ok HM.out.1 (.inr rfl) (bytes_small s) (by rw [bytes_length]; have := HSZ.out; omega)) (fun f hf => by have := data_le hf; rw [frs_data HM.out.1 _ 2 (bytes s) (Nat.le_refl _), bytes_length] at this; have := HSZ.out; omega) (HU.out.below HB2.out) HSM.out (by rw [HN.out, HND.out]; have := HD6.out; have := HNN.out; omega) HMD.out HN.out (by have := HNN.out; omega)
    rw [hm] at F2
    clear F1 HX2 HB1 HR2
    go_wp2_with fail
    refine F2.mono ?_
    rintro e w3 ⟨rfl, HR3, HX3⟩
    have HB3 : Sl (Below w.heap.size w w3) := ⟨HB2.out.trans (HX3.out.mono HB2.out.size)⟩
    have F3 := bytes_ok m B NB _ w3 (HG.out.1.below HB3.out HG.out.1.size) (HR3.out.frs HML.out (Nat.le_refl _)) HOKM.out (by rw [HML.out]; have := HNN.out; omega) hbf hNB
    clear F2 HX3 HB2 HR3
    go_wp2_with fail
    refine F3.mono ?_
    rintro e wB ⟨aB, cB, rfl, HOB, HXB⟩
    have HBB : Sl (Below w.heap.size w wB) := ⟨HB3.out.trans (HXB.out.mono HB3.out.size)⟩
    have HGB : Sl (Mas.Globs wB ∧ Utf.Globs wB) := ⟨HG.out.1.below HBB.out HG.out.1.size, HG.out.2.below HBB.out HG.out.2.size⟩
    obtain ⟨q, rfl, hcB, hsB⟩ := own_addr HOB.out hNB HNB.out.1
    have HSB := Sl.mk hsB
    have HCB := Sl.mk hcB
    have HLB := Sl.mk hNB
    clear F3 HXB HB3 HOB hsB hcB hbf hNB hB hm hmd
    have N1 := Stm.new_yes true 65536 wB wB (Below.refl _ _) (by omega)
    go_wp2_with fail
    refine N1.mono ?_
    rintro e w4 ⟨rfl, HS4, HX4⟩
    have N2 := Msg.new_yes 1000 wB w4 HX4.out (by omega)
    clear N1
    go_wp2_with fail
    refine N2.mono ?_
    rintro e w5 ⟨rfl, HM5, HX5⟩
    clear N2
    obtain ⟨V6, hV6⟩ : ∃ V, w5.alloc (.cells #[] 57) = V := ⟨_, rfl⟩
    have HB6 : Sl (Below w5.heap.size w5 V6) := ⟨by rw [← hV6]; exact (Below.refl _ _).alloc (Nat.le_refl _) _⟩
    have HT0 : Sl (V6.ownsRow wB.heap.size 57 3 (.slice (some ⟨w5.heap.size, 0, none⟩) 0 0) 0 []) := ⟨by
      rw [← hV6]; exact told_made w5 wB.heap.size (HM5.out.m.L.size)⟩
    have HTH : Sl (Thr wB V6 wB.heap.size w4.heap.size [] (.slice none 0 0) M0 (.slice none 0 0) (.pointer none) (.slice (some ⟨w5.heap.size, 0, none⟩) 0 0) 0 []) :=
      ⟨⟨(HS4.out.below HX5.out).below HB6.out, HM5.out.below HB6.out, HT0.out, fun k hk => by
        have e := Msg.mine_zero hk
        exact ⟨by have := HS4.out.lt; omega, fun h => by cases h⟩⟩⟩
    have HTH2 : Sl (Thr wB V6 wB.heap.size w4.heap.size [] (.slice none 0 0) (stt n 2 (bytes s) M 0) (.slice none 0 0) (.pointer none) (.slice (some ⟨w5.heap.size, 0, none⟩) 0 0) (tln n 0) (tlv n 2 s 0)) := ⟨by
      rw [stt_zero HNN.out.1, show tln n 0 = 0 from if_pos (by have := HNN.out; omega), show tlv n 2 s 0 = [] from if_pos (by have := HNN.out; omega)]; exact HTH.out⟩
    clear HTH HT0 HS4 HX4 HM5 HX5 HB6
    obtain ⟨bs, hbs⟩ : ∃ b, wB.heap.size = b := ⟨_, rfl⟩
    obtain ⟨bm, hbm⟩ : ∃ b, w4.heap.size = b := ⟨_, rfl⟩
    rw [hbs, hbm] at HTH2
    rw [hbs, hbm]
    clear hbs hbm
    go_wp2_with fail
    (try rw [hV6])
    clear hV6
    go_loopw [16, 22] (fun u t wr => ∃ (o c RL j : Nat) (A R part : List Nat) (vS vM pM tv : Value), u = .slice (some ⟨q, o, none⟩) RL c ∧ t = tv ∧ j ≤ n ∧ RL ≤ c ∧ Sl (R.length = RL ∧ A ++ R = B) ∧ Sl (SrcAt wB (.slice (some ⟨q, o, none⟩) RL c) R) ∧ Sl (FedS A true 65536 (m.take j) 0 part) ∧ Sl (Thr wB wr bs bm part vS (stt n 2 (bytes s) M j) vM pM tv (tln n j) (tlv n 2 s j))) (fun u _ _ => lenV u)
    case atStart => exact ⟨0, cB, NB, 0, [], B, [], _, _, _, _, rfl, rfl, Nat.zero_le _, HCB.out, ⟨HLB.out, rfl⟩, HSB, ⟨by rw [List.take_zero]; exact fed_nil true 65536⟩, HTH2⟩
    case round =>
      obtain ⟨o, c, RL, j, A, R, part, vS, vM, pM, tv, rfl, rfl, hj, hRc, HAR, HSR, HFD, HTR⟩ := hrel
      have hRL : RL ≤ 10000 := by have h := congrArg List.length HAR.out.2; rw [List.length_append, HLB.out, HAR.out.1] at h; have := HNB.out; omega
      by_cases hR0 : 0 < RL
      · have hgt : ((RL : Int) > 0) = True := eq_true (by omega)
        have hgt2 : (0 < RL) = True := eq_true hR0
        obtain ⟨N, hN⟩ : ∃ N, (if RL < p then RL else p) = N := ⟨_, rfl⟩
        have hN2 : 1 ≤ N ∧ N ≤ RL := by have := HP.out; split at hN <;> omega
        have hmin : (if (RL : Int) < (p : Int) then (RL : Int) else (p : Int)) = (N : Int) := by
          rw [← hN]
          by_cases h : RL < p
          · rw [if_pos h, if_pos (by omega)]
          · rw [if_neg h, if_neg (by omega)]
        have hAs : Small 256 A := fun z hz => HBS.out z (by rw [← HAR.out.2]; exact List.mem_append_left _ hz)
        have hRs : Small 256 R := fun z hz => HBS.out z (by rw [← HAR.out.2]; exact List.mem_append_right _ hz)
        obtain ⟨gs, lf, part', hall, hpt, hfd, hgs, hle⟩ := thr_feed (C := R.take N) (R := R.drop N) (m := m) (k := 0) hAs (hRs.take N) (hRs.drop N) (by rw [List.take_append_drop, HAR.out.2]; exact HALL.out) HFD.out (by rw [HML.out]; exact hj)
        obtain ⟨hps, hpl, _, _⟩ := fed_part HFD.out hAs
        have hAl : A.length ≤ 10000 := by have h := congrArg List.length HAR.out.2; rw [List.length_append, HLB.out] at h; have := HNB.out; omega
        obtain ⟨ng, hng⟩ : ∃ k, gs.length = k := ⟨_, rfl⟩
        have HFD2 := Sl.mk hfd
        rw [hng] at HFD2 hle
        rw [HML.out] at hle
        have HGS : Sl (gs = (m.drop j).take gs.length) := ⟨hgs⟩
        have HNG := Sl.mk hng
        have HLE := Sl.mk hle
        have hng9 : ng ≤ 1000 := by have := HNN.out; omega
        have hup := fun V => slice_upto V q o RL c N (by omega)
        obtain ⟨o', ho'⟩ : ∃ o', (if c = N then o else o + N) = o' := ⟨_, rfl⟩
        have hen := fun V => slice_end V q o RL c N o' hN2.2 ho'
        have HSR2 : Sl (SrcAt wB (.slice (some ⟨q, o', none⟩) (RL - N) (c - N)) (R.drop N)) := ⟨src_end HSR.out hN2.2 HAR.out.1 ho'⟩
        have HAR2 : Sl ((R.drop N).length = RL - N ∧ (A ++ R.take N) ++ R.drop N = B) := ⟨by rw [List.length_drop, HAR.out.1], by rw [List.append_assoc, List.take_append_drop]; exact HAR.out.2⟩
        have FD := feed2 HTR.out.S HGB.out.1 (.slice (some ⟨q, o, none⟩) N c) (R.take N) ((SrcAt.upto HSR.out hN2.2 HAR.out.1 (by omega)).below (Nat.le_refl _) HTR.out.S.L) hps (hRs.take N) (by rw [List.length_take]; omega) (by omega) hall part' hpt ng hng
        have HN2 := Sl.mk hN2
        clear hN hAs hRs hall hpt hfd hgs hps hpl hAl hng ho' hle
        go_upto_region 15 with fail
        go_upto_region 16 with (refine wpList_minV rfl (.tmp 104) (.tmp 106) rfl rfl (p : Int) (RL : Int) (N : Int) rfl rfl hmin ?_)
        clear hmin
        go_wp2_with fail
        refine FD.mono ?_
        rintro e w7 ⟨ag, cg, vS', rfl, HO7, HS7, HT7, HV7⟩
        have HTH7 := Sl.mk (HTR.out.fed HS7.out HT7.out HV7.out)
        obtain ⟨B7, hB7⟩ : ∃ b, wr.heap.size = b := ⟨_, rfl⟩
        rw [hB7] at HO7
        clear FD HS7 HT7 HV7 HTR hB7 hup
        go_wp2
        go_loopw [22, 26] (fun t i wr' => ∃ (i0 : Nat) (vM pM tv : Value), t = tv ∧ i = .int .i64 (i0 : Int) ∧ i0 ≤ ng ∧ Sl (Thr wB wr' bs bm part' vS' (stt n 2 (bytes s) M (j + i0)) vM pM tv (tln n (j + i0)) (tlv n 2 s (j + i0))) ∧ Sl (OwnR wr' B7 (.slice ag ng cg) gs)) (fun _ i _ => ng - (intOf i).toNat)
        case atStart => exact ⟨0, _, _, _, rfl, rfl, Nat.zero_le _, HTH7, HO7⟩
        case round =>
          obtain ⟨i0, vM, pM, tv, rfl, rfl, hi, HTh, HO⟩ := hrel
          by_cases hin : i0 < ng
          · have hlt : ((i0 : Int) < (ng : Int)) = True := eq_true (by omega)
            obtain ⟨sb, rfl, hfr⟩ := own_at HO.out (by omega)
            have hjn : j + i0 < n := by have := HLE.out; omega
            have hget := got_get HGS.out (i := i0) (by rw [HNG.out]; exact hin)
            obtain ⟨fin, opk, mm, ka, kb, kc, kd, s2, hf, hcv, hsm, hmem⟩ := fr_at HOKM.out (j + i0) (by rw [HML.out]; exact hjn)
            have hcv2 := hcv
            rw [← hget] at hcv2
            obtain ⟨c0, c1, c2, c3, c4, c5, c6, c7⟩ := hfr.at8 i0 (by rw [HNG.out]; exact hin) hcv2
            simp only [Nat.zero_add] at c0 c1 c2 c3 c4 c5 c6 c7
            have HS2 : Sl (s2.size ≤ 100000) := ⟨by
              have h := (HLT.out _ hmem).dl
              rw [hf] at h
              have h2 : (bytes s2).length ≤ 500 := h
              rw [bytes_length] at h2
              omega⟩
            have HF2 := Sl.mk hf
            have HST := HSTEP.out (j + i0) hjn
            have HJN := Sl.mk hjn
            clear hcv hcv2 hget hmem hfr hf
            rcases HST with ⟨hl1, hr1⟩ | ⟨hl1, hr1⟩ | ⟨hl1, hr1⟩
            · have HR1 := Sl.mk hr1
              have HTN : Sl (tln n (j + i0) = 0 ∧ tlv n 2 s (j + i0) = [] ∧ tln n (j + (i0 + 1)) = 0 ∧ tlv n 2 s (j + (i0 + 1)) = []) := ⟨if_pos hjn, if_pos hjn, if_pos hl1, if_pos hl1⟩
              clear hr1 hl1 hjn
              have HIE := Msg.ev_info (cs := #[.int .i64 0, .int .i64 0, .string { data := #[] }]) rfl
              have TK := Msg.take_ex HTh.out.M HGB.out.2 fin opk mm ka kb kc kd s2 hsm HS2.out _ rfl (stt n 2 (bytes s) M (j + i0 + 1)) none (by rw [← HF2.out]; exact HR1.out) 0 0 { data := #[] } evO_none false rfl 0 (by rw [stt_err]; rfl)
              go_wp2_with fail
              refine TK.mono ?_
              rintro e w8 ⟨v8, p8, rfl, HM8, HG8⟩
              have HT8 := Sl.mk (HTh.out.took HM8.out HG8.out)
              have HO8 := Sl.mk (got_took HTh.out HG8.out HO.out)
              clear TK HM8 HG8 c0 c1 c2 c3 c4 c5 c6 c7 HTh HO
              obtain ⟨V8, hV8, HBV8, HEV8⟩ := laid_ev w8 #[.int .i64 0, .int .i64 0, .string { data := #[] }]
              go_upto_region 24 with (refine wpList_store_row rfl 57 (.tmp 27) (.tmp 134) rfl w8.heap.size #[.int .i64 0, .int .i64 0, .string { data := #[] }] rfl rfl 57 #[.int .i64 0, .int .i64 0, .string { data := #[] }] (ev_new w8) HIE rfl (ev_all _ _ _) ?_)
              (try rw [hV8])
              clear hV8
              have HT9 := Sl.mk (HT8.out.below HBV8.out)
              have HO9 := Sl.mk (HO8.out.below HBV8.out)
              have HT10 : Sl (Thr wB V8 bs bm part' vS' (stt n 2 (bytes s) M (j + (i0 + 1))) v8 p8 _ (tln n (j + (i0 + 1))) (tlv n 2 s (j + (i0 + 1)))) := ⟨by
                have h := HT9.out
                rw [HTN.out.1, HTN.out.2.1] at h
                rw [show tln n (j + (i0 + 1)) = 0 from HTN.out.2.2.1, show tlv n 2 s (j + (i0 + 1)) = _ from HTN.out.2.2.2]
                exact h⟩
              clear HT8 HO8 HBV8 HEV8 HT9
              go_wp2
              exact ⟨⟨i0 + 1, v8, p8, _, rfl, by go_num, by omega, HT10, HO9⟩, by simp [intOf]; omega⟩
            · have HR1 := Sl.mk hr1
              have HTN : Sl (tln n (j + i0) = 0 ∧ tlv n 2 s (j + i0) = [] ∧ tln n (j + (i0 + 1)) = 1 ∧ tlv n 2 s (j + (i0 + 1)) = [.int .i64 2, .int .i64 0, .string s]) := ⟨if_pos hjn, if_pos hjn, if_neg (by omega), if_neg (by omega)⟩
              clear hr1 hl1 hjn
              have HIE := Msg.ev_info (cs := #[.int .i64 2, .int .i64 0, .string s]) rfl
              have TK := Msg.take_ex HTh.out.M HGB.out.2 fin opk mm ka kb kc kd s2 hsm HS2.out _ rfl (stt n 2 (bytes s) M (j + i0 + 1)) (some ⟨2, 0, bytes s⟩) (by rw [← HF2.out]; exact HR1.out) 2 0 s (Msg.evO_some _ _ _) true rfl 0 (by rw [stt_err]; rfl)
              go_wp2_with fail
              refine TK.mono ?_
              rintro e w8 ⟨v8, p8, rfl, HM8, HG8⟩
              have HT8 := Sl.mk (HTh.out.took HM8.out HG8.out)
              have HO8 := Sl.mk (got_took HTh.out HG8.out HO.out)
              clear TK HM8 HG8 c0 c1 c2 c3 c4 c5 c6 c7 HTh HO
              obtain ⟨V8, hV8, HBV8, HEV8⟩ := laid_ev w8 #[.int .i64 2, .int .i64 0, .string s]
              go_upto_region 24 with (refine wpList_store_row rfl 57 (.tmp 27) (.tmp 134) rfl w8.heap.size #[.int .i64 2, .int .i64 0, .string s] rfl rfl 57 #[.int .i64 0, .int .i64 0, .string { data := #[] }] (ev_new w8) HIE rfl (ev_all _ _ _) ?_)
              (try rw [hV8])
              clear hV8
              have HT9 := Sl.mk (HT8.out.below HBV8.out)
              have HO9 := Sl.mk (HO8.out.below HBV8.out)
              obtain ⟨e0, e1, e2⟩ := Msg.ev_cells HEV8.out
              obtain ⟨V9, hV9⟩ : ∃ V, V8.alloc (.cells #[.int .i64 2, .int .i64 0, .string s] 57) = V := ⟨_, rfl⟩
              obtain ⟨tv', W9, hr9, HR9, HG9, HB9⟩ := tell_one (by have h := HT9.out.T; rw [HTN.out.1, HTN.out.2.1] at h; exact h) 2 0 s hV9 HT9.out.M.m.L.size
              have HT10 : Sl (Thr wB W9 bs bm part' vS' (stt n 2 (bytes s) M (j + (i0 + 1))) v8 p8 tv' (tln n (j + (i0 + 1))) (tlv n 2 s (j + (i0 + 1)))) := ⟨by
                have h := (HT9.out.below HB9.out).told HR9.out HG9.out
                rw [show tln n (j + (i0 + 1)) = 1 from HTN.out.2.2.1, show tlv n 2 s (j + (i0 + 1)) = _ from HTN.out.2.2.2]
                exact h⟩
              have HO10 : Sl (OwnR W9 B7 (.slice (some ⟨sb, 0, none⟩) ng cg) gs) := ⟨got_told (HT9.out.below HB9.out) HG9.out (HO9.out.below HB9.out)⟩
              clear HT8 HO8 HBV8 HEV8
              go_wp2_with (at_builtin; (try rw [hV9]); refine wpList_appV rfl (.tmp 145) (.tmp 147) 54 54 rfl rfl _ _ _ W9 rfl rfl hr9 ?_)
              exact ⟨⟨i0 + 1, v8, p8, tv', rfl, by go_num, by omega, HT10, HO10⟩, by simp [intOf]; omega⟩
            · have HR1 := Sl.mk hr1
              exact absurd hl1 (by decide)
          · obtain rfl : i0 = ng := by omega
            have hlt : ((i0 : Int) < (i0 : Int)) = False := eq_false (by omega)
            go_wp2
            exact ⟨⟨o', c - N, RL - N, j + i0, A ++ R.take N, R.drop N, part', vS', vM, pM, _, rfl, rfl, HLE.out, by omega, HAR2, HSR2, HFD2, HTh⟩, by have := HN2.out; simp [lenV]; omega⟩
      · obtain rfl : RL = 0 := by omega
        have hA : A = B := by
          have h1 := HAR.out.2
          rw [List.eq_nil_of_length_eq_zero HAR.out.1, List.append_nil] at h1
          exact h1
        subst hA
        obtain ⟨hjn, hpn⟩ := thr_end HALL.out HFD.out (by rw [HML.out]; exact hj)
        rw [HML.out] at hjn
        subst hjn hpn
        have HTN : Sl (tln j j = 1 ∧ tlv j 2 s j = [.int .i64 2, .int .i64 0, .string s]) := ⟨if_neg (Nat.lt_irrefl _), if_neg (Nat.lt_irrefl _)⟩
        rw [HTN.out.1, HTN.out.2] at HTR
        obtain ⟨V9, hV9⟩ : ∃ V, wr.alloc (.cells #[.int .i64 2, .int .i64 0, .string s] 57) = V := ⟨_, rfl⟩
        have HB9 : Sl (Below wr.heap.size wr V9) := ⟨by rw [← hV9]; exact (Below.refl _ _).alloc (Nat.le_refl _) _⟩
        have HN9 : Sl (V9.heap[wr.heap.size]? = some (.cells #[.int .i64 2, .int .i64 0, .string s] 57 (0, 0))) := ⟨by rw [← hV9]; exact alloc_new _ _ _ rfl⟩
        have HTV := Sl.mk (HTR.out.below HB9.out)
        obtain ⟨g1, cp1, rfl, b0, b1, b2⟩ := one_cells HTV.out.T
        obtain ⟨d0, d1, d2⟩ := Msg.ev_cells HN9.out
        have ES := esame_yes V9 g1 cp1 wr.heap.size 1 2 0 s b0 b1 b2 d0 d1 d2
        clear HTR b0 b1 b2 d0 d1 d2 HB9 HN9
        go_wp2_with fail
        (try rw [hV9])
        refine ES.mono ?_
        rintro e w10 ⟨rfl, HX10⟩
        have HTW := Sl.mk (HTV.out.below HX10.out)
        have PT := Stm.part_ex HTW.out.S 0 rfl
        have HBF : Sl (Below w.heap.size w w10) := ⟨HBB.out.trans (HTW.out.S.L.mono HBB.out.size)⟩
        clear ES HX10 HTV hV9 HTW
        go_wp2_with fail
        refine PT.mono ?_
        rintro e w11 ⟨rfl, rfl⟩
        clear PT
        go_wp2
        go_ret
        exact ⟨rfl, HBF.out⟩
  | true =>
    go_enter Tryd.func5, Tryd.ntmps5
    go_wp2_with fail
    refine A1.mono ?_
    rintro e w1 ⟨rfl, HB1⟩
    clear A1
    obtain ⟨n, hn⟩ : ∃ n, (frs M 1 (bytes s)).length = n := ⟨_, rfl⟩
    have hcn : cnt s.size M = n := by rw [← hn, frs_length HM.out.1 _ 1 (bytes s) (Nat.le_refl _), bytes_length]
    obtain ⟨hn1, hn2, hn3, hn4⟩ := cnt_enough (size := s.size) HM.out.1
    clear hn2 hn3
    rw [hcn] at hn1 hn4
    have hn5 : n ≤ 501 := by have := HSZ.out; omega
    have HNN : Sl (1 ≤ n ∧ n ≤ 501) := ⟨hn1, hn5⟩
    have HN := Sl.mk hn
    have hdle : (frs M 1 (bytes s)).length ≤ ds.length := by rw [hn, HND.out]; have := HD6.out; omega
    have HLT : Sl (∀ f ∈ msk K4 (frs M 1 (bytes s)) ds, FrLet f true) := ⟨msk_let HM.out.1 (.inl rfl) (bytes_small s) (by rw [bytes_length]; exact HSZ.out) hdle⟩
    have hml : (msk K4 (frs M 1 (bytes s)) ds).length = n := by rw [msk_length K4 _ _ hdle, hn]
    have hmd : (dataOf (msk K4 (frs M 1 (bytes s)) ds)).length ≤ 500 := by rw [msk_data K4 _ _ hdle, frs_data HM.out.1 _ 1 (bytes s) (Nat.le_refl _), bytes_length]; exact HSZ.out
    have HSTEP : Sl (∀ j, j < n → _) := ⟨fun j hj => stt_take (ds := ds) HM.out.1 (op := 1) (.inl rfl) (t := bytes s) (by rw [bytes_length]; exact HSZ.out) hn (by rw [HND.out]; have := HD6.out; omega) (j := j) hj⟩
    obtain ⟨m, hm⟩ : ∃ m, msk K4 (frs M 1 (bytes s)) ds = m := ⟨_, rfl⟩
    rw [hm] at HLT hml hmd HSTEP
    have HOKM : Sl (∀ f ∈ m, FrOk f) := ⟨fun f hf => (HLT.out f hf).ok⟩
    have HML : Sl (m.length = n) := ⟨hml⟩
    obtain ⟨B, hB⟩ : ∃ B, texts m = B := ⟨_, rfl⟩
    obtain ⟨NB, hNB⟩ : ∃ N, B.length = N := ⟨_, rfl⟩
    have hbf : bytesF m = (B, 0) := by rw [← hB]; exact let_bytes HLT.out
    have HALL : Sl (StreamPlain.all B true 65536 = (m, 0, 0)) := ⟨by rw [← hB]; exact all_texts HLT.out⟩
    have HBS : Sl (Small 256 B) := ⟨by rw [← hB]; exact texts_small HLT.out⟩
    have hlen : NB = sumZ m := by rw [← hNB, ← hB]; exact texts_len m HOKM.out (by omega)
    have HNB : Sl (0 < NB ∧ NB ≤ 10000) := ⟨by
      refine ⟨?_, by have := sumZ_le m; omega⟩
      match m, hml with
      | f :: r, _ =>
        have := size_pos f
        have h2 : sumZ (f :: r) = FramePlain.size f + sumZ r := by simp [sumZ]
        omega
      | [], h => simp at h; omega⟩
    have F1 := frames_yes 1 s M n w1 (.inl rfl) (by have := HSZ.out; omega) HM.out hn
    clear hn hcn hn1 hn4 hn5 hdle hml hlen
    go_wp2_with fail
    refine F1.mono ?_
    rintro e w2 ⟨g, rfl, HR2, _, HX2⟩
    have HB2 : Sl (Below w.heap.size w w2) := ⟨HB1.out.trans (HX2.out.mono HB1.out.size)⟩
    have F2 := masked_yes (frs M 1 (bytes s)) ds _ _ n w2 (HR2.out.frs HN.out (Nat.le_refl _)) (frs_ok HM.out.1 (.inl rfl) (bytes_small s) (by rw [bytes_length]; have := HSZ.out; omega)) (fun f hf => by have := data_le hf; rw [frs_data HM.out.1 _ 1 (bytes s) (Nat.le_refl _), bytes_length] at this; have := HSZ.out; omega) (HU.out.below HB2.out) HSM.out (by rw [HN.out, HND.out]; have := HD6.out; have := HNN.out; omega) HMD.out HN.out (by have := HNN.out; omega)
    rw [hm] at F2
    clear F1 HX2 HB1 HR2
    go_wp2_with fail
    refine F2.mono ?_
    rintro e w3 ⟨rfl, HR3, HX3⟩
    have HB3 : Sl (Below w.heap.size w w3) := ⟨HB2.out.trans (HX3.out.mono HB2.out.size)⟩
    have F3 := bytes_ok m B NB _ w3 (HG.out.1.below HB3.out HG.out.1.size) (HR3.out.frs HML.out (Nat.le_refl _)) HOKM.out (by rw [HML.out]; have := HNN.out; omega) hbf hNB
    clear F2 HX3 HB2 HR3
    go_wp2_with fail
    refine F3.mono ?_
    rintro e wB ⟨aB, cB, rfl, HOB, HXB⟩
    have HBB : Sl (Below w.heap.size w wB) := ⟨HB3.out.trans (HXB.out.mono HB3.out.size)⟩
    have HGB : Sl (Mas.Globs wB ∧ Utf.Globs wB) := ⟨HG.out.1.below HBB.out HG.out.1.size, HG.out.2.below HBB.out HG.out.2.size⟩
    obtain ⟨q, rfl, hcB, hsB⟩ := own_addr HOB.out hNB HNB.out.1
    have HSB := Sl.mk hsB
    have HCB := Sl.mk hcB
    have HLB := Sl.mk hNB
    clear F3 HXB HB3 HOB hsB hcB hbf hNB hB hm hmd
    have N1 := Stm.new_yes true 65536 wB wB (Below.refl _ _) (by omega)
    go_wp2_with fail
    refine N1.mono ?_
    rintro e w4 ⟨rfl, HS4, HX4⟩
    have N2 := Msg.new_yes 1000 wB w4 HX4.out (by omega)
    clear N1
    go_wp2_with fail
    refine N2.mono ?_
    rintro e w5 ⟨rfl, HM5, HX5⟩
    clear N2
    obtain ⟨V6, hV6⟩ : ∃ V, w5.alloc (.cells #[] 57) = V := ⟨_, rfl⟩
    have HB6 : Sl (Below w5.heap.size w5 V6) := ⟨by rw [← hV6]; exact (Below.refl _ _).alloc (Nat.le_refl _) _⟩
    have HT0 : Sl (V6.ownsRow wB.heap.size 57 3 (.slice (some ⟨w5.heap.size, 0, none⟩) 0 0) 0 []) := ⟨by
      rw [← hV6]; exact told_made w5 wB.heap.size (HM5.out.m.L.size)⟩
    have HTH : Sl (Thr wB V6 wB.heap.size w4.heap.size [] (.slice none 0 0) M0 (.slice none 0 0) (.pointer none) (.slice (some ⟨w5.heap.size, 0, none⟩) 0 0) 0 []) :=
      ⟨⟨(HS4.out.below HX5.out).below HB6.out, HM5.out.below HB6.out, HT0.out, fun k hk => by
        have e := Msg.mine_zero hk
        exact ⟨by have := HS4.out.lt; omega, fun h => by cases h⟩⟩⟩
    have HTH2 : Sl (Thr wB V6 wB.heap.size w4.heap.size [] (.slice none 0 0) (stt n 1 (bytes s) M 0) (.slice none 0 0) (.pointer none) (.slice (some ⟨w5.heap.size, 0, none⟩) 0 0) (tln n 0) (tlv n 1 s 0)) := ⟨by
      rw [stt_zero HNN.out.1, show tln n 0 = 0 from if_pos (by have := HNN.out; omega), show tlv n 1 s 0 = [] from if_pos (by have := HNN.out; omega)]; exact HTH.out⟩
    clear HTH HT0 HS4 HX4 HM5 HX5 HB6
    obtain ⟨bs, hbs⟩ : ∃ b, wB.heap.size = b := ⟨_, rfl⟩
    obtain ⟨bm, hbm⟩ : ∃ b, w4.heap.size = b := ⟨_, rfl⟩
    rw [hbs, hbm] at HTH2
    rw [hbs, hbm]
    clear hbs hbm
    go_wp2_with fail
    (try rw [hV6])
    clear hV6
    go_loopw [16, 22] (fun u t wr => ∃ (o c RL j : Nat) (A R part : List Nat) (vS vM pM tv : Value), u = .slice (some ⟨q, o, none⟩) RL c ∧ t = tv ∧ j ≤ n ∧ RL ≤ c ∧ Sl (R.length = RL ∧ A ++ R = B) ∧ Sl (SrcAt wB (.slice (some ⟨q, o, none⟩) RL c) R) ∧ Sl (FedS A true 65536 (m.take j) 0 part) ∧ Sl (Thr wB wr bs bm part vS (stt n 1 (bytes s) M j) vM pM tv (tln n j) (tlv n 1 s j))) (fun u _ _ => lenV u)
    case atStart => exact ⟨0, cB, NB, 0, [], B, [], _, _, _, _, rfl, rfl, Nat.zero_le _, HCB.out, ⟨HLB.out, rfl⟩, HSB, ⟨by rw [List.take_zero]; exact fed_nil true 65536⟩, HTH2⟩
    case round =>
      obtain ⟨o, c, RL, j, A, R, part, vS, vM, pM, tv, rfl, rfl, hj, hRc, HAR, HSR, HFD, HTR⟩ := hrel
      have hRL : RL ≤ 10000 := by have h := congrArg List.length HAR.out.2; rw [List.length_append, HLB.out, HAR.out.1] at h; have := HNB.out; omega
      by_cases hR0 : 0 < RL
      · have hgt : ((RL : Int) > 0) = True := eq_true (by omega)
        have hgt2 : (0 < RL) = True := eq_true hR0
        obtain ⟨N, hN⟩ : ∃ N, (if RL < p then RL else p) = N := ⟨_, rfl⟩
        have hN2 : 1 ≤ N ∧ N ≤ RL := by have := HP.out; split at hN <;> omega
        have hmin : (if (RL : Int) < (p : Int) then (RL : Int) else (p : Int)) = (N : Int) := by
          rw [← hN]
          by_cases h : RL < p
          · rw [if_pos h, if_pos (by omega)]
          · rw [if_neg h, if_neg (by omega)]
        have hAs : Small 256 A := fun z hz => HBS.out z (by rw [← HAR.out.2]; exact List.mem_append_left _ hz)
        have hRs : Small 256 R := fun z hz => HBS.out z (by rw [← HAR.out.2]; exact List.mem_append_right _ hz)
        obtain ⟨gs, lf, part', hall, hpt, hfd, hgs, hle⟩ := thr_feed (C := R.take N) (R := R.drop N) (m := m) (k := 0) hAs (hRs.take N) (hRs.drop N) (by rw [List.take_append_drop, HAR.out.2]; exact HALL.out) HFD.out (by rw [HML.out]; exact hj)
        obtain ⟨hps, hpl, _, _⟩ := fed_part HFD.out hAs
        have hAl : A.length ≤ 10000 := by have h := congrArg List.length HAR.out.2; rw [List.length_append, HLB.out] at h; have := HNB.out; omega
        obtain ⟨ng, hng⟩ : ∃ k, gs.length = k := ⟨_, rfl⟩
        have HFD2 := Sl.mk hfd
        rw [hng] at HFD2 hle
        rw [HML.out] at hle
        have HGS : Sl (gs = (m.drop j).take gs.length) := ⟨hgs⟩
        have HNG := Sl.mk hng
        have HLE := Sl.mk hle
        have hng9 : ng ≤ 1000 := by have := HNN.out; omega
        have hup := fun V => slice_upto V q o RL c N (by omega)
        obtain ⟨o', ho'⟩ : ∃ o', (if c = N then o else o + N) = o' := ⟨_, rfl⟩
        have hen := fun V => slice_end V q o RL c N o' hN2.2 ho'
        have HSR2 : Sl (SrcAt wB (.slice (some ⟨q, o', none⟩) (RL - N) (c - N)) (R.drop N)) := ⟨src_end HSR.out hN2.2 HAR.out.1 ho'⟩
        have HAR2 : Sl ((R.drop N).length = RL - N ∧ (A ++ R.take N) ++ R.drop N = B) := ⟨by rw [List.length_drop, HAR.out.1], by rw [List.append_assoc, List.take_append_drop]; exact HAR.out.2⟩
        have FD := feed2 HTR.out.S HGB.out.1 (.slice (some ⟨q, o, none⟩) N c) (R.take N) ((SrcAt.upto HSR.out hN2.2 HAR.out.1 (by omega)).below (Nat.le_refl _) HTR.out.S.L) hps (hRs.take N) (by rw [List.length_take]; omega) (by omega) hall part' hpt ng hng
        have HN2 := Sl.mk hN2
        clear hN hAs hRs hall hpt hfd hgs hps hpl hAl hng ho' hle
        go_upto_region 15 with fail
        go_upto_region 16 with (refine wpList_minV rfl (.tmp 104) (.tmp 106) rfl rfl (p : Int) (RL : Int) (N : Int) rfl rfl hmin ?_)
        clear hmin
        go_wp2_with fail
        refine FD.mono ?_
        rintro e w7 ⟨ag, cg, vS', rfl, HO7, HS7, HT7, HV7⟩
        have HTH7 := Sl.mk (HTR.out.fed HS7.out HT7.out HV7.out)
        obtain ⟨B7, hB7⟩ : ∃ b, wr.heap.size = b := ⟨_, rfl⟩
        rw [hB7] at HO7
        clear FD HS7 HT7 HV7 HTR hB7 hup
        go_wp2
        go_loopw [22, 26] (fun t i wr' => ∃ (i0 : Nat) (vM pM tv : Value), t = tv ∧ i = .int .i64 (i0 : Int) ∧ i0 ≤ ng ∧ Sl (Thr wB wr' bs bm part' vS' (stt n 1 (bytes s) M (j + i0)) vM pM tv (tln n (j + i0)) (tlv n 1 s (j + i0))) ∧ Sl (OwnR wr' B7 (.slice ag ng cg) gs)) (fun _ i _ => ng - (intOf i).toNat)
        case atStart => exact ⟨0, _, _, _, rfl, rfl, Nat.zero_le _, HTH7, HO7⟩
        case round =>
          obtain ⟨i0, vM, pM, tv, rfl, rfl, hi, HTh, HO⟩ := hrel
          by_cases hin : i0 < ng
          · have hlt : ((i0 : Int) < (ng : Int)) = True := eq_true (by omega)
            obtain ⟨sb, rfl, hfr⟩ := own_at HO.out (by omega)
            have hjn : j + i0 < n := by have := HLE.out; omega
            have hget := got_get HGS.out (i := i0) (by rw [HNG.out]; exact hin)
            obtain ⟨fin, opk, mm, ka, kb, kc, kd, s2, hf, hcv, hsm, hmem⟩ := fr_at HOKM.out (j + i0) (by rw [HML.out]; exact hjn)
            have hcv2 := hcv
            rw [← hget] at hcv2
            obtain ⟨c0, c1, c2, c3, c4, c5, c6, c7⟩ := hfr.at8 i0 (by rw [HNG.out]; exact hin) hcv2
            simp only [Nat.zero_add] at c0 c1 c2 c3 c4 c5 c6 c7
            have HS2 : Sl (s2.size ≤ 100000) := ⟨by
              have h := (HLT.out _ hmem).dl
              rw [hf] at h
              have h2 : (bytes s2).length ≤ 500 := h
              rw [bytes_length] at h2
              omega⟩
            have HF2 := Sl.mk hf
            have HST := HSTEP.out (j + i0) hjn
            have HJN := Sl.mk hjn
            clear hcv hcv2 hget hmem hfr hf
            rcases HST with ⟨hl1, hr1⟩ | ⟨hl1, hr1⟩ | ⟨hl1, hr1⟩
            · have HR1 := Sl.mk hr1
              have HTN : Sl (tln n (j + i0) = 0 ∧ tlv n 1 s (j + i0) = [] ∧ tln n (j + (i0 + 1)) = 0 ∧ tlv n 1 s (j + (i0 + 1)) = []) := ⟨if_pos hjn, if_pos hjn, if_pos hl1, if_pos hl1⟩
              clear hr1 hl1 hjn
              have HIE := Msg.ev_info (cs := #[.int .i64 0, .int .i64 0, .string { data := #[] }]) rfl
              have TK := Msg.take_ex HTh.out.M HGB.out.2 fin opk mm ka kb kc kd s2 hsm HS2.out _ rfl (stt n 1 (bytes s) M (j + i0 + 1)) none (by rw [← HF2.out]; exact HR1.out) 0 0 { data := #[] } evO_none false rfl 0 (by rw [stt_err]; rfl)
              go_wp2_with fail
              refine TK.mono ?_
              rintro e w8 ⟨v8, p8, rfl, HM8, HG8⟩
              have HT8 := Sl.mk (HTh.out.took HM8.out HG8.out)
              have HO8 := Sl.mk (got_took HTh.out HG8.out HO.out)
              clear TK HM8 HG8 c0 c1 c2 c3 c4 c5 c6 c7 HTh HO
              obtain ⟨V8, hV8, HBV8, HEV8⟩ := laid_ev w8 #[.int .i64 0, .int .i64 0, .string { data := #[] }]
              go_upto_region 24 with (refine wpList_store_row rfl 57 (.tmp 27) (.tmp 134) rfl w8.heap.size #[.int .i64 0, .int .i64 0, .string { data := #[] }] rfl rfl 57 #[.int .i64 0, .int .i64 0, .string { data := #[] }] (ev_new w8) HIE rfl (ev_all _ _ _) ?_)
              (try rw [hV8])
              clear hV8
              have HT9 := Sl.mk (HT8.out.below HBV8.out)
              have HO9 := Sl.mk (HO8.out.below HBV8.out)
              have HT10 : Sl (Thr wB V8 bs bm part' vS' (stt n 1 (bytes s) M (j + (i0 + 1))) v8 p8 _ (tln n (j + (i0 + 1))) (tlv n 1 s (j + (i0 + 1)))) := ⟨by
                have h := HT9.out
                rw [HTN.out.1, HTN.out.2.1] at h
                rw [show tln n (j + (i0 + 1)) = 0 from HTN.out.2.2.1, show tlv n 1 s (j + (i0 + 1)) = _ from HTN.out.2.2.2]
                exact h⟩
              clear HT8 HO8 HBV8 HEV8 HT9
              go_wp2
              exact ⟨⟨i0 + 1, v8, p8, _, rfl, by go_num, by omega, HT10, HO9⟩, by simp [intOf]; omega⟩
            · have HR1 := Sl.mk hr1
              have HTN : Sl (tln n (j + i0) = 0 ∧ tlv n 1 s (j + i0) = [] ∧ tln n (j + (i0 + 1)) = 1 ∧ tlv n 1 s (j + (i0 + 1)) = [.int .i64 1, .int .i64 0, .string s]) := ⟨if_pos hjn, if_pos hjn, if_neg (by omega), if_neg (by omega)⟩
              clear hr1 hl1 hjn
              have HIE := Msg.ev_info (cs := #[.int .i64 1, .int .i64 0, .string s]) rfl
              have TK := Msg.take_ex HTh.out.M HGB.out.2 fin opk mm ka kb kc kd s2 hsm HS2.out _ rfl (stt n 1 (bytes s) M (j + i0 + 1)) (some ⟨1, 0, bytes s⟩) (by rw [← HF2.out]; exact HR1.out) 1 0 s (Msg.evO_some _ _ _) true rfl 0 (by rw [stt_err]; rfl)
              go_wp2_with fail
              refine TK.mono ?_
              rintro e w8 ⟨v8, p8, rfl, HM8, HG8⟩
              have HT8 := Sl.mk (HTh.out.took HM8.out HG8.out)
              have HO8 := Sl.mk (got_took HTh.out HG8.out HO.out)
              clear TK HM8 HG8 c0 c1 c2 c3 c4 c5 c6 c7 HTh HO
              obtain ⟨V8, hV8, HBV8, HEV8⟩ := laid_ev w8 #[.int .i64 1, .int .i64 0, .string s]
              go_upto_region 24 with (refine wpList_store_row rfl 57 (.tmp 27) (.tmp 134) rfl w8.heap.size #[.int .i64 1, .int .i64 0, .string s] rfl rfl 57 #[.int .i64 0, .int .i64 0, .string { data := #[] }] (ev_new w8) HIE rfl (ev_all _ _ _) ?_)
              (try rw [hV8])
              clear hV8
              have HT9 := Sl.mk (HT8.out.below HBV8.out)
              have HO9 := Sl.mk (HO8.out.below HBV8.out)
              obtain ⟨e0, e1, e2⟩ := Msg.ev_cells HEV8.out
              obtain ⟨V9, hV9⟩ : ∃ V, V8.alloc (.cells #[.int .i64 1, .int .i64 0, .string s] 57) = V := ⟨_, rfl⟩
              obtain ⟨tv', W9, hr9, HR9, HG9, HB9⟩ := tell_one (by have h := HT9.out.T; rw [HTN.out.1, HTN.out.2.1] at h; exact h) 1 0 s hV9 HT9.out.M.m.L.size
              have HT10 : Sl (Thr wB W9 bs bm part' vS' (stt n 1 (bytes s) M (j + (i0 + 1))) v8 p8 tv' (tln n (j + (i0 + 1))) (tlv n 1 s (j + (i0 + 1)))) := ⟨by
                have h := (HT9.out.below HB9.out).told HR9.out HG9.out
                rw [show tln n (j + (i0 + 1)) = 1 from HTN.out.2.2.1, show tlv n 1 s (j + (i0 + 1)) = _ from HTN.out.2.2.2]
                exact h⟩
              have HO10 : Sl (OwnR W9 B7 (.slice (some ⟨sb, 0, none⟩) ng cg) gs) := ⟨got_told (HT9.out.below HB9.out) HG9.out (HO9.out.below HB9.out)⟩
              clear HT8 HO8 HBV8 HEV8
              go_wp2_with (at_builtin; (try rw [hV9]); refine wpList_appV rfl (.tmp 145) (.tmp 147) 54 54 rfl rfl _ _ _ W9 rfl rfl hr9 ?_)
              exact ⟨⟨i0 + 1, v8, p8, tv', rfl, by go_num, by omega, HT10, HO10⟩, by simp [intOf]; omega⟩
            · have HR1 := Sl.mk hr1
              clear hr1 hl1 hjn
              have HIE := Msg.ev_info (cs := #[.int .i64 0, .int .i64 0, .string { data := #[] }]) rfl
              have TK := Msg.take_ex HTh.out.M HGB.out.2 fin opk mm ka kb kc kd s2 hsm HS2.out _ rfl (MsgPlain.bad 122) none (by rw [← HF2.out]; exact HR1.out) 0 0 { data := #[] } evO_none false rfl 122 rfl
              go_wp2_with fail
              refine TK.mono ?_
              rintro e w8 ⟨v8, p8, rfl, HM8, HG8⟩
              have HT8 := Sl.mk (HTh.out.took HM8.out HG8.out)
              have HO8 := Sl.mk (got_took HTh.out HG8.out HO.out)
              clear TK HM8 HG8 c0 c1 c2 c3 c4 c5 c6 c7 HTh HO
              obtain ⟨V8, hV8, HBV8, HEV8⟩ := laid_ev w8 #[.int .i64 0, .int .i64 0, .string { data := #[] }]
              go_upto_region 24 with (refine wpList_store_row rfl 57 (.tmp 27) (.tmp 134) rfl w8.heap.size #[.int .i64 0, .int .i64 0, .string { data := #[] }] rfl rfl 57 #[.int .i64 0, .int .i64 0, .string { data := #[] }] (ev_new w8) HIE rfl (ev_all _ _ _) ?_)
              (try rw [hV8])
              clear hV8
              have HT9 := Sl.mk (HT8.out.below HBV8.out)
              have HBF : Sl (Below w.heap.size w V8) := ⟨HBB.out.trans (HT9.out.S.L.mono HBB.out.size)⟩
              clear HT8 HO8 HBV8 HEV8 HT9
              go_wp2
              go_ret
              exact ⟨rfl, HBF.out⟩
          · obtain rfl : i0 = ng := by omega
            have hlt : ((i0 : Int) < (i0 : Int)) = False := eq_false (by omega)
            go_wp2
            exact ⟨⟨o', c - N, RL - N, j + i0, A ++ R.take N, R.drop N, part', vS', vM, pM, _, rfl, rfl, HLE.out, by omega, HAR2, HSR2, HFD2, HTh⟩, by have := HN2.out; simp [lenV]; omega⟩
      · obtain rfl : RL = 0 := by omega
        have hA : A = B := by
          have h1 := HAR.out.2
          rw [List.eq_nil_of_length_eq_zero HAR.out.1, List.append_nil] at h1
          exact h1
        subst hA
        obtain ⟨hjn, hpn⟩ := thr_end HALL.out HFD.out (by rw [HML.out]; exact hj)
        rw [HML.out] at hjn
        subst hjn hpn
        have HTN : Sl (tln j j = 1 ∧ tlv j 1 s j = [.int .i64 1, .int .i64 0, .string s]) := ⟨if_neg (Nat.lt_irrefl _), if_neg (Nat.lt_irrefl _)⟩
        rw [HTN.out.1, HTN.out.2] at HTR
        obtain ⟨V9, hV9⟩ : ∃ V, wr.alloc (.cells #[.int .i64 1, .int .i64 0, .string s] 57) = V := ⟨_, rfl⟩
        have HB9 : Sl (Below wr.heap.size wr V9) := ⟨by rw [← hV9]; exact (Below.refl _ _).alloc (Nat.le_refl _) _⟩
        have HN9 : Sl (V9.heap[wr.heap.size]? = some (.cells #[.int .i64 1, .int .i64 0, .string s] 57 (0, 0))) := ⟨by rw [← hV9]; exact alloc_new _ _ _ rfl⟩
        have HTV := Sl.mk (HTR.out.below HB9.out)
        obtain ⟨g1, cp1, rfl, b0, b1, b2⟩ := one_cells HTV.out.T
        obtain ⟨d0, d1, d2⟩ := Msg.ev_cells HN9.out
        have ES := esame_yes V9 g1 cp1 wr.heap.size 1 1 0 s b0 b1 b2 d0 d1 d2
        clear HTR b0 b1 b2 d0 d1 d2 HB9 HN9
        go_wp2_with fail
        (try rw [hV9])
        refine ES.mono ?_
        rintro e w10 ⟨rfl, HX10⟩
        have HTW := Sl.mk (HTV.out.below HX10.out)
        have PT := Stm.part_ex HTW.out.S 0 rfl
        have HBF : Sl (Below w.heap.size w w10) := ⟨HBB.out.trans (HTW.out.S.L.mono HBB.out.size)⟩
        clear ES HX10 HTV hV9 HTW
        go_wp2_with fail
        refine PT.mono ?_
        rintro e w11 ⟨rfl, rfl⟩
        clear PT
        go_wp2
        go_ret
        exact ⟨rfl, HBF.out⟩
end Go.Proofs.YtimndpmbgfoofaaDoor.Cut
