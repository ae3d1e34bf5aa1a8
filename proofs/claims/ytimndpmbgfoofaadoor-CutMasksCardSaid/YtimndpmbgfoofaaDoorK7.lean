/- CutMasks' walk. -/
import Derived.Test.YtimndpmbgfoofaaDoorCL
set_option maxRecDepth 100000
namespace Go.Proofs.YtimndpmbgfoofaaDoor.Cut
open Go.RowKit MaskPlain Mas Fra Stm CutPlain
open FramePlain (Fr Fr0 form chk ctl zero4)

theorem slice_end_run {W : World} {ev : Operand → Value} {o : Oper} {x y : Operand} {q o0 R c N o' : Nat} (ho : o.op = .slice 36 x (some y) none none) (hx : ev x = .slice (some ⟨q, o0, none⟩) R c) (hy : ev y = .int .i64 (N : Int)) (hN : N ≤ R) (h' : (if c = N then o0 else o0 + N) = o') :
    (execOp ev o).run Tryd.prog W = .ok (.value (.slice (some ⟨q, o', none⟩) (R - N) (c - N))) W := by
  unfold execOp
  simp only [ho, hx, hy, Option.map_none, Option.map_some, Sem.run_bind]
  rw [run_sliceAt_slice (h := Tryd.underlying36), slice_end W q o0 R c N o' hN h']
  rfl
set_option maxHeartbeats 16000000 in
theorem masks_walk (v : Value) (fs : List Fr) (u : Value) (ds : List Nat) (w : World) (hg : Mas.Globs w) (hv : FrsAt w v fs) (ok : ∀ f ∈ fs, FrOk f) (ml : fs.length ≤ maxLen) (hu : U32At w u ds) (hs : Small 4294967296 ds) (md : ds.length ≤ maxLen) : Calls Tryd.prog 7 #[v, u] w fun e w' => e = .returned (.bool true) ∧ Below w.heap.size w w' := by
  have HG := Sl.mk hg
  have A1 := awake_any w hg
  obtain ⟨a, cap, rfl⟩ := hv.slice
  obtain ⟨a', cap', rfl⟩ := hu.slice
  have HV := Sl.mk hv
  have HU := Sl.mk hu
  have HOK := Sl.mk ok
  have HML := Sl.mk ml
  have HSM := Sl.mk hs
  obtain ⟨n, hn⟩ : ∃ n, fs.length = n := ⟨_, rfl⟩
  obtain ⟨nd, hnd⟩ : ∃ n, ds.length = n := ⟨_, rfl⟩
  have HN := Sl.mk hn
  have HND := Sl.mk hnd
  have HCP : Sl (n ≤ cap) := ⟨by obtain ⟨_, _, _, _, he, h2, _⟩ := hv; injection he with _ e2 e3; omega⟩
  obtain ⟨fw, hfw⟩ : ∃ b, Msg.fewF fs = b := ⟨_, rfl⟩
  have HFW := Sl.mk hfw
  rw [hn] at HV ⊢
  rw [hnd] at HU md ⊢
  have hd9 : nd ≤ 9223372036854775807 := by unfold maxLen at md; omega
  clear hg hv ok ml hfw hu hs md
  cases fw with
  | false =>
    clear hn hnd
    go_enter Tryd.func7, Tryd.ntmps7
    go_wp2_with fail
    refine A1.mono ?_
    rintro e w1 ⟨rfl, HB1⟩
    clear A1
    have FW := Msg.few_any fs _ w1 (HV.out.below HB1.out) HML.out
    rw [HFW.out] at FW
    go_wp2_with fail
    refine FW.mono ?_
    rintro e w2 ⟨rfl, rfl⟩
    clear FW
    have A2 := awake_any w1 (HG.out.below HB1.out HG.out.size)
    go_wp2_with fail
    refine A2.mono ?_
    rintro e w3 ⟨rfl, HB2⟩
    clear A2
    have HL := Sl.mk (HB1.out.trans (HB2.out.mono HB1.out.size))
    go_wp2
    go_ret
    exact ⟨rfl, HL.out⟩
  | true =>
  by_cases hd : nd > 50
  · have hq : ((nd : Int) > 50) = True := eq_true (by omega)
    clear hn hnd hd
    go_enter Tryd.func7, Tryd.ntmps7
    go_wp2_with fail
    refine A1.mono ?_
    rintro e w1 ⟨rfl, HB1⟩
    clear A1
    have FW := Msg.few_any fs _ w1 (HV.out.below HB1.out) HML.out
    rw [HFW.out] at FW
    go_wp2_with fail
    refine FW.mono ?_
    rintro e w2 ⟨rfl, rfl⟩
    clear FW
    have A2 := awake_any w1 (HG.out.below HB1.out HG.out.size)
    go_wp2_with fail
    refine A2.mono ?_
    rintro e w3 ⟨rfl, HB2⟩
    clear A2
    have HL := Sl.mk (HB1.out.trans (HB2.out.mono HB1.out.size))
    go_wp2
    go_ret
    exact ⟨rfl, HL.out⟩
  have hq : ((nd : Int) > 50) = False := eq_false (by omega)
  obtain ⟨hz, hl30⟩ := few_room HFW.out
  have HZ := Sl.mk hz
  have HLN : Sl (n ≤ 30) := ⟨by omega⟩
  have ZA : Sl (14 * fs.length + (dataOf fs).length ≤ 1000000) := ⟨by omega⟩
  have hnn : n ≤ 9223372036854775807 := by omega
  have HNN : Sl (n ≤ 30 ∧ nd ≤ 50) := ⟨by omega, by omega⟩
  clear hn hnd hd hz hl30
  by_cases hlt0 : nd < n
  · have hq3 : ((nd : Int) < (n : Int)) = True := eq_true (by omega)
    have HLT := Sl.mk hlt0
    clear hlt0
    go_enter Tryd.func7, Tryd.ntmps7
    go_wp2_with fail
    refine A1.mono ?_
    rintro e w1 ⟨rfl, HB1⟩
    clear A1
    have FW := Msg.few_any fs _ w1 (HV.out.below HB1.out) HML.out
    rw [HFW.out] at FW
    go_wp2_with fail
    refine FW.mono ?_
    rintro e w2 ⟨rfl, rfl⟩
    clear FW
    have HBw1 := HB1
    clear HB1
    obtain ⟨a5, c5, V5, hr5, HO5, HX5⟩ := copy_frs w1 (.slice a n cap) fs n (HV.out.below HBw1.out) HN.out (by have := HLN.out; omega)
    have HBV5 : Sl (Below w.heap.size w V5) := ⟨HBw1.out.trans (HX5.out.mono HBw1.out.size)⟩
    have CB5 := masked_no fs ds _ _ V5 HO5.out.frs (HU.out.below HBV5.out) (by rw [HND.out, HN.out]; exact HLT.out) HML.out
    go_wp2_with (at_builtin; refine wpList_appV rfl (.tmp 27) (.tmp 28) 23 23 rfl rfl _ _ _ V5 rfl rfl hr5 ?_)
    refine CB5.mono ?_
    rintro e y5 ⟨rfl, rfl⟩
    have HBy5 : Sl (Below w.heap.size w V5) := HBV5
    clear CB5 hr5 HO5 HBV5 HX5
    go_wp2
    go_ret
    exact ⟨rfl, HBy5.out⟩
  · have hq3 : ((nd : Int) < (n : Int)) = False := eq_false (by omega)
    have HLT : Sl (n ≤ nd) := ⟨by omega⟩
    clear hlt0
    go_enter Tryd.func7, Tryd.ntmps7
    go_wp2_with fail
    refine A1.mono ?_
    rintro e w1 ⟨rfl, HB1⟩
    clear A1
    have FW := Msg.few_any fs _ w1 (HV.out.below HB1.out) HML.out
    rw [HFW.out] at FW
    go_wp2_with fail
    refine FW.mono ?_
    rintro e w2 ⟨rfl, rfl⟩
    clear FW
    have HBw1 := HB1
    clear HB1
    obtain ⟨a5, c5, V5, hr5, HO5, HX5⟩ := copy_frs w1 (.slice a n cap) fs n (HV.out.below HBw1.out) HN.out (by have := HLN.out; omega)
    have HBV5 : Sl (Below w.heap.size w V5) := ⟨HBw1.out.trans (HX5.out.mono HBw1.out.size)⟩
    have CB5 := masked_yes fs ds _ _ n V5 HO5.out.frs HOK.out (fun f hf => by have := data_le hf; have := ZA.out; omega) (HU.out.below HBV5.out) HSM.out (by rw [HND.out, HN.out]; exact HLT.out) (by rw [HND.out]; exact Nat.le_trans HNN.out.2 (by decide)) HN.out (by have := HLN.out; omega)
    go_wp2_with (at_builtin; refine wpList_appV rfl (.tmp 27) (.tmp 28) 23 23 rfl rfl _ _ _ V5 rfl rfl hr5 ?_)
    refine CB5.mono ?_
    rintro e y5 ⟨rfl, HR5, HY5⟩
    have HBy5 : Sl (Below w.heap.size w y5) := ⟨HBV5.out.trans (HY5.out.mono HBV5.out.size)⟩
    obtain ⟨gm, hgm⟩ : ∃ g, V5.heap.size = g := ⟨_, rfl⟩
    rw [hgm] at HR5 ⊢
    clear CB5 hr5 HO5 HBV5 HX5 hgm HY5
    go_wp2
    go_loopw [7] (fun i wr => ∃ k : Nat, i = .int .i64 (k : Int) ∧ k ≤ n ∧ Sl (RowF wr gm (msk K4 fs ds)) ∧ Sl (Below w.heap.size w wr)) (fun i _ => n - (intOf i).toNat)
    case atStart => exact ⟨0, rfl, Nat.zero_le _, HR5, HBy5⟩
    case round =>
      obtain ⟨k, rfl, hk, HR, HB⟩ := hrel
      by_cases hkn : k < n
      · have hlt : ((k : Int) < (n : Int)) = True := eq_true (by omega)
        have hkf : k < fs.length := by rw [HN.out]; exact hkn
        have hkn2 := HNN.out.1
        obtain ⟨sb, so, rfl⟩ := HV.out.cap.2 (by omega)
        obtain ⟨fin, op, m, ka, kb, kc, kd, s, hf, hcw, hsm, hmem⟩ := fr_at HOK.out k hkf
        obtain ⟨c0, c1, c2, c3, c4, c5, c6, c7⟩ := (HV.out.below HB.out).at8 k hkf hcw
        have HCV := Sl.mk hcw
        have hEq := eq_zero4 ka kb kc kd hsm
        have zk : IntKind.i64.wrap ((k : Int) + 1) = (k : Int) + 1 := by rw [IntKind.wrap_i64]; omega
        cases m with
        | true =>
          clear hf hcw hsm hmem hkf c0 c1 c7 c3 c4 c5 c6
          go_wp2
          go_ret
          exact ⟨rfl, HB.out⟩
        | false =>
        obtain ⟨zz, hzz⟩ : ∃ z, decide ([ka, kb, kc, kd] = zero4) = z := ⟨_, rfl⟩
        rw [hzz] at hEq
        cases zz with
        | false =>
          clear hf hcw hsm hmem hkf c0 c1 c7
          go_wp2
          go_ret
          exact ⟨rfl, HB.out⟩
        | true =>
        have hkz : [ka, kb, kc, kd] = zero4 := of_decide_eq_true hzz
        obtain ⟨x0, x1, x2, x3, hx⟩ := be4 (ds.getD k 0)
        have hks : Small 256 [x0, x1, x2, x3] := by rw [← hx]; exact K4_small _
        have hf2 : fs.getD k Fr0 = (⟨fin, op, false, zero4, bytes s⟩ : Fr) := by rw [hf, hkz]
        have hmk : (msk K4 fs ds).getD k Fr0 = (⟨fin, op, true, [x0, x1, x2, x3], bytes s⟩ : Fr) := by
          rw [msk_get K4 fs ds k (by rw [HN.out, HND.out]; exact HLT.out) hkf, hf2, hx]
        have hsz : s.size ≤ 300 := by
          have := (Msg.few_all HFW.out).1 _ hmem
          rw [hf, strOf_size] at this
          simpa [bytes_length] using this
        have OK1 : Sl (∀ f ∈ [fs.getD k Fr0], FrOk f) := ⟨fun f hf => by
          obtain rfl := List.mem_singleton.1 hf; exact HOK.out _ hmem⟩
        have OK2 : Sl (∀ f ∈ [(msk K4 fs ds).getD k Fr0], FrOk f) := ⟨fun f hf' => by
          obtain rfl := List.mem_singleton.1 hf'
          rw [hmk]
          have h := HOK.out _ hmem
          rw [hf2] at h
          exact ⟨rfl, hks, h.ds, h.dl, h.op⟩⟩
        have ZD1 : Sl (14 * [fs.getD k Fr0].length + (dataOf [fs.getD k Fr0]).length ≤ 1000000) := ⟨by
          rw [hf2]; simp [dataOf, bytes_length]; omega⟩
        have ZD2 : Sl (14 * [(msk K4 fs ds).getD k Fr0].length + (dataOf [(msk K4 fs ds).getD k Fr0]).length ≤ 1000000) := ⟨by
          rw [hmk]; simp [dataOf, bytes_length]; omega⟩
        have HLM : Sl ((msk K4 fs ds).length = n) := ⟨by rw [msk_length K4 fs ds (by rw [HN.out, HND.out]; exact HLT.out), HN.out]⟩
        have hs1 := fun V => fslice_one V sb so n cap k hkn HCP.out
        have hs2 := fun V => fslice_one V gm 0 n n k hkn (Nat.le_refl _)
        simp only [Nat.zero_add] at hs2
        obtain ⟨e0, he0⟩ : ∃ e, chk (fs.getD k Fr0) = e := ⟨_, rfl⟩
        have he1 : chk ((msk K4 fs ds).getD k Fr0) = e0 := by rw [hmk, chk_masked, ← hf2]; exact he0
        have j3 : ((e0 : Int) != (e0 : Int)) = false := by simp
        by_cases hz0 : e0 = 0
        · subst hz0
          obtain ⟨b0, l, Lr, hl, hta, htb⟩ := mask_parts fin op [x0, x1, x2, x3] (bytes s) (by rw [bytes_length]; omega)
          rw [← hf2] at hta
          rw [← hmk] at htb
          obtain ⟨A, hA⟩ : ∃ A, FramePlain.text (fs.getD k Fr0) = A := ⟨_, rfl⟩
          obtain ⟨B, hB⟩ : ∃ B, FramePlain.text ((msk K4 fs ds).getD k Fr0) = B := ⟨_, rfl⟩
          rw [hA] at hta
          rw [hB] at htb
          obtain ⟨r, hr⟩ : ∃ r, Lr.length = r := ⟨_, rfl⟩
          obtain ⟨h, hh⟩ : ∃ h, 2 + r = h := ⟨_, rfl⟩
          obtain ⟨NA, hNA⟩ : ∃ N, h + s.size = N := ⟨_, rfl⟩
          have HLA : Sl (A.length = NA) := ⟨by rw [hta]; simp [bytes_length]; omega⟩
          have HLB : Sl (B.length = NA + 4) := ⟨by rw [htb]; simp [turn_length, bytes_length]; omega⟩
          obtain ⟨T1, hT1⟩ : ∃ T, strOf [b0] = T := ⟨_, rfl⟩
          obtain ⟨T2, hT2⟩ : ∃ T, strOf Lr = T := ⟨_, rfl⟩
          obtain ⟨T4, hT4⟩ : ∃ T, strOf (turn [x0, x1, x2, x3] 0 (bytes s)) = T := ⟨_, rfl⟩
          have hAP : ∀ W, Calls Tryd.prog 28 #[.agg #[.int .u8 (x0 : Int), .int .u8 (x1 : Int), .int .u8 (x2 : Int), .int .u8 (x3 : Int)], .int .i64 0, .string s] W fun e w' => e = .returned (.string T4) ∧ Sl (Below W.heap.size W w') := fun W => by
            have := refapply_any [x0, x1, x2, x3] 0 s W rfl hks (by omega)
            rw [show rest4 0 = 0 from rfl, hT4] at this
            exact this
          have HPT : Sl (strOf ((A.drop 0).take 1) = T1 ∧ strOf ((B.drop 0).take 1) = T1 ∧ strOf ((A.drop 2).take r) = T2 ∧ strOf ((B.drop 2).take r) = T2 ∧ strOf ((B.drop (h + 4)).take (NA + 4 - (h + 4))) = T4 ∧ A.getD 1 0 = l ∧ B.getD 1 0 = l + 128) := ⟨by
            have e1 : NA + 4 - (h + 4) = (turn [x0, x1, x2, x3] 0 (bytes s)).length := by rw [turn_length, bytes_length]; omega
            have e2 : B.drop (h + 4) = turn [x0, x1, x2, x3] 0 (bytes s) := by
              rw [htb, ← hh, ← hr, show 2 + Lr.length + 4 = Lr.length + 4 + 1 + 1 from by omega, List.drop_succ_cons, List.drop_succ_cons, List.drop_append, List.drop_eq_nil_of_le (by omega), List.nil_append, show Lr.length + 4 - Lr.length = 4 from by omega]
              rfl
            refine ⟨by rw [hta]; exact hT1, by rw [htb]; exact hT1, ?_, ?_, ?_, by rw [hta]; rfl, by rw [htb]; rfl⟩
            · rw [hta, ← hr]; simp only [List.drop_succ_cons, List.drop_zero]; rw [List.take_left]; exact hT2
            · rw [htb, ← hr]; simp only [List.drop_succ_cons, List.drop_zero]; rw [List.take_left]; exact hT2
            · rw [e2, e1, List.take_length]; exact hT4⟩
          have hb1 : bytesF [fs.getD k Fr0] = (A, 0) := by rw [bytesF_one, if_neg (by rw [he0]; exact fun h => h rfl), hA]
          have hb2 : bytesF [(msk K4 fs ds).getD k Fr0] = (B, 0) := by rw [bytesF_one, if_neg (by rw [he1]; exact fun h => h rfl), hB]
          have HBF1 := Sl.mk hb1
          have HBF2 := Sl.mk hb2
          have zl : IntKind.u8.wrap ((l : Int) + 128) = ((l + 128 : Nat) : Int) := by rw [IntKind.wrap_u8]; omega
          have hl2 : l < 128 := hl
          have hb30 : r ≤ 20 := by
            have h1 := size_le (fs.getD k Fr0)
            have h2 := FramePlain.text_length (fs.getD k Fr0) (by rw [hf2]; show (bytes s).length ≤ _; rw [bytes_length]; omega) (HOK.out _ hmem).k4
            rw [hA, HLA.out] at h2
            have h3 : (fs.getD k Fr0).data.length = s.size := by rw [hf2]; exact bytes_length s
            omega
          have zn : IntKind.i64.wrap ((NA : Int) - (s.size : Int)) = (h : Int) := by rw [IntKind.wrap_i64]; omega
          have zn2 : IntKind.i64.wrap ((NA : Int) + 4) = (NA : Int) + 4 := by rw [IntKind.wrap_i64]; omega
          have zn4 : IntKind.i64.wrap ((h : Int) + 4) = (h : Int) + 4 := by rw [IntKind.wrap_i64]; omega
          have hr2 : h - 2 = r := by omega
          have HH2 : Sl (2 ≤ h ∧ h ≤ NA ∧ 2 + r = h ∧ h + s.size = NA) := ⟨by omega⟩
          have HF2 := Sl.mk hf2
          have HMK := Sl.mk hmk
          clear hf hcw hsm hkz hzz hx hks hta htb hA hB hr hh hT1 hT2 hT4 hb1 hb2 he0 he1 hf2 hmk hmem hl
          go_wp2_with fail
          refine (bytes_ok [fs.getD k Fr0] A NA _ wr (HG.out.below HB.out HG.out.size) (frs_at (HV.out.below HB.out) hkn) OK1.out ZD1.out HBF1.out HLA.out).mono ?_
          rintro e y6 ⟨aA, cA, rfl, HOA, HX6⟩
          have HB6 : Sl (Below w.heap.size w y6) := ⟨HB.out.trans (HX6.out.mono HB.out.size)⟩
          have HR6 : Sl (RowF y6 gm (msk K4 fs ds)) := ⟨HR.out.below HX6.out⟩
          clear c0 c1 c2 c3 c4 c5 c6 c7 HX6 HB HR hEq
          go_wp2_with fail
          refine (bytes_ok [(msk K4 fs ds).getD k Fr0] B (NA + 4) _ y6 (HG.out.below HB6.out HG.out.size) (by have h := frs_at (HR6.out.frs HLM.out (Nat.le_refl _)) hkn; rw [Nat.zero_add] at h; exact h) OK2.out ZD2.out HBF2.out HLB.out).mono ?_
          rintro e y7 ⟨aB, cB, rfl, HOB, HX7⟩
          have HB7 : Sl (Below w.heap.size w y7) := ⟨HB6.out.trans (HX7.out.mono HB6.out.size)⟩
          have HR7 : Sl (RowF y7 gm (msk K4 fs ds)) := ⟨HR6.out.below HX7.out⟩
          obtain ⟨gA, rfl, hcA, hsA⟩ := own_addr (own_below HOA.out HX7.out) HLA.out (by have := HH2.out; omega)
          obtain ⟨gB, rfl, hcB, hsB⟩ := own_addr HOB.out HLB.out (by have := HH2.out; omega)
          have HCA := Sl.mk hcA
          have HCB := Sl.mk hcB
          have HSA := Sl.mk hsA
          have HSB := Sl.mk hsB
          clear HX7 HB6 HR6 HOA HOB hsA hsB
          have s7 : y7.cell? ⟨sb, so + k * 8 + 7, none⟩ = some (.string s) := by
            obtain ⟨_, _, _, _, _, _, _, c7⟩ := (HV.out.below HB7.out).at8 k hkf HCV.out
            exact c7
          go_upto_region 17 with fail
          have hh2 := HH2.out
          have hcA' := HCA.out
          have hcB' := HCB.out
          have hmc : ∀ j, j < 8 → y7.cell? ⟨gm, k * 8 + j, none⟩ = ([.bool fin, .int .i64 op, .bool true, .int .u8 (x0 : Int), .int .u8 (x1 : Int), .int .u8 (x2 : Int), .int .u8 (x3 : Int), .string s] : List Value)[j]? := fun j hj => by
            rw [HR7.out.cell (by rw [HLM.out]; exact hkn) hj, HMK.out]
            show ([Value.bool fin, .int .i64 op, .bool true, .int .u8 (x0 : Int), .int .u8 (x1 : Int), .int .u8 (x2 : Int), .int .u8 (x3 : Int), .string (strOf (bytes s))] : List Value)[j]? = _
            rw [strOf_bytes]
          have m3 : y7.cell? ⟨gm, k * 8 + 3, none⟩ = some (.int .u8 (x0 : Int)) := hmc 3 (by decide)
          have m4 : y7.cell? ⟨gm, k * 8 + 4, none⟩ = some (.int .u8 (x1 : Int)) := hmc 4 (by decide)
          have m5 : y7.cell? ⟨gm, k * 8 + 5, none⟩ = some (.int .u8 (x2 : Int)) := hmc 5 (by decide)
          have m6 : y7.cell? ⟨gm, k * 8 + 6, none⟩ = some (.int .u8 (x3 : Int)) := hmc 6 (by decide)
          have cA1 : y7.cell? ⟨gA, 1, none⟩ = some (.int .u8 (l : Int)) := by
            have h := src_cell HSA.out 1 (by rw [HLA.out]; omega); rw [HPT.out.2.2.2.2.2.1] at h; exact h
          have cB1 : y7.cell? ⟨gB, 1, none⟩ = some (.int .u8 ((l + 128 : Nat) : Int)) := by
            have h := src_cell HSB.out 1 (by rw [HLB.out]; omega); rw [HPT.out.2.2.2.2.2.2] at h; exact h
          have zero1 : ∀ c : Nat, (if c = 0 then 0 else 0 + 0) = 0 := fun c => by split <;> rfl
          have cvA1 : ∀ V, Below y7.heap.size y7 V → (convert 36 9 (.slice (some ⟨gA, 0, none⟩) 1 cA)).run Tryd.prog V = .ok (.string T1) V := fun V hV => sub_conv (HSA.out.below (Nat.le_refl _) hV) HLA.out (zero1 cA) (by omega) (by omega) HPT.out.1
          have cvB1 : ∀ V, Below y7.heap.size y7 V → (convert 36 9 (.slice (some ⟨gB, 0, none⟩) 1 cB)).run Tryd.prog V = .ok (.string T1) V := fun V hV => sub_conv (HSB.out.below (Nat.le_refl _) hV) HLB.out (zero1 cB) (by omega) (by omega) HPT.out.2.1
          obtain ⟨ofA, hofA⟩ : ∃ o, (if cA = 2 then 0 else 0 + 2) = o := ⟨_, rfl⟩
          obtain ⟨ofB, hofB⟩ : ∃ o, (if cB = 2 then 0 else 0 + 2) = o := ⟨_, rfl⟩
          obtain ⟨ofD, hofD⟩ : ∃ o, (if cB = h + 4 then 0 else 0 + (h + 4)) = o := ⟨_, rfl⟩
          have cvA2 : ∀ V, Below y7.heap.size y7 V → (convert 36 9 (.slice (some ⟨gA, ofA, none⟩) r (cA - 2))).run Tryd.prog V = .ok (.string T2) V := fun V hV => sub_conv (HSA.out.below (Nat.le_refl _) hV) HLA.out hofA (by omega) (by omega) HPT.out.2.2.1
          have cvB2 : ∀ V, Below y7.heap.size y7 V → (convert 36 9 (.slice (some ⟨gB, ofB, none⟩) r (cB - 2))).run Tryd.prog V = .ok (.string T2) V := fun V hV => sub_conv (HSB.out.below (Nat.le_refl _) hV) HLB.out hofB (by omega) (by omega) HPT.out.2.2.2.1
          have cvB4 : ∀ V, Below y7.heap.size y7 V → (convert 36 9 (.slice (some ⟨gB, ofD, none⟩) (NA + 4 - (h + 4)) (cB - (h + 4)))).run Tryd.prog V = .ok (.string T4) V := fun V hV => sub_conv (HSB.out.below (Nat.le_refl _) hV) HLB.out hofD (by omega) (by omega) HPT.out.2.2.2.2.1
          have hg1 : (1 : Int) < (NA : Int) := by omega
          have hg2 : (1 : Int) < (NA : Int) + 4 := by omega
          clear hmc zero1
          go_upto_region 17 with fail
          obtain ⟨Rw, hRw⟩ : ∃ R, y7.drew = R := ⟨_, rfl⟩
          have HBR : Below y7.heap.size y7 Rw := by rw [← hRw]; exact (Below.refl _ _).drew
          refine wp_region_noPanic ?_
          refine wp_region_held (S := fun V => Below y7.heap.size y7 V) (by kernel_rfl) ?_
          change wpAnyH _ _ _ _ _ _ _ _ y7.drew
          rw [hRw]
          clear hRw
          refine heldTake (d := some 93) (op := .move (Operand.tmp 10)) (g := none) 0 ?v0 rfl (by kernel_rfl) (by kernel_rfl) (by kernel_rfl) (by kernel_rfl) ?y0 HBR ?_
          case y0 => intro o' ho W hS; simp only [execOp, ho]; go_simp; try rfl
          simp only [Act.put, List.setIfInBounds_toArray, List.set_cons_zero, List.set_cons_succ]
          refine heldTake (d := some 94) (op := .call { callee := Callee.builtin Builtin.len, args := #[Operand.tmp 93], argTypes := #[36] }) (g := none) 1 (.int .i64 ((NA : Int) + 4)) rfl (by kernel_rfl) (by kernel_rfl) (by kernel_rfl) (by kernel_rfl) ?y1 HBR ?_
          case y1 => intro o' ho W hS; exact (by simp only [execOp, ho]; go_simp; try rfl)
          simp only [Act.put, List.setIfInBounds_toArray, List.set_cons_zero, List.set_cons_succ]
          refine heldTake (d := some 95) (op := .move (Operand.tmp 8)) (g := none) 2 ?v2 rfl (by kernel_rfl) (by kernel_rfl) (by kernel_rfl) (by kernel_rfl) ?y2 HBR ?_
          case y2 => intro o' ho W hS; simp only [execOp, ho]; go_simp; try rfl
          simp only [Act.put, List.setIfInBounds_toArray, List.set_cons_zero, List.set_cons_succ]
          refine heldTake (d := some 96) (op := .call { callee := Callee.builtin Builtin.len, args := #[Operand.tmp 95], argTypes := #[36] }) (g := none) 3 (.int .i64 (NA : Int)) rfl (by kernel_rfl) (by kernel_rfl) (by kernel_rfl) (by kernel_rfl) ?y3 HBR ?_
          case y3 => intro o' ho W hS; exact (by simp only [execOp, ho]; go_simp; try rfl)
          simp only [Act.put, List.setIfInBounds_toArray, List.set_cons_zero, List.set_cons_succ]
          refine heldTake (d := some 97) (op := .binOp BinOp.add 3 (Operand.tmp 96) (Operand.const (Value.int IntKind.i64 4)) 3) (g := none) 4 (.int .i64 ((NA : Int) + 4)) rfl (by kernel_rfl) (by kernel_rfl) (by kernel_rfl) (by kernel_rfl) ?y4 HBR ?_
          case y4 => intro o' ho W hS; exact (by simp only [execOp, ho]; go_simp; try rfl)
          simp only [Act.put, List.setIfInBounds_toArray, List.set_cons_zero, List.set_cons_succ]
          refine heldTake (d := some 98) (op := .binOp BinOp.neq 3 (Operand.tmp 94) (Operand.tmp 97) 3) (g := none) 5 (.bool false) rfl (by kernel_rfl) (by kernel_rfl) (by kernel_rfl) (by kernel_rfl) ?y5 HBR ?_
          case y5 => intro o' ho W hS; exact (by simp only [execOp, ho]; go_simp; try rfl)
          simp only [Act.put, List.setIfInBounds_toArray, List.set_cons_zero, List.set_cons_succ]
          refine heldTake (d := some 99) (op := .move (Operand.tmp 98)) (g := none) 6 ?v6 rfl (by kernel_rfl) (by kernel_rfl) (by kernel_rfl) (by kernel_rfl) ?y6 HBR ?_
          case y6 => intro o' ho W hS; simp only [execOp, ho]; go_simp; try rfl
          simp only [Act.put, List.setIfInBounds_toArray, List.set_cons_zero, List.set_cons_succ]
          refine heldTake (d := some 100) (op := .move (Operand.tmp 10)) (g := some (6, false)) 7 ?v7 rfl (by kernel_rfl) (by kernel_rfl) (by kernel_rfl) (by kernel_rfl) ?y7 HBR ?_
          case y7 => intro o' ho W hS; simp only [execOp, ho]; go_simp; try rfl
          simp only [Act.put, List.setIfInBounds_toArray, List.set_cons_zero, List.set_cons_succ]
          refine heldTake (d := some 101) (op := .slice 36 (Operand.tmp 100) none (some (Operand.const (Value.int IntKind.i64 1))) none) (g := some (6, false)) 8 (.slice (some ⟨gB, 0, none⟩) 1 cB) rfl (by kernel_rfl) (by kernel_rfl) (by kernel_rfl) (by kernel_rfl) ?y8 HBR ?_
          case y8 => intro o' ho W hS; exact slice_to ho (by rfl) (by rfl) (by omega)
          simp only [Act.put, List.setIfInBounds_toArray, List.set_cons_zero, List.set_cons_succ]
          refine heldTake (d := some 102) (op := .convert 36 9 (Operand.tmp 101)) (g := some (6, false)) 9 (.string T1) rfl (by kernel_rfl) (by kernel_rfl) (by kernel_rfl) (by kernel_rfl) ?y9 HBR ?_
          case y9 => intro o' ho W hS; exact conv_run ho (by rfl) (cvB1 _ hS)
          simp only [Act.put, List.setIfInBounds_toArray, List.set_cons_zero, List.set_cons_succ]
          refine heldTake (d := some 103) (op := .move (Operand.tmp 8)) (g := some (6, false)) 10 ?v10 rfl (by kernel_rfl) (by kernel_rfl) (by kernel_rfl) (by kernel_rfl) ?y10 HBR ?_
          case y10 => intro o' ho W hS; simp only [execOp, ho]; go_simp; try rfl
          simp only [Act.put, List.setIfInBounds_toArray, List.set_cons_zero, List.set_cons_succ]
          refine heldTake (d := some 104) (op := .slice 36 (Operand.tmp 103) none (some (Operand.const (Value.int IntKind.i64 1))) none) (g := some (6, false)) 11 (.slice (some ⟨gA, 0, none⟩) 1 cA) rfl (by kernel_rfl) (by kernel_rfl) (by kernel_rfl) (by kernel_rfl) ?y11 HBR ?_
          case y11 => intro o' ho W hS; exact slice_to ho (by rfl) (by rfl) (by omega)
          simp only [Act.put, List.setIfInBounds_toArray, List.set_cons_zero, List.set_cons_succ]
          refine heldTake (d := some 105) (op := .convert 36 9 (Operand.tmp 104)) (g := some (6, false)) 12 (.string T1) rfl (by kernel_rfl) (by kernel_rfl) (by kernel_rfl) (by kernel_rfl) ?y12 HBR ?_
          case y12 => intro o' ho W hS; exact conv_run ho (by rfl) (cvA1 _ hS)
          simp only [Act.put, List.setIfInBounds_toArray, List.set_cons_zero, List.set_cons_succ]
          refine heldTake (d := some 106) (op := .binOp BinOp.neq 9 (Operand.tmp 102) (Operand.tmp 105) 9) (g := some (6, false)) 13 (.bool false) rfl (by kernel_rfl) (by kernel_rfl) (by kernel_rfl) (by kernel_rfl) ?y13 HBR ?_
          case y13 => intro o' ho W hS; exact (by simp only [execOp, ho]; go_simp; try rfl)
          simp only [Act.put, List.setIfInBounds_toArray, List.set_cons_zero, List.set_cons_succ]
          refine heldTake (d := some 107) (op := .pick (Operand.tmp 99) (Operand.const (Value.bool true)) (Operand.tmp 106)) (g := none) 14 ?v14 rfl (by kernel_rfl) (by kernel_rfl) (by kernel_rfl) (by kernel_rfl) ?y14 HBR ?_
          case y14 => intro o' ho W hS; simp only [execOp, ho]; go_simp; try rfl
          simp only [Act.put, List.setIfInBounds_toArray, List.set_cons_zero, List.set_cons_succ]
          refine heldTake (d := some 108) (op := .move (Operand.tmp 107)) (g := none) 15 ?v15 rfl (by kernel_rfl) (by kernel_rfl) (by kernel_rfl) (by kernel_rfl) ?y15 HBR ?_
          case y15 => intro o' ho W hS; simp only [execOp, ho]; go_simp; try rfl
          simp only [Act.put, List.setIfInBounds_toArray, List.set_cons_zero, List.set_cons_succ]
          refine heldTake (d := some 109) (op := .move (Operand.tmp 10)) (g := some (15, false)) 16 ?v16 rfl (by kernel_rfl) (by kernel_rfl) (by kernel_rfl) (by kernel_rfl) ?y16 HBR ?_
          case y16 => intro o' ho W hS; simp only [execOp, ho]; go_simp; try rfl
          simp only [Act.put, List.setIfInBounds_toArray, List.set_cons_zero, List.set_cons_succ]
          refine heldTake (d := some 110) (op := .indexAddr 36 (Operand.tmp 109) (Operand.const (Value.int IntKind.i64 1))) (g := some (15, false)) 17 (.pointer (some ⟨gB, 1, none⟩)) rfl (by kernel_rfl) (by kernel_rfl) (by kernel_rfl) (by kernel_rfl) ?y17 HBR ?_
          case y17 => intro o' ho W hS; exact (by simp only [execOp, ho]; go_simp; try rfl)
          simp only [Act.put, List.setIfInBounds_toArray, List.set_cons_zero, List.set_cons_succ]
          refine heldTake (d := some 111) (op := .load 5 (Operand.tmp 110)) (g := some (15, false)) 18 (.int .u8 ((l + 128 : Nat) : Int)) rfl (by kernel_rfl) (by kernel_rfl) (by kernel_rfl) (by kernel_rfl) ?y18 HBR ?_
          case y18 => intro o' ho W hS; exact (by have hcx := (hS.cell (block_lt_of_cell cB1)).trans cB1; simp only [execOp, ho]; go_simp; try rfl)
          simp only [Act.put, List.setIfInBounds_toArray, List.set_cons_zero, List.set_cons_succ]
          refine heldTake (d := some 112) (op := .move (Operand.tmp 8)) (g := some (15, false)) 19 ?v19 rfl (by kernel_rfl) (by kernel_rfl) (by kernel_rfl) (by kernel_rfl) ?y19 HBR ?_
          case y19 => intro o' ho W hS; simp only [execOp, ho]; go_simp; try rfl
          simp only [Act.put, List.setIfInBounds_toArray, List.set_cons_zero, List.set_cons_succ]
          refine heldTake (d := some 113) (op := .indexAddr 36 (Operand.tmp 112) (Operand.const (Value.int IntKind.i64 1))) (g := some (15, false)) 20 (.pointer (some ⟨gA, 1, none⟩)) rfl (by kernel_rfl) (by kernel_rfl) (by kernel_rfl) (by kernel_rfl) ?y20 HBR ?_
          case y20 => intro o' ho W hS; exact (by simp only [execOp, ho]; go_simp; try rfl)
          simp only [Act.put, List.setIfInBounds_toArray, List.set_cons_zero, List.set_cons_succ]
          refine heldTake (d := some 114) (op := .load 5 (Operand.tmp 113)) (g := some (15, false)) 21 (.int .u8 (l : Int)) rfl (by kernel_rfl) (by kernel_rfl) (by kernel_rfl) (by kernel_rfl) ?y21 HBR ?_
          case y21 => intro o' ho W hS; exact (by have hcx := (hS.cell (block_lt_of_cell cA1)).trans cA1; simp only [execOp, ho]; go_simp; try rfl)
          simp only [Act.put, List.setIfInBounds_toArray, List.set_cons_zero, List.set_cons_succ]
          refine heldTake (d := some 115) (op := .binOp BinOp.add 5 (Operand.tmp 114) (Operand.const (Value.int IntKind.u8 128)) 5) (g := some (15, false)) 22 (.int .u8 ((l + 128 : Nat) : Int)) rfl (by kernel_rfl) (by kernel_rfl) (by kernel_rfl) (by kernel_rfl) ?y22 HBR ?_
          case y22 => intro o' ho W hS; exact (by simp only [execOp, ho]; go_simp; try rfl)
          simp only [Act.put, List.setIfInBounds_toArray, List.set_cons_zero, List.set_cons_succ]
          refine heldTake (d := some 116) (op := .binOp BinOp.neq 5 (Operand.tmp 111) (Operand.tmp 115) 5) (g := some (15, false)) 23 (.bool false) rfl (by kernel_rfl) (by kernel_rfl) (by kernel_rfl) (by kernel_rfl) ?y23 HBR ?_
          case y23 => intro o' ho W hS; exact (by simp only [execOp, ho]; go_simp; try rfl)
          simp only [Act.put, List.setIfInBounds_toArray, List.set_cons_zero, List.set_cons_succ]
          refine heldTake (d := some 117) (op := .pick (Operand.tmp 108) (Operand.const (Value.bool true)) (Operand.tmp 116)) (g := none) 24 ?v24 rfl (by kernel_rfl) (by kernel_rfl) (by kernel_rfl) (by kernel_rfl) ?y24 HBR ?_
          case y24 => intro o' ho W hS; simp only [execOp, ho]; go_simp; try rfl
          simp only [Act.put, List.setIfInBounds_toArray, List.set_cons_zero, List.set_cons_succ]
          refine heldTake (d := some 118) (op := .move (Operand.tmp 117)) (g := none) 25 ?v25 rfl (by kernel_rfl) (by kernel_rfl) (by kernel_rfl) (by kernel_rfl) ?y25 HBR ?_
          case y25 => intro o' ho W hS; simp only [execOp, ho]; go_simp; try rfl
          simp only [Act.put, List.setIfInBounds_toArray, List.set_cons_zero, List.set_cons_succ]
          refine heldTake (d := some 119) (op := .move (Operand.tmp 10)) (g := some (25, false)) 26 ?v26 rfl (by kernel_rfl) (by kernel_rfl) (by kernel_rfl) (by kernel_rfl) ?y26 HBR ?_
          case y26 => intro o' ho W hS; simp only [execOp, ho]; go_simp; try rfl
          simp only [Act.put, List.setIfInBounds_toArray, List.set_cons_zero, List.set_cons_succ]
          refine heldTake (d := some 120) (op := .move (Operand.tmp 12)) (g := some (25, false)) 27 ?v27 rfl (by kernel_rfl) (by kernel_rfl) (by kernel_rfl) (by kernel_rfl) ?y27 HBR ?_
          case y27 => intro o' ho W hS; simp only [execOp, ho]; go_simp; try rfl
          simp only [Act.put, List.setIfInBounds_toArray, List.set_cons_zero, List.set_cons_succ]
          refine heldTake (d := some 121) (op := .slice 36 (Operand.tmp 119) (some (Operand.const (Value.int IntKind.i64 2))) (some (Operand.tmp 120)) none) (g := some (25, false)) 28 (.slice (some ⟨gB, ofB, none⟩) r (cB - 2)) rfl (by kernel_rfl) (by kernel_rfl) (by kernel_rfl) (by kernel_rfl) ?y28 HBR ?_
          case y28 => intro o' ho W hS; exact slice_run ofB hofB ho (by rfl) (by rfl) (by rfl) hr2 (by omega) (by omega)
          simp only [Act.put, List.setIfInBounds_toArray, List.set_cons_zero, List.set_cons_succ]
          refine heldTake (d := some 122) (op := .convert 36 9 (Operand.tmp 121)) (g := some (25, false)) 29 (.string T2) rfl (by kernel_rfl) (by kernel_rfl) (by kernel_rfl) (by kernel_rfl) ?y29 HBR ?_
          case y29 => intro o' ho W hS; exact conv_run ho (by rfl) (cvB2 _ hS)
          simp only [Act.put, List.setIfInBounds_toArray, List.set_cons_zero, List.set_cons_succ]
          refine heldTake (d := some 123) (op := .move (Operand.tmp 8)) (g := some (25, false)) 30 ?v30 rfl (by kernel_rfl) (by kernel_rfl) (by kernel_rfl) (by kernel_rfl) ?y30 HBR ?_
          case y30 => intro o' ho W hS; simp only [execOp, ho]; go_simp; try rfl
          simp only [Act.put, List.setIfInBounds_toArray, List.set_cons_zero, List.set_cons_succ]
          refine heldTake (d := some 124) (op := .move (Operand.tmp 12)) (g := some (25, false)) 31 ?v31 rfl (by kernel_rfl) (by kernel_rfl) (by kernel_rfl) (by kernel_rfl) ?y31 HBR ?_
          case y31 => intro o' ho W hS; simp only [execOp, ho]; go_simp; try rfl
          simp only [Act.put, List.setIfInBounds_toArray, List.set_cons_zero, List.set_cons_succ]
          refine heldTake (d := some 125) (op := .slice 36 (Operand.tmp 123) (some (Operand.const (Value.int IntKind.i64 2))) (some (Operand.tmp 124)) none) (g := some (25, false)) 32 (.slice (some ⟨gA, ofA, none⟩) r (cA - 2)) rfl (by kernel_rfl) (by kernel_rfl) (by kernel_rfl) (by kernel_rfl) ?y32 HBR ?_
          case y32 => intro o' ho W hS; exact slice_run ofA hofA ho (by rfl) (by rfl) (by rfl) hr2 (by omega) (by omega)
          simp only [Act.put, List.setIfInBounds_toArray, List.set_cons_zero, List.set_cons_succ]
          refine heldTake (d := some 126) (op := .convert 36 9 (Operand.tmp 125)) (g := some (25, false)) 33 (.string T2) rfl (by kernel_rfl) (by kernel_rfl) (by kernel_rfl) (by kernel_rfl) ?y33 HBR ?_
          case y33 => intro o' ho W hS; exact conv_run ho (by rfl) (cvA2 _ hS)
          simp only [Act.put, List.setIfInBounds_toArray, List.set_cons_zero, List.set_cons_succ]
          refine heldTake (d := some 127) (op := .binOp BinOp.neq 9 (Operand.tmp 122) (Operand.tmp 126) 9) (g := some (25, false)) 34 (.bool false) rfl (by kernel_rfl) (by kernel_rfl) (by kernel_rfl) (by kernel_rfl) ?y34 HBR ?_
          case y34 => intro o' ho W hS; exact (by simp only [execOp, ho]; go_simp; try rfl)
          simp only [Act.put, List.setIfInBounds_toArray, List.set_cons_zero, List.set_cons_succ]
          refine heldTake (d := some 128) (op := .pick (Operand.tmp 118) (Operand.const (Value.bool true)) (Operand.tmp 127)) (g := none) 35 ?v35 rfl (by kernel_rfl) (by kernel_rfl) (by kernel_rfl) (by kernel_rfl) ?y35 HBR ?_
          case y35 => intro o' ho W hS; simp only [execOp, ho]; go_simp; try rfl
          simp only [Act.put, List.setIfInBounds_toArray, List.set_cons_zero, List.set_cons_succ]
          refine heldTake (d := some 129) (op := .move (Operand.tmp 128)) (g := none) 36 ?v36 rfl (by kernel_rfl) (by kernel_rfl) (by kernel_rfl) (by kernel_rfl) ?y36 HBR ?_
          case y36 => intro o' ho W hS; simp only [execOp, ho]; go_simp; try rfl
          simp only [Act.put, List.setIfInBounds_toArray, List.set_cons_zero, List.set_cons_succ]
          refine heldTake (d := some 130) (op := .move (Operand.tmp 10)) (g := some (36, false)) 37 ?v37 rfl (by kernel_rfl) (by kernel_rfl) (by kernel_rfl) (by kernel_rfl) ?y37 HBR ?_
          case y37 => intro o' ho W hS; simp only [execOp, ho]; go_simp; try rfl
          simp only [Act.put, List.setIfInBounds_toArray, List.set_cons_zero, List.set_cons_succ]
          refine heldTake (d := some 131) (op := .move (Operand.tmp 12)) (g := some (36, false)) 38 ?v38 rfl (by kernel_rfl) (by kernel_rfl) (by kernel_rfl) (by kernel_rfl) ?y38 HBR ?_
          case y38 => intro o' ho W hS; simp only [execOp, ho]; go_simp; try rfl
          simp only [Act.put, List.setIfInBounds_toArray, List.set_cons_zero, List.set_cons_succ]
          refine heldTake (d := some 132) (op := .binOp BinOp.add 3 (Operand.tmp 131) (Operand.const (Value.int IntKind.i64 4)) 3) (g := some (36, false)) 39 (.int .i64 ((h + 4 : Nat) : Int)) rfl (by kernel_rfl) (by kernel_rfl) (by kernel_rfl) (by kernel_rfl) ?y39 HBR ?_
          case y39 => intro o' ho W hS; exact (by simp only [execOp, ho]; go_simp; try rfl)
          simp only [Act.put, List.setIfInBounds_toArray, List.set_cons_zero, List.set_cons_succ]
          refine heldTake (d := some 133) (op := .slice 36 (Operand.tmp 130) (some (Operand.tmp 132)) none none) (g := some (36, false)) 40 (.slice (some ⟨gB, ofD, none⟩) (NA + 4 - (h + 4)) (cB - (h + 4))) rfl (by kernel_rfl) (by kernel_rfl) (by kernel_rfl) (by kernel_rfl) ?y40 HBR ?_
          case y40 => intro o' ho W hS; exact slice_end_run ho (by rfl) (by rfl) (by omega) hofD
          simp only [Act.put, List.setIfInBounds_toArray, List.set_cons_zero, List.set_cons_succ]
          refine heldTake (d := some 134) (op := .convert 36 9 (Operand.tmp 133)) (g := some (36, false)) 41 (.string T4) rfl (by kernel_rfl) (by kernel_rfl) (by kernel_rfl) (by kernel_rfl) ?y41 HBR ?_
          case y41 => intro o' ho W hS; exact conv_run ho (by rfl) (cvB4 _ hS)
          simp only [Act.put, List.setIfInBounds_toArray, List.set_cons_zero, List.set_cons_succ]
          refine heldTake (d := some 135) (op := .move (Operand.tmp 5)) (g := some (36, false)) 42 ?v42 rfl (by kernel_rfl) (by kernel_rfl) (by kernel_rfl) (by kernel_rfl) ?y42 HBR ?_
          case y42 => intro o' ho W hS; simp only [execOp, ho]; go_simp; try rfl
          simp only [Act.put, List.setIfInBounds_toArray, List.set_cons_zero, List.set_cons_succ]
          refine heldTake (d := some 136) (op := .move (Operand.tmp 7)) (g := some (36, false)) 43 ?v43 rfl (by kernel_rfl) (by kernel_rfl) (by kernel_rfl) (by kernel_rfl) ?y43 HBR ?_
          case y43 => intro o' ho W hS; simp only [execOp, ho]; go_simp; try rfl
          simp only [Act.put, List.setIfInBounds_toArray, List.set_cons_zero, List.set_cons_succ]
          refine heldTake (d := some 137) (op := .indexAddr 23 (Operand.tmp 135) (Operand.tmp 136)) (g := some (36, false)) 44 (.pointer (some ⟨gm, k * 8, none⟩)) rfl (by kernel_rfl) (by kernel_rfl) (by kernel_rfl) (by kernel_rfl) ?y44 HBR ?_
          case y44 => intro o' ho W hS; exact (by simp only [execOp, ho]; go_simp; try rfl)
          simp only [Act.put, List.setIfInBounds_toArray, List.set_cons_zero, List.set_cons_succ]
          refine heldTake (d := some 138) (op := .fieldAddr 44 (Operand.tmp 137) 3) (g := some (36, false)) 45 (.pointer (some ⟨gm, k * 8 + 3, none⟩)) rfl (by kernel_rfl) (by kernel_rfl) (by kernel_rfl) (by kernel_rfl) ?y45 HBR ?_
          case y45 => intro o' ho W hS; exact (by simp only [execOp, ho]; go_simp; try rfl)
          simp only [Act.put, List.setIfInBounds_toArray, List.set_cons_zero, List.set_cons_succ]
          refine heldTake (d := some 139) (op := .load 42 (Operand.tmp 138)) (g := some (36, false)) 46 (.agg #[.int .u8 (x0 : Int), .int .u8 (x1 : Int), .int .u8 (x2 : Int), .int .u8 (x3 : Int)]) rfl (by kernel_rfl) (by kernel_rfl) (by kernel_rfl) (by kernel_rfl) ?y46 HBR ?_
          case y46 => intro o' ho W hS; exact (by have e0 := (hS.cell (block_lt_of_cell m3)).trans m3; have e1 := (hS.cell (block_lt_of_cell m4)).trans m4; have e2 := (hS.cell (block_lt_of_cell m5)).trans m5; have e3 := (hS.cell (block_lt_of_cell m6)).trans m6; simp only [execOp, ho]; go_simp; try rfl)
          simp only [Act.put, List.setIfInBounds_toArray, List.set_cons_zero, List.set_cons_succ]
          refine heldTake (d := some 140) (op := .move (Operand.tmp 0)) (g := some (36, false)) 47 ?v47 rfl (by kernel_rfl) (by kernel_rfl) (by kernel_rfl) (by kernel_rfl) ?y47 HBR ?_
          case y47 => intro o' ho W hS; simp only [execOp, ho]; go_simp; try rfl
          simp only [Act.put, List.setIfInBounds_toArray, List.set_cons_zero, List.set_cons_succ]
          refine heldTake (d := some 141) (op := .move (Operand.tmp 7)) (g := some (36, false)) 48 ?v48 rfl (by kernel_rfl) (by kernel_rfl) (by kernel_rfl) (by kernel_rfl) ?y48 HBR ?_
          case y48 => intro o' ho W hS; simp only [execOp, ho]; go_simp; try rfl
          simp only [Act.put, List.setIfInBounds_toArray, List.set_cons_zero, List.set_cons_succ]
          refine heldTake (d := some 142) (op := .indexAddr 23 (Operand.tmp 140) (Operand.tmp 141)) (g := some (36, false)) 49 (.pointer (some ⟨sb, so + k * 8, none⟩)) rfl (by kernel_rfl) (by kernel_rfl) (by kernel_rfl) (by kernel_rfl) ?y49 HBR ?_
          case y49 => intro o' ho W hS; exact (by simp only [execOp, ho]; go_simp; try rfl)
          simp only [Act.put, List.setIfInBounds_toArray, List.set_cons_zero, List.set_cons_succ]
          refine heldTake (d := some 143) (op := .fieldAddr 44 (Operand.tmp 142) 4) (g := some (36, false)) 50 (.pointer (some ⟨sb, so + k * 8 + 7, none⟩)) rfl (by kernel_rfl) (by kernel_rfl) (by kernel_rfl) (by kernel_rfl) ?y50 HBR ?_
          case y50 => intro o' ho W hS; exact (by simp only [execOp, ho]; go_simp; try rfl)
          simp only [Act.put, List.setIfInBounds_toArray, List.set_cons_zero, List.set_cons_succ]
          refine heldTake (d := some 144) (op := .load 9 (Operand.tmp 143)) (g := some (36, false)) 51 (.string s) rfl (by kernel_rfl) (by kernel_rfl) (by kernel_rfl) (by kernel_rfl) ?y51 HBR ?_
          case y51 => intro o' ho W hS; exact (by have hcx := (hS.cell (block_lt_of_cell s7)).trans s7; simp only [execOp, ho]; go_simp; try rfl)
          simp only [Act.put, List.setIfInBounds_toArray, List.set_cons_zero, List.set_cons_succ]
          refine heldCall (d := some 145) (op := .call { callee := Callee.value (Operand.func 28), args := #[Operand.tmp 139, Operand.const (Value.int IntKind.i64 0), Operand.tmp 144], argTypes := #[42, 3, 9] }) (g := some (36, false)) 52 28 #[.agg #[.int .u8 (x0 : Int), .int .u8 (x1 : Int), .int .u8 (x2 : Int), .int .u8 (x3 : Int)], .int .i64 0, .string s] rfl (by kernel_rfl) (by kernel_rfl) ?y52 ?_
          case y52 => intro o' ho; simp only [execOp, ho]; go_simp; try rfl
          refine (hAP _).mono ?_
          rintro e Z ⟨rfl, HXZ⟩
          refine ⟨_, rfl, (HBR.trans (HXZ.out.mono HBR.size)), ?_⟩
          simp only [Act.put, List.setIfInBounds_toArray, List.set_cons_zero, List.set_cons_succ]
          have HBZ : Below y7.heap.size y7 Z := HBR.trans (HXZ.out.mono HBR.size)
          refine heldTake (d := some 146) (op := .binOp BinOp.neq 9 (Operand.tmp 134) (Operand.tmp 145) 9) (g := some (36, false)) 53 (.bool false) rfl (by kernel_rfl) (by kernel_rfl) (by kernel_rfl) (by kernel_rfl) ?y53 HBZ ?_
          case y53 => intro o' ho W hS; exact (by simp only [execOp, ho]; go_simp; try rfl)
          simp only [Act.put, List.setIfInBounds_toArray, List.set_cons_zero, List.set_cons_succ]
          refine heldTake (d := some 147) (op := .pick (Operand.tmp 129) (Operand.const (Value.bool true)) (Operand.tmp 146)) (g := none) 54 ?v54 rfl (by kernel_rfl) (by kernel_rfl) (by kernel_rfl) (by kernel_rfl) ?y54 HBZ ?_
          case y54 => intro o' ho W hS; simp only [execOp, ho]; go_simp; try rfl
          simp only [Act.put, List.setIfInBounds_toArray, List.set_cons_zero, List.set_cons_succ]
          refine wpAnyH_done (by kernel_rfl) ?_ _
          refine NoPanic.normal ?_
          have HBF := Sl.mk HBZ
          have HR8 : Sl (RowF Z gm (msk K4 fs ds)) := ⟨HR7.out.below HBZ⟩
          have HB8 : Sl (Below w.heap.size w Z) := ⟨HB7.out.trans (HBZ.mono HB7.out.size)⟩
          clear HBZ HXZ HBR cvA1 cvA2 cvB1 cvB2 cvB4 hofA hofB hofD cA1 cB1 m3 m4 m5 m6 s7 HBF HR7 HB7 HSA HSB hs1 hs2 hAP
          go_wp2
          exact ⟨⟨k + 1, by go_num, by omega, HR8, HB8⟩, by simp [intOf]; omega⟩
        · have HNZ := Sl.mk hz0
          have j4 : ((e0 : Int) != 0) = true := by simp; omega
          have j5 : ((e0 : Int) == 0) = false := by simp; omega
          have hb1 : (bytesF [fs.getD k Fr0]).2 = e0 := by rw [bytesF_one, if_pos (by rw [he0]; exact hz0), he0]
          have hb2 : (bytesF [(msk K4 fs ds).getD k Fr0]).2 = e0 := by rw [bytesF_one, if_pos (by rw [he1]; exact hz0), he1]
          have HBF1 := Sl.mk hb1
          have HBF2 := Sl.mk hb2
          clear hf hcw hsm hkz hzz hx hks he0 he1 hf2 hmk hmem hb1 hb2 hz0 hkf
          go_wp2_with fail
          refine (bytes_err [fs.getD k Fr0] e0 _ wr (HG.out.below HB.out HG.out.size) (frs_at (HV.out.below HB.out) hkn) OK1.out ZD1.out HBF1.out HNZ.out).mono ?_
          rintro e y6 ⟨rfl, HX6⟩
          have HB6 : Sl (Below w.heap.size w y6) := ⟨HB.out.trans (HX6.out.mono HB.out.size)⟩
          have HR6 : Sl (RowF y6 gm (msk K4 fs ds)) := ⟨HR.out.below HX6.out⟩
          clear c0 c1 c2 c3 c4 c5 c6 c7 HX6 HB HR hEq
          go_wp2_with fail
          refine (bytes_err [(msk K4 fs ds).getD k Fr0] e0 _ y6 (HG.out.below HB6.out HG.out.size) (by have h := frs_at (HR6.out.frs HLM.out (Nat.le_refl _)) hkn; rw [Nat.zero_add] at h; exact h) OK2.out ZD2.out HBF2.out HNZ.out).mono ?_
          rintro e y7 ⟨rfl, HX7⟩
          have HB7 : Sl (Below w.heap.size w y7) := ⟨HB6.out.trans (HX7.out.mono HB6.out.size)⟩
          have HR7 : Sl (RowF y7 gm (msk K4 fs ds)) := ⟨HR6.out.below HX7.out⟩
          clear HX7 HB6 HR6 hs1 hs2
          go_wp2
          exact ⟨⟨k + 1, by go_num, by omega, HR7, HB7⟩, by simp [intOf]; omega⟩
      · obtain rfl : k = n := by omega
        have hlt : ((k : Int) < (k : Int)) = False := eq_false (by omega)
        go_wp2
        go_ret
        exact ⟨rfl, HB.out⟩
end Go.Proofs.YtimndpmbgfoofaaDoor.Cut
