/- CutJoins' walk. -/
import Derived.Test.YtimndpmbgfoofaaDoorCK
set_option maxRecDepth 100000
namespace Go.Proofs.YtimndpmbgfoofaaDoor.Cut
open Go.RowKit MaskPlain Mas Fra Stm CutPlain
open FramePlain (Fr Fr0 form chk ctl zero4)

theorem be4w (d : Nat) : ∃ x0 x1 x2 x3, K4 d = [x0, x1, x2, x3] ∧ (d : Int) / 16777216 % 256 = (x0 : Int) ∧ (d : Int) / 65536 % 256 = (x1 : Int) ∧ (d : Int) / 256 % 256 = (x2 : Int) ∧ (d : Int) % 256 = (x3 : Int) := by
  refine ⟨d / 16777216 % 256, d / 65536 % 256, d / 256 % 256, d % 256, ?_, by omega, by omega, by omega, by omega⟩
  unfold K4
  simp only [be, Nat.div_div_eq_div_mul]
  rfl
theorem be4v (d : Nat) : K4 d = [d / 16777216 % 256, d / 65536 % 256, d / 256 % 256, d % 256] := by
  unfold K4
  simp only [be, Nat.div_div_eq_div_mul]
  rfl
theorem bytes_conv (fs : List Fr) (v : Value) (w : World) (hg : Mas.Globs w) (hv : FrsAt w v fs) (ok : ∀ f ∈ fs, FrOk f) (hz : 14 * fs.length + (dataOf fs).length ≤ 1000000) :
    Calls Tryd.prog 19 #[v] w fun e w' => ∃ a n c, e = .returned (.tuple #[.slice a n c, .int .i64 (((bytesF fs).2 : Nat) : Int)]) ∧ Sl (∀ V, Below w'.heap.size w' V → (convert 36 9 (.slice a n c)).run Tryd.prog V = .ok (.string (strOf (bytesF fs).1)) V) ∧ Sl (Below w.heap.size w w') := by
  refine (bytes_any fs v w hg hv ok hz).mono ?_
  rintro e w' ⟨a, n, c, rfl, h1, h2, h3, h4⟩
  refine ⟨a, n, c, rfl, ⟨fun V hV => ?_⟩, h4⟩
  by_cases hk : (bytesF fs).2 = 0
  · exact own_str (own_below (h2 hk).out hV) h1
  · have e0 := h3 hk
    injection e0 with e1 e2 e3
    subst e1 e2 e3
    rw [bytesF_err fs hk]
    exact run_convert_bytes_nil (P := Tryd.prog) V 36 5 Tryd.underlying36 Tryd.underlying5 0 0 9 Tryd.underlying9
set_option maxHeartbeats 16000000 in
theorem joins_walk (v : Value) (fs : List Fr) (u : Value) (ds : List Nat) (w : World) (hg : Mas.Globs w) (hv : FrsAt w v fs) (ok : ∀ f ∈ fs, FrOk f) (ml : fs.length ≤ maxLen) (hu : U32At w u ds) (hs : Small 4294967296 ds) (md : ds.length ≤ maxLen) : Calls Tryd.prog 4 #[v, u] w fun e w' => e = .returned (.bool true) ∧ Below w.heap.size w w' := by
  have HG := Sl.mk hg
  have A1 := awake_any w hg
  obtain ⟨a, cap, rfl⟩ := hv.slice
  obtain ⟨a', cap', rfl⟩ := hu.slice
  have HV := Sl.mk hv
  have HU := Sl.mk hu
  have HOK := Sl.mk ok
  have HML := Sl.mk ml
  have HSM := Sl.mk hs
  obtain ⟨n, hn⟩ : ∃ n, fs.length = n := ⟨_, rfl⟩
  obtain ⟨nd, hnd⟩ : ∃ n, ds.length = n := ⟨_, rfl⟩
  have HN := Sl.mk hn
  have HND := Sl.mk hnd
  obtain ⟨fw, hfw⟩ : ∃ b, Msg.fewF fs = b := ⟨_, rfl⟩
  have HFW := Sl.mk hfw
  rw [hn] at HV ⊢
  rw [hnd] at HU md ⊢
  have hd9 : nd ≤ 9223372036854775807 := by unfold maxLen at md; omega
  clear hg hv ok ml hfw hu hs md
  cases fw with
  | false =>
    clear hn hnd
    go_enter Tryd.func4, Tryd.ntmps4
    go_wp2_with fail
    refine A1.mono ?_
    rintro e w1 ⟨rfl, HB1⟩
    clear A1
    have FW := Msg.few_any fs _ w1 (HV.out.below HB1.out) HML.out
    rw [HFW.out] at FW
    go_wp2_with fail
    refine FW.mono ?_
    rintro e w2 ⟨rfl, rfl⟩
    clear FW
    have A2 := awake_any w1 (HG.out.below HB1.out HG.out.size)
    go_wp2_with fail
    refine A2.mono ?_
    rintro e w3 ⟨rfl, HB2⟩
    clear A2
    have HL := Sl.mk (HB1.out.trans (HB2.out.mono HB1.out.size))
    go_wp2
    go_ret
    exact ⟨rfl, HL.out⟩
  | true =>
  by_cases hd : nd > 50
  · have hq : ((nd : Int) > 50) = True := eq_true (by omega)
    clear hn hnd hd
    go_enter Tryd.func4, Tryd.ntmps4
    go_wp2_with fail
    refine A1.mono ?_
    rintro e w1 ⟨rfl, HB1⟩
    clear A1
    have FW := Msg.few_any fs _ w1 (HV.out.below HB1.out) HML.out
    rw [HFW.out] at FW
    go_wp2_with fail
    refine FW.mono ?_
    rintro e w2 ⟨rfl, rfl⟩
    clear FW
    have A2 := awake_any w1 (HG.out.below HB1.out HG.out.size)
    go_wp2_with fail
    refine A2.mono ?_
    rintro e w3 ⟨rfl, HB2⟩
    clear A2
    have HL := Sl.mk (HB1.out.trans (HB2.out.mono HB1.out.size))
    go_wp2
    go_ret
    exact ⟨rfl, HL.out⟩
  have hq : ((nd : Int) > 50) = False := eq_false (by omega)
  obtain ⟨hz, hl30⟩ := few_room HFW.out
  have HZ := Sl.mk hz
  have HLN : Sl (n ≤ 30) := ⟨by omega⟩
  have ZA : Sl (14 * fs.length + (dataOf fs).length ≤ 1000000) := ⟨by omega⟩
  obtain ⟨⟨jo, jt, jb⟩, hj⟩ : ∃ r, join fs = r := ⟨_, rfl⟩
  obtain ⟨JS, hJS⟩ : ∃ S, strOf jt = S := ⟨_, rfl⟩
  have HJ : Sl (join fs = (jo, jt, jb) ∧ strOf jt = JS) := ⟨hj, hJS⟩
  obtain ⟨⟨bB, be⟩, hb⟩ : ∃ r, bytesF fs = r := ⟨_, rfl⟩
  obtain ⟨BS, hBS⟩ : ∃ S, strOf bB = S := ⟨_, rfl⟩
  have HBB : Sl (bytesF fs = (bB, be) ∧ strOf bB = BS) := ⟨hb, hBS⟩
  have hnn : n ≤ 9223372036854775807 := by omega
  have j1 : (jo != jo) = false := by simp
  have j2 : (jb != jb) = false := by simp
  have j3 : ((be : Int) != (be : Int)) = false := by simp
  have j4 : (JS.toList == JS.toList) = true := by simp
  have j5 : (BS.toList == BS.toList) = true := by simp
  have HNN : Sl (n ≤ 30 ∧ nd ≤ 50) := ⟨by omega, by omega⟩
  clear hn hnd hd hz hl30 hj hJS hb hBS
  by_cases hlt0 : nd < n
  · have hq3 : ((nd : Int) < (n : Int)) = True := eq_true (by omega)
    have HLT := Sl.mk hlt0
    clear hlt0
    go_enter Tryd.func4, Tryd.ntmps4
    go_wp2_with fail
    refine A1.mono ?_
    rintro e w1 ⟨rfl, HB1⟩
    clear A1
    have FW := Msg.few_any fs _ w1 (HV.out.below HB1.out) HML.out
    rw [HFW.out] at FW
    go_wp2_with fail
    refine FW.mono ?_
    rintro e w2 ⟨rfl, rfl⟩
    clear FW
    have HBw1 := HB1
    clear HB1
    obtain ⟨a3, c3, V3, hr3, HO3, HX3⟩ := copy_frs w1 (.slice a n cap) fs n (HV.out.below HBw1.out) HN.out (by have := HLN.out; omega)
    have HBV3 : Sl (Below w.heap.size w V3) := ⟨HBw1.out.trans (HX3.out.mono HBw1.out.size)⟩
    have CB3 := join_any fs _ V3 HO3.out.frs HOK.out (by have := HLN.out; have := HN.out; omega) (by have := HZ.out; omega)
    rw [HJ.out.1] at CB3
    simp only [HJ.out.2] at CB3
    go_wp2_with (at_builtin; refine wpList_appV rfl (.tmp 34) (.tmp 35) 23 23 rfl rfl _ _ _ V3 rfl rfl hr3 ?_)
    refine CB3.mono ?_
    rintro e y3 ⟨rfl, HY3⟩
    have HBy3 : Sl (Below w.heap.size w y3) := ⟨HBV3.out.trans (HY3.out.mono HBV3.out.size)⟩
    clear CB3 hr3 HO3 HBV3 HX3
    have RJ := rjoin_any fs _ y3 (HV.out.below HBy3.out) HOK.out (by have := HLN.out; have := HN.out; omega) (by have := HZ.out; omega)
    rw [HJ.out.1] at RJ
    simp only [HJ.out.2] at RJ
    go_wp2_with fail
    refine RJ.mono ?_
    rintro e z3 ⟨rfl, HZ3⟩
    clear RJ
    have HBz3 : Sl (Below w.heap.size w z3) := ⟨HBy3.out.trans (HZ3.out.mono HBy3.out.size)⟩
    clear HY3 HZ3 HBy3
    obtain ⟨a4, c4, V4, hr4, HO4, HX4⟩ := copy_frs z3 (.slice a n cap) fs n (HV.out.below HBz3.out) HN.out (by have := HLN.out; omega)
    have HBV4 : Sl (Below w.heap.size w V4) := ⟨HBz3.out.trans (HX4.out.mono HBz3.out.size)⟩
    have CB4 := bytes_conv fs _ V4 (HG.out.below HBV4.out HG.out.size) HO4.out.frs HOK.out ZA.out
    rw [HBB.out.1] at CB4
    simp only [HBB.out.2] at CB4
    go_wp2_with (at_builtin; refine wpList_appV rfl (.tmp 48) (.tmp 49) 23 23 rfl rfl _ _ _ V4 rfl rfl hr4 ?_)
    refine CB4.mono ?_
    rintro e y4 ⟨b1, b2, b3, rfl, HCV, HY4⟩
    have HBy4 : Sl (Below w.heap.size w y4) := ⟨HBV4.out.trans (HY4.out.mono HBV4.out.size)⟩
    clear CB4 hr4 HO4 HBV4 HX4
    have RB := rbytes_any fs _ y4 (HV.out.below HBy4.out) HOK.out ZA.out
    rw [HBB.out.1] at RB
    simp only [HBB.out.2] at RB
    go_wp2_with fail
    refine RB.mono ?_
    rintro e z4 ⟨rfl, HZ4⟩
    clear RB
    have HBz4 : Sl (Below w.heap.size w z4) := ⟨HBy4.out.trans (HZ4.out.mono HBy4.out.size)⟩
    clear HY4 HBy4
    obtain ⟨a5, c5, V5, hr5, HO5, HX5⟩ := copy_frs z4 (.slice a n cap) fs n (HV.out.below HBz4.out) HN.out (by have := HLN.out; omega)
    have HBV5 : Sl (Below w.heap.size w V5) := ⟨HBz4.out.trans (HX5.out.mono HBz4.out.size)⟩
    have CB5 := masked_no fs ds _ _ V5 HO5.out.frs (HU.out.below HBV5.out) (by rw [HND.out, HN.out]; exact HLT.out) HML.out
    go_wp2_with (at_builtin; refine wpList_appV rfl (.tmp 60) (.tmp 61) 23 23 rfl rfl _ _ _ V5 rfl rfl hr5 ?_)
    refine CB5.mono ?_
    rintro e y5 ⟨rfl, rfl⟩
    have HBy5 : Sl (Below w.heap.size w V5) := HBV5
    have hcv := HCV.out V5 (HZ4.out.trans (HX5.out.mono HZ4.out.size))
    clear CB5 hr5 HO5 HBV5 HX5
    go_wp2
    go_ret
    exact ⟨rfl, HBy5.out⟩
  · have hq3 : ((nd : Int) < (n : Int)) = False := eq_false (by omega)
    have HLT : Sl (n ≤ nd) := ⟨by omega⟩
    have hnd : n ≤ nd := by omega
    clear hlt0
    go_enter Tryd.func4, Tryd.ntmps4
    go_wp2_with fail
    refine A1.mono ?_
    rintro e w1 ⟨rfl, HB1⟩
    clear A1
    have FW := Msg.few_any fs _ w1 (HV.out.below HB1.out) HML.out
    rw [HFW.out] at FW
    go_wp2_with fail
    refine FW.mono ?_
    rintro e w2 ⟨rfl, rfl⟩
    clear FW
    have HBw1 := HB1
    clear HB1
    obtain ⟨a3, c3, V3, hr3, HO3, HX3⟩ := copy_frs w1 (.slice a n cap) fs n (HV.out.below HBw1.out) HN.out (by have := HLN.out; omega)
    have HBV3 : Sl (Below w.heap.size w V3) := ⟨HBw1.out.trans (HX3.out.mono HBw1.out.size)⟩
    have CB3 := join_any fs _ V3 HO3.out.frs HOK.out (by have := HLN.out; have := HN.out; omega) (by have := HZ.out; omega)
    rw [HJ.out.1] at CB3
    simp only [HJ.out.2] at CB3
    go_wp2_with (at_builtin; refine wpList_appV rfl (.tmp 34) (.tmp 35) 23 23 rfl rfl _ _ _ V3 rfl rfl hr3 ?_)
    refine CB3.mono ?_
    rintro e y3 ⟨rfl, HY3⟩
    have HBy3 : Sl (Below w.heap.size w y3) := ⟨HBV3.out.trans (HY3.out.mono HBV3.out.size)⟩
    clear CB3 hr3 HO3 HBV3 HX3
    have RJ := rjoin_any fs _ y3 (HV.out.below HBy3.out) HOK.out (by have := HLN.out; have := HN.out; omega) (by have := HZ.out; omega)
    rw [HJ.out.1] at RJ
    simp only [HJ.out.2] at RJ
    go_wp2_with fail
    refine RJ.mono ?_
    rintro e z3 ⟨rfl, HZ3⟩
    clear RJ
    have HBz3 : Sl (Below w.heap.size w z3) := ⟨HBy3.out.trans (HZ3.out.mono HBy3.out.size)⟩
    clear HY3 HZ3 HBy3
    obtain ⟨a4, c4, V4, hr4, HO4, HX4⟩ := copy_frs z3 (.slice a n cap) fs n (HV.out.below HBz3.out) HN.out (by have := HLN.out; omega)
    have HBV4 : Sl (Below w.heap.size w V4) := ⟨HBz3.out.trans (HX4.out.mono HBz3.out.size)⟩
    have CB4 := bytes_conv fs _ V4 (HG.out.below HBV4.out HG.out.size) HO4.out.frs HOK.out ZA.out
    rw [HBB.out.1] at CB4
    simp only [HBB.out.2] at CB4
    go_wp2_with (at_builtin; refine wpList_appV rfl (.tmp 48) (.tmp 49) 23 23 rfl rfl _ _ _ V4 rfl rfl hr4 ?_)
    refine CB4.mono ?_
    rintro e y4 ⟨b1, b2, b3, rfl, HCV, HY4⟩
    have HBy4 : Sl (Below w.heap.size w y4) := ⟨HBV4.out.trans (HY4.out.mono HBV4.out.size)⟩
    clear CB4 hr4 HO4 HBV4 HX4
    have RB := rbytes_any fs _ y4 (HV.out.below HBy4.out) HOK.out ZA.out
    rw [HBB.out.1] at RB
    simp only [HBB.out.2] at RB
    go_wp2_with fail
    refine RB.mono ?_
    rintro e z4 ⟨rfl, HZ4⟩
    clear RB
    have HBz4 : Sl (Below w.heap.size w z4) := ⟨HBy4.out.trans (HZ4.out.mono HBy4.out.size)⟩
    clear HY4 HBy4
    obtain ⟨a5, c5, V5, hr5, HO5, HX5⟩ := copy_frs z4 (.slice a n cap) fs n (HV.out.below HBz4.out) HN.out (by have := HLN.out; omega)
    have HBV5 : Sl (Below w.heap.size w V5) := ⟨HBz4.out.trans (HX5.out.mono HBz4.out.size)⟩
    have CB5 := masked_yes fs ds _ _ n V5 HO5.out.frs HOK.out (fun f hf => by have := data_le hf; have := ZA.out; omega) (HU.out.below HBV5.out) HSM.out (by rw [HND.out, HN.out]; exact HLT.out) (by rw [HND.out]; exact Nat.le_trans HNN.out.2 (by decide)) HN.out (by have := HLN.out; omega)
    go_wp2_with (at_builtin; refine wpList_appV rfl (.tmp 60) (.tmp 61) 23 23 rfl rfl _ _ _ V5 rfl rfl hr5 ?_)
    refine CB5.mono ?_
    rintro e y5 ⟨rfl, HR5, HY5⟩
    have HBy5 : Sl (Below w.heap.size w y5) := ⟨HBV5.out.trans (HY5.out.mono HBV5.out.size)⟩
    have hcv := HCV.out y5 ((HZ4.out.trans (HX5.out.mono HZ4.out.size)).trans (HY5.out.mono (HZ4.out.trans (HX5.out.mono HZ4.out.size)).size))
    obtain ⟨g, hg⟩ : ∃ g, V5.heap.size = g := ⟨_, rfl⟩
    rw [hg] at HR5 ⊢
    clear CB5 hr5 HO5 HBV5 HX5 hg HY5
    go_wp2
    go_loopw [17] (fun i wr => ∃ k : Nat, i = .int .i64 (k : Int) ∧ k ≤ n ∧ Sl (RowF wr g (msk K4 fs ds)) ∧ Sl (Below w.heap.size w wr)) (fun i _ => n - (intOf i).toNat)
    case atStart => exact ⟨0, rfl, Nat.zero_le _, HR5, HBy5⟩
    case round =>
      obtain ⟨k, rfl, hk, HR, HB⟩ := hrel
      by_cases hkn : k < n
      · have hlt : ((k : Int) < (n : Int)) = True := eq_true (by omega)
        have hkf : k < fs.length := by rw [HN.out]; exact hkn
        obtain ⟨sb, so, rfl⟩ := HV.out.cap.2 (by omega)
        obtain ⟨sb2, so2, rfl, hdc⟩ := HU.out.cap (by omega)
        obtain ⟨fin, op, m, ka, kb, kc, kd, s, hf, hcw, hsm, hmem⟩ := fr_at HOK.out k hkf
        obtain ⟨c0, c1, c2, c3, c4, c5, c6, c7⟩ := (HV.out.below HB.out).at8 k hkf hcw
        obtain ⟨d, hdd⟩ : ∃ d, ds.getD k 0 = d := ⟨_, rfl⟩
        have hdl : d < 4294967296 := by rw [← hdd]; exact HSM.out.getD (by decide) _
        have hd0 := hdc k (by omega)
        rw [hdd] at hd0
        have hdw : wr.cell? ⟨sb2, so2 + k, none⟩ = some (.int .u32 (d : Int)) := (HB.out.cell (block_lt_of_cell hd0)).trans hd0
        have HI := fr_info (cs := #[.bool fin, .int .i64 op, .bool m, .int .u8 ((ka : Nat) : Int), .int .u8 ((kb : Nat) : Int), .int .u8 ((kc : Nat) : Int), .int .u8 ((kd : Nat) : Int), .string s]) rfl
        obtain ⟨x0, x1, x2, x3, hx, htt⟩ := be4w d
        have HTT := Sl.mk htt
        clear htt
        have hks : Small 256 [x0, x1, x2, x3] := by rw [← hx]; exact K4_small d
        have HIT : Sl (cv ((msk K4 fs ds).getD k Fr0) = [.bool fin, .int .i64 op, .bool true, .int .u8 (x0 : Int), .int .u8 (x1 : Int), .int .u8 (x2 : Int), .int .u8 (x3 : Int), .string s]) := ⟨by
          rw [msk_get K4 fs ds k (by rw [HN.out, HND.out]; omega) hkf, hf, hdd, hx]
          show [Value.bool fin, .int .i64 op, .bool true, .int .u8 (x0 : Int), .int .u8 (x1 : Int), .int .u8 (x2 : Int), .int .u8 (x3 : Int), .string (strOf (bytes s))] = _
          rw [strOf_bytes]⟩
        have HLM : Sl (k < (msk K4 fs ds).length) := ⟨by rw [msk_length K4 fs ds (by rw [HN.out, HND.out]; omega)]; exact hkf⟩
        clear hf hcw hsm hmem hdd hdc hkf hd0
        obtain ⟨X, hX, HBX, HFX⟩ := laid_fv wr #[.bool fin, .int .i64 op, .bool m, .int .u8 ((ka : Nat) : Int), .int .u8 ((kb : Nat) : Int), .int .u8 ((kc : Nat) : Int), .int .u8 ((kd : Nat) : Int), .string s]
        go_upto_region 16 with (refine wpList_store_row rfl 44 (.tmp 18) (.tmp 112) rfl wr.heap.size #[.bool fin, .int .i64 op, .bool m, .int .u8 ((ka : Nat) : Int), .int .u8 ((kb : Nat) : Int), .int .u8 ((kc : Nat) : Int), .int .u8 ((kd : Nat) : Int), .string s] rfl rfl 44 #[.bool false, .int .i64 0, .bool false, .int .u8 0, .int .u8 0, .int .u8 0, .int .u8 0, .string { data := #[] }] (bx_new wr _) HI rfl (fr_all _ _ _ _ _ _ _ _) ?_)
        (try rw [hX])
        clear hX
        have cdX : X.cell? ⟨sb2, so2 + k, none⟩ = some (.int .u32 (d : Int)) := (HBX.out.cell (block_lt_of_cell hdw)).trans hdw
        clear c0 c1 c2 c3 c4 c5 c6 c7
        obtain ⟨a0, a1, a2, a3, a4, a5, a6, a7⟩ := bx8 HFX.out
        obtain ⟨q, hq9⟩ : ∃ q, wr.heap.size = q := ⟨_, rfl⟩
        have HQL : Sl (wr.heap.size ≤ q) := ⟨by omega⟩
        have HQG : Sl (q ≠ g) := ⟨by rw [← hq9]; exact Nat.ne_of_gt HR.out.lt⟩
        rw [hq9] at HFX a0 a1 a2 a3 a4 a5 a6 a7 ⊢
        clear hq9 hx hdl hdw
        have g2 : X.frozen? ⟨q, 2, none⟩ = false := frozen_of_row _ _ _ _ _ HFX.out
        have g3 : X.frozen? ⟨q, 3, none⟩ = false := frozen_of_row _ _ _ _ _ HFX.out
        have g4 : X.frozen? ⟨q, 4, none⟩ = false := frozen_of_row _ _ _ _ _ HFX.out
        have g5 : X.frozen? ⟨q, 5, none⟩ = false := frozen_of_row _ _ _ _ _ HFX.out
        have g6 : X.frozen? ⟨q, 6, none⟩ = false := frozen_of_row _ _ _ _ _ HFX.out
        obtain ⟨hq1E, hgE⟩ := rekeyed (m' := true) ((d : Int) / 16777216 % 256) ((d : Int) / 65536 % 256) ((d : Int) / 256 % 256) ((d : Int) % 256) HFX.out
        simp only [World.setCells] at hq1E hgE
        obtain ⟨E, hE⟩ : ∃ V, ((((X.setCell ⟨q, 2, none⟩ (.bool true)).setCell ⟨q, 3, none⟩ (.int .u8 ((d : Int) / 16777216 % 256))).setCell ⟨q, 3 + 1, none⟩ (.int .u8 ((d : Int) / 65536 % 256))).setCell ⟨q, 3 + 1 + 1, none⟩ (.int .u8 ((d : Int) / 256 % 256))).setCell ⟨q, 3 + 1 + 1 + 1, none⟩ (.int .u8 ((d : Int) % 256)) = V := ⟨_, rfl⟩
        rw [hE] at hq1E hgE
        have hE2 : ((((X.setCell ⟨q, 2, none⟩ (.bool true)).setCell ⟨q, 3, none⟩ (.int .u8 ((d : Int) / 16777216 % 256))).setCell ⟨q, 4, none⟩ (.int .u8 ((d : Int) / 65536 % 256))).setCell ⟨q, 5, none⟩ (.int .u8 ((d : Int) / 256 % 256))).setCell ⟨q, 6, none⟩ (.int .u8 ((d : Int) % 256)) = E := hE
        rw [HTT.out.1, HTT.out.2.1, HTT.out.2.2.1, HTT.out.2.2.2] at hq1E
        have HQE := Sl.mk hq1E
        have HBE : Sl (Below wr.heap.size wr E) := ⟨HBX.out.grown hgE HBX.out.size (fun j hj => by injection hj with hj; rw [← hj]; exact HQL.out)⟩
        clear hq1E hgE hE
        go_upto_region 18 with fail
        (try rw [hE2])
        clear hE2 a0 a1 a2 a3 a4 a5 a6 a7 g2 g3 g4 g5 g6 HFX HBX cdX
        have HRE : Sl (RowF E g (msk K4 fs ds)) := ⟨HR.out.below HBE.out⟩
        have HBEw : Sl (Below w.heap.size w E) := ⟨HB.out.trans (HBE.out.mono HB.out.size)⟩
        have HD : Below E.heap.size E E.drew := (Below.refl _ _).drew
        have HQD : E.drew.heap[q]? = some (.cells #[.bool fin, .int .i64 op, .bool true, .int .u8 (x0 : Int), .int .u8 (x1 : Int), .int .u8 (x2 : Int), .int .u8 (x3 : Int), .string s] 44 (0, 0)) := below_key HQE.out HD
        obtain ⟨a0, a1, a2, a3, a4, a5, a6, a7⟩ := bx8 HQD
        have HRD : RowF E.drew g (msk K4 fs ds) := HRE.out.below HD
        have c0 : E.drew.cell? ⟨g, k * 8, none⟩ = some (.bool fin) := (HRD.cell HLM.out (j := 0) (by decide)).trans (by rw [HIT.out]; rfl)
        have c1 : E.drew.cell? ⟨g, k * 8 + 1, none⟩ = some (.int .i64 op) := (HRD.cell HLM.out (j := 1) (by decide)).trans (by rw [HIT.out]; rfl)
        have c2 : E.drew.cell? ⟨g, k * 8 + 2, none⟩ = some (.bool true) := (HRD.cell HLM.out (j := 2) (by decide)).trans (by rw [HIT.out]; rfl)
        have c3 : E.drew.cell? ⟨g, k * 8 + 3, none⟩ = some (.int .u8 (x0 : Int)) := (HRD.cell HLM.out (j := 3) (by decide)).trans (by rw [HIT.out]; rfl)
        have c4 : E.drew.cell? ⟨g, k * 8 + 4, none⟩ = some (.int .u8 (x1 : Int)) := (HRD.cell HLM.out (j := 4) (by decide)).trans (by rw [HIT.out]; rfl)
        have c5 : E.drew.cell? ⟨g, k * 8 + 5, none⟩ = some (.int .u8 (x2 : Int)) := (HRD.cell HLM.out (j := 5) (by decide)).trans (by rw [HIT.out]; rfl)
        have c6 : E.drew.cell? ⟨g, k * 8 + 6, none⟩ = some (.int .u8 (x3 : Int)) := (HRD.cell HLM.out (j := 6) (by decide)).trans (by rw [HIT.out]; rfl)
        have c7 : E.drew.cell? ⟨g, k * 8 + 7, none⟩ = some (.string s) := (HRD.cell HLM.out (j := 7) (by decide)).trans (by rw [HIT.out]; rfl)
        have he := eq_same fin op true x0 x1 x2 x3 s hks
        have hge : ((k : Int) ≥ (n : Int)) = False := eq_false (by omega)
        clear HD HQD HRD hks
        go_still (by kernel_rfl)
        change Exit.then _ _ Exit.normal _ E.drew
        have HRF : Sl (RowF E.drew g (msk K4 fs ds)) := ⟨HRE.out.below (Below.refl _ _).drew⟩
        have HBF : Sl (Below w.heap.size w E.drew) := ⟨HBEw.out.drew⟩
        obtain ⟨Rw, hRw⟩ : ∃ R, E.drew = R := ⟨_, rfl⟩
        rw [hRw] at HRF HBF ⊢
        clear hRw HRE HBEw a0 a1 a2 a3 a4 a5 a6 a7 c0 c1 c2 c3 c4 c5 c6 c7 he HQE HBE
        go_wp2
        exact ⟨⟨k + 1, by go_num, by omega, HRF, HBF⟩, by simp [intOf]; omega⟩
      · obtain rfl : k = n := by omega
        have hlt : ((k : Int) < (k : Int)) = False := eq_false (by omega)
        go_wp2
        go_ret
        exact ⟨rfl, HB.out⟩
end Go.Proofs.YtimndpmbgfoofaaDoor.Cut
