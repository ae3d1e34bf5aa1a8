/- CutBytes' walk. -/
import Derived.Test.YtimndpmbgfoofaaDoorCJ
set_option maxRecDepth 100000
namespace Go.Proofs.YtimndpmbgfoofaaDoor.Cut
open Go.RowKit MaskPlain Mas Fra Stm CutPlain
open FramePlain (Fr Fr0 form chk ctl zero4)

set_option maxHeartbeats 8000000 in
theorem bytes_walk (v : Value) (fs : List Fr) (x : Nat) (w : World) (hg : Mas.Globs w) (hv : FrsAt w v fs) (ok : ∀ f ∈ fs, FrOk f) (ml : fs.length ≤ maxLen) (hx : x < 256) : Calls Tryd.prog 9 #[v, .int .u8 (x : Int)] w fun e w' => e = .returned (.bool true) ∧ Below w.heap.size w w' := by
  have HG := Sl.mk hg
  have A1 := awake_any w hg
  obtain ⟨a, cap, rfl⟩ := hv.slice
  have HV := Sl.mk hv
  have HOK := Sl.mk ok
  have HML := Sl.mk ml
  obtain ⟨n, hn⟩ : ∃ n, fs.length = n := ⟨_, rfl⟩
  have HN := Sl.mk hn
  obtain ⟨fw, hfw⟩ : ∃ b, Msg.fewF fs = b := ⟨_, rfl⟩
  have HFW := Sl.mk hfw
  have HCP : Sl (n ≤ cap) := ⟨by obtain ⟨_, _, _, _, he, h2, _⟩ := hv; injection he with _ e2 e3; omega⟩
  rw [hn] at HV ⊢
  clear hg hv ok ml hfw
  cases fw with
  | false =>
    clear hn
    go_enter Tryd.func9, Tryd.ntmps9
    go_wp2_with fail
    refine A1.mono ?_
    rintro e w1 ⟨rfl, HB1⟩
    clear A1
    have FW := Msg.few_any fs _ w1 (HV.out.below HB1.out) HML.out
    rw [HFW.out] at FW
    go_wp2_with fail
    refine FW.mono ?_
    rintro e w2 ⟨rfl, rfl⟩
    clear FW
    have A2 := awake_any w1 (HG.out.below HB1.out HG.out.size)
    go_wp2_with fail
    refine A2.mono ?_
    rintro e w3 ⟨rfl, HB2⟩
    clear A2
    have HL := Sl.mk (HB1.out.trans (HB2.out.mono HB1.out.size))
    go_wp2
    go_ret
    exact ⟨rfl, HL.out⟩
  | true =>
  obtain ⟨hz, hl30⟩ := few_room HFW.out
  have HZ := Sl.mk hz
  have HLN : Sl (n ≤ 30) := ⟨by omega⟩
  obtain ⟨k, hk⟩ : ∃ k, x % (n + 1) = k := ⟨_, rfl⟩
  have hkn : k ≤ n := by have := Nat.mod_lt x (show 0 < n + 1 by omega); omega
  have z0 : IntKind.i64.wrap (x : Int) = (x : Int) := by rw [IntKind.wrap_i64]; omega
  have z1 : IntKind.i64.wrap ((n : Int) + 1) = (n : Int) + 1 := by rw [IntKind.wrap_i64]; omega
  have z2 : (x : Int).tmod ((n : Int) + 1) = (k : Int) := by rw [← hk]; rfl
  have z3 : IntKind.i64.wrap (k : Int) = (k : Int) := by rw [IntKind.wrap_i64]; omega
  have d1 : ((n : Int) + 1 == 0) = false := by simp; omega
  have d2 : ((n : Int) + 1 = 0) = False := eq_false (by omega)
  have hto := fun V => fslice_to V a n cap k (by have := HCP.out; omega)
  have hfr := fun V => fslice_from V a n cap k hkn
  have HKN := Sl.mk hkn
  have HLT : Sl ((fs.take k).length = k) := ⟨by rw [List.length_take]; omega⟩
  have HLD : Sl ((fs.drop k).length = n - k) := ⟨by rw [List.length_drop]; omega⟩
  have HP := Sl.mk (bytesF_parts fs k)
  have OKT : Sl (∀ f ∈ fs.take k, FrOk f) := ⟨fun f hf => HOK.out f (List.mem_of_mem_take hf)⟩
  have OKD : Sl (∀ f ∈ fs.drop k, FrOk f) := ⟨fun f hf => HOK.out f (List.mem_of_mem_drop hf)⟩
  have ZT : Sl (14 * (fs.take k).length + (dataOf (fs.take k)).length ≤ 1000000) := ⟨by have := room_take hz k; omega⟩
  have ZD : Sl (14 * (fs.drop k).length + (dataOf (fs.drop k)).length ≤ 1000000) := ⟨by have := room_drop hz k; omega⟩
  have ZA : Sl (14 * fs.length + (dataOf fs).length ≤ 1000000) := ⟨by omega⟩
  obtain ⟨⟨B1, e1⟩, hb1⟩ : ∃ r, bytesF (fs.take k) = r := ⟨_, rfl⟩
  obtain ⟨⟨B2, e2⟩, hb2⟩ : ∃ r, bytesF (fs.drop k) = r := ⟨_, rfl⟩
  rw [hb1, hb2] at HP
  have H1 := Sl.mk hb1
  have H2 := Sl.mk hb2
  clear hb1 hb2 hn hz hl30 hk hx
  obtain ⟨N1, hN1⟩ : ∃ N, B1.length = N := ⟨_, rfl⟩
  obtain ⟨N2, hN2⟩ : ∃ N, B2.length = N := ⟨_, rfl⟩
  obtain ⟨N3, hN3⟩ : ∃ N, (B1 ++ B2).length = N := ⟨_, rfl⟩
  have HN1 := Sl.mk hN1
  have HN2 := Sl.mk hN2
  have HN3 := Sl.mk hN3
  clear hN1 hN2 hN3
  by_cases he1 : e1 = 0
  · subst he1
    by_cases he2 : e2 = 0
    · subst he2
      have HP2 : Sl (bytesF fs = (B1 ++ B2, 0)) := ⟨by rw [HP.out, if_neg (fun h => h rfl), if_neg (fun h => h rfl)]⟩
      have HZ2 : Sl ((strOf B1).size + (strOf B2).size ≤ 1000000) := ⟨by
        have h1 := bytesF_len OKT.out (by rw [H1.out]) ZT.out
        have h2 := bytesF_len OKD.out (by rw [H2.out]) ZD.out
        rw [H1.out] at h1
        rw [H2.out] at h2
        have h3 := room_take HZ.out k
        have h4 := room_drop HZ.out k
        rw [strOf_size, strOf_size]
        simp only at h1 h2
        omega⟩
      go_enter Tryd.func9, Tryd.ntmps9
      go_wp2_with fail
      refine A1.mono ?_
      rintro e w1 ⟨rfl, HB1⟩
      clear A1
      have FW := Msg.few_any fs _ w1 (HV.out.below HB1.out) HML.out
      rw [HFW.out] at FW
      go_wp2_with fail
      refine FW.mono ?_
      rintro e w2 ⟨rfl, rfl⟩
      clear FW
      have HBw1 := HB1
      clear HB1
      obtain ⟨a3, c3, V3, hr3, HO3, HX3⟩ := copy_frs w1 (.slice a n cap) (fs) (n) (HV.out.below HBw1.out) HN.out (by have := HLN.out; omega)
      have HBV3 : Sl (Below w.heap.size w V3) := ⟨HBw1.out.trans (HX3.out.mono HBw1.out.size)⟩
      have CB3 := bytes_ok (fs) (B1 ++ B2) _ _ V3 (HG.out.below HBV3.out HG.out.size) HO3.out.frs HOK.out ZA.out HP2.out HN3.out
      have HXX3 := HX3
      clear HX3
      go_wp2_with (at_builtin; refine wpList_appV rfl (.tmp 27) (.tmp 28) 23 23 rfl rfl _ _ _ V3 rfl rfl hr3 ?_)
      refine CB3.mono ?_
      rintro e y3 ⟨s3, d3, rfl, HW3, HY3⟩
      have HBy3 : Sl (Below w.heap.size w y3) := ⟨HBV3.out.trans (HY3.out.mono HBV3.out.size)⟩
      clear CB3 hr3 HO3 HBV3
      obtain ⟨a4, c4, V4, hr4, HO4, HX4⟩ := copy_frs y3 (.slice a k cap) (fs.take k) (k) (FrsAt.to (HV.out.below HBy3.out) HKN.out) HLT.out (by have := HLN.out; omega)
      have HBV4 : Sl (Below w.heap.size w V4) := ⟨HBy3.out.trans (HX4.out.mono HBy3.out.size)⟩
      have CB4 := bytes_ok (fs.take k) B1 _ _ V4 (HG.out.below HBV4.out HG.out.size) HO4.out.frs OKT.out ZT.out H1.out HN1.out
      have HXX4 := HX4
      clear HX4
      go_wp2_with (at_builtin; refine wpList_appV rfl (.tmp 34) (.tmp 37) 23 23 rfl rfl _ _ _ V4 rfl rfl hr4 ?_)
      refine CB4.mono ?_
      rintro e y4 ⟨s4, d4, rfl, HW4, HY4⟩
      have HBy4 : Sl (Below w.heap.size w y4) := ⟨HBV4.out.trans (HY4.out.mono HBV4.out.size)⟩
      clear CB4 hr4 HO4 HBV4
      obtain ⟨a5, c5, V5, hr5, HO5, HX5⟩ := copy_frs y4 (.slice (fromF a k cap) (n - k) (cap - k)) (fs.drop k) (n - k) (FrsAt.from (HV.out.below HBy4.out) HKN.out) HLD.out (by have := HLN.out; omega)
      have HBV5 : Sl (Below w.heap.size w V5) := ⟨HBy4.out.trans (HX5.out.mono HBy4.out.size)⟩
      have CB5 := bytes_ok (fs.drop k) B2 _ _ V5 (HG.out.below HBV5.out HG.out.size) HO5.out.frs OKD.out ZD.out H2.out HN2.out
      have HXX5 := HX5
      clear HX5
      go_wp2_with (at_builtin; refine wpList_appV rfl (.tmp 43) (.tmp 46) 23 23 rfl rfl _ _ _ V5 rfl rfl hr5 ?_)
      refine CB5.mono ?_
      rintro e y5 ⟨s5, d5, rfl, HW5, HY5⟩
      have HBy5 : Sl (Below w.heap.size w y5) := ⟨HBV5.out.trans (HY5.out.mono HBV5.out.size)⟩
      clear CB5 hr5 HO5 HBV5
      have h3 := own_str (own_below (own_below (own_below (own_below HW3.out HXX4.out) HY4.out) HXX5.out) HY5.out) HN3.out
      have h4 := own_str (own_below (own_below HW4.out HXX5.out) HY5.out) HN1.out
      have h5 := own_str HW5.out HN2.out
      rw [strOf_app] at h3
      obtain ⟨T1, hT1⟩ : ∃ T, strOf B1 = T := ⟨_, rfl⟩
      obtain ⟨T2, hT2⟩ : ∃ T, strOf B2 = T := ⟨_, rfl⟩
      rw [hT1] at h3 h4
      rw [hT2] at h3 h5
      have hsz : (T1.size + T2.size : Int) ≤ 1000000 := by have := HZ2.out; rw [hT1, hT2] at this; omega
      have hsz2 : T1.size + T2.size ≤ 1000000 := by omega
      clear hT1 hT2 HW3 HW4 HW5 HY3 HY4 HY5 HXX3 HXX4 HXX5
      go_wp2
      go_ret
      exact ⟨rfl, HBy5.out⟩
    · have HNZe2 := Sl.mk he2
      have HP2 : Sl (bytesF fs = ([], e2)) := ⟨by rw [HP.out, if_neg (fun h => h rfl), if_pos he2]⟩
      have qe21 : ((e2 : Int) != 0) = true := by simp; omega
      have qe22 : ((e2 : Int) == 0) = false := by simp; omega
      have qe23 : (e2 = 0) = False := eq_false he2
      have qe24 : ((e2 : Int) == (e2 : Int)) = true := by simp
      clear he2
      go_enter Tryd.func9, Tryd.ntmps9
      go_wp2_with fail
      refine A1.mono ?_
      rintro e w1 ⟨rfl, HB1⟩
      clear A1
      have FW := Msg.few_any fs _ w1 (HV.out.below HB1.out) HML.out
      rw [HFW.out] at FW
      go_wp2_with fail
      refine FW.mono ?_
      rintro e w2 ⟨rfl, rfl⟩
      clear FW
      have HBw1 := HB1
      clear HB1
      obtain ⟨a3, c3, V3, hr3, HO3, HX3⟩ := copy_frs w1 (.slice a n cap) (fs) (n) (HV.out.below HBw1.out) HN.out (by have := HLN.out; omega)
      have HBV3 : Sl (Below w.heap.size w V3) := ⟨HBw1.out.trans (HX3.out.mono HBw1.out.size)⟩
      have CB3 := bytes_err (fs) e2 _ V3 (HG.out.below HBV3.out HG.out.size) HO3.out.frs HOK.out ZA.out (by rw [HP2.out]) HNZe2.out
      have HXX3 := HX3
      clear HX3
      go_wp2_with (at_builtin; refine wpList_appV rfl (.tmp 27) (.tmp 28) 23 23 rfl rfl _ _ _ V3 rfl rfl hr3 ?_)
      refine CB3.mono ?_
      rintro e y3 ⟨rfl, HY3⟩
      have HBy3 : Sl (Below w.heap.size w y3) := ⟨HBV3.out.trans (HY3.out.mono HBV3.out.size)⟩
      clear CB3 hr3 HO3 HBV3
      obtain ⟨a4, c4, V4, hr4, HO4, HX4⟩ := copy_frs y3 (.slice a k cap) (fs.take k) (k) (FrsAt.to (HV.out.below HBy3.out) HKN.out) HLT.out (by have := HLN.out; omega)
      have HBV4 : Sl (Below w.heap.size w V4) := ⟨HBy3.out.trans (HX4.out.mono HBy3.out.size)⟩
      have CB4 := bytes_ok (fs.take k) B1 _ _ V4 (HG.out.below HBV4.out HG.out.size) HO4.out.frs OKT.out ZT.out H1.out HN1.out
      have HXX4 := HX4
      clear HX4
      go_wp2_with (at_builtin; refine wpList_appV rfl (.tmp 34) (.tmp 37) 23 23 rfl rfl _ _ _ V4 rfl rfl hr4 ?_)
      refine CB4.mono ?_
      rintro e y4 ⟨s4, d4, rfl, HW4, HY4⟩
      have HBy4 : Sl (Below w.heap.size w y4) := ⟨HBV4.out.trans (HY4.out.mono HBV4.out.size)⟩
      clear CB4 hr4 HO4 HBV4
      obtain ⟨a5, c5, V5, hr5, HO5, HX5⟩ := copy_frs y4 (.slice (fromF a k cap) (n - k) (cap - k)) (fs.drop k) (n - k) (FrsAt.from (HV.out.below HBy4.out) HKN.out) HLD.out (by have := HLN.out; omega)
      have HBV5 : Sl (Below w.heap.size w V5) := ⟨HBy4.out.trans (HX5.out.mono HBy4.out.size)⟩
      have CB5 := bytes_err (fs.drop k) e2 _ V5 (HG.out.below HBV5.out HG.out.size) HO5.out.frs OKD.out ZD.out (by rw [H2.out]) HNZe2.out
      have HXX5 := HX5
      clear HX5
      go_wp2_with (at_builtin; refine wpList_appV rfl (.tmp 43) (.tmp 46) 23 23 rfl rfl _ _ _ V5 rfl rfl hr5 ?_)
      refine CB5.mono ?_
      rintro e y5 ⟨rfl, HY5⟩
      have HBy5 : Sl (Below w.heap.size w y5) := ⟨HBV5.out.trans (HY5.out.mono HBV5.out.size)⟩
      clear CB5 hr5 HO5 HBV5
      go_wp2
      go_ret
      exact ⟨rfl, HBy5.out⟩
  · have HNZe1 := Sl.mk he1
    have HP2 : Sl (bytesF fs = ([], e1)) := ⟨by rw [HP.out, if_pos he1]⟩
    by_cases he2 : e2 = 0
    · subst he2
      have qe11 : ((e1 : Int) != 0) = true := by simp; omega
      have qe12 : ((e1 : Int) == 0) = false := by simp; omega
      have qe13 : (e1 = 0) = False := eq_false he1
      have qe14 : ((e1 : Int) == (e1 : Int)) = true := by simp
      clear he1
      go_enter Tryd.func9, Tryd.ntmps9
      go_wp2_with fail
      refine A1.mono ?_
      rintro e w1 ⟨rfl, HB1⟩
      clear A1
      have FW := Msg.few_any fs _ w1 (HV.out.below HB1.out) HML.out
      rw [HFW.out] at FW
      go_wp2_with fail
      refine FW.mono ?_
      rintro e w2 ⟨rfl, rfl⟩
      clear FW
      have HBw1 := HB1
      clear HB1
      obtain ⟨a3, c3, V3, hr3, HO3, HX3⟩ := copy_frs w1 (.slice a n cap) (fs) (n) (HV.out.below HBw1.out) HN.out (by have := HLN.out; omega)
      have HBV3 : Sl (Below w.heap.size w V3) := ⟨HBw1.out.trans (HX3.out.mono HBw1.out.size)⟩
      have CB3 := bytes_err (fs) e1 _ V3 (HG.out.below HBV3.out HG.out.size) HO3.out.frs HOK.out ZA.out (by rw [HP2.out]) HNZe1.out
      have HXX3 := HX3
      clear HX3
      go_wp2_with (at_builtin; refine wpList_appV rfl (.tmp 27) (.tmp 28) 23 23 rfl rfl _ _ _ V3 rfl rfl hr3 ?_)
      refine CB3.mono ?_
      rintro e y3 ⟨rfl, HY3⟩
      have HBy3 : Sl (Below w.heap.size w y3) := ⟨HBV3.out.trans (HY3.out.mono HBV3.out.size)⟩
      clear CB3 hr3 HO3 HBV3
      obtain ⟨a4, c4, V4, hr4, HO4, HX4⟩ := copy_frs y3 (.slice a k cap) (fs.take k) (k) (FrsAt.to (HV.out.below HBy3.out) HKN.out) HLT.out (by have := HLN.out; omega)
      have HBV4 : Sl (Below w.heap.size w V4) := ⟨HBy3.out.trans (HX4.out.mono HBy3.out.size)⟩
      have CB4 := bytes_err (fs.take k) e1 _ V4 (HG.out.below HBV4.out HG.out.size) HO4.out.frs OKT.out ZT.out (by rw [H1.out]) HNZe1.out
      have HXX4 := HX4
      clear HX4
      go_wp2_with (at_builtin; refine wpList_appV rfl (.tmp 34) (.tmp 37) 23 23 rfl rfl _ _ _ V4 rfl rfl hr4 ?_)
      refine CB4.mono ?_
      rintro e y4 ⟨rfl, HY4⟩
      have HBy4 : Sl (Below w.heap.size w y4) := ⟨HBV4.out.trans (HY4.out.mono HBV4.out.size)⟩
      clear CB4 hr4 HO4 HBV4
      obtain ⟨a5, c5, V5, hr5, HO5, HX5⟩ := copy_frs y4 (.slice (fromF a k cap) (n - k) (cap - k)) (fs.drop k) (n - k) (FrsAt.from (HV.out.below HBy4.out) HKN.out) HLD.out (by have := HLN.out; omega)
      have HBV5 : Sl (Below w.heap.size w V5) := ⟨HBy4.out.trans (HX5.out.mono HBy4.out.size)⟩
      have CB5 := bytes_ok (fs.drop k) B2 _ _ V5 (HG.out.below HBV5.out HG.out.size) HO5.out.frs OKD.out ZD.out H2.out HN2.out
      have HXX5 := HX5
      clear HX5
      go_wp2_with (at_builtin; refine wpList_appV rfl (.tmp 43) (.tmp 46) 23 23 rfl rfl _ _ _ V5 rfl rfl hr5 ?_)
      refine CB5.mono ?_
      rintro e y5 ⟨s5, d5, rfl, HW5, HY5⟩
      have HBy5 : Sl (Below w.heap.size w y5) := ⟨HBV5.out.trans (HY5.out.mono HBV5.out.size)⟩
      clear CB5 hr5 HO5 HBV5
      go_wp2
      go_ret
      exact ⟨rfl, HBy5.out⟩
    · have HNZe2 := Sl.mk he2
      have qe11 : ((e1 : Int) != 0) = true := by simp; omega
      have qe12 : ((e1 : Int) == 0) = false := by simp; omega
      have qe13 : (e1 = 0) = False := eq_false he1
      have qe14 : ((e1 : Int) == (e1 : Int)) = true := by simp
      have qe21 : ((e2 : Int) != 0) = true := by simp; omega
      have qe22 : ((e2 : Int) == 0) = false := by simp; omega
      have qe23 : (e2 = 0) = False := eq_false he2
      have qe24 : ((e2 : Int) == (e2 : Int)) = true := by simp
      clear he1 he2
      go_enter Tryd.func9, Tryd.ntmps9
      go_wp2_with fail
      refine A1.mono ?_
      rintro e w1 ⟨rfl, HB1⟩
      clear A1
      have FW := Msg.few_any fs _ w1 (HV.out.below HB1.out) HML.out
      rw [HFW.out] at FW
      go_wp2_with fail
      refine FW.mono ?_
      rintro e w2 ⟨rfl, rfl⟩
      clear FW
      have HBw1 := HB1
      clear HB1
      obtain ⟨a3, c3, V3, hr3, HO3, HX3⟩ := copy_frs w1 (.slice a n cap) (fs) (n) (HV.out.below HBw1.out) HN.out (by have := HLN.out; omega)
      have HBV3 : Sl (Below w.heap.size w V3) := ⟨HBw1.out.trans (HX3.out.mono HBw1.out.size)⟩
      have CB3 := bytes_err (fs) e1 _ V3 (HG.out.below HBV3.out HG.out.size) HO3.out.frs HOK.out ZA.out (by rw [HP2.out]) HNZe1.out
      have HXX3 := HX3
      clear HX3
      go_wp2_with (at_builtin; refine wpList_appV rfl (.tmp 27) (.tmp 28) 23 23 rfl rfl _ _ _ V3 rfl rfl hr3 ?_)
      refine CB3.mono ?_
      rintro e y3 ⟨rfl, HY3⟩
      have HBy3 : Sl (Below w.heap.size w y3) := ⟨HBV3.out.trans (HY3.out.mono HBV3.out.size)⟩
      clear CB3 hr3 HO3 HBV3
      obtain ⟨a4, c4, V4, hr4, HO4, HX4⟩ := copy_frs y3 (.slice a k cap) (fs.take k) (k) (FrsAt.to (HV.out.below HBy3.out) HKN.out) HLT.out (by have := HLN.out; omega)
      have HBV4 : Sl (Below w.heap.size w V4) := ⟨HBy3.out.trans (HX4.out.mono HBy3.out.size)⟩
      have CB4 := bytes_err (fs.take k) e1 _ V4 (HG.out.below HBV4.out HG.out.size) HO4.out.frs OKT.out ZT.out (by rw [H1.out]) HNZe1.out
      have HXX4 := HX4
      clear HX4
      go_wp2_with (at_builtin; refine wpList_appV rfl (.tmp 34) (.tmp 37) 23 23 rfl rfl _ _ _ V4 rfl rfl hr4 ?_)
      refine CB4.mono ?_
      rintro e y4 ⟨rfl, HY4⟩
      have HBy4 : Sl (Below w.heap.size w y4) := ⟨HBV4.out.trans (HY4.out.mono HBV4.out.size)⟩
      clear CB4 hr4 HO4 HBV4
      obtain ⟨a5, c5, V5, hr5, HO5, HX5⟩ := copy_frs y4 (.slice (fromF a k cap) (n - k) (cap - k)) (fs.drop k) (n - k) (FrsAt.from (HV.out.below HBy4.out) HKN.out) HLD.out (by have := HLN.out; omega)
      have HBV5 : Sl (Below w.heap.size w V5) := ⟨HBy4.out.trans (HX5.out.mono HBy4.out.size)⟩
      have CB5 := bytes_err (fs.drop k) e2 _ V5 (HG.out.below HBV5.out HG.out.size) HO5.out.frs OKD.out ZD.out (by rw [H2.out]) HNZe2.out
      have HXX5 := HX5
      clear HX5
      go_wp2_with (at_builtin; refine wpList_appV rfl (.tmp 43) (.tmp 46) 23 23 rfl rfl _ _ _ V5 rfl rfl hr5 ?_)
      refine CB5.mono ?_
      rintro e y5 ⟨rfl, HY5⟩
      have HBy5 : Sl (Below w.heap.size w y5) := ⟨HBV5.out.trans (HY5.out.mono HBV5.out.size)⟩
      clear CB5 hr5 HO5 HBV5
      go_wp2
      go_ret
      exact ⟨rfl, HBy5.out⟩
end Go.Proofs.YtimndpmbgfoofaaDoor.Cut
