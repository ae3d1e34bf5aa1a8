/- cut: Bytes: frames as bytes. -/
import Derived.Test.YtimndpmbgfoofaaDoorCE
set_option maxRecDepth 100000
namespace Go.Proofs.YtimndpmbgfoofaaDoor.Cut
open Go.RowKit MaskPlain Mas Fra Stm CutPlain
open FramePlain (Fr Fr0 form chk ctl zero4)

theorem bytesF_at : ∀ (fs : List Fr) (k : Nat), k < fs.length → (∀ j, j < k → chk (fs.getD j Fr0) = 0) → chk (fs.getD k Fr0) ≠ 0 → bytesF fs = ([], chk (fs.getD k Fr0))
  | [], _, hk, _, _ => absurd hk (by simp)
  | f :: fs, 0, _, _, h => by
    simp only [List.getD_cons_zero] at h ⊢
    unfold bytesF
    rw [if_pos h]
  | f :: fs, k + 1, hk, h0, h => by
    have h1 : chk f = 0 := h0 0 (by omega)
    have ih := bytesF_at fs k (by simpa using hk) (fun j hj => by have := h0 (j + 1) (by omega); simpa using this) (by simpa using h)
    simp only [List.getD_cons_succ] at h ⊢
    unfold bytesF
    rw [if_neg (by omega), ih, if_pos h]
theorem bytesF_all : ∀ (fs : List Fr), (∀ j, j < fs.length → chk (fs.getD j Fr0) = 0) → bytesF fs = (texts fs, 0)
  | [], _ => rfl
  | f :: fs, h => by
    have h1 : chk f = 0 := h 0 (by simp)
    have ih := bytesF_all fs (fun j hj => by have := h (j + 1) (by simpa using hj); simpa using this)
    unfold bytesF
    rw [if_neg (by omega), ih, if_neg (fun h => h rfl)]
    rfl
/-- How many bytes frames are. -/
def sumZ (fs : List Fr) : Nat := (fs.map FramePlain.size).sum
theorem sumZ_take (fs : List Fr) (k : Nat) (h : k < fs.length) : sumZ (fs.take (k + 1)) = sumZ (fs.take k) + FramePlain.size (fs.getD k Fr0) := by
  unfold sumZ
  rw [fr_take fs k h, List.map_append, List.sum_append]; simp
theorem size_le (f : Fr) : FramePlain.size f ≤ 14 + f.data.length := by
  unfold FramePlain.size
  split <;> split <;> (try split) <;> omega
theorem sumZ_le : ∀ (fs : List Fr), sumZ fs ≤ 14 * fs.length + (dataOf fs).length
  | [] => Nat.le_refl _
  | f :: fs => by
    have h1 := size_le f
    have h2 := sumZ_le fs
    have h3 : sumZ (f :: fs) = FramePlain.size f + sumZ fs := by simp [sumZ]
    rw [h3, dataOf_cons, List.length_cons, List.length_append]
    omega
theorem sumZ_le_take (fs : List Fr) (k : Nat) : sumZ (fs.take k) ≤ 14 * fs.length + (dataOf fs).length := by
  have h1 := sumZ_le (fs.take k)
  have h2 : (dataOf (fs.take k)).length ≤ (dataOf fs).length := by
    have h := congrArg List.length (dataOf_append (fs.take k) (fs.drop k))
    rw [List.take_append_drop, List.length_append] at h
    omega
  rw [List.length_take] at h1
  omega
theorem data_le {fs : List Fr} {f : Fr} (h : f ∈ fs) : f.data.length ≤ (dataOf fs).length := by
  obtain ⟨a, b, rfl⟩ := List.append_of_mem h
  rw [dataOf_append, dataOf_cons, List.length_append, List.length_append]
  omega
theorem texts_len : ∀ (fs : List Fr), (∀ f ∈ fs, FrOk f) → (dataOf fs).length ≤ 9223372036854775807 → (texts fs).length = sumZ fs
  | [], _, _ => rfl
  | f :: fs, h, hd => by
    have hf := h f (by simp)
    rw [dataOf_cons, List.length_append] at hd
    rw [texts_cons, List.length_append, texts_len fs (fun g hg => h g (by simp [hg])) (by omega), FramePlain.text_length f (by omega) hf.k4]
    simp [sumZ]
theorem chk_op {f : Fr} (h : chk f = 0) : 0 ≤ f.op := form_op (FramePlain.chk_ok h).1 rfl
set_option maxHeartbeats 8000000 in
theorem bytes_any (fs : List Fr) (v : Value) (w : World) (hg : Mas.Globs w) (hv : FrsAt w v fs) (ok : ∀ f ∈ fs, FrOk f) (hz : 14 * fs.length + (dataOf fs).length ≤ 1000000) :
    Calls Tryd.prog 19 #[v] w fun e w' => ∃ a n c, e = .returned (.tuple #[.slice a n c, .int .i64 (((bytesF fs).2 : Nat) : Int)]) ∧ (bytesF fs).1.length = n ∧ ((bytesF fs).2 = 0 → Sl (w'.ownsRow w.heap.size 5 1 (.slice a n c) n (u8s (bytesF fs).1))) ∧ ((bytesF fs).2 ≠ 0 → (.slice a n c : Value) = .slice none 0 0) ∧ Sl (Below w.heap.size w w') := by
  obtain ⟨a, c, rfl⟩ := hv.slice
  have HV := Sl.mk hv
  have HOK := Sl.mk ok
  have HZ := Sl.mk hz
  have HG := Sl.mk hg
  obtain ⟨n, hn⟩ : ∃ n, fs.length = n := ⟨_, rfl⟩
  have HN := Sl.mk hn
  rw [hn] at HV ⊢
  have hnn : n ≤ 1000000 := by omega
  clear hv ok hz hg hn
  go_enter Tryd.func19, Tryd.ntmps19
  go_wp2
  go_loopw [4, 16] (fun y i wr => ∃ (k : Nat) (r : Nat), y = .int .i64 (r : Int) ∧ i = .int .i64 (k : Int) ∧ k ≤ n ∧ r ≤ 1000000 ∧ Sl (r = sumZ (fs.take k)) ∧ Sl (∀ j, j < k → chk (fs.getD j Fr0) = 0) ∧ Sl (Below w.heap.size w wr)) (fun _ i _ => n - (intOf i).toNat)
  case atStart => exact ⟨0, 0, rfl, rfl, Nat.zero_le _, Nat.zero_le _, ⟨rfl⟩, ⟨fun j hj => absurd hj (Nat.not_lt_zero _)⟩, ⟨Below.refl _ _⟩⟩
  case round =>
    obtain ⟨k, r, rfl, rfl, hk, hr, HS, HC, HB⟩ := hrel
    by_cases hkn : k < n
    · have hlt : ((k : Int) < (n : Int)) = True := eq_true (by omega)
      have hkf : k < fs.length := by rw [HN.out]; exact hkn
      obtain ⟨sb, so, rfl⟩ := HV.out.cap.2 (by omega)
      obtain ⟨fin, op, m, ka, kb, kc, kd, s, hf, hcv, hsm, hmem⟩ := fr_at HOK.out k hkf
      obtain ⟨c0, c1, c2, c3, c4, c5, c6, c7⟩ := (HV.out.below HB.out).at8 k hkf hcv
      have HI := fr_info (cs := #[.bool fin, .int .i64 op, .bool m, .int .u8 ((ka : Nat) : Int), .int .u8 ((kb : Nat) : Int), .int .u8 ((kc : Nat) : Int), .int .u8 ((kd : Nat) : Int), .string s]) rfl
      have hsz : s.size ≤ 1000000 := by
        have := data_le hmem
        rw [hf] at this
        have h2 : (bytes s).length ≤ (dataOf fs).length := this
        rw [bytes_length] at h2
        have := HZ.out; omega
      obtain ⟨e0, he0⟩ : ∃ e0, chk (⟨fin, op, m, [ka, kb, kc, kd], bytes s⟩ : Fr) = e0 := ⟨_, rfl⟩
      have hCK : ∀ W, Calls Tryd.prog 32 #[(.agg #[.bool fin, .int .i64 op, .bool m, .int .u8 ((ka : Nat) : Int), .int .u8 ((kb : Nat) : Int), .int .u8 ((kc : Nat) : Int), .int .u8 ((kd : Nat) : Int), .string s])] W fun e w' => e = .returned (.int .i64 (e0 : Int)) ∧ Sl (Below W.heap.size W w') := fun W => by rw [← he0]; exact check_any fin op m ka kb kc kd s W hsm
      by_cases hz : e0 = 0
      · subst hz
        obtain ⟨z, hz⟩ : ∃ z, FramePlain.size (⟨fin, op, m, [ka, kb, kc, kd], bytes s⟩ : Fr) = z := ⟨_, rfl⟩
        have hSZ : ∀ W, Mas.Globs W → Calls Tryd.prog 33 #[(.agg #[.bool fin, .int .i64 op, .bool m, .int .u8 ((ka : Nat) : Int), .int .u8 ((kb : Nat) : Int), .int .u8 ((kc : Nat) : Int), .int .u8 ((kd : Nat) : Int), .string s])] W fun e w' => e = .returned (.int .i64 (z : Int)) ∧ Sl (Below W.heap.size W w') := fun W hW => by rw [← hz]; exact size_any fin op m ka kb kc kd s W hW hsz
        have HS2 : Sl (r + z = sumZ (fs.take (k + 1))) := ⟨by rw [sumZ_take fs k hkf, hf, hz, ← HS.out]⟩
        have hrz : r + z ≤ 1000000 := by have := HS2.out; have h2 := sumZ_le_take fs (k + 1); have := HZ.out; omega
        have HC2 : Sl (∀ j, j < k + 1 → chk (fs.getD j Fr0) = 0) := ⟨fun j hj => by
          by_cases h : j < k
          · exact HC.out j h
          · obtain rfl : j = k := by omega
            rw [hf]; exact he0⟩
        have z1 : IntKind.i64.wrap ((r : Int) + (z : Int)) = ((r + z : Nat) : Int) := by rw [IntKind.wrap_i64]; omega
        clear hf hcv hsm hmem hz he0 hkf hsz
        obtain ⟨X, hX, HBX, HFX⟩ := laid_fv wr #[.bool fin, .int .i64 op, .bool m, .int .u8 ((ka : Nat) : Int), .int .u8 ((kb : Nat) : Int), .int .u8 ((kc : Nat) : Int), .int .u8 ((kd : Nat) : Int), .string s]
        go_upto_region 5 with (refine wpList_store_row rfl 44 (.tmp 6) (.tmp 19) rfl wr.heap.size #[.bool fin, .int .i64 op, .bool m, .int .u8 ((ka : Nat) : Int), .int .u8 ((kb : Nat) : Int), .int .u8 ((kc : Nat) : Int), .int .u8 ((kd : Nat) : Int), .string s] rfl rfl 44 #[.bool false, .int .i64 0, .bool false, .int .u8 0, .int .u8 0, .int .u8 0, .int .u8 0, .string { data := #[] }] (bx_new wr _) HI rfl (fr_all _ _ _ _ _ _ _ _) ?_)
        (try rw [hX])
        clear hX
        have HBX2 : Sl (Below w.heap.size w X) := ⟨HB.out.trans (HBX.out.mono HB.out.size)⟩
        clear c0 c1 c2 c3 c4 c5 c6 c7 HBX
        obtain ⟨a0, a1, a2, a3, a4, a5, a6, a7⟩ := bx8 HFX.out
        go_wp2_with fail
        refine (hCK _).mono ?_
        rintro e w2 ⟨rfl, HX2⟩
        have HF2 := Sl.mk (below_key HFX.out HX2.out)
        have HB2 : Sl (Below w.heap.size w w2) := ⟨HBX2.out.trans (HX2.out.mono HBX2.out.size)⟩
        clear hCK a0 a1 a2 a3 a4 a5 a6 a7 HX2 HFX HBX2
        obtain ⟨a0, a1, a2, a3, a4, a5, a6, a7⟩ := bx8 HF2.out
        go_wp2_with fail
        refine (hSZ _ (HG.out.below HB2.out HG.out.size)).mono ?_
        rintro e w3 ⟨rfl, HX3⟩
        have HB3 : Sl (Below w.heap.size w w3) := ⟨HB2.out.trans (HX3.out.mono HB2.out.size)⟩
        clear hSZ a0 a1 a2 a3 a4 a5 a6 a7 HX3 HF2 HB2
        go_wp2
        exact ⟨⟨k + 1, r + z, rfl, by go_num, by omega, hrz, HS2, HC2, HB3⟩, by simp [intOf]; omega⟩
      · have HF : Sl (bytesF fs = ([], e0)) := ⟨by
          have := bytesF_at fs k hkf HC.out (by rw [hf, he0]; exact hz)
          rw [this, hf, he0]⟩
        have hz1 : ((e0 : Int) != 0) = true := by simp; omega
        have hz2 : ((e0 : Int) == 0) = false := by simp; omega
        have HNZ := Sl.mk hz
        clear hf hcv hsm hmem hz he0 hkf hsz
        obtain ⟨X, hX, HBX, HFX⟩ := laid_fv wr #[.bool fin, .int .i64 op, .bool m, .int .u8 ((ka : Nat) : Int), .int .u8 ((kb : Nat) : Int), .int .u8 ((kc : Nat) : Int), .int .u8 ((kd : Nat) : Int), .string s]
        go_upto_region 5 with (refine wpList_store_row rfl 44 (.tmp 6) (.tmp 19) rfl wr.heap.size #[.bool fin, .int .i64 op, .bool m, .int .u8 ((ka : Nat) : Int), .int .u8 ((kb : Nat) : Int), .int .u8 ((kc : Nat) : Int), .int .u8 ((kd : Nat) : Int), .string s] rfl rfl 44 #[.bool false, .int .i64 0, .bool false, .int .u8 0, .int .u8 0, .int .u8 0, .int .u8 0, .string { data := #[] }] (bx_new wr _) HI rfl (fr_all _ _ _ _ _ _ _ _) ?_)
        (try rw [hX])
        clear hX
        have HBX2 : Sl (Below w.heap.size w X) := ⟨HB.out.trans (HBX.out.mono HB.out.size)⟩
        clear c0 c1 c2 c3 c4 c5 c6 c7 HBX
        obtain ⟨a0, a1, a2, a3, a4, a5, a6, a7⟩ := bx8 HFX.out
        go_wp2_with fail
        refine (hCK _).mono ?_
        rintro e w2 ⟨rfl, HX2⟩
        have HB2 : Sl (Below w.heap.size w w2) := ⟨HBX2.out.trans (HX2.out.mono HBX2.out.size)⟩
        clear hCK a0 a1 a2 a3 a4 a5 a6 a7 HX2 HFX HBX2
        go_wp2
        go_ret2
        exact ⟨none, 0, 0, by rw [HF.out]; rfl, by rw [HF.out]; rfl, fun h => absurd (by rw [HF.out] at h; exact h) HNZ.out, fun _ => rfl, HB2⟩
    · obtain rfl : k = n := by omega
      have hlt : ((k : Int) < (k : Int)) = False := eq_false (by omega)
      have HF : Sl (bytesF fs = (texts fs, 0)) := ⟨bytesF_all fs (by rw [HN.out]; exact HC.out)⟩
      have GM := gatherer_any r (by omega) w wr HB.out
      go_wp2_with fail
      refine GM.mono ?_
      rintro e w4 ⟨q, v0, rfl, HG0, _⟩
      clear GM HS HB
      go_wp2
      go_loopw [37] (fun i wr => ∃ (j : Nat) (v1 : Value), i = .int .i64 (j : Int) ∧ j ≤ k ∧ Sl (Gath w wr q v1 (texts (fs.take j)))) (fun i _ => k - (intOf i).toNat)
      case atStart => exact ⟨0, v0, rfl, Nat.zero_le _, HG0⟩
      case round =>
        obtain ⟨j, v1, rfl, hj, HGA⟩ := hrel
        by_cases hjk : j < k
        · have hlt : ((j : Int) < (k : Int)) = True := eq_true (by omega)
          have hkf : j < fs.length := by rw [HN.out]; exact hjk
          obtain ⟨sb, so, rfl⟩ := HV.out.cap.2 (by omega)
          obtain ⟨fin, op, m, ka, kb, kc, kd, s, hf, hcv, hsm, hmem⟩ := fr_at HOK.out j hkf
          have hch := HC.out j hjk
          have hop := chk_op hch
          rw [hf] at hch hop
          obtain ⟨o, rfl⟩ := Int.eq_ofNat_of_zero_le hop
          obtain ⟨c0, c1, c2, c3, c4, c5, c6, c7⟩ := (HV.out.below HGA.out.L).at8 j hkf hcv
          have HI := fr_info (cs := #[.bool fin, .int .i64 (o:Int), .bool m, .int .u8 ((ka : Nat) : Int), .int .u8 ((kb : Nat) : Int), .int .u8 ((kc : Nat) : Int), .int .u8 ((kd : Nat) : Int), .string s]) rfl
          obtain ⟨z, hz⟩ : ∃ z, FramePlain.size (⟨fin, (o:Int), m, [ka, kb, kc, kd], bytes s⟩ : Fr) = z := ⟨_, rfl⟩
          obtain ⟨T, hT⟩ : ∃ T, FramePlain.text (⟨fin, (o:Int), m, [ka, kb, kc, kd], bytes s⟩ : Fr) = T := ⟨_, rfl⟩
          have hPT : ∀ W, Mas.Globs W → Calls Tryd.prog 34 #[(.agg #[.bool fin, .int .i64 (o:Int), .bool m, .int .u8 ((ka : Nat) : Int), .int .u8 ((kb : Nat) : Int), .int .u8 ((kc : Nat) : Int), .int .u8 ((kd : Nat) : Int), .string s])] W fun e w' => ∃ g cap, e = .returned (.tuple #[.slice (some ⟨g, 0, none⟩) z cap, .int .i64 0]) ∧ Sl (SrcAt w' (.slice (some ⟨g, 0, none⟩) z cap) T) ∧ Sl (Below W.heap.size W w') := fun W hW => by
            rw [← hT]; exact putf_yes fin o m ka kb kc kd s z W hW hsm hch hz
          have HT : Sl (texts (fs.take (j + 1)) = texts (fs.take j) ++ T) := ⟨by rw [texts_take fs j hkf, hf, hT]⟩
          have HTL : Sl ((texts (fs.take j)).length + T.length ≤ 1000000) := ⟨by
            have h1 := congrArg List.length HT.out
            rw [List.length_append] at h1
            have h2 : (dataOf (fs.take (j + 1))).length ≤ (dataOf fs).length := by
              have h := congrArg List.length (dataOf_append (fs.take (j + 1)) (fs.drop (j + 1)))
              rw [List.take_append_drop, List.length_append] at h
              omega
            rw [texts_len _ (fun f hf => HOK.out f (List.mem_of_mem_take hf)) (by have := HZ.out; omega)] at h1
            have h3 := sumZ_le_take fs (j + 1)
            have := HZ.out
            omega⟩
          clear hf hcv hsm hmem hz hT hch hop hkf
          obtain ⟨X, hX, HBX, HFX⟩ := laid_fv wr #[.bool fin, .int .i64 (o:Int), .bool m, .int .u8 ((ka : Nat) : Int), .int .u8 ((kb : Nat) : Int), .int .u8 ((kc : Nat) : Int), .int .u8 ((kd : Nat) : Int), .string s]
          go_upto_region 14 with (refine wpList_store_row rfl 44 (.tmp 11) (.tmp 40) rfl wr.heap.size #[.bool fin, .int .i64 (o:Int), .bool m, .int .u8 ((ka : Nat) : Int), .int .u8 ((kb : Nat) : Int), .int .u8 ((kc : Nat) : Int), .int .u8 ((kd : Nat) : Int), .string s] rfl rfl 44 #[.bool false, .int .i64 0, .bool false, .int .u8 0, .int .u8 0, .int .u8 0, .int .u8 0, .string { data := #[] }] (bx_new wr _) HI rfl (fr_all _ _ _ _ _ _ _ _) ?_)
          (try rw [hX])
          clear hX
          have HGX := Sl.mk (HGA.out.below HBX.out)
          clear c0 c1 c2 c3 c4 c5 c6 c7 HBX HGA
          obtain ⟨a0, a1, a2, a3, a4, a5, a6, a7⟩ := bx8 HFX.out
          go_wp2_with fail
          refine (hPT _ (HG.out.below HGX.out.L HG.out.size)).mono ?_
          rintro e w2 ⟨g, cp, rfl, HS2, HX2⟩
          have HG2 := Sl.mk (HGX.out.below HX2.out)
          clear hPT a0 a1 a2 a3 a4 a5 a6 a7 HX2 HFX HGX
          have GA := gather_any HG2.out HS2.out HTL.out
          go_wp2_with fail
          refine GA.mono ?_
          rintro e w3 ⟨v2, rfl, HG3⟩
          rw [← HT.out] at HG3
          clear GA HG2 HS2
          go_wp2
          exact ⟨⟨j + 1, v2, by go_num, by omega, HG3⟩, by simp [intOf]; omega⟩
        · obtain rfl : j = k := by omega
          have hlt : ((j : Int) < (j : Int)) = False := eq_false (by omega)
          have HT : Sl (fs.take j = fs) := ⟨List.take_of_length_le (by rw [HN.out]; exact Nat.le_refl _)⟩
          rw [HT.out] at HGA
          obtain ⟨a1, c1, rfl⟩ := HGA.out.slice
          have GL := gall_any HGA.out
          obtain ⟨N, hN⟩ : ∃ N, (texts fs).length = N := ⟨_, rfl⟩
          rw [hN] at GL
          have HO : Sl (wr.ownsRow w.heap.size 5 1 (.slice a1 N c1) N (u8s (texts fs)) ∧ Below w.heap.size w wr ∧ (texts fs).length = N) := ⟨by
            have h := HGA.out.O
            rw [hN] at h
            exact ⟨h, HGA.out.L, hN⟩⟩
          clear HGA hN
          go_wp2_with fail
          refine GL.mono ?_
          rintro e w5 ⟨rfl, rfl⟩
          clear GL
          go_wp2
          go_ret2
          exact ⟨a1, N, c1, by rw [HF.out]; rfl, by rw [HF.out]; exact HO.out.2.2, fun _ => ⟨by rw [HF.out]; exact HO.out.1⟩, fun h => absurd (by rw [HF.out]) h, ⟨HO.out.2.1⟩⟩
end Go.Proofs.YtimndpmbgfoofaaDoor.Cut
