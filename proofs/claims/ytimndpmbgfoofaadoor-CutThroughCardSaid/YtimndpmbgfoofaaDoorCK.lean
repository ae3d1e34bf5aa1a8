/- cut: the document's Bytes and Join. -/
import Derived.Test.YtimndpmbgfoofaaDoorCJ
set_option maxRecDepth 100000
namespace Go.Proofs.YtimndpmbgfoofaaDoor.Cut
open Go.RowKit MaskPlain Mas Fra Stm CutPlain
open FramePlain (Fr Fr0 form chk ctl zero4)

theorem strOf_nil : strOf [] = { data := #[] } := by decide +kernel
set_option maxHeartbeats 8000000 in
theorem rbytes_any (fs : List Fr) (v : Value) (w : World) (hv : FrsAt w v fs) (ok : ∀ f ∈ fs, FrOk f) (hz : 14 * fs.length + (dataOf fs).length ≤ 1000000) :
    Calls Tryd.prog 20 #[v] w fun e w' => e = .returned (.tuple #[.string (strOf (bytesF fs).1), .int .i64 (((bytesF fs).2 : Nat) : Int)]) ∧ Sl (Below w.heap.size w w') := by
  obtain ⟨a, c, rfl⟩ := hv.slice
  have HV := Sl.mk hv
  have HOK := Sl.mk ok
  have HZ := Sl.mk hz
  obtain ⟨n, hn⟩ : ∃ n, fs.length = n := ⟨_, rfl⟩
  have HN := Sl.mk hn
  rw [hn] at HV ⊢
  have hnn : n ≤ 1000000 := by omega
  clear hv ok hz hn
  go_enter Tryd.func20, Tryd.ntmps20
  go_wp2
  go_loopw [4, 5] (fun y i wr => ∃ (k : Nat) (S0 : ByteArray), y = .string S0 ∧ i = .int .i64 (k : Int) ∧ k ≤ n ∧ Sl (S0 = strOf (texts (fs.take k))) ∧ Sl (∀ j, j < k → chk (fs.getD j Fr0) = 0) ∧ Sl (Below w.heap.size w wr)) (fun _ i _ => n - (intOf i).toNat)
  case atStart => exact ⟨0, { data := #[] }, rfl, rfl, Nat.zero_le _, ⟨strOf_nil.symm⟩, ⟨fun j hj => absurd hj (Nat.not_lt_zero _)⟩, ⟨Below.refl _ _⟩⟩
  case round =>
    obtain ⟨k, S0, rfl, rfl, hk, HS, HC, HB⟩ := hrel
    by_cases hkn : k < n
    · have hlt : ((k : Int) < (n : Int)) = True := eq_true (by omega)
      have hkf : k < fs.length := by rw [HN.out]; exact hkn
      obtain ⟨sb, so, rfl⟩ := HV.out.cap.2 (by omega)
      obtain ⟨fin, op, m, ka, kb, kc, kd, s, hf, hcv, hsm, hmem⟩ := fr_at HOK.out k hkf
      obtain ⟨c0, c1, c2, c3, c4, c5, c6, c7⟩ := (HV.out.below HB.out).at8 k hkf hcv
      obtain ⟨e0, he0⟩ : ∃ e0, chk (⟨fin, op, m, [ka, kb, kc, kd], bytes s⟩ : Fr) = e0 := ⟨_, rfl⟩
      have hCK : ∀ W, Calls Tryd.prog 35 #[(.agg #[.bool fin, .int .i64 op, .bool m, .int .u8 ((ka : Nat) : Int), .int .u8 ((kb : Nat) : Int), .int .u8 ((kc : Nat) : Int), .int .u8 ((kd : Nat) : Int), .string s])] W fun e w' => e = .returned (.int .i64 (e0 : Int)) ∧ Sl (Below W.heap.size W w') := fun W => by rw [← he0]; exact refcheck_any fin op m ka kb kc kd s W hsm
      by_cases hz : e0 = 0
      · subst hz
        have hop : 0 ≤ op := chk_op he0
        obtain ⟨o, rfl⟩ := Int.eq_ofNat_of_zero_le hop
        obtain ⟨T, hT⟩ : ∃ T, strOf (FramePlain.text (⟨fin, (o:Int), m, [ka, kb, kc, kd], bytes s⟩ : Fr)) = T := ⟨_, rfl⟩
        have hTX : ∀ W, Calls Tryd.prog 36 #[(.agg #[.bool fin, .int .i64 (o:Int), .bool m, .int .u8 ((ka : Nat) : Int), .int .u8 ((kb : Nat) : Int), .int .u8 ((kc : Nat) : Int), .int .u8 ((kd : Nat) : Int), .string s])] W fun e w' => e = .returned (.string T) ∧ Sl (Below W.heap.size W w') := fun W => by rw [← hT]; exact reftext_any fin o m ka kb kc kd s W hsm he0
        have HS2 : Sl (S0 ++ T = strOf (texts (fs.take (k + 1)))) := ⟨by rw [HS.out, texts_take fs k hkf, strOf_app, hf, hT]⟩
        have HSZ : Sl (S0.size + T.size ≤ 1000000) := ⟨by
          have h1 := congrArg ByteArray.size HS2.out
          rw [ByteArray.size_append, strOf_size, texts_len _ (fun f hf => HOK.out f (List.mem_of_mem_take hf)) (by have := dataOf_take_le fs (k + 1); have := HZ.out; omega)] at h1
          have h3 := sumZ_le_take fs (k + 1)
          have := HZ.out
          omega⟩
        have hszz : S0.size + T.size ≤ 1000000 := HSZ.out
        have HC2 : Sl (∀ j, j < k + 1 → chk (fs.getD j Fr0) = 0) := ⟨fun j hj => by
          by_cases h : j < k
          · exact HC.out j h
          · obtain rfl : j = k := by omega
            rw [hf]; exact he0⟩
        clear hf hcv hsm hmem he0 hkf hT hop HS
        go_wp2_with fail
        refine (hCK _).mono ?_
        rintro e w2 ⟨rfl, HX2⟩
        have HB2 : Sl (Below w.heap.size w w2) := ⟨HB.out.trans (HX2.out.mono HB.out.size)⟩
        have d0 : w2.cell? ⟨sb, so + k * 8, none⟩ = some (.bool fin) := (HX2.out.cell (block_lt_of_cell c0)).trans c0
        have d1 : w2.cell? ⟨sb, so + k * 8 + 1, none⟩ = some (.int .i64 (o : Int)) := (HX2.out.cell (block_lt_of_cell c1)).trans c1
        have d2 : w2.cell? ⟨sb, so + k * 8 + 2, none⟩ = some (.bool m) := (HX2.out.cell (block_lt_of_cell c2)).trans c2
        have d3 : w2.cell? ⟨sb, so + k * 8 + 3, none⟩ = some (.int .u8 ((ka : Nat) : Int)) := (HX2.out.cell (block_lt_of_cell c3)).trans c3
        have d4 : w2.cell? ⟨sb, so + k * 8 + 4, none⟩ = some (.int .u8 ((kb : Nat) : Int)) := (HX2.out.cell (block_lt_of_cell c4)).trans c4
        have d5 : w2.cell? ⟨sb, so + k * 8 + 5, none⟩ = some (.int .u8 ((kc : Nat) : Int)) := (HX2.out.cell (block_lt_of_cell c5)).trans c5
        have d6 : w2.cell? ⟨sb, so + k * 8 + 6, none⟩ = some (.int .u8 ((kd : Nat) : Int)) := (HX2.out.cell (block_lt_of_cell c6)).trans c6
        have d7 : w2.cell? ⟨sb, so + k * 8 + 7, none⟩ = some (.string s) := (HX2.out.cell (block_lt_of_cell c7)).trans c7
        clear hCK HX2 HB c0 c1 c2 c3 c4 c5 c6 c7
        go_wp2_with fail
        refine (hTX _).mono ?_
        rintro e w3 ⟨rfl, HX3⟩
        have HB3 : Sl (Below w.heap.size w w3) := ⟨HB2.out.trans (HX3.out.mono HB2.out.size)⟩
        clear hTX HX3 HB2 d0 d1 d2 d3 d4 d5 d6 d7
        go_wp2
        exact ⟨⟨k + 1, S0 ++ T, rfl, by go_num, by omega, HS2, HC2, HB3⟩, by simp [intOf]; omega⟩
      · have HF : Sl (bytesF fs = ([], e0)) := ⟨by
          have := bytesF_at fs k hkf HC.out (by rw [hf, he0]; exact hz)
          rw [this, hf, he0]⟩
        have hz1 : ((e0 : Int) != 0) = true := by simp; omega
        have hz2 : ((e0 : Int) == 0) = false := by simp; omega
        clear hf hcv hsm hmem hz he0 hkf
        go_wp2_with fail
        refine (hCK _).mono ?_
        rintro e w2 ⟨rfl, HX2⟩
        have HB2 : Sl (Below w.heap.size w w2) := ⟨HB.out.trans (HX2.out.mono HB.out.size)⟩
        clear hCK HX2
        go_wp2
        go_ret2
        exact ⟨by rw [HF.out, strOf_nil]; rfl, HB2⟩
    · obtain rfl : k = n := by omega
      have hlt : ((k : Int) < (k : Int)) = False := eq_false (by omega)
      have HF : Sl (bytesF fs = (texts fs, 0)) := ⟨bytesF_all fs (by rw [HN.out]; exact HC.out)⟩
      rw [List.take_of_length_le (by rw [HN.out]; exact Nat.le_refl _)] at HS
      go_wp2
      go_ret2
      exact ⟨by rw [HF.out, ← HS.out]; rfl, HB⟩
theorem join_no {fs : List Fr} (h : ¬ okJ true fs = true) : join fs = (0, [], false) := by unfold join; rw [if_neg h]
set_option maxHeartbeats 8000000 in
theorem rjoin_any (fs : List Fr) (v : Value) (w : World) (hv : FrsAt w v fs) (ok : ∀ f ∈ fs, FrOk f) (hm : fs.length ≤ 1000000) (hz : (dataOf fs).length ≤ 1000000) :
    Calls Tryd.prog 18 #[v] w fun e w' => e = .returned (.tuple #[.int .i64 (join fs).1, .string (strOf (join fs).2.1), .bool (join fs).2.2]) ∧ Sl (Below w.heap.size w w') := by
  obtain ⟨a, c, rfl⟩ := hv.slice
  have HV := Sl.mk hv
  have HOK := Sl.mk ok
  have HZ := Sl.mk hz
  obtain ⟨n, hn⟩ : ∃ n, fs.length = n := ⟨_, rfl⟩
  have HN := Sl.mk hn
  rw [hn] at HV hm ⊢
  clear hv ok hz hn
  go_enter Tryd.func18, Tryd.ntmps18
  go_wp2
  go_loopw [5, 6] (fun y i wr => ∃ (k : Nat) (S0 : ByteArray), y = .string S0 ∧ i = .int .i64 (k : Int) ∧ k ≤ n ∧ Sl (S0 = strOf (dataOf (fs.take k))) ∧ Sl (Joins fs k ∧ (0 < k → (fs.getD 0 Fr0).op = 1 ∨ (fs.getD 0 Fr0).op = 2)) ∧ wr = w) (fun _ i _ => n - (intOf i).toNat)
  case atStart => exact ⟨0, { data := #[] }, rfl, rfl, Nat.zero_le _, ⟨strOf_nil.symm⟩, ⟨fun j hj => absurd hj (Nat.not_lt_zero _), fun h => absurd h (Nat.lt_irrefl _)⟩, rfl⟩
  case round =>
    obtain ⟨k, S0, rfl, rfl, hk, HS, HJ, rfl⟩ := hrel
    by_cases hkn : k < n
    · have hlt : ((k : Int) < (n : Int)) = True := eq_true (by omega)
      have hkf : k < fs.length := by rw [HN.out]; exact hkn
      obtain ⟨sb, so, rfl⟩ := HV.out.cap.2 (by omega)
      obtain ⟨fin, op, m, ka, kb, kc, kd, s, hf, hcv, hsm, hmem⟩ := fr_at HOK.out k hkf
      obtain ⟨c0, c1, c2, c3, c4, c5, c6, c7⟩ := HV.out.at8 k hkf hcv
      obtain ⟨l, hl⟩ : ∃ l, decide (k + 1 = n) = l := ⟨_, rfl⟩
      have hlq : ((k : Int) + 1 == (n : Int)) = l := by
        rw [← hl]
        by_cases h : k + 1 = n
        · rw [decide_eq_true h]; simp; omega
        · rw [decide_eq_false h]; simp; omega
      have zk : IntKind.i64.wrap ((k : Int) + 1) = (k : Int) + 1 := by rw [IntKind.wrap_i64]; omega
      have HFN : Sl ((fs.getD k Fr0).fin = fin ∧ (fs.getD k Fr0).op = op ∧ decide (k + 1 = fs.length) = l) := ⟨by rw [hf, HN.out]; exact ⟨rfl, rfl, hl⟩⟩
      have HS2 : Sl (S0 ++ s = strOf (dataOf (fs.take (k + 1)))) := ⟨by rw [dataOf_take fs k hkf, strOf_app, hf, ← HS.out]; show S0 ++ s = S0 ++ strOf (bytes s); rw [strOf_bytes]⟩
      have hszz : S0.size + s.size ≤ 1000000 := by
        have h1 := congrArg ByteArray.size HS2.out
        rw [ByteArray.size_append, strOf_size] at h1
        have := dataOf_take_le fs (k + 1)
        have := HZ.out
        omega
      clear hf hcv hsm hmem hl hkf HS c2 c3 c4 c5 c6
      by_cases hk0 : k = 0
      · have k1 : ((k : Int) == 0) = true := by simp [hk0]
        have k2 : ((k : Int) > 0) = False := eq_false (by omega)
        have k3 : (k = 0) = True := eq_true hk0
        have k4 : (0 < k) = False := eq_false (by omega)
        by_cases ho1 : op = 1
        · have o1 : (op != 1) = false := by simp [ho1]
          have o2 : (op == 1) = true := by simp [ho1]
          have o3 : (op = 1) = True := eq_true ho1
          have HNO : Sl ((0 < k → (fs.getD k Fr0).op = 0) ∧ (0 < k + 1 → (fs.getD 0 Fr0).op = 1 ∨ (fs.getD 0 Fr0).op = 2)) := ⟨fun h => absurd h (by omega), fun _ => by have := HFN.out.2.1; rw [hk0] at this; rw [this]; exact .inl ho1⟩
          clear ho1 hk0
          cases hfl : (l != fin) with
          | true =>
            have hfl2 : (!l == fin) = true := by cases fin <;> cases l <;> first | rfl | (exact hfl)
            have HF : Sl (join fs = (0, [], false)) := ⟨join_no (by
              intro hr
              have h1 := okJ_fin hr k (by rw [HN.out]; exact hkn)
              rw [HFN.out.1, HFN.out.2.2] at h1
              rw [h1] at hfl; simp at hfl)⟩
            go_wp2
            go_ret3
            exact ⟨by rw [HF.out, strOf_nil]; rfl, ⟨Below.refl _ _⟩⟩
          | false =>
            have hfl2 : (!l == fin) = false := by cases fin <;> cases l <;> first | rfl | (exact hfl)
            have HL : fin = l := by cases fin <;> cases l <;> first | rfl | (exact absurd hfl (by decide))
            have HJ2 : Sl (Joins fs (k + 1) ∧ (0 < k + 1 → (fs.getD 0 Fr0).op = 1 ∨ (fs.getD 0 Fr0).op = 2)) := ⟨HJ.out.1.next (by rw [HFN.out.1, HFN.out.2.2]; exact HL) HNO.out.1, HNO.out.2⟩
            clear HL
            go_wp2
            exact ⟨⟨k + 1, S0 ++ s, rfl, by go_num, by omega, HS2, HJ2, trivial⟩, by simp [intOf]; omega⟩
        · have o1 : (op != 1) = true := by simp [ho1]
          have o2 : (op == 1) = false := by simp [ho1]
          have o3 : (op = 1) = False := eq_false ho1
          by_cases ho2 : op = 2
          · have p1 : (op != 2) = false := by simp [ho2]
            have p2 : (op == 2) = true := by simp [ho2]
            have p3 : (op = 2) = True := eq_true ho2
            have HNO : Sl ((0 < k → (fs.getD k Fr0).op = 0) ∧ (0 < k + 1 → (fs.getD 0 Fr0).op = 1 ∨ (fs.getD 0 Fr0).op = 2)) := ⟨fun h => absurd h (by omega), fun _ => by have := HFN.out.2.1; rw [hk0] at this; rw [this]; exact .inr ho2⟩
            clear ho1 ho2 hk0
            cases hfl : (l != fin) with
            | true =>
              have hfl2 : (!l == fin) = true := by cases fin <;> cases l <;> first | rfl | (exact hfl)
              have HF : Sl (join fs = (0, [], false)) := ⟨join_no (by
                intro hr
                have h1 := okJ_fin hr k (by rw [HN.out]; exact hkn)
                rw [HFN.out.1, HFN.out.2.2] at h1
                rw [h1] at hfl; simp at hfl)⟩
              go_wp2
              go_ret3
              exact ⟨by rw [HF.out, strOf_nil]; rfl, ⟨Below.refl _ _⟩⟩
            | false =>
              have hfl2 : (!l == fin) = false := by cases fin <;> cases l <;> first | rfl | (exact hfl)
              have HL : fin = l := by cases fin <;> cases l <;> first | rfl | (exact absurd hfl (by decide))
              have HJ2 : Sl (Joins fs (k + 1) ∧ (0 < k + 1 → (fs.getD 0 Fr0).op = 1 ∨ (fs.getD 0 Fr0).op = 2)) := ⟨HJ.out.1.next (by rw [HFN.out.1, HFN.out.2.2]; exact HL) HNO.out.1, HNO.out.2⟩
              clear HL
              go_wp2
              exact ⟨⟨k + 1, S0 ++ s, rfl, by go_num, by omega, HS2, HJ2, trivial⟩, by simp [intOf]; omega⟩
          · have p1 : (op != 2) = true := by simp [ho2]
            have p2 : (op == 2) = false := by simp [ho2]
            have p3 : (op = 2) = False := eq_false ho2
            have HF : Sl (join fs = (0, [], false)) := ⟨join_no (by
              intro hr
              have h1 := okJ_op hr k (by rw [HN.out]; exact hkn)
              rw [if_pos ⟨hk0, rfl⟩, HFN.out.2.1] at h1
              omega)⟩
            clear ho1 ho2 hk0
            go_wp2
            go_ret3
            exact ⟨by rw [HF.out, strOf_nil]; rfl, ⟨Below.refl _ _⟩⟩
      · have k1 : ((k : Int) == 0) = false := by simp [hk0]
        have k2 : ((k : Int) > 0) = True := eq_true (by omega)
        have k3 : (k = 0) = False := eq_false hk0
        have k4 : (0 < k) = True := eq_true (by omega)
        by_cases ho1 : op = 0
        · have o1 : (op != 0) = false := by simp [ho1]
          have o2 : (op == 0) = true := by simp [ho1]
          have o3 : (op = 0) = True := eq_true ho1
          have HNO : Sl ((0 < k → (fs.getD k Fr0).op = 0) ∧ (0 < k + 1 → (fs.getD 0 Fr0).op = 1 ∨ (fs.getD 0 Fr0).op = 2)) := ⟨fun _ => by rw [HFN.out.2.1]; exact ho1, fun _ => HJ.out.2 (by omega)⟩
          clear ho1 hk0
          cases hfl : (l != fin) with
          | true =>
            have hfl2 : (!l == fin) = true := by cases fin <;> cases l <;> first | rfl | (exact hfl)
            have HF : Sl (join fs = (0, [], false)) := ⟨join_no (by
              intro hr
              have h1 := okJ_fin hr k (by rw [HN.out]; exact hkn)
              rw [HFN.out.1, HFN.out.2.2] at h1
              rw [h1] at hfl; simp at hfl)⟩
            go_wp2
            go_ret3
            exact ⟨by rw [HF.out, strOf_nil]; rfl, ⟨Below.refl _ _⟩⟩
          | false =>
            have hfl2 : (!l == fin) = false := by cases fin <;> cases l <;> first | rfl | (exact hfl)
            have HL : fin = l := by cases fin <;> cases l <;> first | rfl | (exact absurd hfl (by decide))
            have HJ2 : Sl (Joins fs (k + 1) ∧ (0 < k + 1 → (fs.getD 0 Fr0).op = 1 ∨ (fs.getD 0 Fr0).op = 2)) := ⟨HJ.out.1.next (by rw [HFN.out.1, HFN.out.2.2]; exact HL) HNO.out.1, HNO.out.2⟩
            clear HL
            go_wp2
            exact ⟨⟨k + 1, S0 ++ s, rfl, by go_num, by omega, HS2, HJ2, trivial⟩, by simp [intOf]; omega⟩
        · have o1 : (op != 0) = true := by simp [ho1]
          have o2 : (op == 0) = false := by simp [ho1]
          have o3 : (op = 0) = False := eq_false ho1
          have HF : Sl (join fs = (0, [], false)) := ⟨join_no (by
            intro hr
            have h1 := okJ_op hr k (by rw [HN.out]; exact hkn)
            rw [if_neg (fun e => hk0 e.1), HFN.out.2.1] at h1
            exact ho1 h1)⟩
          clear ho1 hk0
          go_wp2
          go_ret3
          exact ⟨by rw [HF.out, strOf_nil]; rfl, ⟨Below.refl _ _⟩⟩
    · obtain rfl : k = n := by omega
      have hlt : ((k : Int) < (k : Int)) = False := eq_false (by omega)
      by_cases h0 : k = 0
      · have q1 : ((k : Int) == 0) = true := by simp [h0]
        have q2 : (k = 0) = True := eq_true h0
        have HF : Sl (join fs = (0, [], false)) := ⟨join_no (by
          rw [List.eq_nil_of_length_eq_zero (HN.out.trans h0)]; decide)⟩
        clear h0
        go_wp2
        go_ret3
        exact ⟨by rw [HF.out, strOf_nil]; rfl, ⟨Below.refl _ _⟩⟩
      · have q1 : ((k : Int) == 0) = false := by simp [h0]
        have q2 : (k = 0) = False := eq_false h0
        obtain ⟨sb, so, rfl⟩ := HV.out.cap.2 (by omega)
        obtain ⟨fin, op, m, ka, kb, kc, kd, s, hf, hcv, hsm, hmem⟩ := fr_at HOK.out 0 (by rw [HN.out]; omega)
        obtain ⟨c0, c1, c2, c3, c4, c5, c6, c7⟩ := HV.out.at8 0 (by rw [HN.out]; omega) hcv
        simp only [Nat.zero_mul, Nat.add_zero] at c0 c1 c2 c3 c4 c5 c6 c7
        have HF : Sl (join fs = (op, dataOf fs, true)) := ⟨by
          unfold join
          rw [if_pos (by rw [okJ_joins (by rw [HN.out]; exact HJ.out.1) (by rw [HN.out]; omega)]; exact decide_eq_true (HJ.out.2 (by omega))), hf]⟩
        have hkp : (0 : Int) < (k : Int) := by omega
        rw [List.take_of_length_le (by rw [HN.out]; exact Nat.le_refl _)] at HS
        clear hf hcv hsm hmem h0 c0 c2 c3 c4 c5 c6 c7
        go_wp2
        go_ret3
        exact ⟨by rw [HF.out, ← HS.out]; rfl, ⟨Below.refl _ _⟩⟩
end Go.Proofs.YtimndpmbgfoofaaDoor.Cut
