/- cut: whole: are frames one message? -/
import Derived.Test.YtimndpmbgfoofaaDoorCB
set_option maxRecDepth 100000
namespace Go.Proofs.YtimndpmbgfoofaaDoor.Cut
open Go.RowKit MaskPlain Mas Fra Stm CutPlain
open FramePlain (Fr Fr0 form chk ctl zero4)

theorem fr_at {fs : List Fr} (hk : ∀ f ∈ fs, FrOk f) (i : Nat) (hi : i < fs.length) : ∃ fin op m, ∃ ka kb kc kd : Nat, ∃ s, fs.getD i Fr0 = (⟨fin, op, m, [ka, kb, kc, kd], bytes s⟩ : Fr) ∧ (cv (fs.getD i Fr0)).toArray = #[.bool fin, .int .i64 op, .bool m, .int .u8 ((ka : Nat) : Int), .int .u8 ((kb : Nat) : Int), .int .u8 ((kc : Nat) : Int), .int .u8 ((kd : Nat) : Int), .string s] ∧ Small 256 [ka, kb, kc, kd] ∧ fs.getD i Fr0 ∈ fs := by
  have hm : fs.getD i Fr0 ∈ fs := by rw [List.getD_eq_getElem?_getD, List.getElem?_eq_getElem hi]; exact List.getElem_mem _
  obtain ⟨fin, op, m, ka, kb, kc, kd, s, h1, h2, h3⟩ := fr_parts (hk _ hm)
  exact ⟨fin, op, m, ka, kb, kc, kd, s, h1, h2, h3, hm⟩
theorem fr_take (fs : List Fr) (i : Nat) (hi : i < fs.length) : fs.take (i + 1) = fs.take i ++ [fs.getD i Fr0] := by
  rw [List.take_add_one, List.getElem?_eq_getElem hi, List.getD_eq_getElem?_getD, List.getElem?_eq_getElem hi]; rfl
theorem laid_fv (W : World) (cs : Array Value) : ∃ V, (W.alloc (.cells #[.bool false, .int .i64 0, .bool false, .int .u8 0, .int .u8 0, .int .u8 0, .int .u8 0, .string { data := #[] }] 44)).setRow W.heap.size cs = V ∧ Sl (Below W.heap.size W V) ∧ Sl (V.heap[W.heap.size]? = some (.cells cs 44 (0, 0))) :=
  ⟨_, rfl, ⟨laid_self W cs⟩, ⟨setRow_heap _ _ _ _ _ _ (bx_new W _)⟩⟩
/-- What the frames so far must be. -/
def Joins (fs : List Fr) (k : Nat) : Prop := ∀ j, j < k → (fs.getD j Fr0).fin = decide (j + 1 = fs.length) ∧ (0 < j → (fs.getD j Fr0).op = 0)
theorem Joins.next {fs : List Fr} {k : Nat} (h : Joins fs k) (h1 : (fs.getD k Fr0).fin = decide (k + 1 = fs.length)) (h2 : 0 < k → (fs.getD k Fr0).op = 0) : Joins fs (k + 1) := fun j hj => by
  by_cases e : j < k
  · exact h j e
  · obtain rfl : j = k := by omega
    exact ⟨h1, h2⟩
theorem okJ_of : ∀ {first : Bool} {l : List Fr}, l ≠ [] → (∀ i, i < l.length → (l.getD i Fr0).fin = decide (i + 1 = l.length)) → (∀ i, i < l.length → (if i = 0 ∧ first = true then (l.getD i Fr0).op = 1 ∨ (l.getD i Fr0).op = 2 else (l.getD i Fr0).op = 0)) → okJ first l = true
  | _, [], h, _, _ => absurd rfl h
  | first, [f], _, h1, h2 => by
    have a := h1 0 (by simp)
    have b := h2 0 (by simp)
    have hf : f.fin = true := by simpa using a
    simp only [okJ, hf, Bool.true_and]
    cases first
    · have : f.op = 0 := by simpa using b
      simp [this]
    · have : f.op = 1 ∨ f.op = 2 := by simpa using b
      simp [this]
  | first, f :: g :: l, _, h1, h2 => by
    have a := h1 0 (by simp)
    have b := h2 0 (by simp)
    have hf : f.fin = false := by simpa using a
    have hr : okJ false (g :: l) = true := okJ_of (by simp) (fun i hi => by
      have := h1 (i + 1) (by simpa using hi)
      rw [List.getD_cons_succ] at this
      rw [this]; simp) (fun i hi => by
      have := h2 (i + 1) (by simpa using hi)
      rw [List.getD_cons_succ] at this
      simpa using this)
    simp only [okJ, hf, hr, Bool.not_false, Bool.true_and, Bool.and_true]
    cases first
    · have : f.op = 0 := by simpa using b
      simp [this]
    · have : f.op = 1 ∨ f.op = 2 := by simpa using b
      simp [this]
theorem okJ_joins {fs : List Fr} (h : Joins fs fs.length) (hp : 0 < fs.length) : okJ true fs = decide ((fs.getD 0 Fr0).op = 1 ∨ (fs.getD 0 Fr0).op = 2) := by
  by_cases ho : (fs.getD 0 Fr0).op = 1 ∨ (fs.getD 0 Fr0).op = 2
  · rw [decide_eq_true ho]
    refine okJ_of (fun e => by rw [e] at hp; simp at hp) (fun i hi => (h i hi).1) (fun i hi => ?_)
    by_cases h0 : i = 0
    · rw [if_pos ⟨h0, rfl⟩, h0]; exact ho
    · rw [if_neg (fun e => h0 e.1)]; exact (h i hi).2 (by omega)
  · rw [decide_eq_false ho]
    cases hr : okJ true fs with
    | false => rfl
    | true =>
      have := okJ_op hr 0 hp
      rw [if_pos ⟨rfl, rfl⟩] at this
      exact absurd this ho
set_option maxHeartbeats 4000000 in
theorem whole_any (fs : List Fr) (v : Value) (w : World) (hv : FrsAt w v fs) (ok : ∀ f ∈ fs, FrOk f) (hm : fs.length ≤ 1000000) (r : Bool) (hr : okJ true fs = r) : Calls Tryd.prog 30 #[v] w fun e w' => e = .returned (.bool r) ∧ Sl (Below w.heap.size w w') := by
  obtain ⟨a, cap, rfl⟩ := hv.slice
  have HV := Sl.mk hv
  have HOK := Sl.mk ok
  have HR := Sl.mk hr
  obtain ⟨n, hn⟩ : ∃ n, fs.length = n := ⟨_, rfl⟩
  have HN := Sl.mk hn
  rw [hn] at HV hm ⊢
  clear hv ok hn hr
  have z1 : IntKind.i64.wrap ((n : Int) - 1) = (n : Int) - 1 := by rw [IntKind.wrap_i64]; omega
  go_enter Tryd.func30, Tryd.ntmps30
  go_wp2
  go_loopw [8] (fun i wr => ∃ k : Nat, i = .int .i64 (k : Int) ∧ k ≤ n ∧ Sl (Below w.heap.size w wr) ∧ Sl (Joins fs k)) (fun i _ => n - (intOf i).toNat)
  case atStart => exact ⟨0, rfl, Nat.zero_le _, ⟨Below.refl _ _⟩, ⟨fun j hj => absurd hj (Nat.not_lt_zero _)⟩⟩
  case round =>
    obtain ⟨k, rfl, hk, HB, HJ⟩ := hrel
    by_cases hkn : k < n
    · have hlt : ((k : Int) < (n : Int)) = True := eq_true (by omega)
      have hkf : k < fs.length := by rw [HN.out]; exact hkn
      obtain ⟨sb, so, rfl⟩ := HV.out.cap.2 (by omega)
      obtain ⟨fin, op, m, ka, kb, kc, kd, s, hf, hcv, hsm, _⟩ := fr_at HOK.out k hkf
      obtain ⟨c0, c1, c2, c3, c4, c5, c6, c7⟩ := (HV.out.below HB.out).at8 k hkf hcv
      have HI := fr_info (cs := #[.bool fin, .int .i64 op, .bool m, .int .u8 ((ka : Nat) : Int), .int .u8 ((kb : Nat) : Int), .int .u8 ((kc : Nat) : Int), .int .u8 ((kd : Nat) : Int), .string s]) rfl
      obtain ⟨l, hl⟩ : ∃ l, decide (k + 1 = n) = l := ⟨_, rfl⟩
      have hlq : ((k : Int) == (n : Int) - 1) = l := by
        rw [← hl]
        by_cases h : k + 1 = n
        · rw [decide_eq_true h]; simp; omega
        · rw [decide_eq_false h]; simp; omega
      have HFN : Sl ((fs.getD k Fr0).fin = fin ∧ (fs.getD k Fr0).op = op ∧ decide (k + 1 = fs.length) = l) := ⟨by rw [hf, HN.out]; exact ⟨rfl, rfl, hl⟩⟩
      clear hf hcv hsm hl hkf
      cases hfl : (fin != l) with
      | true =>
        have HF : Sl (r = false) := ⟨by
          rw [← HR.out]
          cases hr : okJ true fs with
          | false => rfl
          | true =>
            have := okJ_fin hr k (by rw [HN.out]; exact hkn)
            rw [HFN.out.1, HFN.out.2.2] at this
            rw [this] at hfl; simp at hfl⟩
        have hfl2 : (!fin == l) = true := by cases fin <;> cases l <;> first | rfl | (exact hfl)
        obtain ⟨X, hX, HBX, HFX⟩ := laid_fv wr #[.bool fin, .int .i64 op, .bool m, .int .u8 ((ka : Nat) : Int), .int .u8 ((kb : Nat) : Int), .int .u8 ((kc : Nat) : Int), .int .u8 ((kd : Nat) : Int), .string s]
        go_upto_region 4 with (refine wpList_store_row rfl 44 (.tmp 4) (.tmp 12) rfl wr.heap.size #[.bool fin, .int .i64 op, .bool m, .int .u8 ((ka : Nat) : Int), .int .u8 ((kb : Nat) : Int), .int .u8 ((kc : Nat) : Int), .int .u8 ((kd : Nat) : Int), .string s] rfl rfl 44 #[.bool false, .int .i64 0, .bool false, .int .u8 0, .int .u8 0, .int .u8 0, .int .u8 0, .string { data := #[] }] (bx_new wr _) HI rfl (fr_all _ _ _ _ _ _ _ _) ?_)
        (try rw [hX])
        clear hX
        have HB2 : Sl (Below w.heap.size w X) := ⟨HB.out.trans (HBX.out.mono HB.out.size)⟩
        clear c0 c1 c2 c3 c4 c5 c6 c7
        obtain ⟨a0, a1, a2, a3, a4, a5, a6, a7⟩ := bx8 HFX.out
        go_wp2
        go_ret
        exact ⟨by rw [HF.out]; rfl, HB2⟩
      | false =>
        have HL : Sl (fin = l) := ⟨by simpa using hfl⟩
        have hfl2 : (!fin == l) = false := by cases fin <;> cases l <;> first | rfl | (exact hfl)
        by_cases hk0 : k = 0
        · subst hk0
          simp only [Nat.zero_mul, Nat.add_zero] at c0 c1 c2 c3 c4 c5 c6 c7
          have hlq0 : ((0 : Int) == (n : Int) - 1) = l := hlq
          have hlt0 : ((0 : Int) < (n : Int)) = True := hlt
          clear hlq hlt
          have HJ2 : Sl (Joins fs 1) := ⟨HJ.out.next (by rw [HFN.out.1, HFN.out.2.2]; exact HL.out) (fun h => absurd h (by decide))⟩
          obtain ⟨X, hX, HBX, HFX⟩ := laid_fv wr #[.bool fin, .int .i64 op, .bool m, .int .u8 ((ka : Nat) : Int), .int .u8 ((kb : Nat) : Int), .int .u8 ((kc : Nat) : Int), .int .u8 ((kd : Nat) : Int), .string s]
          go_upto_region 4 with (refine wpList_store_row rfl 44 (.tmp 4) (.tmp 12) rfl wr.heap.size #[.bool fin, .int .i64 op, .bool m, .int .u8 ((ka : Nat) : Int), .int .u8 ((kb : Nat) : Int), .int .u8 ((kc : Nat) : Int), .int .u8 ((kd : Nat) : Int), .string s] rfl rfl 44 #[.bool false, .int .i64 0, .bool false, .int .u8 0, .int .u8 0, .int .u8 0, .int .u8 0, .string { data := #[] }] (bx_new wr _) HI rfl (fr_all _ _ _ _ _ _ _ _) ?_)
          (try rw [hX])
          clear hX
          have HB2 : Sl (Below w.heap.size w X) := ⟨HB.out.trans (HBX.out.mono HB.out.size)⟩
          clear c0 c1 c2 c3 c4 c5 c6 c7
          obtain ⟨a0, a1, a2, a3, a4, a5, a6, a7⟩ := bx8 HFX.out
          go_wp2
          exact ⟨⟨1, rfl, by omega, HB2, HJ2⟩, by simp [intOf]; omega⟩
        · have hk1 : ((k : Int) > 0) = True := eq_true (by omega)
          cases ho : (op != 0) with
          | true =>
            have HF : Sl (r = false) := ⟨by
              rw [← HR.out]
              cases hr : okJ true fs with
              | false => rfl
              | true =>
                have := okJ_op hr k (by rw [HN.out]; exact hkn)
                rw [if_neg (fun e => hk0 e.1), HFN.out.2.1] at this
                rw [this] at ho; simp at ho⟩
            have ho2 : (op == 0) = false := by simpa using ho
            have ho3 : (op = 0) = False := eq_false (by simpa using ho)
            obtain ⟨X, hX, HBX, HFX⟩ := laid_fv wr #[.bool fin, .int .i64 op, .bool m, .int .u8 ((ka : Nat) : Int), .int .u8 ((kb : Nat) : Int), .int .u8 ((kc : Nat) : Int), .int .u8 ((kd : Nat) : Int), .string s]
            go_upto_region 4 with (refine wpList_store_row rfl 44 (.tmp 4) (.tmp 12) rfl wr.heap.size #[.bool fin, .int .i64 op, .bool m, .int .u8 ((ka : Nat) : Int), .int .u8 ((kb : Nat) : Int), .int .u8 ((kc : Nat) : Int), .int .u8 ((kd : Nat) : Int), .string s] rfl rfl 44 #[.bool false, .int .i64 0, .bool false, .int .u8 0, .int .u8 0, .int .u8 0, .int .u8 0, .string { data := #[] }] (bx_new wr _) HI rfl (fr_all _ _ _ _ _ _ _ _) ?_)
            (try rw [hX])
            clear hX
            have HB2 : Sl (Below w.heap.size w X) := ⟨HB.out.trans (HBX.out.mono HB.out.size)⟩
            clear c0 c1 c2 c3 c4 c5 c6 c7
            obtain ⟨a0, a1, a2, a3, a4, a5, a6, a7⟩ := bx8 HFX.out
            go_wp2
            go_ret
            exact ⟨by rw [HF.out]; rfl, HB2⟩
          | false =>
            have HJ2 : Sl (Joins fs (k + 1)) := ⟨HJ.out.next (by rw [HFN.out.1, HFN.out.2.2]; exact HL.out) (fun _ => by rw [HFN.out.2.1]; simpa using ho)⟩
            have ho2 : (op == 0) = true := by simpa using ho
            have ho3 : (op = 0) = True := eq_true (by simpa using ho)
            obtain ⟨X, hX, HBX, HFX⟩ := laid_fv wr #[.bool fin, .int .i64 op, .bool m, .int .u8 ((ka : Nat) : Int), .int .u8 ((kb : Nat) : Int), .int .u8 ((kc : Nat) : Int), .int .u8 ((kd : Nat) : Int), .string s]
            go_upto_region 4 with (refine wpList_store_row rfl 44 (.tmp 4) (.tmp 12) rfl wr.heap.size #[.bool fin, .int .i64 op, .bool m, .int .u8 ((ka : Nat) : Int), .int .u8 ((kb : Nat) : Int), .int .u8 ((kc : Nat) : Int), .int .u8 ((kd : Nat) : Int), .string s] rfl rfl 44 #[.bool false, .int .i64 0, .bool false, .int .u8 0, .int .u8 0, .int .u8 0, .int .u8 0, .string { data := #[] }] (bx_new wr _) HI rfl (fr_all _ _ _ _ _ _ _ _) ?_)
            (try rw [hX])
            clear hX
            have HB2 : Sl (Below w.heap.size w X) := ⟨HB.out.trans (HBX.out.mono HB.out.size)⟩
            clear c0 c1 c2 c3 c4 c5 c6 c7
            obtain ⟨a0, a1, a2, a3, a4, a5, a6, a7⟩ := bx8 HFX.out
            go_wp2
            exact ⟨⟨k + 1, by go_num, by omega, HB2, HJ2⟩, by simp [intOf]; omega⟩
    · obtain rfl : k = n := by omega
      have hlt : ((k : Int) < (k : Int)) = False := eq_false (by omega)
      by_cases h0 : k = 0
      · subst h0
        have HF : Sl (r = false) := ⟨by
          rw [← HR.out, List.eq_nil_of_length_eq_zero HN.out]; rfl⟩
        go_wp2
        go_ret
        exact ⟨by rw [HF.out]; rfl, HB⟩
      · have hk1 : ((k : Int) > 0) = True := eq_true (by omega)
        have hkp : (0 : Int) < (k : Int) := by omega
        obtain ⟨sb, so, rfl⟩ := HV.out.cap.2 (by omega)
        obtain ⟨fin, op, m, ka, kb, kc, kd, s, hf, hcv, hsm, _⟩ := fr_at HOK.out 0 (by rw [HN.out]; omega)
        obtain ⟨c0, c1, c2, c3, c4, c5, c6, c7⟩ := (HV.out.below HB.out).at8 0 (by rw [HN.out]; omega) hcv
        simp only [Nat.zero_mul, Nat.add_zero] at c0 c1 c2 c3 c4 c5 c6 c7
        have hb := fun W => begins_any op r (by
          rw [← HR.out, okJ_joins (by rw [HN.out]; exact HJ.out) (by rw [HN.out]; omega), hf]) W
        clear hf hcv hsm
        go_wp2_with fail
        refine (hb _).mono ?_
        rintro e w9 ⟨rfl, rfl⟩
        go_wp2
        go_ret
        exact ⟨rfl, HB⟩
end Go.Proofs.YtimndpmbgfoofaaDoor.Cut
