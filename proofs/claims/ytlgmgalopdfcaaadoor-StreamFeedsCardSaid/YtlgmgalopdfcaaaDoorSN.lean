/- stream: the document's One and All. -/
import Derived.Test.YtlgmgalopdfcaaaDoorSL
import Derived.Test.YtlgmgalopdfcaaaDoorFrE
set_option maxRecDepth 100000
namespace Go.Proofs.YtlgmgalopdfcaaaDoor
open Go.RowKit MaskPlain FramePlain StreamPlain Mas Fra

theorem str_from {W : World} {ev : Operand → Value} {o : Oper} {x y : Operand} {s : ByteArray} {n : Nat} (ho : o.op = .slice 9 x (some y) none none) (hx : ev x = .string s) (hy : ev y = .int .i64 (n : Int)) (h : n ≤ s.size) : (execOp ev o).run Tryd.prog W = .ok (.value (.string (s.extract n s.size))) W := by
  simp only [execOp, ho, hx, hy, Option.map_some, Option.map_none]
  have h' : (n : Int) ≤ (s.size : Int) := by omega
  go_simp
theorem bytes_one {s : ByteArray} {x : Nat} {xs : List Nat} (h : bytes s = x :: xs) : bytes (s.extract 0 1) = [x] := by
  rw [bytes_extract, h]; rfl
set_option maxHeartbeats 4000000 in
theorem refone_any (s : ByteArray) (masked : Bool) (most : Int) (w : World) (hs : s.size ≤ 100000) (hmo : most ≤ 9223372036854775807) : Calls Tryd.prog 22 #[.string s, .bool masked, .int .i64 most] w fun e w' => e = .returned (resF (one (bytes s) masked most)) ∧ Sl (Below w.heap.size w w') := by
  obtain ⟨f, n, k, hgf⟩ : ∃ f n k, getF (bytes s) most = (f, n, k) := ⟨_, _, _, rfl⟩
  obtain ⟨rf, ro, rm, ka, kb, kc, kd, rd, hval⟩ := val_parts f
  have FW : ∀ V, Calls Tryd.prog 28 #[.string s, .int .i64 most] V fun e w' => e = .returned (.tuple #[.agg #[.bool rf, .int .i64 ro, .bool rm, .int .u8 ((ka : Nat) : Int), .int .u8 ((kb : Nat) : Int), .int .u8 ((kc : Nat) : Int), .int .u8 ((kd : Nat) : Int), .string rd], .int .i64 (n : Int), .int .i64 (k : Int)]) ∧ Sl (Below V.heap.size V w') := fun V => by
    have := refgetf_any s most V hs hmo
    rw [hgf, resF, hval] at this
    exact this
  obtain ⟨w1, hw1⟩ : ∃ w1, w.alloc (.cells #[.bool false, .int .i64 0, .bool false, .int .u8 0, .int .u8 0, .int .u8 0, .int .u8 0, .string { data := #[] }] 43) = w1 := ⟨_, rfl⟩
  have HB1 : Sl (Below w.heap.size w w1) := ⟨by rw [← hw1]; exact (bx_below w _).out⟩
  have HZ1 : Sl (w1.heap[w.heap.size]? = some (.cells #[.bool false, .int .i64 0, .bool false, .int .u8 0, .int .u8 0, .int .u8 0, .int .u8 0, .string { data := #[] }] 43 (0, 0))) := ⟨by rw [← hw1]; exact bx_new _ _⟩
  by_cases h0 : s.size = 0
  · have hb : bytes s = [] := List.eq_nil_of_length_eq_zero (by rw [bytes_length]; exact h0)
    have HQ : Sl (resF (one (bytes s) masked most) = .tuple #[.agg #[.bool rf, .int .i64 ro, .bool rm, .int .u8 ((ka : Nat) : Int), .int .u8 ((kb : Nat) : Int), .int .u8 ((kc : Nat) : Int), .int .u8 ((kd : Nat) : Int), .string rd], .int .i64 (n : Int), .int .i64 (k : Int)]) := ⟨by
      rw [one_short (by rw [hb]; decide), hgf, resF, hval]⟩
    have hq1 : ((s.size : Int) > 0) = False := eq_false (by omega)
    have hq1' : (0 < s.size) = False := eq_false (by omega)
    have hq2 : ((s.size : Int) > 1) = False := eq_false (by omega)
    clear hgf hval hs hmo hb h0
    go_enter Tryd.func22, Tryd.ntmps22
    go_wp2_with fail
    refine (FW w1).mono ?_
    rintro e w4 ⟨rfl, HX4⟩
    have HB4 : Sl (Below w.heap.size w w4) := ⟨HB1.out.trans (HX4.out.mono HB1.out.size)⟩
    have HZ4 : Sl (w4.heap[w.heap.size]? = some (.cells #[.bool false, .int .i64 0, .bool false, .int .u8 0, .int .u8 0, .int .u8 0, .int .u8 0, .string { data := #[] }] 43 (0, 0))) := ⟨below_key HZ1.out HX4.out⟩
    clear FW HX4
    have HI := fr_info (cs := #[.bool rf, .int .i64 ro, .bool rm, .int .u8 ((ka : Nat) : Int), .int .u8 ((kb : Nat) : Int), .int .u8 ((kc : Nat) : Int), .int .u8 ((kd : Nat) : Int), .string rd]) rfl
    go_wp2_with (refine wpList_store_row rfl 43 (.tmp 6) (.tmp 41) rfl w.heap.size #[.bool rf, .int .i64 ro, .bool rm, .int .u8 ((ka : Nat) : Int), .int .u8 ((kb : Nat) : Int), .int .u8 ((kc : Nat) : Int), .int .u8 ((kd : Nat) : Int), .string rd] rfl rfl 43 #[.bool false, .int .i64 0, .bool false, .int .u8 0, .int .u8 0, .int .u8 0, .int .u8 0, .string { data := #[] }] HZ4.out HI rfl (fr_all _ _ _ _ _ _ _ _) ?_)
    refine bodyPost_ret (ret_fr rfl _ _ w.heap.size 43 _ (0, 0) rfl (setRow_heap _ _ _ _ _ _ HZ4.out) rfl) rfl ?_
    rw [HQ.out]
    exact ⟨rfl, ⟨below_setRow HB4.out (Nat.le_refl _) _⟩⟩
  · obtain ⟨x, xs, hb⟩ : ∃ x xs, bytes s = x :: xs := by
      cases h : bytes s with
      | nil => rw [← bytes_length, h] at h0; exact absurd rfl h0
      | cons x xs => exact ⟨x, xs, rfl⟩
    have hx : x < 256 := bytes_small s x (by rw [hb]; simp)
    have hq1 : ((s.size : Int) > 0) = True := eq_true (by omega)
    have hq1' : (0 < s.size) = True := eq_true (by omega)
    obtain ⟨f1, n1, k1, hg1⟩ : ∃ f n k, getF [x] most = (f, n, k) := ⟨_, _, _, rfl⟩
    obtain ⟨rf1, ro1, rm1, ka1, kb1, kc1, kd1, rd1, hval1⟩ := val_parts f1
    have F1 : ∀ V, Calls Tryd.prog 28 #[.string (s.extract 0 1), .int .i64 most] V fun e w' => e = .returned (.tuple #[.agg #[.bool rf1, .int .i64 ro1, .bool rm1, .int .u8 ((ka1 : Nat) : Int), .int .u8 ((kb1 : Nat) : Int), .int .u8 ((kc1 : Nat) : Int), .int .u8 ((kd1 : Nat) : Int), .string rd1], .int .i64 (n1 : Int), .int .i64 (k1 : Int)]) ∧ Sl (Below V.heap.size V w') := fun V => by
      have := refgetf_any (s.extract 0 1) most V (by rw [ByteArray.size_extract]; omega) hmo
      rw [bytes_one hb, hg1, resF, hval1] at this
      exact this
    have hk1 := get_first x most
    rw [hg1] at hk1
    simp only at hk1
    have hle1 : 1 ≤ s.size := by omega
    by_cases hbad : bad x = true
    · rw [if_pos hbad] at hk1
      subst hk1
      have HQ : Sl (resF (one (bytes s) masked most) = .tuple #[.agg #[.bool false, .int .i64 0, .bool false, .int .u8 0, .int .u8 0, .int .u8 0, .int .u8 0, .string { data := #[] }], .int .i64 0, .int .i64 91]) := ⟨by rw [hb, one_cons, if_pos hbad]; rfl⟩
      have hq9 : (((91 : Nat) : Int) == 91) = true := rfl
      clear hgf hval hs hmo hb h0 hx hg1 hval1 hbad FW
      go_enter Tryd.func22, Tryd.ntmps22
      go_wp2_with fail
      refine (F1 w1).mono ?_
      rintro e w2 ⟨rfl, HX2⟩
      obtain ⟨w3, hw3⟩ : ∃ V, (w2.alloc (.cells #[.bool false, .int .i64 0, .bool false, .int .u8 0, .int .u8 0, .int .u8 0, .int .u8 0, .string { data := #[] }] 43)).setRow w2.heap.size #[.bool rf1, .int .i64 ro1, .bool rm1, .int .u8 ((ka1 : Nat) : Int), .int .u8 ((kb1 : Nat) : Int), .int .u8 ((kc1 : Nat) : Int), .int .u8 ((kd1 : Nat) : Int), .string rd1] = V := ⟨_, rfl⟩
      have HX3 : Sl (Below w2.heap.size w2 w3) := ⟨by rw [← hw3]; exact laid_self w2 #[.bool rf1, .int .i64 ro1, .bool rm1, .int .u8 ((ka1 : Nat) : Int), .int .u8 ((kb1 : Nat) : Int), .int .u8 ((kc1 : Nat) : Int), .int .u8 ((kd1 : Nat) : Int), .string rd1]⟩
      have HB3 : Sl (Below w.heap.size w w3) := ⟨(HB1.out.trans (HX2.out.mono HB1.out.size)).trans (HX3.out.mono (HB1.out.trans (HX2.out.mono HB1.out.size)).size)⟩
      have HZ3 : Sl (w3.heap[w.heap.size]? = some (.cells #[.bool false, .int .i64 0, .bool false, .int .u8 0, .int .u8 0, .int .u8 0, .int .u8 0, .string { data := #[] }] 43 (0, 0))) := ⟨below_key (below_key HZ1.out HX2.out) HX3.out⟩
      have HI1 := fr_info (cs := #[.bool rf1, .int .i64 ro1, .bool rm1, .int .u8 ((ka1 : Nat) : Int), .int .u8 ((kb1 : Nat) : Int), .int .u8 ((kc1 : Nat) : Int), .int .u8 ((kd1 : Nat) : Int), .string rd1]) rfl
      clear F1 HX2 HX3
      go_upto_region 3 with (refine wpList_store_row rfl 43 (.tmp 9) (.tmp 20) rfl w2.heap.size #[.bool rf1, .int .i64 ro1, .bool rm1, .int .u8 ((ka1 : Nat) : Int), .int .u8 ((kb1 : Nat) : Int), .int .u8 ((kc1 : Nat) : Int), .int .u8 ((kd1 : Nat) : Int), .string rd1] rfl rfl 43 #[.bool false, .int .i64 0, .bool false, .int .u8 0, .int .u8 0, .int .u8 0, .int .u8 0, .string { data := #[] }] (bx_new w2 _) HI1 rfl (fr_all _ _ _ _ _ _ _ _) ?_)
      clear HI1
      have HI := fr_info (cs := #[.bool false, .int .i64 0, .bool false, .int .u8 0, .int .u8 0, .int .u8 0, .int .u8 0, .string { data := #[] }]) rfl
      go_wp2_with (refine wpList_store_row rfl 43 (.tmp 6) (.tmp 25) rfl w.heap.size #[.bool false, .int .i64 0, .bool false, .int .u8 0, .int .u8 0, .int .u8 0, .int .u8 0, .string { data := #[] }] rfl rfl 43 #[.bool false, .int .i64 0, .bool false, .int .u8 0, .int .u8 0, .int .u8 0, .int .u8 0, .string { data := #[] }] HZ3.out HI rfl (fr_all _ _ _ _ _ _ _ _) ?_)
      refine bodyPost_ret (ret_fr rfl _ _ w.heap.size 43 _ (0, 0) rfl (setRow_heap _ _ _ _ _ _ HZ3.out) rfl) rfl ?_
      rw [HQ.out]
      exact ⟨rfl, ⟨below_setRow HB3.out (Nat.le_refl _) _⟩⟩
    · rw [if_neg hbad] at hk1
      subst hk1
      have hq9 : (((90 : Nat) : Int) == 91) = false := rfl
      have hbf : bad x = false := by simpa using hbad
      by_cases h1 : s.size = 1
      · have hq2 : ((s.size : Int) > 1) = False := eq_false (by omega)
        have HQ : Sl (resF (one (bytes s) masked most) = .tuple #[.agg #[.bool rf, .int .i64 ro, .bool rm, .int .u8 ((ka : Nat) : Int), .int .u8 ((kb : Nat) : Int), .int .u8 ((kc : Nat) : Int), .int .u8 ((kd : Nat) : Int), .string rd], .int .i64 (n : Int), .int .i64 (k : Int)]) := ⟨by
          rw [one_short (by rw [bytes_length]; omega), hgf, resF, hval]⟩
        clear hgf hval hs hmo hb h0 hx hg1 hval1 hbad hbf h1
        go_enter Tryd.func22, Tryd.ntmps22
        go_wp2_with fail
        refine (F1 w1).mono ?_
        rintro e w2 ⟨rfl, HX2⟩
        obtain ⟨w3, hw3⟩ : ∃ V, (w2.alloc (.cells #[.bool false, .int .i64 0, .bool false, .int .u8 0, .int .u8 0, .int .u8 0, .int .u8 0, .string { data := #[] }] 43)).setRow w2.heap.size #[.bool rf1, .int .i64 ro1, .bool rm1, .int .u8 ((ka1 : Nat) : Int), .int .u8 ((kb1 : Nat) : Int), .int .u8 ((kc1 : Nat) : Int), .int .u8 ((kd1 : Nat) : Int), .string rd1] = V := ⟨_, rfl⟩
        have HX3 : Sl (Below w2.heap.size w2 w3) := ⟨by rw [← hw3]; exact laid_self w2 #[.bool rf1, .int .i64 ro1, .bool rm1, .int .u8 ((ka1 : Nat) : Int), .int .u8 ((kb1 : Nat) : Int), .int .u8 ((kc1 : Nat) : Int), .int .u8 ((kd1 : Nat) : Int), .string rd1]⟩
        have HB3 : Sl (Below w.heap.size w w3) := ⟨(HB1.out.trans (HX2.out.mono HB1.out.size)).trans (HX3.out.mono (HB1.out.trans (HX2.out.mono HB1.out.size)).size)⟩
        have HZ3 : Sl (w3.heap[w.heap.size]? = some (.cells #[.bool false, .int .i64 0, .bool false, .int .u8 0, .int .u8 0, .int .u8 0, .int .u8 0, .string { data := #[] }] 43 (0, 0))) := ⟨below_key (below_key HZ1.out HX2.out) HX3.out⟩
        have HI1 := fr_info (cs := #[.bool rf1, .int .i64 ro1, .bool rm1, .int .u8 ((ka1 : Nat) : Int), .int .u8 ((kb1 : Nat) : Int), .int .u8 ((kc1 : Nat) : Int), .int .u8 ((kd1 : Nat) : Int), .string rd1]) rfl
        clear F1 HX2 HX3
        go_upto_region 3 with (refine wpList_store_row rfl 43 (.tmp 9) (.tmp 20) rfl w2.heap.size #[.bool rf1, .int .i64 ro1, .bool rm1, .int .u8 ((ka1 : Nat) : Int), .int .u8 ((kb1 : Nat) : Int), .int .u8 ((kc1 : Nat) : Int), .int .u8 ((kd1 : Nat) : Int), .string rd1] rfl rfl 43 #[.bool false, .int .i64 0, .bool false, .int .u8 0, .int .u8 0, .int .u8 0, .int .u8 0, .string { data := #[] }] (bx_new w2 _) HI1 rfl (fr_all _ _ _ _ _ _ _ _) ?_)
        clear HI1
        go_wp2_with fail
        refine (FW w3).mono ?_
        rintro e w4 ⟨rfl, HX4⟩
        have HB4 : Sl (Below w.heap.size w w4) := ⟨HB3.out.trans (HX4.out.mono HB3.out.size)⟩
        have HZ4 : Sl (w4.heap[w.heap.size]? = some (.cells #[.bool false, .int .i64 0, .bool false, .int .u8 0, .int .u8 0, .int .u8 0, .int .u8 0, .string { data := #[] }] 43 (0, 0))) := ⟨below_key HZ3.out HX4.out⟩
        clear FW HX4
        have HI := fr_info (cs := #[.bool rf, .int .i64 ro, .bool rm, .int .u8 ((ka : Nat) : Int), .int .u8 ((kb : Nat) : Int), .int .u8 ((kc : Nat) : Int), .int .u8 ((kd : Nat) : Int), .string rd]) rfl
        go_wp2_with (refine wpList_store_row rfl 43 (.tmp 6) (.tmp 41) rfl w.heap.size #[.bool rf, .int .i64 ro, .bool rm, .int .u8 ((ka : Nat) : Int), .int .u8 ((kb : Nat) : Int), .int .u8 ((kc : Nat) : Int), .int .u8 ((kd : Nat) : Int), .string rd] rfl rfl 43 #[.bool false, .int .i64 0, .bool false, .int .u8 0, .int .u8 0, .int .u8 0, .int .u8 0, .string { data := #[] }] HZ4.out HI rfl (fr_all _ _ _ _ _ _ _ _) ?_)
        refine bodyPost_ret (ret_fr rfl _ _ w.heap.size 43 _ (0, 0) rfl (setRow_heap _ _ _ _ _ _ HZ4.out) rfl) rfl ?_
        rw [HQ.out]
        exact ⟨rfl, ⟨below_setRow HB4.out (Nat.le_refl _) _⟩⟩
      · have hq2 : ((s.size : Int) > 1) = True := eq_true (by omega)
        obtain ⟨y, ys, hb2⟩ : ∃ y ys, bytes s = x :: y :: ys := by
          cases xs with
          | nil => have := congrArg List.length hb; rw [bytes_length] at this; exact absurd this h1
          | cons y ys => exact ⟨y, ys, hb⟩
        have hy : y < 256 := bytes_small s y (by rw [hb2]; simp)
        have h1s : 1 < s.size := by omega
        have hyd : (s[1]'h1s).toNat = y := by
          have h := bytes_getD s 1 h1s
          rw [hb2] at h
          exact h.symm
        obtain ⟨u, hu⟩ : ∃ u, (decide (128 ≤ y) != masked) = u := ⟨_, rfl⟩
        have hud : (decide ((128 : Int) ≤ (y : Int))) = decide (128 ≤ y) := decide_eq_decide.2 (by omega)
        obtain ⟨dd, hdd⟩ : ∃ d, decide (128 ≤ y) = d := ⟨_, rfl⟩
        rw [hdd] at hud
        cases u with
        | false =>
          have HQ : Sl (resF (one (bytes s) masked most) = .tuple #[.agg #[.bool rf, .int .i64 ro, .bool rm, .int .u8 ((ka : Nat) : Int), .int .u8 ((kb : Nat) : Int), .int .u8 ((kc : Nat) : Int), .int .u8 ((kd : Nat) : Int), .string rd], .int .i64 (n : Int), .int .i64 (k : Int)]) := ⟨by
            rw [hb2, one_like hu, ← hb2, hgf, resF, hval]⟩
          rw [hdd] at hu
          have hu2 : (!(dd == masked)) = false := hu
          clear hgf hval hs hmo hb hb2 h0 hx hg1 hval1 hbad hbf h1 hdd hu
          go_enter Tryd.func22, Tryd.ntmps22
          go_wp2_with fail
          refine (F1 w1).mono ?_
          rintro e w2 ⟨rfl, HX2⟩
          obtain ⟨w3, hw3⟩ : ∃ V, (w2.alloc (.cells #[.bool false, .int .i64 0, .bool false, .int .u8 0, .int .u8 0, .int .u8 0, .int .u8 0, .string { data := #[] }] 43)).setRow w2.heap.size #[.bool rf1, .int .i64 ro1, .bool rm1, .int .u8 ((ka1 : Nat) : Int), .int .u8 ((kb1 : Nat) : Int), .int .u8 ((kc1 : Nat) : Int), .int .u8 ((kd1 : Nat) : Int), .string rd1] = V := ⟨_, rfl⟩
          have HX3 : Sl (Below w2.heap.size w2 w3) := ⟨by rw [← hw3]; exact laid_self w2 #[.bool rf1, .int .i64 ro1, .bool rm1, .int .u8 ((ka1 : Nat) : Int), .int .u8 ((kb1 : Nat) : Int), .int .u8 ((kc1 : Nat) : Int), .int .u8 ((kd1 : Nat) : Int), .string rd1]⟩
          have HB3 : Sl (Below w.heap.size w w3) := ⟨(HB1.out.trans (HX2.out.mono HB1.out.size)).trans (HX3.out.mono (HB1.out.trans (HX2.out.mono HB1.out.size)).size)⟩
          have HZ3 : Sl (w3.heap[w.heap.size]? = some (.cells #[.bool false, .int .i64 0, .bool false, .int .u8 0, .int .u8 0, .int .u8 0, .int .u8 0, .string { data := #[] }] 43 (0, 0))) := ⟨below_key (below_key HZ1.out HX2.out) HX3.out⟩
          have HI1 := fr_info (cs := #[.bool rf1, .int .i64 ro1, .bool rm1, .int .u8 ((ka1 : Nat) : Int), .int .u8 ((kb1 : Nat) : Int), .int .u8 ((kc1 : Nat) : Int), .int .u8 ((kd1 : Nat) : Int), .string rd1]) rfl
          clear F1 HX2 HX3
          go_upto_region 3 with (refine wpList_store_row rfl 43 (.tmp 9) (.tmp 20) rfl w2.heap.size #[.bool rf1, .int .i64 ro1, .bool rm1, .int .u8 ((ka1 : Nat) : Int), .int .u8 ((kb1 : Nat) : Int), .int .u8 ((kc1 : Nat) : Int), .int .u8 ((kd1 : Nat) : Int), .string rd1] rfl rfl 43 #[.bool false, .int .i64 0, .bool false, .int .u8 0, .int .u8 0, .int .u8 0, .int .u8 0, .string { data := #[] }] (bx_new w2 _) HI1 rfl (fr_all _ _ _ _ _ _ _ _) ?_)
          clear HI1
          go_wp2_with fail
          refine (FW w3).mono ?_
          rintro e w4 ⟨rfl, HX4⟩
          have HB4 : Sl (Below w.heap.size w w4) := ⟨HB3.out.trans (HX4.out.mono HB3.out.size)⟩
          have HZ4 : Sl (w4.heap[w.heap.size]? = some (.cells #[.bool false, .int .i64 0, .bool false, .int .u8 0, .int .u8 0, .int .u8 0, .int .u8 0, .string { data := #[] }] 43 (0, 0))) := ⟨below_key HZ3.out HX4.out⟩
          clear FW HX4
          have HI := fr_info (cs := #[.bool rf, .int .i64 ro, .bool rm, .int .u8 ((ka : Nat) : Int), .int .u8 ((kb : Nat) : Int), .int .u8 ((kc : Nat) : Int), .int .u8 ((kd : Nat) : Int), .string rd]) rfl
          go_wp2_with (refine wpList_store_row rfl 43 (.tmp 6) (.tmp 41) rfl w.heap.size #[.bool rf, .int .i64 ro, .bool rm, .int .u8 ((ka : Nat) : Int), .int .u8 ((kb : Nat) : Int), .int .u8 ((kc : Nat) : Int), .int .u8 ((kd : Nat) : Int), .string rd] rfl rfl 43 #[.bool false, .int .i64 0, .bool false, .int .u8 0, .int .u8 0, .int .u8 0, .int .u8 0, .string { data := #[] }] HZ4.out HI rfl (fr_all _ _ _ _ _ _ _ _) ?_)
          refine bodyPost_ret (ret_fr rfl _ _ w.heap.size 43 _ (0, 0) rfl (setRow_heap _ _ _ _ _ _ HZ4.out) rfl) rfl ?_
          rw [HQ.out]
          exact ⟨rfl, ⟨below_setRow HB4.out (Nat.le_refl _) _⟩⟩
        | true =>
          have HQ : Sl (resF (one (bytes s) masked most) = .tuple #[.agg #[.bool false, .int .i64 0, .bool false, .int .u8 0, .int .u8 0, .int .u8 0, .int .u8 0, .string { data := #[] }], .int .i64 0, .int .i64 100]) := ⟨by rw [hb2, one_unlike hbf hu]; rfl⟩
          rw [hdd] at hu
          have hu2 : (!(dd == masked)) = true := hu
          clear hgf hval hs hmo hb hb2 h0 hx hg1 hval1 hbad hbf h1 hdd hu FW
          go_enter Tryd.func22, Tryd.ntmps22
          go_wp2_with fail
          refine (F1 w1).mono ?_
          rintro e w2 ⟨rfl, HX2⟩
          obtain ⟨w3, hw3⟩ : ∃ V, (w2.alloc (.cells #[.bool false, .int .i64 0, .bool false, .int .u8 0, .int .u8 0, .int .u8 0, .int .u8 0, .string { data := #[] }] 43)).setRow w2.heap.size #[.bool rf1, .int .i64 ro1, .bool rm1, .int .u8 ((ka1 : Nat) : Int), .int .u8 ((kb1 : Nat) : Int), .int .u8 ((kc1 : Nat) : Int), .int .u8 ((kd1 : Nat) : Int), .string rd1] = V := ⟨_, rfl⟩
          have HX3 : Sl (Below w2.heap.size w2 w3) := ⟨by rw [← hw3]; exact laid_self w2 #[.bool rf1, .int .i64 ro1, .bool rm1, .int .u8 ((ka1 : Nat) : Int), .int .u8 ((kb1 : Nat) : Int), .int .u8 ((kc1 : Nat) : Int), .int .u8 ((kd1 : Nat) : Int), .string rd1]⟩
          have HB3 : Sl (Below w.heap.size w w3) := ⟨(HB1.out.trans (HX2.out.mono HB1.out.size)).trans (HX3.out.mono (HB1.out.trans (HX2.out.mono HB1.out.size)).size)⟩
          have HZ3 : Sl (w3.heap[w.heap.size]? = some (.cells #[.bool false, .int .i64 0, .bool false, .int .u8 0, .int .u8 0, .int .u8 0, .int .u8 0, .string { data := #[] }] 43 (0, 0))) := ⟨below_key (below_key HZ1.out HX2.out) HX3.out⟩
          have HI1 := fr_info (cs := #[.bool rf1, .int .i64 ro1, .bool rm1, .int .u8 ((ka1 : Nat) : Int), .int .u8 ((kb1 : Nat) : Int), .int .u8 ((kc1 : Nat) : Int), .int .u8 ((kd1 : Nat) : Int), .string rd1]) rfl
          clear F1 HX2 HX3
          go_upto_region 3 with (refine wpList_store_row rfl 43 (.tmp 9) (.tmp 20) rfl w2.heap.size #[.bool rf1, .int .i64 ro1, .bool rm1, .int .u8 ((ka1 : Nat) : Int), .int .u8 ((kb1 : Nat) : Int), .int .u8 ((kc1 : Nat) : Int), .int .u8 ((kd1 : Nat) : Int), .string rd1] rfl rfl 43 #[.bool false, .int .i64 0, .bool false, .int .u8 0, .int .u8 0, .int .u8 0, .int .u8 0, .string { data := #[] }] (bx_new w2 _) HI1 rfl (fr_all _ _ _ _ _ _ _ _) ?_)
          clear HI1
          have HI := fr_info (cs := #[.bool false, .int .i64 0, .bool false, .int .u8 0, .int .u8 0, .int .u8 0, .int .u8 0, .string { data := #[] }]) rfl
          go_wp2_with (refine wpList_store_row rfl 43 (.tmp 6) (.tmp 37) rfl w.heap.size #[.bool false, .int .i64 0, .bool false, .int .u8 0, .int .u8 0, .int .u8 0, .int .u8 0, .string { data := #[] }] rfl rfl 43 #[.bool false, .int .i64 0, .bool false, .int .u8 0, .int .u8 0, .int .u8 0, .int .u8 0, .string { data := #[] }] HZ3.out HI rfl (fr_all _ _ _ _ _ _ _ _) ?_)
          refine bodyPost_ret (ret_fr rfl _ _ w.heap.size 43 _ (0, 0) rfl (setRow_heap _ _ _ _ _ _ HZ3.out) rfl) rfl ?_
          rw [HQ.out]
          exact ⟨rfl, ⟨below_setRow HB3.out (Nat.le_refl _) _⟩⟩
theorem grown_then_of {w w1 w2 : World} {r : Option Nat} (k : Below w.heap.size w w1) (h : w1.grownBy w2 r) : w.grownBy w2 r :=
  ⟨h.os.trans k.os, h.tape.trans k.tape, h.output.trans k.output, Nat.le_trans k.size h.size, fun j hj hne => (h.block j (Nat.lt_of_lt_of_le hj k.size) hne).trans (k.block j hj)⟩
def strL (v : Value) : Nat := match v with | .string s => s.size | _ => 0
set_option maxHeartbeats 4000000 in
theorem refall_any (s : ByteArray) (masked : Bool) (most : Int) (w : World) (hs : s.size ≤ 100000) (hmo : most ≤ 9223372036854775807) (gs : List Fr) (e lf : Nat) (hall : all (bytes s) masked most = (gs, e, lf)) :
    Calls Tryd.prog 13 #[.string s, .bool masked, .int .i64 most] w fun x w' => ∃ vf, x = .returned (.tuple #[vf, .int .i64 (e : Int), .int .i64 (lf : Int)]) ∧ Sl (OwnR w' w.heap.size vf gs) ∧ Sl (Below w.heap.size w w') := by
  have HALL := Sl.mk hall
  have HS := Sl.mk hs
  have HMO := Sl.mk hmo
  have HO0 : Sl (OwnR (w.alloc (.cells #[] 43)) w.heap.size (.slice (some ⟨w.heap.size, 0, none⟩) 0 0) []) := ⟨World.ownsRow_lit w #[] 0 (Nat.le_refl _) (by decide) rfl⟩
  have HB0 : Sl (Below w.heap.size w (w.alloc (.cells #[] 43))) := ⟨(Below.refl _ _).alloc (Nat.le_refl _) _⟩
  clear hall hs hmo
  go_enter Tryd.func13, Tryd.ntmps13
  go_wp2
  go_loopw [0, 9] (fun y u0 wr => ∃ (S0 : ByteArray) (u : Value) (fs : List Fr), y = .string S0 ∧ u = u0 ∧ Sl (all (bytes s) masked most = (fs ++ (all (bytes S0) masked most).1, (all (bytes S0) masked most).2)) ∧ Sl (S0.size ≤ s.size ∧ 2 * fs.length + S0.size ≤ s.size) ∧ Sl (OwnR wr w.heap.size u fs) ∧ Sl (Below w.heap.size w wr)) (fun y _ _ => strL y)
  case atStart => exact ⟨s, _, [], rfl, rfl, ⟨rfl⟩, ⟨Nat.le_refl _, by simp⟩, HO0, HB0⟩
  case round =>
    obtain ⟨S0, u, fs, rfl, rfl, HA, HSZ, HO, HB⟩ := hrel
    obtain ⟨f, n, k, hone⟩ : ∃ f n k, one (bytes S0) masked most = (f, n, k) := ⟨_, _, _, rfl⟩
    have CO := refone_any S0 masked most wr (by have := HSZ.out.1; have := HS.out; omega) HMO.out
    obtain ⟨rf, ro, rm, ka, kb, kc, kd, rd, hval⟩ := val_parts f
    rw [hone, resF, hval] at CO
    have hcv : (cv f).toArray = #[.bool rf, .int .i64 ro, .bool rm, .int .u8 ((ka : Nat) : Int), .int .u8 ((kb : Nat) : Int), .int .u8 ((kc : Nat) : Int), .int .u8 ((kd : Nat) : Int), .string rd] := by have h := hval; rw [cv_val] at h; injection h
    have hst := all_step (bytes S0) masked most (bytes_small S0)
    rw [hone] at hst
    simp only at hst
    have hn := one_n (bytes_small S0) hone
    rw [bytes_length] at hn
    clear hval hone
    go_wp2_with fail
    refine CO.mono ?_
    rintro e2 w2 ⟨rfl, HX2⟩
    clear CO
    obtain ⟨w3, hw3⟩ : ∃ V, (w2.alloc (.cells #[.bool false, .int .i64 0, .bool false, .int .u8 0, .int .u8 0, .int .u8 0, .int .u8 0, .string { data := #[] }] 43)).setRow w2.heap.size #[.bool rf, .int .i64 ro, .bool rm, .int .u8 ((ka : Nat) : Int), .int .u8 ((kb : Nat) : Int), .int .u8 ((kc : Nat) : Int), .int .u8 ((kd : Nat) : Int), .string rd] = V := ⟨_, rfl⟩
    have HX3 : Sl (Below w2.heap.size w2 w3) := ⟨by rw [← hw3]; exact laid_self w2 #[.bool rf, .int .i64 ro, .bool rm, .int .u8 ((ka : Nat) : Int), .int .u8 ((kb : Nat) : Int), .int .u8 ((kc : Nat) : Int), .int .u8 ((kd : Nat) : Int), .string rd]⟩
    have HXX : Sl (Below wr.heap.size wr w3) := ⟨HX2.out.trans (HX3.out.mono HX2.out.size)⟩
    have HB3 : Sl (Below w.heap.size w w3) := ⟨HB.out.trans (HXX.out.mono HB.out.size)⟩
    have HY3 : Sl (w3.heap[w2.heap.size]? = some (.cells #[.bool rf, .int .i64 ro, .bool rm, .int .u8 ((ka : Nat) : Int), .int .u8 ((kb : Nat) : Int), .int .u8 ((kc : Nat) : Int), .int .u8 ((kd : Nat) : Int), .string rd] 43 (0, 0))) := ⟨by rw [← hw3]; exact (laid_fr #[.bool rf, .int .i64 ro, .bool rm, .int .u8 ((ka : Nat) : Int), .int .u8 ((kb : Nat) : Int), .int .u8 ((kc : Nat) : Int), .int .u8 ((kd : Nat) : Int), .string rd] (Below.refl _ _)).2⟩
    have HO3 := Sl.mk (HO.out.below HXX.out)
    have HI1 := fr_info (cs := #[.bool rf, .int .i64 ro, .bool rm, .int .u8 ((ka : Nat) : Int), .int .u8 ((kb : Nat) : Int), .int .u8 ((kc : Nat) : Int), .int .u8 ((kd : Nat) : Int), .string rd]) rfl
    clear HX2 HX3 HXX HO HB
    by_cases h9 : k = 90
    · subst h9
      rw [if_pos rfl, bytes_length] at hst
      have ha := HA.out
      rw [hst, HALL.out] at ha
      injection ha with ha1 ha
      injection ha with ha2 ha3
      subst ha2 ha3
      have hO4 : Sl (OwnR w3 w.heap.size u gs) := ⟨by rw [ha1, List.append_nil]; exact HO3.out⟩
      have hq9 : (((90 : Nat) : Int) == 90) = true := rfl
      clear hst hn HA HSZ HO3 HALL ha1 hcv HY3
      go_wp2_with (refine wpList_store_row rfl 43 (.tmp 10) (.tmp 19) rfl w2.heap.size #[.bool rf, .int .i64 ro, .bool rm, .int .u8 ((ka : Nat) : Int), .int .u8 ((kb : Nat) : Int), .int .u8 ((kc : Nat) : Int), .int .u8 ((kd : Nat) : Int), .string rd] rfl rfl 43 #[.bool false, .int .i64 0, .bool false, .int .u8 0, .int .u8 0, .int .u8 0, .int .u8 0, .string { data := #[] }] (bx_new w2 _) HI1 rfl (fr_all _ _ _ _ _ _ _ _) ?_)
      go_ret3
      exact ⟨u, rfl, hO4, HB3⟩
    · have hq9 : ((k : Int) == 90) = false := by simp; omega
      rw [if_neg h9] at hst
      by_cases h0 : k = 0
      · subst h0
        have hq0 : (((0 : Nat) : Int) != 0) = false := rfl
        rw [if_neg (by decide)] at hst
        have hn2 := hn.2.2 rfl
        have HNL : Sl (n ≤ S0.size) := ⟨hn.1⟩
        have HA' : Sl (all (bytes s) masked most = ((fs ++ [f]) ++ (all (bytes (S0.extract n S0.size)) masked most).1, (all (bytes (S0.extract n S0.size)) masked most).2)) := ⟨by
          have h := HA.out
          rw [hst] at h
          rw [h, bytes_extract, List.take_of_length_le (by rw [bytes_length]; exact Nat.le_refl _)]
          simp⟩
        have hsz2 : (S0.extract n S0.size).size = S0.size - n := by rw [ByteArray.size_extract]; omega
        have HSZ' : Sl ((S0.extract n S0.size).size ≤ s.size ∧ 2 * (fs ++ [f]).length + (S0.extract n S0.size).size ≤ s.size) := ⟨by
          have h1 := HSZ.out
          have h2 := HNL.out
          rw [hsz2, List.length_append]
          simp only [List.length_singleton]
          omega⟩
        have HLEN : Sl (fs.length + [f].length ≤ 1000000) := ⟨by have := HSZ.out.2; have := HS.out; simp; omega⟩
        have HDEC : Sl ((S0.extract n S0.size).size < S0.size) := ⟨by have := HNL.out; omega⟩
        clear hst hn HA hn2 h9 hsz2
        go_upto_region 7 with (refine wpList_store_row rfl 43 (.tmp 10) (.tmp 19) rfl w2.heap.size #[.bool rf, .int .i64 ro, .bool rm, .int .u8 ((ka : Nat) : Int), .int .u8 ((kb : Nat) : Int), .int .u8 ((kc : Nat) : Int), .int .u8 ((kd : Nat) : Int), .string rd] rfl rfl 43 #[.bool false, .int .i64 0, .bool false, .int .u8 0, .int .u8 0, .int .u8 0, .int .u8 0, .string { data := #[] }] (bx_new w2 _) HI1 rfl (fr_all _ _ _ _ _ _ _ _) ?_)
        obtain ⟨Rw, hRw⟩ : ∃ R, w3.drew = R := ⟨_, rfl⟩
        have HS0 : Below w3.heap.size w3 Rw := by rw [← hRw]; exact (Below.refl _ _).drew
        refine wp_region_noPanic ?_
        refine wp_region_held (S := fun _ => True) (by kernel_rfl) ?_
        change wpAnyH _ _ _ _ _ _ _ _ w3.drew
        rw [hRw]
        clear hRw
        have HYR := below_key HY3.out HS0
        have HOR := HO3.out.below HS0
        obtain ⟨A7, hA7⟩ : ∃ V, Rw.alloc (.cells #[.bool rf, .int .i64 ro, .bool rm, .int .u8 ((ka : Nat) : Int), .int .u8 ((kb : Nat) : Int), .int .u8 ((kc : Nat) : Int), .int .u8 ((kd : Nat) : Int), .string rd] 43) = V := ⟨_, rfl⟩
        have BA7 : Below Rw.heap.size Rw A7 := by rw [← hA7]; exact (Below.refl _ _).alloc (Nat.le_refl _) _
        have HOA := HOR.below BA7
        have hNA : w.heap.size ≤ A7.heap.size := Nat.le_trans (Nat.le_trans HB3.out.size HS0.size) BA7.size
        obtain ⟨u', w8, hap, HO8, HG8, _⟩ := add_frs HOA (frs_one (W := A7) (g := Rw.heap.size) (f := f) (by rw [← hA7]; exact alloc_new _ _ _ rfl) hcv.symm) HLEN.out hNA
        refine heldTake (d := some 31) (op := .move (Operand.tmp 9)) (g := none) 0 ?v0a rfl (by kernel_rfl) (by kernel_rfl) (by kernel_rfl) (by kernel_rfl) ?y0a trivial ?_
        case y0a => intro o' ho W hS; simp only [execOp, ho]; go_simp; try rfl
        simp only [Act.put, List.setIfInBounds_toArray, List.set_cons_zero, List.set_cons_succ]
        refine heldTake (d := some 35) (op := .move (Operand.tmp 0)) (g := none) 4 ?v4a rfl (by kernel_rfl) (by kernel_rfl) (by kernel_rfl) (by kernel_rfl) ?y4a trivial ?_
        case y4a => intro o' ho W hS; simp only [execOp, ho]; go_simp; try rfl
        simp only [Act.put, List.setIfInBounds_toArray, List.set_cons_zero, List.set_cons_succ]
        refine heldTake (d := some 36) (op := .move (Operand.tmp 11)) (g := none) 5 ?v5a rfl (by kernel_rfl) (by kernel_rfl) (by kernel_rfl) (by kernel_rfl) ?y5a trivial ?_
        case y5a => intro o' ho W hS; simp only [execOp, ho]; go_simp; try rfl
        simp only [Act.put, List.setIfInBounds_toArray, List.set_cons_zero, List.set_cons_succ]
        refine heldTake (d := some 37) (op := .slice 9 (Operand.tmp 35) (some (Operand.tmp 36)) none none) (g := none) 6 (.string (S0.extract n S0.size)) rfl (by kernel_rfl) (by kernel_rfl) (by kernel_rfl) (by kernel_rfl) ?y6a trivial ?_
        case y6a => intro o' ho W hS; exact str_from ho (by rfl) (by rfl) HNL.out
        simp only [Act.put, List.setIfInBounds_toArray, List.set_cons_zero, List.set_cons_succ]
        refine heldRunT (d := some 32) (op := .load 43 (Operand.tmp 10)) (g := none) (t := 43) 1 (.agg #[.bool rf, .int .i64 ro, .bool rm, .int .u8 ((ka : Nat) : Int), .int .u8 ((kb : Nat) : Int), .int .u8 ((kc : Nat) : Int), .int .u8 ((kd : Nat) : Int), .string rd]) Rw rfl (by kernel_rfl) (by kernel_rfl) ?y1a trivial ?_
        case y1a => intro o' ho ht; exact loadbox8 ho (by rfl) rfl HYR
        simp only [Act.put, List.setIfInBounds_toArray, List.set_cons_zero, List.set_cons_succ]
        refine heldRunT (d := some 33) (op := .buildSlice 29 1 #[(0, Operand.tmp 32)]) (g := none) (t := 29) 2 (.slice (some ⟨Rw.heap.size, 0, none⟩) 1 1) A7 rfl (by kernel_rfl) (by kernel_rfl) ?y2a trivial ?_
        case y2a => intro o' ho ht; simp only [execOp, ho]; go_simp; first | done | rw [hA7] | rfl
        simp only [Act.put, List.setIfInBounds_toArray, List.set_cons_zero, List.set_cons_succ]
        refine heldRunT (d := some 34) (op := .call { callee := Callee.builtin Builtin.append, args := #[Operand.tmp 31, Operand.tmp 33], argTypes := #[29, 29] }) (g := none) (t := 29) 3 u' w8 rfl (by kernel_rfl) (by kernel_rfl) ?y3a trivial ?_
        case y3a => intro o' ho ht; exact run_appB ho ht (by rfl) (by rfl) hap
        simp only [Act.put, List.setIfInBounds_toArray, List.set_cons_zero, List.set_cons_succ]
        refine heldTake (d := some 9) (op := .assign (Operand.tmp 34)) (g := none) 7 ?v7a rfl (by kernel_rfl) (by kernel_rfl) (by kernel_rfl) (by kernel_rfl) ?y7a trivial ?_
        case y7a => intro o' ho W hS; simp only [execOp, ho]; go_simp; try rfl
        simp only [Act.put, List.setIfInBounds_toArray, List.set_cons_zero, List.set_cons_succ]
        refine heldTake (d := some 0) (op := .assign (Operand.tmp 37)) (g := none) 8 ?v8a rfl (by kernel_rfl) (by kernel_rfl) (by kernel_rfl) (by kernel_rfl) ?y8a trivial ?_
        case y8a => intro o' ho W hS; simp only [execOp, ho]; go_simp; try rfl
        simp only [Act.put, List.setIfInBounds_toArray, List.set_cons_zero]
        refine wpAnyH_done (by kernel_rfl) ?_ _
        refine NoPanic.normal ?_
        have HO8' := Sl.mk HO8
        have HB8 : Sl (Below w.heap.size w w8) := ⟨(HB3.out.trans ((HS0.mono HB3.out.size))).grown ((grown_then_of BA7 HG8)) (Nat.le_trans HB3.out.size HS0.size) (fun g hg => HOA.ge hg)⟩
        clear HS0 HYR HOR BA7 HOA hNA hap HO8 HG8 hA7 HY3 HO3 HB3
        go_wp2
        exact ⟨⟨S0.extract n S0.size, u', fs ++ [f], rfl, rfl, HA', HSZ', HO8', HB8⟩, HDEC.out⟩
      · have hq0 : ((k : Int) != 0) = true := by simp; omega
        rw [if_pos h0] at hst
        have ha := HA.out
        rw [hst, HALL.out] at ha
        injection ha with ha1 ha
        injection ha with ha2 ha3
        subst ha2 ha3
        have hO4 : Sl (OwnR w3 w.heap.size u gs) := ⟨by rw [ha1, List.append_nil]; exact HO3.out⟩
        clear hst hn HA HSZ HO3 HALL ha1 hcv HY3 h0 h9
        go_wp2_with (refine wpList_store_row rfl 43 (.tmp 10) (.tmp 19) rfl w2.heap.size #[.bool rf, .int .i64 ro, .bool rm, .int .u8 ((ka : Nat) : Int), .int .u8 ((kb : Nat) : Int), .int .u8 ((kc : Nat) : Int), .int .u8 ((kd : Nat) : Int), .string rd] rfl rfl 43 #[.bool false, .int .i64 0, .bool false, .int .u8 0, .int .u8 0, .int .u8 0, .int .u8 0, .string { data := #[] }] (bx_new w2 _) HI1 rfl (fr_all _ _ _ _ _ _ _ _) ?_)
        go_ret3
        exact ⟨u, rfl, hO4, HB3⟩
end Go.Proofs.YtlgmgalopdfcaaaDoor
