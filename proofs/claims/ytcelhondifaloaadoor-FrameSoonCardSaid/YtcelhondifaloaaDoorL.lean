/- frame: FrameSoon's walk. -/
import Derived.Test.YtcelhondifaloaaDoorK
set_option maxRecDepth 100000
namespace Go.Proofs.YtcelhondifaloaaDoor
open Go.RowKit MaskPlain FramePlain Mas

/-- What was known of the beginning that is one byte shorter. -/
def SoonR (bs : List Nat) (most : Int) (k W U : Nat) : Prop := (k = 0 ∧ W = 90 ∧ U = 0) ∨ (0 < k ∧ ∃ f, getF (bs.take (k - 1)) most = (f, U, W))
theorem soon_step {bs : List Nat} {most : Int} {k W U : Nat} (h : SoonR bs most k W U) (hk : k ≤ bs.length) (hs : Small 256 bs) :
    ∃ f n e, getF (bs.take k) most = (f, n, e) ∧ (W = 90 ∨ (e = W ∧ n = U)) ∧ ((e = 0 ∧ 2 ≤ n ∧ n ≤ k) ∨ (e ≠ 0 ∧ n = 0)) ∧ SoonR bs most (k + 1) e n := by
  obtain ⟨⟨f, n, e⟩, hg⟩ : ∃ r, getF (bs.take k) most = r := ⟨_, rfl⟩
  refine ⟨f, n, e, hg, ?_, ?_, .inr ⟨by omega, f, by rw [Nat.add_sub_cancel]; exact hg⟩⟩
  · by_cases hw : W = 90
    · exact .inl hw
    · right
      rcases h with ⟨_, h2, _⟩ | ⟨h1, f', h2⟩
      · exact absurd h2 hw
      · have h3 := get_on ((bs.take k).drop (k - 1)) most (a := bs.take (k - 1)) (by rw [h2]; exact hw)
        have h4 : bs.take (k - 1) ++ (bs.take k).drop (k - 1) = bs.take k := by
          rw [show bs.take (k - 1) = (bs.take k).take (k - 1) by rw [List.take_take, Nat.min_eq_left (by omega)]]
          exact List.take_append_drop _ _
        rw [h4, hg, h2] at h3
        injection h3 with _ h3
        injection h3 with h5 h6
        exact ⟨h6, h5⟩
  · rcases get_err (bs.take k) most with h1 | ⟨c, h1, h2⟩
    · rw [hg] at h1
      simp only at h1
      subst h1
      obtain ⟨_, _, h3, h4, _⟩ := get_ok (hs.take k) hg
      exact .inl ⟨rfl, h4, by rw [List.length_take] at h3; omega⟩
    · rw [hg] at h1
      injection h1 with _ h1
      injection h1 with h3 h4
      exact .inr ⟨by omega, h3⟩

set_option maxHeartbeats 4000000 in
theorem soon_walk (s : ByteArray) (most : Int) (w : World) (hg : Globs w) (hmo : -9223372036854775808 ≤ most ∧ most ≤ 9223372036854775807) : Calls Tryd.prog 5 #[.string s, .int .i64 most] w fun e w' => e = .returned (.bool true) ∧ Below w.heap.size w w' := by
  have HG := Sl.mk hg
  clear hg
  by_cases hs : s.size > 300
  · have hq : ((s.size : Int) > 300) = True := eq_true (by omega)
    clear hs hmo
    go_enter Tryd.func5, Tryd.ntmps5
    go_wp2_with fail
    refine (awake_any w HG.out).mono ?_
    rintro e w1 ⟨rfl, HB1⟩
    go_wp2_with fail
    refine (awake_any w1 (HG.out.below HB1.out HG.out.size)).mono ?_
    rintro e w2 ⟨rfl, HX2⟩
    have HB2 := HB1.out.trans (HX2.out.mono HB1.out.size)
    go_wp2
    go_ret
    exact ⟨rfl, HB2⟩
  · have hq : ((s.size : Int) > 300) = False := eq_false (by omega)
    have C16 : ∀ (k : Nat) (hk : k ≤ s.size) (f : Fr) (n e : Nat), getF ((bytes s).take k) most = (f, n, e) → ∀ (W : World) g cap, Globs W → SrcAt W (.slice (some ⟨g, 0, none⟩) k cap) ((bytes s).take k) → Calls Tryd.prog 16 #[.slice (some ⟨g, 0, none⟩) k cap, .int .i64 most] W fun e' w' => e' = .returned (.tuple #[valF f, .int .i64 (n : Int), .int .i64 (e : Int)]) ∧ Sl (Below W.heap.size W w') := fun k hk f n e h W g cap hW hv => by
      have := getf_any g 0 k cap ((bytes s).take k) most W hW hv (by rw [List.length_take, bytes_length]; omega) ((bytes_small s).take k) (by omega) hmo.2
      rw [h] at this
      exact this
    have HSZ := Sl.mk (Nat.le_of_not_lt hs)
    clear hs hmo
    go_enter Tryd.func5, Tryd.ntmps5
    go_wp2_with fail
    refine (awake_any w HG.out).mono ?_
    rintro e w1 ⟨rfl, HB1⟩
    go_wp2
    go_loopw [5, 6, 7] (fun x y i wr => ∃ k W U : Nat, k ≤ s.size + 1 ∧ x = .int .i64 W ∧ y = .int .i64 U ∧ i = .int .i64 k ∧ Sl (SoonR (bytes s) most k W U) ∧ Sl (Below w.heap.size w wr)) (fun _ _ i _ => s.size + 1 - (intOf i).toNat)
    case atStart => exact ⟨0, 90, 0, by omega, rfl, rfl, rfl, ⟨.inl ⟨rfl, rfl, rfl⟩⟩, HB1⟩
    case round =>
      obtain ⟨k, W, U, hk1, rfl, rfl, rfl, HR, HB⟩ := hrel
      by_cases hk : k ≤ s.size
      · have hkq : ((k : Int) ≤ (s.size : Int)) = True := eq_true (by omega)
        have h300 := HSZ.out
        obtain ⟨f, n, e, hgt, hA, hB, hN⟩ := soon_step HR.out (by rw [bytes_length]; exact hk) (bytes_small s)
        have HN := Sl.mk hN
        have CC := C16 k hk f n e hgt
        obtain ⟨rf, ro, rm, ka, kb, kc, kd, rd, hval⟩ : ∃ rf ro rm ka kb kc kd rd, valF f = .agg #[.bool rf, .int .i64 ro, .bool rm, .int .u8 ((ka : Nat) : Int), .int .u8 ((kb : Nat) : Int), .int .u8 ((kc : Nat) : Int), .int .u8 ((kd : Nat) : Int), .string rd] := ⟨_, _, _, _, _, _, _, _, rfl⟩
        rw [hval] at CC
        clear HR hN hval hgt C16
        obtain ⟨c6, w6, hconv, HS6, HX6⟩ := conv_str (s.extract 0 k) wr
        have HB6 : Sl (Below w.heap.size w w6) := ⟨HB.out.trans (HX6.out.mono HB.out.size)⟩
        have hsz6 : (s.extract 0 k).size = k := by rw [ByteArray.size_extract]; omega
        rw [hsz6] at hconv HS6
        rw [bytes_extract, List.drop_zero] at HS6
        clear hsz6
        rcases hA with hW | ⟨rfl, rfl⟩
        · have hq1 : ((W : Int) != 90) = false := by subst hW; rfl
          rcases hB with ⟨he, hn2, hnk⟩ | ⟨he, hn0⟩
          · have hq2 : ((e : Int) == 0) = true := by subst he; rfl
            have hq3 : ((n : Int) < 2) = False := eq_false (by omega)
            have hq4 : ((n : Int) > (k : Int)) = False := eq_false (by omega)
            have hq5 : ((e : Int) != 0) = false := by subst he; rfl
            clear hW he hn2 hnk
            go_wp2_with fail
            refine (CC w6 _ _ (HG.out.below HB6.out HG.out.size) HS6.out).mono ?_
            rintro e' w7 ⟨rfl, HX7⟩
            have HB7 : Sl (Below w.heap.size w w7) := ⟨HB6.out.trans (HX7.out.mono HB6.out.size)⟩
            obtain ⟨w8, hw8⟩ : ∃ V, (w7.alloc (.cells #[.bool false, .int .i64 0, .bool false, .int .u8 0, .int .u8 0, .int .u8 0, .int .u8 0, .string { data := #[] }] 24)).setRow w7.heap.size #[.bool rf, .int .i64 ro, .bool rm, .int .u8 (ka : Int), .int .u8 (kb : Int), .int .u8 (kc : Int), .int .u8 (kd : Int), .string rd] = V := ⟨_, rfl⟩
            have HXw8 : Sl (Below w7.heap.size w7 w8) := ⟨by rw [← hw8]; exact laid_self w7 #[.bool rf, .int .i64 ro, .bool rm, .int .u8 (ka : Int), .int .u8 (kb : Int), .int .u8 (kc : Int), .int .u8 (kd : Int), .string rd]⟩
            have HBw8 : Sl (Below w.heap.size w w8) := ⟨HB7.out.trans (HXw8.out.mono HB7.out.size)⟩
            have HYw8 : Sl (w8.heap[w7.heap.size]? = some (.cells #[.bool rf, .int .i64 ro, .bool rm, .int .u8 (ka : Int), .int .u8 (kb : Int), .int .u8 (kc : Int), .int .u8 (kd : Int), .string rd] 24 (0, 0))) := ⟨by rw [← hw8]; exact (laid_fr #[.bool rf, .int .i64 ro, .bool rm, .int .u8 (ka : Int), .int .u8 (kb : Int), .int .u8 (kc : Int), .int .u8 (kd : Int), .string rd] (Below.refl _ _)).2⟩
            have HIw8 := fr_info (cs := #[.bool rf, .int .i64 ro, .bool rm, .int .u8 (ka : Int), .int .u8 (kb : Int), .int .u8 (kc : Int), .int .u8 (kd : Int), .string rd]) rfl
            clear hconv HX7 HX6 HS6 HYw8 HXw8
            go_wp2_with (refine wpList_store_row rfl 24 (.tmp 8) (.tmp 32) rfl w7.heap.size #[.bool rf, .int .i64 ro, .bool rm, .int .u8 (ka : Int), .int .u8 (kb : Int), .int .u8 (kc : Int), .int .u8 (kd : Int), .string rd] rfl rfl 24 #[.bool false, .int .i64 0, .bool false, .int .u8 0, .int .u8 0, .int .u8 0, .int .u8 0, .string { data := #[] }] (bx_new w7 _) HIw8 rfl (fr_all _ _ _ _ _ _ _ _) ?_)
            exact ⟨⟨k + 1, e, n, by omega, rfl, rfl, by go_num, HN, HBw8⟩, by simp [intOf]; omega⟩
          · have hq2 : ((e : Int) == 0) = false := by simp; omega
            have hq5 : ((e : Int) != 0) = true := by simp; omega
            have hq6 : ((n : Int) != 0) = false := by subst hn0; rfl
            clear hW he hn0
            go_wp2_with fail
            refine (CC w6 _ _ (HG.out.below HB6.out HG.out.size) HS6.out).mono ?_
            rintro e' w7 ⟨rfl, HX7⟩
            have HB7 : Sl (Below w.heap.size w w7) := ⟨HB6.out.trans (HX7.out.mono HB6.out.size)⟩
            obtain ⟨w8, hw8⟩ : ∃ V, (w7.alloc (.cells #[.bool false, .int .i64 0, .bool false, .int .u8 0, .int .u8 0, .int .u8 0, .int .u8 0, .string { data := #[] }] 24)).setRow w7.heap.size #[.bool rf, .int .i64 ro, .bool rm, .int .u8 (ka : Int), .int .u8 (kb : Int), .int .u8 (kc : Int), .int .u8 (kd : Int), .string rd] = V := ⟨_, rfl⟩
            have HXw8 : Sl (Below w7.heap.size w7 w8) := ⟨by rw [← hw8]; exact laid_self w7 #[.bool rf, .int .i64 ro, .bool rm, .int .u8 (ka : Int), .int .u8 (kb : Int), .int .u8 (kc : Int), .int .u8 (kd : Int), .string rd]⟩
            have HBw8 : Sl (Below w.heap.size w w8) := ⟨HB7.out.trans (HXw8.out.mono HB7.out.size)⟩
            have HYw8 : Sl (w8.heap[w7.heap.size]? = some (.cells #[.bool rf, .int .i64 ro, .bool rm, .int .u8 (ka : Int), .int .u8 (kb : Int), .int .u8 (kc : Int), .int .u8 (kd : Int), .string rd] 24 (0, 0))) := ⟨by rw [← hw8]; exact (laid_fr #[.bool rf, .int .i64 ro, .bool rm, .int .u8 (ka : Int), .int .u8 (kb : Int), .int .u8 (kc : Int), .int .u8 (kd : Int), .string rd] (Below.refl _ _)).2⟩
            have HIw8 := fr_info (cs := #[.bool rf, .int .i64 ro, .bool rm, .int .u8 (ka : Int), .int .u8 (kb : Int), .int .u8 (kc : Int), .int .u8 (kd : Int), .string rd]) rfl
            clear hconv HX7 HX6 HS6 HYw8 HXw8
            go_wp2_with (refine wpList_store_row rfl 24 (.tmp 8) (.tmp 32) rfl w7.heap.size #[.bool rf, .int .i64 ro, .bool rm, .int .u8 (ka : Int), .int .u8 (kb : Int), .int .u8 (kc : Int), .int .u8 (kd : Int), .string rd] rfl rfl 24 #[.bool false, .int .i64 0, .bool false, .int .u8 0, .int .u8 0, .int .u8 0, .int .u8 0, .string { data := #[] }] (bx_new w7 _) HIw8 rfl (fr_all _ _ _ _ _ _ _ _) ?_)
            exact ⟨⟨k + 1, e, n, by omega, rfl, rfl, by go_num, HN, HBw8⟩, by simp [intOf]; omega⟩
        · by_cases hW : e = 90
          · have hq1 : ((e : Int) != 90) = false := by subst hW; rfl
            rcases hB with ⟨he, hn2, hnk⟩ | ⟨he, hn0⟩
            · omega
            · have hq2 : ((e : Int) == 0) = false := by simp; omega
              have hq5 : ((e : Int) != 0) = true := by simp; omega
              have hq6 : ((n : Int) != 0) = false := by subst hn0; rfl
              clear hW he hn0
              go_wp2_with fail
              refine (CC w6 _ _ (HG.out.below HB6.out HG.out.size) HS6.out).mono ?_
              rintro e' w7 ⟨rfl, HX7⟩
              have HB7 : Sl (Below w.heap.size w w7) := ⟨HB6.out.trans (HX7.out.mono HB6.out.size)⟩
              obtain ⟨w8, hw8⟩ : ∃ V, (w7.alloc (.cells #[.bool false, .int .i64 0, .bool false, .int .u8 0, .int .u8 0, .int .u8 0, .int .u8 0, .string { data := #[] }] 24)).setRow w7.heap.size #[.bool rf, .int .i64 ro, .bool rm, .int .u8 (ka : Int), .int .u8 (kb : Int), .int .u8 (kc : Int), .int .u8 (kd : Int), .string rd] = V := ⟨_, rfl⟩
              have HXw8 : Sl (Below w7.heap.size w7 w8) := ⟨by rw [← hw8]; exact laid_self w7 #[.bool rf, .int .i64 ro, .bool rm, .int .u8 (ka : Int), .int .u8 (kb : Int), .int .u8 (kc : Int), .int .u8 (kd : Int), .string rd]⟩
              have HBw8 : Sl (Below w.heap.size w w8) := ⟨HB7.out.trans (HXw8.out.mono HB7.out.size)⟩
              have HYw8 : Sl (w8.heap[w7.heap.size]? = some (.cells #[.bool rf, .int .i64 ro, .bool rm, .int .u8 (ka : Int), .int .u8 (kb : Int), .int .u8 (kc : Int), .int .u8 (kd : Int), .string rd] 24 (0, 0))) := ⟨by rw [← hw8]; exact (laid_fr #[.bool rf, .int .i64 ro, .bool rm, .int .u8 (ka : Int), .int .u8 (kb : Int), .int .u8 (kc : Int), .int .u8 (kd : Int), .string rd] (Below.refl _ _)).2⟩
              have HIw8 := fr_info (cs := #[.bool rf, .int .i64 ro, .bool rm, .int .u8 (ka : Int), .int .u8 (kb : Int), .int .u8 (kc : Int), .int .u8 (kd : Int), .string rd]) rfl
              clear hconv HX7 HX6 HS6 HYw8 HXw8
              go_wp2_with (refine wpList_store_row rfl 24 (.tmp 8) (.tmp 32) rfl w7.heap.size #[.bool rf, .int .i64 ro, .bool rm, .int .u8 (ka : Int), .int .u8 (kb : Int), .int .u8 (kc : Int), .int .u8 (kd : Int), .string rd] rfl rfl 24 #[.bool false, .int .i64 0, .bool false, .int .u8 0, .int .u8 0, .int .u8 0, .int .u8 0, .string { data := #[] }] (bx_new w7 _) HIw8 rfl (fr_all _ _ _ _ _ _ _ _) ?_)
              exact ⟨⟨k + 1, e, n, by omega, rfl, rfl, by go_num, HN, HBw8⟩, by simp [intOf]; omega⟩
          · have hq1 : ((e : Int) != 90) = true := by simp; omega
            rcases hB with ⟨he, hn2, hnk⟩ | ⟨he, hn0⟩
            · have hq2 : ((e : Int) == 0) = true := by subst he; rfl
              have hq3 : ((n : Int) < 2) = False := eq_false (by omega)
              have hq4 : ((n : Int) > (k : Int)) = False := eq_false (by omega)
              have hq5 : ((e : Int) != 0) = false := by subst he; rfl
              clear hW he hn2 hnk
              go_wp2_with fail
              refine (CC w6 _ _ (HG.out.below HB6.out HG.out.size) HS6.out).mono ?_
              rintro e' w7 ⟨rfl, HX7⟩
              have HB7 : Sl (Below w.heap.size w w7) := ⟨HB6.out.trans (HX7.out.mono HB6.out.size)⟩
              obtain ⟨w8, hw8⟩ : ∃ V, (w7.alloc (.cells #[.bool false, .int .i64 0, .bool false, .int .u8 0, .int .u8 0, .int .u8 0, .int .u8 0, .string { data := #[] }] 24)).setRow w7.heap.size #[.bool rf, .int .i64 ro, .bool rm, .int .u8 (ka : Int), .int .u8 (kb : Int), .int .u8 (kc : Int), .int .u8 (kd : Int), .string rd] = V := ⟨_, rfl⟩
              have HXw8 : Sl (Below w7.heap.size w7 w8) := ⟨by rw [← hw8]; exact laid_self w7 #[.bool rf, .int .i64 ro, .bool rm, .int .u8 (ka : Int), .int .u8 (kb : Int), .int .u8 (kc : Int), .int .u8 (kd : Int), .string rd]⟩
              have HBw8 : Sl (Below w.heap.size w w8) := ⟨HB7.out.trans (HXw8.out.mono HB7.out.size)⟩
              have HYw8 : Sl (w8.heap[w7.heap.size]? = some (.cells #[.bool rf, .int .i64 ro, .bool rm, .int .u8 (ka : Int), .int .u8 (kb : Int), .int .u8 (kc : Int), .int .u8 (kd : Int), .string rd] 24 (0, 0))) := ⟨by rw [← hw8]; exact (laid_fr #[.bool rf, .int .i64 ro, .bool rm, .int .u8 (ka : Int), .int .u8 (kb : Int), .int .u8 (kc : Int), .int .u8 (kd : Int), .string rd] (Below.refl _ _)).2⟩
              have HIw8 := fr_info (cs := #[.bool rf, .int .i64 ro, .bool rm, .int .u8 (ka : Int), .int .u8 (kb : Int), .int .u8 (kc : Int), .int .u8 (kd : Int), .string rd]) rfl
              clear hconv HX7 HX6 HS6 HYw8 HXw8
              go_wp2_with (refine wpList_store_row rfl 24 (.tmp 8) (.tmp 32) rfl w7.heap.size #[.bool rf, .int .i64 ro, .bool rm, .int .u8 (ka : Int), .int .u8 (kb : Int), .int .u8 (kc : Int), .int .u8 (kd : Int), .string rd] rfl rfl 24 #[.bool false, .int .i64 0, .bool false, .int .u8 0, .int .u8 0, .int .u8 0, .int .u8 0, .string { data := #[] }] (bx_new w7 _) HIw8 rfl (fr_all _ _ _ _ _ _ _ _) ?_)
              exact ⟨⟨k + 1, e, n, by omega, rfl, rfl, by go_num, HN, HBw8⟩, by simp [intOf]; omega⟩
            · have hq2 : ((e : Int) == 0) = false := by simp; omega
              have hq5 : ((e : Int) != 0) = true := by simp; omega
              have hq6 : ((n : Int) != 0) = false := by subst hn0; rfl
              clear hW he hn0
              go_wp2_with fail
              refine (CC w6 _ _ (HG.out.below HB6.out HG.out.size) HS6.out).mono ?_
              rintro e' w7 ⟨rfl, HX7⟩
              have HB7 : Sl (Below w.heap.size w w7) := ⟨HB6.out.trans (HX7.out.mono HB6.out.size)⟩
              obtain ⟨w8, hw8⟩ : ∃ V, (w7.alloc (.cells #[.bool false, .int .i64 0, .bool false, .int .u8 0, .int .u8 0, .int .u8 0, .int .u8 0, .string { data := #[] }] 24)).setRow w7.heap.size #[.bool rf, .int .i64 ro, .bool rm, .int .u8 (ka : Int), .int .u8 (kb : Int), .int .u8 (kc : Int), .int .u8 (kd : Int), .string rd] = V := ⟨_, rfl⟩
              have HXw8 : Sl (Below w7.heap.size w7 w8) := ⟨by rw [← hw8]; exact laid_self w7 #[.bool rf, .int .i64 ro, .bool rm, .int .u8 (ka : Int), .int .u8 (kb : Int), .int .u8 (kc : Int), .int .u8 (kd : Int), .string rd]⟩
              have HBw8 : Sl (Below w.heap.size w w8) := ⟨HB7.out.trans (HXw8.out.mono HB7.out.size)⟩
              have HYw8 : Sl (w8.heap[w7.heap.size]? = some (.cells #[.bool rf, .int .i64 ro, .bool rm, .int .u8 (ka : Int), .int .u8 (kb : Int), .int .u8 (kc : Int), .int .u8 (kd : Int), .string rd] 24 (0, 0))) := ⟨by rw [← hw8]; exact (laid_fr #[.bool rf, .int .i64 ro, .bool rm, .int .u8 (ka : Int), .int .u8 (kb : Int), .int .u8 (kc : Int), .int .u8 (kd : Int), .string rd] (Below.refl _ _)).2⟩
              have HIw8 := fr_info (cs := #[.bool rf, .int .i64 ro, .bool rm, .int .u8 (ka : Int), .int .u8 (kb : Int), .int .u8 (kc : Int), .int .u8 (kd : Int), .string rd]) rfl
              clear hconv HX7 HX6 HS6 HYw8 HXw8
              go_wp2_with (refine wpList_store_row rfl 24 (.tmp 8) (.tmp 32) rfl w7.heap.size #[.bool rf, .int .i64 ro, .bool rm, .int .u8 (ka : Int), .int .u8 (kb : Int), .int .u8 (kc : Int), .int .u8 (kd : Int), .string rd] rfl rfl 24 #[.bool false, .int .i64 0, .bool false, .int .u8 0, .int .u8 0, .int .u8 0, .int .u8 0, .string { data := #[] }] (bx_new w7 _) HIw8 rfl (fr_all _ _ _ _ _ _ _ _) ?_)
              exact ⟨⟨k + 1, e, n, by omega, rfl, rfl, by go_num, HN, HBw8⟩, by simp [intOf]; omega⟩
      · have hkq : ((k : Int) ≤ (s.size : Int)) = False := eq_false (by omega)
        go_wp2
        go_ret
        exact ⟨rfl, HB.out⟩
end Go.Proofs.YtcelhondifaloaaDoor
