/- The document's Read. -/
import Derived.Test.YtcohecghibndhaaDoorX1
import Derived.IntWalk
import Derived.Deep.CutBlock
namespace Go.Proofs.YtcohecghibndhaaDoor
open Go.RowKit HeadPlain

theorem owns_slice' {w : World} {base n : Nat} {v : Value} {xs : List Value} (ho : w.ownsRow base 48 2 v n xs) : ∃ a c, v = .slice a n c := by
  obtain ⟨_, h2⟩ := ho
  rcases h2 with ⟨rfl, hz⟩ | ⟨g, cap, cur, rfl, _⟩
  · exact ⟨_, _, by rw [hz]⟩
  · exact ⟨_, _, rfl⟩
theorem at_n (s : ByteArray) (c : Nat) (W : World) (x : Nat) (hx : idx c (bytes s) = x) (hs : s.size ≤ maxLen) : Calls Tryd.prog 37 #[.string s, .int .u8 (c : Int)] W fun e w' => e = .returned (.int .i64 (x : Nat)) ∧ W = w' := by
  subst hx; exact (at_any s c W hs).mono fun _ _ h => ⟨h.1, h.2.symm⟩
theorem trim_n (s : ByteArray) (W : World) (hs : s.size ≤ maxLen) : Calls Tryd.prog 38 #[.string s] W fun e w' => ∃ t : ByteArray, e = .returned (.string t) ∧ Sl (bytes t = HeadPlain.trim (bytes s)) ∧ W = w' :=
  (trim_any s W hs).mono fun _ _ ⟨t, h1, h2, h3⟩ => ⟨t, h1, h2, h3.symm⟩
set_option maxHeartbeats 8000000 in
set_option maxRecDepth 100000 in
theorem readR19 (s : ByteArray) (W : World) (hs : s.size ≤ 2500) :
    Calls Tryd.prog 19 #[.string s] W fun e w' => Sl (ReadR w' (bytes s) e) ∧ Sl (Below W.heap.size W w') := by
  have HLN : Sl ((bytes s).length = s.size) := ⟨bytes_length s⟩
  obtain ⟨w1, hw1⟩ : ∃ w1, W.alloc (.cells #[.string { data := #[] }, .string { data := #[] }, .string { data := #[] }, .slice none 0 0] 25) = w1 := ⟨_, rfl⟩
  have HB1 : Sl (Below W.heap.size W w1) := ⟨by rw [← hw1]; exact (Below.refl _ _).alloc (Nat.le_refl _) _⟩
  have HX1 : Sl (w1.heap[W.heap.size]? = some (.cells #[.string { data := #[] }, .string { data := #[] }, .string { data := #[] }, .slice none 0 0] 25 (0, 0))) := ⟨by rw [← hw1]; exact alloc_new _ _ _ rfl⟩
  go_enter Tryd.func19, Tryd.ntmps19
  go_upto_block 0 with fail
  go_cut [5] (fun s5 wx => w1 = wx ∧ ((s5 = .int .i64 (-1) ∧ Sl (fnd ((bytes s).take 2048) = none)) ∨ ∃ j : Nat, s5 = .int .i64 j ∧ j + 4 ≤ s.size ∧ j + 4 ≤ 2048 ∧ Sl (four ((bytes s).drop j) = true) ∧ Sl (fnd ((bytes s).take 2048) = some j)))
  case first =>
    go_wp2
    go_loopw [5, 6] (fun n i wr => ∃ k : Nat, k ≤ s.size ∧ i = .int .i64 k ∧ w1 = wr ∧ ((n = .int .i64 (-1) ∧ Sl (∀ j, j < k → four ((bytes s).drop j) = false)) ∨
      (∃ j : Nat, n = .int .i64 j ∧ k = j + 1 ∧ j + 4 ≤ s.size ∧ j + 4 ≤ 2048 ∧ Sl (four ((bytes s).drop j) = true) ∧ Sl (∀ i, i < j → four ((bytes s).drop i) = false)))) (fun _ i _ => s.size - (intOf i).toNat)
    case atStart => exact ⟨0, Nat.zero_le _, rfl, rfl, Or.inl ⟨rfl, ⟨fun j hj => by omega⟩⟩⟩
    case round =>
      obtain ⟨k, hk, rfl, rfl, hcase⟩ := hrel
      rcases hcase with ⟨rfl, HNO⟩ | ⟨j, rfl, rfl, hj1, hj2, HFO, HNO⟩
      · by_cases hc : k + 4 ≤ s.size ∧ k + 4 ≤ 2048
        · obtain ⟨c1, c2⟩ := hc
          have c1' : (k : Int) + 4 ≤ (s.size : Int) := by omega
          have c2' : (k : Int) + 4 ≤ 2048 := by omega
          have hk0 : (0 : Int) ≤ (k : Int) := by omega
          obtain ⟨r, hr⟩ : ∃ r, four ((bytes s).drop k) = r := ⟨_, rfl⟩
          have hq : ((s.extract k (k + 4)).toList == [13, 10, 13, 10]) = r := by rw [four_text, hr]
          have HR := Sl.mk hr
          clear hr
          cases r with
          | true =>
            go_wp2
            refine ⟨⟨k + 1, by omega, by go_num, trivial, Or.inr ⟨k, by go_num, rfl, by omega, by omega, HR, HNO⟩⟩, by simp [intOf]; omega⟩
          | false =>
            go_wp2
            refine ⟨⟨k + 1, by omega, by go_num, trivial, Or.inl ⟨rfl, ⟨fun j hj => ?_⟩⟩⟩, by simp [intOf]; omega⟩
            by_cases e : j = k
            · subst e; exact HR.out
            · exact HNO.out j (by omega)
        · have HFN : Sl (fnd ((bytes s).take 2048) = none) := ⟨fnd_no _ (fun j h1 h2 => by
            rw [HLN.out] at h1
            by_cases e : j < k
            · exact HNO.out j e
            · omega)⟩
          by_cases c1 : k + 4 ≤ s.size
          · have c1' : (k : Int) + 4 ≤ (s.size : Int) := by omega
            have c2' : ((k : Int) + 4 ≤ 2048) = False := eq_false (by omega)
            go_wp2_with fail; go_meet; exact ⟨rfl, Or.inl ⟨rfl, HFN⟩⟩
          · have c1' : ((k : Int) + 4 ≤ (s.size : Int)) = False := eq_false (by omega)
            go_wp2_with fail; go_meet; exact ⟨rfl, Or.inl ⟨rfl, HFN⟩⟩
      · have hj' : ((j : Int) < 0) = False := eq_false (by omega)
        have HFS : Sl (fnd ((bytes s).take 2048) = some j) := ⟨fnd_two _ _ HFO.out HNO.out hj2⟩
        by_cases c1 : j + 1 + 4 ≤ s.size
        · have c1' : ((j + 1 : Nat) : Int) + 4 ≤ (s.size : Int) := by omega
          by_cases c2 : j + 1 + 4 ≤ 2048
          · have c2' : ((j + 1 : Nat) : Int) + 4 ≤ 2048 := by omega
            go_wp2_with fail; go_meet; exact ⟨rfl, Or.inr ⟨j, rfl, hj1, hj2, HFO, HFS⟩⟩
          · have c2' : (((j + 1 : Nat) : Int) + 4 ≤ 2048) = False := eq_false (by omega)
            go_wp2_with fail; go_meet; exact ⟨rfl, Or.inr ⟨j, rfl, hj1, hj2, HFO, HFS⟩⟩
        · have c1' : (((j + 1 : Nat) : Int) + 4 ≤ (s.size : Int)) = False := eq_false (by omega)
          go_wp2_with fail; go_meet; exact ⟨rfl, Or.inr ⟨j, rfl, hj1, hj2, HFO, HFS⟩⟩
  case rest =>
    obtain ⟨rfl, hcut⟩ := hcut
    obtain ⟨z0, z1⟩ := zero_cells HX1.out
    obtain ⟨d0, d1, d2, d3⟩ := z0
    obtain ⟨f0, f1, f2, f3⟩ := z1
    rcases hcut with ⟨rfl, HFN⟩ | ⟨j, rfl, hj1, hj2, HFO, HFS⟩
    · skip
      by_cases hl : s.size < 2048
      · have hl' : ((s.size : Int) ≥ 2048) = False := eq_false (by omega)
        have HR : Sl (rd (bytes s) = .more) := ⟨by rw [rd_none' HFN.out, if_pos (by rw [HLN.out]; exact hl)]⟩
        go_wp2
        refine bodyPost_ret (ret_head3 rfl _ _ W.heap.size 25 _ (0, 0) rfl (four_cells _ _ _ _ _ _ _ _ _ _ HX1.out) rfl) rfl ?_
        refine ⟨⟨?_⟩, ⟨(((HB1.out.setCell (Nat.le_refl _) _).setCell (Nat.le_refl _) _).setCell (Nat.le_refl _) _).setCell (Nat.le_refl _) _⟩⟩
        unfold ReadR
        rw [HR.out]; rfl
      · have hl' : (s.size : Int) ≥ 2048 := by omega
        have HR : Sl (rd (bytes s) = .long) := ⟨by rw [rd_none' HFN.out, if_neg (by rw [HLN.out]; exact hl)]⟩
        go_wp2
        refine bodyPost_ret (ret_head3 rfl _ _ W.heap.size 25 _ (0, 0) rfl (four_cells _ _ _ _ _ _ _ _ _ _ HX1.out) rfl) rfl ?_
        refine ⟨⟨?_⟩, ⟨(((HB1.out.setCell (Nat.le_refl _) _).setCell (Nat.le_refl _) _).setCell (Nat.le_refl _) _).setCell (Nat.le_refl _) _⟩⟩
        unfold ReadR
        rw [HR.out]; rfl
    · have hj' : ((j : Int) < 0) = False := eq_false (by omega)
      go_wp2
      clear hw1 d0 d1 d2 d3 f0 f1 f2 f3
      obtain ⟨w2, hw2⟩ : ∃ w2, w1.alloc (.cells #[.string { data := #[] }, .string { data := #[] }, .string { data := #[] }, .slice none 0 0] 25) = w2 := ⟨_, rfl⟩
      have HR2 : Sl (RD W W.heap.size w1.heap.size (w1.heap.size + 1) hZ (.slice none 0 0) w2) := ⟨by
        have hb2 : Below w1.heap.size w1 w2 := by rw [← hw2]; exact (Below.refl _ _).alloc (Nat.le_refl _) _
        have hlt := lt_of_block HX1.out
        refine ⟨below_trans HB1.out hb2, box_below HX1.out hb2, by rw [← hw2]; exact alloc_new _ _ _ rfl, World.ownsRow_nil w2 _ 48 2, by omega, by omega, Nat.le_refl _, by omega, by omega, by rw [← hw2, alloc_size]; omega⟩⟩
      rw [hw2]
      clear hw2
      have HUL : Sl (((bytes s).take (j + 2)).length = j + 2) := ⟨by rw [List.length_take, HLN.out]; omega⟩
      go_loopw [8, 9] (fun fi fr wr => ∃ (k : Nat) (first : Bool) (h : HdV) (v : Value), fi = .bool first ∧ fr = .int .i64 k ∧ (k ≤ j ∨ k = j + 2) ∧ Sl h.Siz ∧ h.fs.length ≤ k ∧ Sl (Cond ((bytes s).take (j + 2)) k first h) ∧ Sl (RD W W.heap.size w1.heap.size (w1.heap.size + 1) h v wr)) (fun _ fr _ => j + 2 - (intOf fr).toNat)
      case atStart => exact ⟨0, true, hZ, _, rfl, rfl, Or.inl (Nat.zero_le _), ⟨⟨Nat.zero_le _, Nat.zero_le _, Nat.zero_le _, fun f hf => by cases hf⟩⟩, Nat.le_refl _, ⟨Or.inl ⟨rfl, rfl, rfl⟩⟩, HR2⟩
      case round =>
        obtain ⟨k, first, h, v, rfl, rfl, hkc, HSZ, hfl, HC, HRD⟩ := hrel
        obtain ⟨va, vc, rfl⟩ : ∃ a c, v = .slice a h.fs.length c := owns_slice' HRD.out.o
        clear HR2 HB1 HX1
        by_cases hkj : k ≤ j
        · skip
          obtain ⟨i, hei, hki, hk2⟩ := line_end HFO.out hkj
          have HEI := Sl.mk hei
          have hlt : (k : Int) < (j : Int) + 2 := by omega
          have HTW : Sl (∀ t, k ≤ t → t < k + i → ((s.extract t (t + 2)).toList == [13, 10]) = false) := ⟨fun t h1 h2 => by
            rw [two_text s (j + 2) t (by omega)]
            have := (eol_drop hei).2 (t - k) (by omega)
            rwa [List.drop_drop, show k + (t - k) = t by omega] at this⟩
          have HTE : Sl (((s.extract (k + i) (k + i + 2)).toList == [13, 10]) = true) := ⟨by
            rw [two_text s (j + 2) (k + i) (by omega)]
            have := (eol_drop hei).1
            rwa [List.drop_drop] at this⟩
          clear hei
          go_wp2
          go_loopw [10] (fun tq wx => ∃ t : Nat, tq = .int .i64 t ∧ k ≤ t ∧ t ≤ k + i ∧ wr = wx) (fun tq _ => k + i - (intOf tq).toNat)
          case atStart => exact ⟨k, rfl, Nat.le_refl _, by omega, rfl⟩
          case round =>
            obtain ⟨t, rfl, ht1, ht2, rfl⟩ := hrel
            have ht0 : (0 : Int) ≤ (t : Int) := by omega
            have hts : (t : Int) + 2 ≤ (s.size : Int) := by omega
            by_cases htt : t < k + i
            · have hq := HTW.out t ht1 htt
              go_wp2
              refine ⟨⟨t + 1, by go_num, by omega, by omega, trivial⟩, by simp [intOf]; omega⟩
            · obtain rfl : t = k + i := by omega
              have hq := HTE.out
              obtain ⟨L, hL⟩ : ∃ L, s.extract k (k + i) = L := ⟨_, rfl⟩
              have HLB : Sl (bytes L = (((bytes s).take (j + 2)).drop k).take i) := ⟨by
                rw [← hL, bytes_extract, List.drop_take, List.drop_take, List.take_take]
                congr 1
                omega⟩
              have HLS : Sl (L.size = i) := ⟨by rw [← hL, ByteArray.size_extract]; omega⟩
              have hLm : L.size ≤ 2500 := by rw [HLS.out]; omega
              have hkk : (k : Int) ≤ ((k + i : Nat) : Int) := by omega
              clear HTW HTE
              cases first with
              | true =>
                have HK : Sl (k = 0 ∧ h = hZ) := ⟨by
                  rcases HC.out with ⟨_, h1, h2⟩ | ⟨h1, _⟩
                  · exact ⟨h1, h2⟩
                  · cases h1⟩
                have HU0 : Sl (((bytes s).take (j + 2)).drop k = (bytes s).take (j + 2)) := ⟨by rw [HK.out.1, List.drop_zero]⟩
                have HX : Sl (wr.heap[W.heap.size]? = some (.cells #[.string { data := #[] }, .string { data := #[] }, .string { data := #[] }, .slice none 0 0] 25 (0, 0))) := ⟨HRD.out.x2⟩
                have HB : Sl (Below W.heap.size W wr) := ⟨HRD.out.b⟩
                obtain ⟨z0, z1⟩ := zero_cells HX.out
                obtain ⟨d0, d1, d2, d3⟩ := z0
                obtain ⟨f0, f1, f2, f3⟩ := z1
                have HML : Sl (L.size ≤ maxLen) := ⟨by unfold maxLen; omega⟩
                obtain ⟨a, ha⟩ : ∃ a, idx 32 (bytes L) = a := ⟨_, rfl⟩
                have HA := Sl.mk ha
                have hale : a ≤ L.size := by rw [← ha, ← bytes_length]; exact idx_le _ _
                have HLL : Sl ((bytes L).length = L.size) := ⟨bytes_length L⟩
                clear ha
                go_wp2_with fail
                refine (at_n L 32 _ a HA.out HML.out).mono ?_
                rintro e w5 ⟨rfl, rfl⟩
                by_cases hae : a = L.size
                · have hae' : ((a : Int) == (L.size : Int)) = true := by simp [hae]
                  have HFR : Sl (rd (bytes s) = .form) := ⟨by
                    rw [rd_U HFS.out, cond_first_no (by rw [← HU0.out]; exact HEI.out) (by rw [← HU0.out, ← HLB.out, rd1_idx, if_pos (by rw [HA.out, HLL.out, hae])])]⟩
                  go_wp2
                  refine bodyPost_ret (ret_head3 rfl _ _ W.heap.size 25 _ (0, 0) rfl (four_cells _ _ _ _ _ _ _ _ _ _ HX.out) rfl) rfl ?_
                  refine ⟨⟨?_⟩, ⟨(((HB.out.setCell (Nat.le_refl _) _).setCell (Nat.le_refl _) _).setCell (Nat.le_refl _) _).setCell (Nat.le_refl _) _⟩⟩
                  unfold ReadR
                  rw [HFR.out]; rfl
                · have hae' : ((a : Int) == (L.size : Int)) = false := by simp; omega
                  have hal : a < L.size := by omega
                  obtain ⟨M, hM⟩ : ∃ M, L.extract (a + 1) L.size = M := ⟨_, rfl⟩
                  have HBM : Sl (bytes M = (bytes L).drop (a + 1)) := ⟨by rw [← hM, bytes_extract, List.take_of_length_le (by rw [bytes_length]; exact Nat.le_refl _)]⟩
                  have HMS : Sl (M.size = L.size - (a + 1)) := ⟨by rw [← hM, ByteArray.size_extract]; omega⟩
                  have hMm : M.size + (a + 1) ≤ L.size := by have := HMS.out; omega
                  have HMM : Sl (M.size ≤ maxLen) := ⟨by unfold maxLen; omega⟩
                  obtain ⟨b, hb⟩ : ∃ b, idx 32 (bytes M) = b := ⟨_, rfl⟩
                  have HBB := Sl.mk hb
                  have hble : b ≤ M.size := by rw [← hb, ← bytes_length]; exact idx_le _ _
                  have q0 : (0 : Int) ≤ (a : Int) := by omega
                  have q1 : (a : Int) + 1 ≤ (L.size : Int) := by omega
                  clear hb
                  go_wp2_with fail
                  refine (at_n M 32 _ b HBB.out HMM.out).mono ?_
                  rintro e w5 ⟨rfl, rfl⟩
                  have HML2 : Sl ((bytes M).length = L.size - (a + 1)) := ⟨by rw [bytes_length, HMS.out]⟩
                  have HR1 : Sl (rd1 (bytes L) = if b = L.size - (a + 1) then none else some ((bytes L).take a, (bytes M).take b, (bytes M).drop (b + 1))) := ⟨by
                    rw [rd1_idx, HA.out, if_neg (by rw [HLL.out]; exact hae), ← HBM.out, HBB.out, HML2.out]⟩
                  by_cases hbe : b = L.size - (a + 1)
                  · have hbe' : ((a : Int) + 1 + (b : Int) == (L.size : Int)) = true := by simp; omega
                    have HFR : Sl (rd (bytes s) = .form) := ⟨by
                      rw [rd_U HFS.out, cond_first_no (by rw [← HU0.out]; exact HEI.out) (by rw [← HU0.out, ← HLB.out, HR1.out, if_pos hbe])]⟩
                    go_wp2
                    refine bodyPost_ret (ret_head3 rfl _ _ W.heap.size 25 _ (0, 0) rfl (four_cells _ _ _ _ _ _ _ _ _ _ HX.out) rfl) rfl ?_
                    refine ⟨⟨?_⟩, ⟨(((HB.out.setCell (Nat.le_refl _) _).setCell (Nat.le_refl _) _).setCell (Nat.le_refl _) _).setCell (Nat.le_refl _) _⟩⟩
                    unfold ReadR
                    rw [HFR.out]; rfl
                  · have hbe' : ((a : Int) + 1 + (b : Int) == (L.size : Int)) = false := by simp; omega
                    have HCN : Sl (Cond ((bytes s).take (j + 2)) (k + i + 2) false ⟨L.extract 0 a, L.extract (a + 1) (a + 1 + b), L.extract (a + 1 + b + 1) L.size, h.fs⟩) := ⟨by
                      have e : h.fs = [] := by rw [HK.out.2]; rfl
                      rw [e, show k + i + 2 = i + 2 by rw [HK.out.1]; omega]
                      refine cond_first (by rw [← HU0.out]; exact HEI.out) ?_
                      rw [← HU0.out, ← HLB.out, HR1.out, if_neg hbe, HBM.out]
                      congr 2
                      · rw [bytes_extract, List.drop_zero]
                      · congr 1
                        · rw [bytes_extract, List.drop_take]; congr 1; omega
                        · rw [bytes_extract, List.take_of_length_le (by rw [bytes_length]; exact Nat.le_refl _), List.drop_drop]; congr 1⟩
                    obtain ⟨R, hR⟩ : ∃ R, wr.drew = R := ⟨_, rfl⟩
                    have HRE : RD W W.heap.size w1.heap.size (w1.heap.size + 1) h (.slice va h.fs.length vc) R := by rw [← hR]; exact HRD.out.below (Below.refl _ _).drew
                    have HBD : Below W.heap.size W R := HRE.b
                    have HRN := Sl.mk (HRE.first (L.extract 0 a) (L.extract (a + 1) (a + 1 + b)) (L.extract (a + 1 + b + 1) L.size))
                    obtain ⟨⟨p0, p1, p2, p3⟩, ⟨g0, g1, g2, g3⟩⟩ := HRE.cells
                    clear d0 d1 d2 d3 f0 f1 f2 f3
                    go_wp2
                    have y0 : IntKind.i64.wrap ((a : Int) + 1) = (a : Int) + 1 := IntWalk.i64_in _ (by omega)
                    have y1 : IntKind.i64.wrap ((a : Int) + 1 + (b : Int) + 1) = (a : Int) + 1 + (b : Int) + 1 := IntWalk.i64_in _ (by omega)
                    have y2 : (a : Int) ≤ (L.size : Int) := by omega
                    have y3 : (0 : Int) ≤ (a : Int) + 1 := by omega
                    have y4 : (a : Int) + 1 ≤ (a : Int) + 1 + (b : Int) := by omega
                    have y5 : (a : Int) + 1 + (b : Int) ≤ (L.size : Int) := by omega
                    have y6 : (0 : Int) ≤ (a : Int) + 1 + (b : Int) + 1 := by omega
                    have y7 : (a : Int) + 1 + (b : Int) + 1 ≤ (L.size : Int) := by omega
                    have y8 : ((a : Int) + 1).toNat = a + 1 := by omega
                    have y9 : ((a : Int) + 1 + (b : Int)).toNat = a + 1 + b := by omega
                    have y10 : ((a : Int) + 1 + (b : Int) + 1).toNat = a + 1 + b + 1 := by omega
                    refine wp_region_noPanic ?_
                    refine wp_region_held (S := fun Z => Below W.heap.size W Z) (by kernel_rfl) ?_
                    change wpAnyH _ _ _ _ _ _ _ _ wr.drew
                    rw [hR]
                    clear hR
                    refine heldTake (d := some 90) (op := Go.Op.move (Go.Operand.tmp 11)) (g := none) 0 ?v0r rfl (by kernel_rfl) (by kernel_rfl) (by kernel_rfl) (by kernel_rfl) ?y0r HBD ?_
                    case y0r => intro o ho w _; simp only [execOp, ho]; go_simp; try rfl
                    simp only [Act.put, List.setIfInBounds_toArray, List.set_cons_zero, List.set_cons_succ]
                    refine heldTake (d := some 91) (op := Go.Op.move (Go.Operand.tmp 12)) (g := none) 1 ?v1r rfl (by kernel_rfl) (by kernel_rfl) (by kernel_rfl) (by kernel_rfl) ?y1r HBD ?_
                    case y1r => intro o ho w _; simp only [execOp, ho]; go_simp; try rfl
                    simp only [Act.put, List.setIfInBounds_toArray, List.set_cons_zero, List.set_cons_succ]
                    refine heldTake (d := some 92) (op := Go.Op.slice 9 (Go.Operand.tmp 90) none (some (Go.Operand.tmp 91)) none) (g := none) 2 ?v2r rfl (by kernel_rfl) (by kernel_rfl) (by kernel_rfl) (by kernel_rfl) ?y2r HBD ?_
                    case y2r => intro o ho w _; simp only [execOp, ho]; go_simp; try rfl
                    simp only [Act.put, List.setIfInBounds_toArray, List.set_cons_zero, List.set_cons_succ]
                    refine heldTake (d := some 93) (op := Go.Op.move (Go.Operand.tmp 11)) (g := none) 3 ?v3r rfl (by kernel_rfl) (by kernel_rfl) (by kernel_rfl) (by kernel_rfl) ?y3r HBD ?_
                    case y3r => intro o ho w _; simp only [execOp, ho]; go_simp; try rfl
                    simp only [Act.put, List.setIfInBounds_toArray, List.set_cons_zero, List.set_cons_succ]
                    refine heldTake (d := some 94) (op := Go.Op.move (Go.Operand.tmp 12)) (g := none) 4 ?v4r rfl (by kernel_rfl) (by kernel_rfl) (by kernel_rfl) (by kernel_rfl) ?y4r HBD ?_
                    case y4r => intro o ho w _; simp only [execOp, ho]; go_simp; try rfl
                    simp only [Act.put, List.setIfInBounds_toArray, List.set_cons_zero, List.set_cons_succ]
                    refine heldTake (d := some 95) (op := Go.Op.binOp Go.BinOp.add 3 (Go.Operand.tmp 94) (Go.Operand.const (Go.Value.int Go.IntKind.i64 1)) 3) (g := none) 5 ?v5r rfl (by kernel_rfl) (by kernel_rfl) (by kernel_rfl) (by kernel_rfl) ?y5r HBD ?_
                    case y5r => intro o ho w _; simp only [execOp, ho]; go_simp; try rfl
                    simp only [Act.put, List.setIfInBounds_toArray, List.set_cons_zero, List.set_cons_succ]
                    refine heldTake (d := some 96) (op := Go.Op.move (Go.Operand.tmp 13)) (g := none) 6 ?v6r rfl (by kernel_rfl) (by kernel_rfl) (by kernel_rfl) (by kernel_rfl) ?y6r HBD ?_
                    case y6r => intro o ho w _; simp only [execOp, ho]; go_simp; try rfl
                    simp only [Act.put, List.setIfInBounds_toArray, List.set_cons_zero, List.set_cons_succ]
                    refine heldTake (d := some 97) (op := Go.Op.slice 9 (Go.Operand.tmp 93) (some (Go.Operand.tmp 95)) (some (Go.Operand.tmp 96)) none) (g := none) 7 ?v7r rfl (by kernel_rfl) (by kernel_rfl) (by kernel_rfl) (by kernel_rfl) ?y7r HBD ?_
                    case y7r => intro o ho w _; simp only [execOp, ho]; go_simp; try rfl
                    simp only [Act.put, List.setIfInBounds_toArray, List.set_cons_zero, List.set_cons_succ]
                    refine heldTake (d := some 98) (op := Go.Op.move (Go.Operand.tmp 11)) (g := none) 8 ?v8r rfl (by kernel_rfl) (by kernel_rfl) (by kernel_rfl) (by kernel_rfl) ?y8r HBD ?_
                    case y8r => intro o ho w _; simp only [execOp, ho]; go_simp; try rfl
                    simp only [Act.put, List.setIfInBounds_toArray, List.set_cons_zero, List.set_cons_succ]
                    refine heldTake (d := some 99) (op := Go.Op.move (Go.Operand.tmp 13)) (g := none) 9 ?v9r rfl (by kernel_rfl) (by kernel_rfl) (by kernel_rfl) (by kernel_rfl) ?y9r HBD ?_
                    case y9r => intro o ho w _; simp only [execOp, ho]; go_simp; try rfl
                    simp only [Act.put, List.setIfInBounds_toArray, List.set_cons_zero, List.set_cons_succ]
                    refine heldTake (d := some 100) (op := Go.Op.binOp Go.BinOp.add 3 (Go.Operand.tmp 99) (Go.Operand.const (Go.Value.int Go.IntKind.i64 1)) 3) (g := none) 10 ?v10r rfl (by kernel_rfl) (by kernel_rfl) (by kernel_rfl) (by kernel_rfl) ?y10r HBD ?_
                    case y10r => intro o ho w _; simp only [execOp, ho]; go_simp; try rfl
                    simp only [Act.put, List.setIfInBounds_toArray, List.set_cons_zero, List.set_cons_succ]
                    refine heldTake (d := some 101) (op := Go.Op.slice 9 (Go.Operand.tmp 98) (some (Go.Operand.tmp 100)) none none) (g := none) 11 ?v11r rfl (by kernel_rfl) (by kernel_rfl) (by kernel_rfl) (by kernel_rfl) ?y11r HBD ?_
                    case y11r => intro o ho w _; simp only [execOp, ho]; go_simp; try rfl
                    simp only [Act.put, List.setIfInBounds_toArray, List.set_cons_zero, List.set_cons_succ]
                    refine heldTake (d := some 102) (op := Go.Op.build 22 #[(0, Go.Operand.tmp 92), (1, Go.Operand.tmp 97), (2, Go.Operand.tmp 101)]) (g := none) 12 ?v12r rfl (by kernel_rfl) (by kernel_rfl) (by kernel_rfl) (by kernel_rfl) ?y12r HBD ?_
                    case y12r => intro o ho w _; simp only [execOp, ho]; go_simp; try rfl
                    simp only [Act.put, List.setIfInBounds_toArray, List.set_cons_zero, List.set_cons_succ]
                    refine heldTake (d := some 103) (op := Go.Op.fieldAddr 25 (Go.Operand.tmp 7) 0) (g := none) 13 ?v13r rfl (by kernel_rfl) (by kernel_rfl) (by kernel_rfl) (by kernel_rfl) ?y13r HBD ?_
                    case y13r => intro o ho w _; simp only [execOp, ho]; go_simp; try rfl
                    simp only [Act.put, List.setIfInBounds_toArray, List.set_cons_zero, List.set_cons_succ]
                    refine heldStore (d := none) (op := Go.Op.store 22 (Go.Operand.tmp 103) (Go.Operand.tmp 102)) (g := none) 14 (((R.setCell ⟨w1.heap.size, 0, none⟩ (.string (L.extract 0 a))).setCell ⟨w1.heap.size, 1, none⟩ (.string (L.extract (a + 1) (a + 1 + b)))).setCell ⟨w1.heap.size, 2, none⟩ (.string (L.extract (a + 1 + b + 1) L.size))) rfl (by kernel_rfl) (by kernel_rfl) ?y14r HRN.out.b ?_
                    case y14r => intro o ho ht; simp only [execOp, ho]; go_simp; try rfl
                    simp only [Act.put]
                    refine wpAnyH_done (by kernel_rfl) ?_ _
                    refine NoPanic.normal ?_
                    have HSZ2 : Sl (HdV.Siz ⟨L.extract 0 a, L.extract (a + 1) (a + 1 + b), L.extract (a + 1 + b + 1) L.size, h.fs⟩) := ⟨⟨by simp only [ByteArray.size_extract]; omega, by simp only [ByteArray.size_extract]; omega, by simp only [ByteArray.size_extract]; omega, HSZ.out.f⟩⟩
                    clear y0 y1 y2 y3 y4 y5 y6 y7 y8 y9 y10 p0 p1 p2 p3 g0 g1 g2 g3
                    go_wp2
                    go_roundw
                    case rel => exact ⟨k + i + 2, false, _, _, rfl, by go_num, by omega, HSZ2, by show h.fs.length ≤ _; omega, HCN, HRN⟩
                    case measure => simp [intOf]; omega
              | false =>
                have HX : Sl (wr.heap[W.heap.size]? = some (.cells #[.string { data := #[] }, .string { data := #[] }, .string { data := #[] }, .slice none 0 0] 25 (0, 0))) := ⟨HRD.out.x2⟩
                have HB : Sl (Below W.heap.size W wr) := ⟨HRD.out.b⟩
                obtain ⟨z0, z1⟩ := zero_cells HX.out
                obtain ⟨d0, d1, d2, d3⟩ := z0
                obtain ⟨f0, f1, f2, f3⟩ := z1
                have HML : Sl (L.size ≤ maxLen) := ⟨by unfold maxLen; omega⟩
                obtain ⟨a, ha⟩ : ∃ a, idx 58 (bytes L) = a := ⟨_, rfl⟩
                have HA := Sl.mk ha
                have hale : a ≤ L.size := by rw [← ha, ← bytes_length]; exact idx_le _ _
                have HLL : Sl ((bytes L).length = L.size) := ⟨bytes_length L⟩
                clear ha
                go_wp2_with fail
                refine (at_n L 58 _ a HA.out HML.out).mono ?_
                rintro e w5 ⟨rfl, rfl⟩
                by_cases hae : a = L.size
                · have hae' : ((a : Int) == (L.size : Int)) = true := by simp [hae]
                  have HFR : Sl (rd (bytes s) = .form) := ⟨by
                    rw [rd_U HFS.out, cond_next_no HC.out HEI.out (by rw [← HLB.out, rdF_idx, if_pos (by rw [HA.out, HLL.out, hae])])]⟩
                  go_wp2
                  refine bodyPost_ret (ret_head3 rfl _ _ W.heap.size 25 _ (0, 0) rfl (four_cells _ _ _ _ _ _ _ _ _ _ HX.out) rfl) rfl ?_
                  refine ⟨⟨?_⟩, ⟨(((HB.out.setCell (Nat.le_refl _) _).setCell (Nat.le_refl _) _).setCell (Nat.le_refl _) _).setCell (Nat.le_refl _) _⟩⟩
                  unfold ReadR
                  rw [HFR.out]; rfl
                · have hae' : ((a : Int) == (L.size : Int)) = false := by simp; omega
                  have hal : a < L.size := by omega
                  obtain ⟨M, hM⟩ : ∃ M, L.extract (a + 1) L.size = M := ⟨_, rfl⟩
                  obtain ⟨N, hN⟩ : ∃ N, L.extract 0 a = N := ⟨_, rfl⟩
                  have HBM : Sl (bytes M = (bytes L).drop (a + 1)) := ⟨by rw [← hM, bytes_extract, List.take_of_length_le (by rw [bytes_length]; exact Nat.le_refl _)]⟩
                  have HBN : Sl (bytes N = (bytes L).take a) := ⟨by rw [← hN, bytes_extract, List.drop_zero]⟩
                  have HMS : Sl (M.size = L.size - (a + 1)) := ⟨by rw [← hM, ByteArray.size_extract]; omega⟩
                  have HNS : Sl (N.size ≤ 2500) := ⟨by rw [← hN, ByteArray.size_extract]; omega⟩
                  have hMm : M.size + (a + 1) ≤ L.size := by have := HMS.out; omega
                  have HMM : Sl (M.size ≤ maxLen) := ⟨by unfold maxLen; omega⟩
                  obtain ⟨R, hR⟩ : ∃ R, wr.drew = R := ⟨_, rfl⟩
                  have HRE : RD W W.heap.size w1.heap.size (w1.heap.size + 1) h (.slice va h.fs.length vc) R := by rw [← hR]; exact HRD.out.below (Below.refl _ _).drew
                  have HBD : Below W.heap.size W R := HRE.b
                  obtain ⟨⟨p0, p1, p2, p3⟩, ⟨g0, g1, g2, g3⟩⟩ := HRE.cells
                  clear d0 d1 d2 d3 f0 f1 f2 f3
                  go_wp2
                  have y0 : IntKind.i64.wrap ((a : Int) + 1) = (a : Int) + 1 := IntWalk.i64_in _ (by omega)
                  have y2 : (a : Int) ≤ (L.size : Int) := by omega
                  have y3 : (0 : Int) ≤ (a : Int) + 1 := by omega
                  have y7 : (a : Int) + 1 ≤ (L.size : Int) := by omega
                  have y8 : ((a : Int) + 1).toNat = a + 1 := by omega
                  refine wp_region_noPanic ?_
                  refine wp_region_held (S := fun Z => Below W.heap.size W Z) (by kernel_rfl) ?_
                  change wpAnyH _ _ _ _ _ _ _ _ wr.drew
                  rw [hR]
                  clear hR
                  refine heldTake (d := some 111) (op := Go.Op.fieldAddr 25 (Go.Operand.tmp 7) 1) (g := none) 0 ?v0q rfl (by kernel_rfl) (by kernel_rfl) (by kernel_rfl) (by kernel_rfl) ?y0q HBD ?_
                  case y0q => intro o ho w _; simp only [execOp, ho]; go_simp; try rfl
                  simp only [Act.put, List.setIfInBounds_toArray, List.set_cons_zero, List.set_cons_succ]
                  refine heldTake (d := some 113) (op := Go.Op.move (Go.Operand.tmp 11)) (g := none) 2 ?v2q rfl (by kernel_rfl) (by kernel_rfl) (by kernel_rfl) (by kernel_rfl) ?y2q HBD ?_
                  case y2q => intro o ho w _; simp only [execOp, ho]; go_simp; try rfl
                  simp only [Act.put, List.setIfInBounds_toArray, List.set_cons_zero, List.set_cons_succ]
                  refine heldTake (d := some 114) (op := Go.Op.move (Go.Operand.tmp 14)) (g := none) 3 ?v3q rfl (by kernel_rfl) (by kernel_rfl) (by kernel_rfl) (by kernel_rfl) ?y3q HBD ?_
                  case y3q => intro o ho w _; simp only [execOp, ho]; go_simp; try rfl
                  simp only [Act.put, List.setIfInBounds_toArray, List.set_cons_zero, List.set_cons_succ]
                  refine heldTake (d := some 115) (op := Go.Op.slice 9 (Go.Operand.tmp 113) none (some (Go.Operand.tmp 114)) none) (g := none) 4 ?v4q rfl (by kernel_rfl) (by kernel_rfl) (by kernel_rfl) (by kernel_rfl) ?y4q HBD ?_
                  case y4q => intro o ho w _; simp only [execOp, ho]; go_simp; try rfl
                  simp only [Act.put, List.setIfInBounds_toArray, List.set_cons_zero, List.set_cons_succ]
                  refine heldTake (d := some 116) (op := Go.Op.move (Go.Operand.tmp 11)) (g := none) 5 ?v5q rfl (by kernel_rfl) (by kernel_rfl) (by kernel_rfl) (by kernel_rfl) ?y5q HBD ?_
                  case y5q => intro o ho w _; simp only [execOp, ho]; go_simp; try rfl
                  simp only [Act.put, List.setIfInBounds_toArray, List.set_cons_zero, List.set_cons_succ]
                  refine heldTake (d := some 117) (op := Go.Op.move (Go.Operand.tmp 14)) (g := none) 6 ?v6q rfl (by kernel_rfl) (by kernel_rfl) (by kernel_rfl) (by kernel_rfl) ?y6q HBD ?_
                  case y6q => intro o ho w _; simp only [execOp, ho]; go_simp; try rfl
                  simp only [Act.put, List.setIfInBounds_toArray, List.set_cons_zero, List.set_cons_succ]
                  refine heldTake (d := some 118) (op := Go.Op.binOp Go.BinOp.add 3 (Go.Operand.tmp 117) (Go.Operand.const (Go.Value.int Go.IntKind.i64 1)) 3) (g := none) 7 ?v7q rfl (by kernel_rfl) (by kernel_rfl) (by kernel_rfl) (by kernel_rfl) ?y7q HBD ?_
                  case y7q => intro o ho w _; simp only [execOp, ho]; go_simp; try rfl
                  simp only [Act.put, List.setIfInBounds_toArray, List.set_cons_zero, List.set_cons_succ]
                  refine heldTake (d := some 119) (op := Go.Op.slice 9 (Go.Operand.tmp 116) (some (Go.Operand.tmp 118)) none none) (g := none) 8 ?v8q rfl (by kernel_rfl) (by kernel_rfl) (by kernel_rfl) (by kernel_rfl) ?y8q HBD ?_
                  case y8q => intro o ho w _; simp only [execOp, ho]; go_simp; try rfl
                  simp only [Act.put, List.setIfInBounds_toArray, List.set_cons_zero, List.set_cons_succ]
                  refine heldLC (di := some 112) (opi := Go.Op.load 23 (Go.Operand.tmp 111)) (gi := none) (dj := some 120) (opj := Go.Op.call { callee := Go.Callee.value (Go.Operand.func 38), args := #[Go.Operand.tmp 119], argTypes := #[9] }) (gj := none) 1 9 (.slice va h.fs.length vc) 38 #[.string M] rfl rfl (by kernel_rfl) (by kernel_rfl) (by kernel_rfl) ?y1q ?y9q HBD ?n1q ?n9q
                  case y1q => intro o ho; simp only [execOp, ho]; go_simp; try rfl
                  case y9q => intro o ho; simp only [execOp, ho]; go_simp; try rfl
                  case n1q =>
                    simp only [Act.put, List.setIfInBounds_toArray, List.set_cons_zero, List.set_cons_succ]
                    refine heldCall (d := some 120) (op := Go.Op.call { callee := Go.Callee.value (Go.Operand.func 38), args := #[Go.Operand.tmp 119], argTypes := #[9] }) (g := none) 9 38 #[.string M] rfl (by kernel_rfl) (by kernel_rfl) ?y9q1 ?_
                    case y9q1 => intro o ho; simp only [execOp, ho]; go_simp; try rfl
                    refine (trim_n _ _ HMM.out).mono ?_
                    rintro e w6 ⟨tv, rfl, HTV, rfl⟩
                    refine ⟨_, rfl, HBD, ?_⟩
                    simp only [Act.put, List.setIfInBounds_toArray, List.set_cons_zero, List.set_cons_succ]
                    refine heldTake (d := some 121) (op := Go.Op.build 48 #[(0, Go.Operand.tmp 115), (1, Go.Operand.tmp 120)]) (g := none) 10 ?v10q1 rfl (by kernel_rfl) (by kernel_rfl) (by kernel_rfl) (by kernel_rfl) ?y10q1 HBD ?_
                    case y10q1 => intro o ho w _; simp only [execOp, ho]; go_simp; try rfl
                    simp only [Act.put, List.setIfInBounds_toArray, List.set_cons_zero, List.set_cons_succ]
                    have HTZ : tv.size ≤ 2500 := by
                      have h1 := trim_length (bytes M)
                      rw [← HTV.out, bytes_length, bytes_length] at h1
                      omega
                    have HRF : Sl (rdF ((((bytes s).take (j + 2)).drop k).take i) = some (fN (N, tv))) := ⟨by
                      rw [← HLB.out, rdF_idx, HA.out, if_neg (by rw [HLL.out]; exact hae)]
                      unfold fN
                      rw [HBN.out, HTV.out, HBM.out]⟩
                    have HRZ : RD W W.heap.size w1.heap.size (w1.heap.size + 1) h (.slice va h.fs.length vc) (R.alloc (.cells #[.string N, .string tv] 48)) := HRE.alloc _
                    refine heldRunT (d := some 122) (op := Go.Op.buildSlice 23 1 #[(0, Go.Operand.tmp 121)]) (g := none) 11 (.slice (some ⟨R.heap.size, 0, none⟩) 1 1) (R.alloc (.cells #[.string N, .string tv] 48)) rfl (by kernel_rfl) (by kernel_rfl) ?y11q1 HRZ.b ?_
                    case y11q1 => intro o ho ht; simp only [execOp, ho]; go_simp; try rfl
                    simp only [Act.put, List.setIfInBounds_toArray, List.set_cons_zero, List.set_cons_succ]
                    obtain ⟨v2, w7, hr6, ho6, hg6⟩ := add_one' HRZ.o (by omega) HRZ.sz (alloc_new R _ _ rfl)
                    obtain ⟨av, cv, rfl⟩ := owns_slice' ho6
                    have HB7 : Below W.heap.size W w7 := HRZ.b.grown hg6 HRZ.b.size (fun q hq => by have := (HRZ.o.lt q hq).1; have := HRZ.l2; have := HRZ.w2; omega)
                    have HR7 := HRZ.app (N, tv) ho6 hg6
                    have HX7 : w7.heap[w1.heap.size]? = some (.cells #[.string h.a, .string h.b, .string h.c, .slice va h.fs.length vc] 25 (0, 0)) := by
                      have hb : Below (w1.heap.size + 1) (R.alloc (.cells #[.string N, .string tv] 48)) w7 := (Below.refl _ _).grown hg6 HRZ.sz (fun q hq => (HRZ.o.lt q hq).1)
                      rw [hb.block _ HRZ.l7]; exact HRZ.x7
                    refine heldRunT (d := some 123) (op := Go.Op.call { callee := Go.Callee.builtin Go.Builtin.append, args := #[Go.Operand.tmp 112, Go.Operand.tmp 122], argTypes := #[23, 23] }) (g := none) 12 (.slice av (h.fs ++ [(N, tv)]).length cv) w7 rfl (by kernel_rfl) (by kernel_rfl) ?y12q1 HB7 ?_
                    case y12q1 => intro o ho ht; simp only [execOp, ho, ht, resolve, invoke, builtin, Sem.run_bind, Sem.run_pure, Result.andThen_ok, List.map_toArray, List.map_cons, List.map_nil]; refine (congrArg (fun r => Result.andThen r _) hr6).trans ?_; rfl
                    simp only [Act.put, List.setIfInBounds_toArray, List.set_cons_zero, List.set_cons_succ]
                    refine heldTake (d := some 124) (op := Go.Op.fieldAddr 25 (Go.Operand.tmp 7) 1) (g := none) 13 ?v13q1 rfl (by kernel_rfl) (by kernel_rfl) (by kernel_rfl) (by kernel_rfl) ?y13q1 HB7 ?_
                    case y13q1 => intro o ho w _; simp only [execOp, ho]; go_simp; try rfl
                    simp only [Act.put, List.setIfInBounds_toArray, List.set_cons_zero, List.set_cons_succ]
                    refine heldStore (d := none) (op := Go.Op.store 23 (Go.Operand.tmp 124) (Go.Operand.tmp 123)) (g := none) 14 (w7.setCell ⟨w1.heap.size, 3, none⟩ (.slice av (h.fs ++ [(N, tv)]).length cv)) rfl (by kernel_rfl) (by kernel_rfl) ?y14q1 HR7.b ?_
                    case y14q1 => intro o ho ht; have c0 := (head_cells HX7).2.2.2; have g0 := frozen_of_row _ _ 3 _ _ HX7; simp only [execOp, ho]; go_simp; try rfl
                    simp only [Act.put]
                    refine wpAnyH_done (by kernel_rfl) ?_ _
                    refine NoPanic.normal ?_
                    have HCN : Sl (Cond ((bytes s).take (j + 2)) (k + i + 2) false ⟨h.a, h.b, h.c, h.fs ++ [(N, tv)]⟩) := ⟨cond_next HC.out HEI.out HRF.out⟩
                    have HSZ2 : Sl (HdV.Siz ⟨h.a, h.b, h.c, h.fs ++ [(N, tv)]⟩) := ⟨⟨HSZ.out.a, HSZ.out.b, HSZ.out.c, fun f hf => by
                      rcases List.mem_append.1 hf with hf | hf
                      · exact HSZ.out.f f hf
                      · rw [List.mem_singleton] at hf
                        subst hf
                        exact ⟨by have := HNS.out; show N.size ≤ _; omega, by show tv.size ≤ _; omega⟩⟩⟩
                    have HRN := Sl.mk HR7
                    have hfl2 : (h.fs ++ [(N, tv)]).length ≤ k + i + 2 := by rw [List.length_append]; simp only [List.length_cons, List.length_nil]; omega
                    clear y0 y2 y3 y7 y8 HX7 HR7 ho6 hg6 hr6 HRZ HRE HB7
                    go_wp2
                    go_roundw
                    case rel => exact ⟨k + i + 2, false, _, _, rfl, by go_num, by omega, HSZ2, hfl2, HCN, HRN⟩
                    case measure => simp [intOf]; omega
                  case n9q =>
                    refine (trim_n _ _ HMM.out).mono ?_
                    rintro e w6 ⟨tv, rfl, HTV, rfl⟩
                    refine ⟨_, rfl, HBD, ?_⟩
                    simp only [Act.put, List.setIfInBounds_toArray, List.set_cons_zero, List.set_cons_succ]
                    refine heldTake (d := some 121) (op := Go.Op.build 48 #[(0, Go.Operand.tmp 115), (1, Go.Operand.tmp 120)]) (g := none) 10 ?v10q2 rfl (by kernel_rfl) (by kernel_rfl) (by kernel_rfl) (by kernel_rfl) ?y10q2 HBD ?_
                    case y10q2 => intro o ho w _; simp only [execOp, ho]; go_simp; try rfl
                    simp only [Act.put, List.setIfInBounds_toArray, List.set_cons_zero, List.set_cons_succ]
                    have HTZ : tv.size ≤ 2500 := by
                      have h1 := trim_length (bytes M)
                      rw [← HTV.out, bytes_length, bytes_length] at h1
                      omega
                    have HRF : Sl (rdF ((((bytes s).take (j + 2)).drop k).take i) = some (fN (N, tv))) := ⟨by
                      rw [← HLB.out, rdF_idx, HA.out, if_neg (by rw [HLL.out]; exact hae)]
                      unfold fN
                      rw [HBN.out, HTV.out, HBM.out]⟩
                    have HRZ : RD W W.heap.size w1.heap.size (w1.heap.size + 1) h (.slice va h.fs.length vc) (R.alloc (.cells #[.string N, .string tv] 48)) := HRE.alloc _
                    refine heldTwo (di := some 112) (opi := Go.Op.load 23 (Go.Operand.tmp 111)) (gi := none) (dj := some 122) (opj := Go.Op.buildSlice 23 1 #[(0, Go.Operand.tmp 121)]) (gj := none) 1 11 (.slice va h.fs.length vc) R (.slice (some ⟨R.heap.size, 0, none⟩) 1 1) (R.alloc (.cells #[.string N, .string tv] 48)) rfl rfl (by kernel_rfl) (by kernel_rfl) (by kernel_rfl) ?y1q2 ?y11q2 HBD HRZ.b ?n1q2 ?n11q2
                    case y1q2 => intro o ho _; simp only [execOp, ho]; go_simp; try rfl
                    case y11q2 => intro o ho _; simp only [execOp, ho]; go_simp; try rfl
                    case n1q2 =>
                      simp only [Act.put, List.setIfInBounds_toArray, List.set_cons_zero, List.set_cons_succ]
                      refine heldRunT (d := some 122) (op := Go.Op.buildSlice 23 1 #[(0, Go.Operand.tmp 121)]) (g := none) 11 (.slice (some ⟨R.heap.size, 0, none⟩) 1 1) (R.alloc (.cells #[.string N, .string tv] 48)) rfl (by kernel_rfl) (by kernel_rfl) ?y11q2a HRZ.b ?_
                      case y11q2a => intro o ho ht; simp only [execOp, ho]; go_simp; try rfl
                      simp only [Act.put, List.setIfInBounds_toArray, List.set_cons_zero, List.set_cons_succ]
                      obtain ⟨v2, w7, hr6, ho6, hg6⟩ := add_one' HRZ.o (by omega) HRZ.sz (alloc_new R _ _ rfl)
                      obtain ⟨av, cv, rfl⟩ := owns_slice' ho6
                      have HB7 : Below W.heap.size W w7 := HRZ.b.grown hg6 HRZ.b.size (fun q hq => by have := (HRZ.o.lt q hq).1; have := HRZ.l2; have := HRZ.w2; omega)
                      have HR7 := HRZ.app (N, tv) ho6 hg6
                      have HX7 : w7.heap[w1.heap.size]? = some (.cells #[.string h.a, .string h.b, .string h.c, .slice va h.fs.length vc] 25 (0, 0)) := by
                        have hb : Below (w1.heap.size + 1) (R.alloc (.cells #[.string N, .string tv] 48)) w7 := (Below.refl _ _).grown hg6 HRZ.sz (fun q hq => (HRZ.o.lt q hq).1)
                        rw [hb.block _ HRZ.l7]; exact HRZ.x7
                      refine heldRunT (d := some 123) (op := Go.Op.call { callee := Go.Callee.builtin Go.Builtin.append, args := #[Go.Operand.tmp 112, Go.Operand.tmp 122], argTypes := #[23, 23] }) (g := none) 12 (.slice av (h.fs ++ [(N, tv)]).length cv) w7 rfl (by kernel_rfl) (by kernel_rfl) ?y12q2a HB7 ?_
                      case y12q2a => intro o ho ht; simp only [execOp, ho, ht, resolve, invoke, builtin, Sem.run_bind, Sem.run_pure, Result.andThen_ok, List.map_toArray, List.map_cons, List.map_nil]; refine (congrArg (fun r => Result.andThen r _) hr6).trans ?_; rfl
                      simp only [Act.put, List.setIfInBounds_toArray, List.set_cons_zero, List.set_cons_succ]
                      refine heldTake (d := some 124) (op := Go.Op.fieldAddr 25 (Go.Operand.tmp 7) 1) (g := none) 13 ?v13q2a rfl (by kernel_rfl) (by kernel_rfl) (by kernel_rfl) (by kernel_rfl) ?y13q2a HB7 ?_
                      case y13q2a => intro o ho w _; simp only [execOp, ho]; go_simp; try rfl
                      simp only [Act.put, List.setIfInBounds_toArray, List.set_cons_zero, List.set_cons_succ]
                      refine heldStore (d := none) (op := Go.Op.store 23 (Go.Operand.tmp 124) (Go.Operand.tmp 123)) (g := none) 14 (w7.setCell ⟨w1.heap.size, 3, none⟩ (.slice av (h.fs ++ [(N, tv)]).length cv)) rfl (by kernel_rfl) (by kernel_rfl) ?y14q2a HR7.b ?_
                      case y14q2a => intro o ho ht; have c0 := (head_cells HX7).2.2.2; have g0 := frozen_of_row _ _ 3 _ _ HX7; simp only [execOp, ho]; go_simp; try rfl
                      simp only [Act.put]
                      refine wpAnyH_done (by kernel_rfl) ?_ _
                      refine NoPanic.normal ?_
                      have HCN : Sl (Cond ((bytes s).take (j + 2)) (k + i + 2) false ⟨h.a, h.b, h.c, h.fs ++ [(N, tv)]⟩) := ⟨cond_next HC.out HEI.out HRF.out⟩
                      have HSZ2 : Sl (HdV.Siz ⟨h.a, h.b, h.c, h.fs ++ [(N, tv)]⟩) := ⟨⟨HSZ.out.a, HSZ.out.b, HSZ.out.c, fun f hf => by
                        rcases List.mem_append.1 hf with hf | hf
                        · exact HSZ.out.f f hf
                        · rw [List.mem_singleton] at hf
                          subst hf
                          exact ⟨by have := HNS.out; show N.size ≤ _; omega, by show tv.size ≤ _; omega⟩⟩⟩
                      have HRN := Sl.mk HR7
                      have hfl2 : (h.fs ++ [(N, tv)]).length ≤ k + i + 2 := by rw [List.length_append]; simp only [List.length_cons, List.length_nil]; omega
                      clear y0 y2 y3 y7 y8 HX7 HR7 ho6 hg6 hr6 HRZ HRE HB7
                      go_wp2
                      go_roundw
                      case rel => exact ⟨k + i + 2, false, _, _, rfl, by go_num, by omega, HSZ2, hfl2, HCN, HRN⟩
                      case measure => simp [intOf]; omega
                    case n11q2 =>
                      simp only [Act.put, List.setIfInBounds_toArray, List.set_cons_zero, List.set_cons_succ]
                      refine heldRunT (d := some 112) (op := Go.Op.load 23 (Go.Operand.tmp 111)) (g := none) 1 (.slice va h.fs.length vc) (R.alloc (.cells #[.string N, .string tv] 48)) rfl (by kernel_rfl) (by kernel_rfl) ?y1q2b HRZ.b ?_
                      case y1q2b => intro o ho ht; obtain ⟨⟨e0, e1, e2, e3⟩, _⟩ := HRZ.cells; simp only [execOp, ho]; go_simp; try rfl
                      simp only [Act.put, List.setIfInBounds_toArray, List.set_cons_zero, List.set_cons_succ]
                      obtain ⟨v2, w7, hr6, ho6, hg6⟩ := add_one' HRZ.o (by omega) HRZ.sz (alloc_new R _ _ rfl)
                      obtain ⟨av, cv, rfl⟩ := owns_slice' ho6
                      have HB7 : Below W.heap.size W w7 := HRZ.b.grown hg6 HRZ.b.size (fun q hq => by have := (HRZ.o.lt q hq).1; have := HRZ.l2; have := HRZ.w2; omega)
                      have HR7 := HRZ.app (N, tv) ho6 hg6
                      have HX7 : w7.heap[w1.heap.size]? = some (.cells #[.string h.a, .string h.b, .string h.c, .slice va h.fs.length vc] 25 (0, 0)) := by
                        have hb : Below (w1.heap.size + 1) (R.alloc (.cells #[.string N, .string tv] 48)) w7 := (Below.refl _ _).grown hg6 HRZ.sz (fun q hq => (HRZ.o.lt q hq).1)
                        rw [hb.block _ HRZ.l7]; exact HRZ.x7
                      refine heldRunT (d := some 123) (op := Go.Op.call { callee := Go.Callee.builtin Go.Builtin.append, args := #[Go.Operand.tmp 112, Go.Operand.tmp 122], argTypes := #[23, 23] }) (g := none) 12 (.slice av (h.fs ++ [(N, tv)]).length cv) w7 rfl (by kernel_rfl) (by kernel_rfl) ?y12q2b HB7 ?_
                      case y12q2b => intro o ho ht; simp only [execOp, ho, ht, resolve, invoke, builtin, Sem.run_bind, Sem.run_pure, Result.andThen_ok, List.map_toArray, List.map_cons, List.map_nil]; refine (congrArg (fun r => Result.andThen r _) hr6).trans ?_; rfl
                      simp only [Act.put, List.setIfInBounds_toArray, List.set_cons_zero, List.set_cons_succ]
                      refine heldTake (d := some 124) (op := Go.Op.fieldAddr 25 (Go.Operand.tmp 7) 1) (g := none) 13 ?v13q2b rfl (by kernel_rfl) (by kernel_rfl) (by kernel_rfl) (by kernel_rfl) ?y13q2b HB7 ?_
                      case y13q2b => intro o ho w _; simp only [execOp, ho]; go_simp; try rfl
                      simp only [Act.put, List.setIfInBounds_toArray, List.set_cons_zero, List.set_cons_succ]
                      refine heldStore (d := none) (op := Go.Op.store 23 (Go.Operand.tmp 124) (Go.Operand.tmp 123)) (g := none) 14 (w7.setCell ⟨w1.heap.size, 3, none⟩ (.slice av (h.fs ++ [(N, tv)]).length cv)) rfl (by kernel_rfl) (by kernel_rfl) ?y14q2b HR7.b ?_
                      case y14q2b => intro o ho ht; have c0 := (head_cells HX7).2.2.2; have g0 := frozen_of_row _ _ 3 _ _ HX7; simp only [execOp, ho]; go_simp; try rfl
                      simp only [Act.put]
                      refine wpAnyH_done (by kernel_rfl) ?_ _
                      refine NoPanic.normal ?_
                      have HCN : Sl (Cond ((bytes s).take (j + 2)) (k + i + 2) false ⟨h.a, h.b, h.c, h.fs ++ [(N, tv)]⟩) := ⟨cond_next HC.out HEI.out HRF.out⟩
                      have HSZ2 : Sl (HdV.Siz ⟨h.a, h.b, h.c, h.fs ++ [(N, tv)]⟩) := ⟨⟨HSZ.out.a, HSZ.out.b, HSZ.out.c, fun f hf => by
                        rcases List.mem_append.1 hf with hf | hf
                        · exact HSZ.out.f f hf
                        · rw [List.mem_singleton] at hf
                          subst hf
                          exact ⟨by have := HNS.out; show N.size ≤ _; omega, by show tv.size ≤ _; omega⟩⟩⟩
                      have HRN := Sl.mk HR7
                      have hfl2 : (h.fs ++ [(N, tv)]).length ≤ k + i + 2 := by rw [List.length_append]; simp only [List.length_cons, List.length_nil]; omega
                      clear y0 y2 y3 y7 y8 HX7 HR7 ho6 hg6 hr6 HRZ HRE HB7
                      go_wp2
                      go_roundw
                      case rel => exact ⟨k + i + 2, false, _, _, rfl, by go_num, by omega, HSZ2, hfl2, HCN, HRN⟩
                      case measure => simp [intOf]; omega
        · have HKE : Sl (k = j + 2) := ⟨by omega⟩
          clear hkj hkc
          have hge : ((k : Int) < (j : Int) + 2) = False := eq_false (by have := HKE.out; omega)
          have HE : Sl (rdL (lines ((bytes s).take (j + 2))) = some h.hd) := ⟨cond_end HC.out (by rw [HUL.out]; have := HKE.out; omega) (by rw [HUL.out]; omega)⟩
          have HFD : Sl (FieldsAt wr (.slice va h.fs.length vc) h.fs) := ⟨fieldsAt_owns HRD.out.o HSZ.out.f (by have := HKE.out; omega)⟩
          obtain ⟨⟨p0, p1, p2, p3⟩, _⟩ := HRD.out.cells
          obtain ⟨fo, hfo⟩ : ∃ z, formB h.hd = z := ⟨_, rfl⟩
          have HFO2 := Sl.mk hfo
          have HFX : Sl (Calls Tryd.prog 29 #[.agg #[.string h.a, .string h.b, .string h.c, .slice va h.fs.length vc]] wr fun e w' => e = .returned (.bool fo) ∧ Sl (Below wr.heap.size wr w')) := ⟨by rw [← hfo]; exact formR_any h _ wr HFD.out HSZ.out.fit⟩
          have HRR : Sl (rd (bytes s) = if fo = true then (if 32 < h.fs.length then .long else .ok h.hd (j + 4)) else .form) := ⟨by
            rw [rd_U HFS.out, HE.out, ← hfo]
            have e : h.hd.fs.length = h.fs.length := List.length_map _
            simp only [e]⟩
          clear hfo
          go_wp2_with fail
          refine HFX.out.mono ?_
          rintro e w5 ⟨rfl, HB5⟩
          have HR5 := Sl.mk (HRD.out.below HB5.out)
          have HFD5 := Sl.mk (HFD.out.below HB5.out)
          have HX : Sl (w5.heap[W.heap.size]? = some (.cells #[.string { data := #[] }, .string { data := #[] }, .string { data := #[] }, .slice none 0 0] 25 (0, 0))) := ⟨HR5.out.x2⟩
          have HB : Sl (Below W.heap.size W w5) := ⟨HR5.out.b⟩
          clear p0 p1 p2 p3 HFX HRD HFD
          obtain ⟨⟨p0, p1, p2, p3⟩, _⟩ := HR5.out.cells
          obtain ⟨z0, z1⟩ := zero_cells HX.out
          obtain ⟨d0, d1, d2, d3⟩ := z0
          obtain ⟨f0, f1, f2, f3⟩ := z1
          cases fo with
          | false =>
            have HFR : Sl (rd (bytes s) = .form) := ⟨by rw [HRR.out]; rfl⟩
            go_wp2
            refine bodyPost_ret (ret_head3 rfl _ _ W.heap.size 25 _ (0, 0) rfl (four_cells _ _ _ _ _ _ _ _ _ _ HX.out) rfl) rfl ?_
            refine ⟨⟨?_⟩, ⟨(((HB.out.setCell (Nat.le_refl _) _).setCell (Nat.le_refl _) _).setCell (Nat.le_refl _) _).setCell (Nat.le_refl _) _⟩⟩
            unfold ReadR
            rw [HFR.out]; rfl
          | true =>
            by_cases h32 : 32 < h.fs.length
            · have h32' : (h.fs.length : Int) > 32 := by omega
              have HFR : Sl (rd (bytes s) = .long) := ⟨by rw [HRR.out, if_pos rfl, if_pos h32]⟩
              go_wp2
              refine bodyPost_ret (ret_head3 rfl _ _ W.heap.size 25 _ (0, 0) rfl (four_cells _ _ _ _ _ _ _ _ _ _ HX.out) rfl) rfl ?_
              refine ⟨⟨?_⟩, ⟨(((HB.out.setCell (Nat.le_refl _) _).setCell (Nat.le_refl _) _).setCell (Nat.le_refl _) _).setCell (Nat.le_refl _) _⟩⟩
              unfold ReadR
              rw [HFR.out]; rfl
            · have h32' : ((h.fs.length : Int) > 32) = False := eq_false (by omega)
              have HFR : Sl (rd (bytes s) = .ok h.hd (j + 4)) := ⟨by rw [HRR.out, if_pos rfl, if_neg h32]⟩
              have HOW := Sl.mk HR5.out.o
              have HOL : Sl ((Value.slice va h.fs.length vc).ownBlock ≠ some W.heap.size) := ⟨fun e => by
                have h1 := (HOW.out.lt _ e).1
                have h2 := HR5.out.l2
                omega⟩
              go_wp2
              refine bodyPost_ret (ret_head3 rfl _ _ W.heap.size 25 _ (0, 0) rfl (four_cells _ _ _ _ _ _ _ _ _ _ HX.out) rfl) rfl ?_
              refine ⟨⟨?_⟩, ⟨(((HB.out.setCell (Nat.le_refl _) _).setCell (Nat.le_refl _) _).setCell (Nat.le_refl _) _).setCell (Nat.le_refl _) _⟩⟩
              unfold ReadR
              rw [HFR.out]
              refine ⟨h, _, rfl, rfl, HSZ.out, ?_⟩
              exact fieldsAt_owns (ownsRow_setCell_other (ownsRow_setCell_other (ownsRow_setCell_other (ownsRow_setCell_other HOW.out HOL.out _) HOL.out _) HOL.out _) HOL.out _) HSZ.out.f (by have := HKE.out; omega)
end Go.Proofs.YtcohecghibndhaaDoor
