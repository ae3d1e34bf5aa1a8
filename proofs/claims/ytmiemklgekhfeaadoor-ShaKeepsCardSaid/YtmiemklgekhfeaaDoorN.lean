/- ShaKeeps, the walk: whatever string and byte are handed over, the law's Go text returns true, and nothing that was in memory changes. Conditions: the two tables of package sha are as its text lays them; the string fits in memory. -/
import Derived.Test.YtmiemklgekhfeaaDoorFill
namespace Go.Proofs.YtmiemklgekhfeaaDoor
open Go.RowKit

/-- The bytes of a string, made new, and free to be written. -/
theorem conv_free (s : ByteArray) (W : World) : ∃ cap w', (convert 9 26 (.string s)).run Tryd.prog W = .ok (.slice (some ⟨W.heap.size, 0, none⟩) s.size cap) w' ∧
    Sl (∀ b, b ≠ W.heap.size → SrcAt w' b (.slice (some ⟨W.heap.size, 0, none⟩) s.size cap) (bytes s)) ∧ Sl (w'.there W.heap.size 0 s.size) ∧ Sl (Below W.heap.size W w') := by
  obtain ⟨cap, w', h1, h2, h3⟩ := conv_str s W
  refine ⟨cap, w', h1, h2, ⟨fun j hj => ?_⟩, h3⟩
  have h := run_bytes_of_string (P := Tryd.prog) W 9 26 5 s Tryd.underlying9 Tryd.underlying26 Tryd.underlying5
  rw [h1] at h
  injection h with _ hw
  subst hw
  have hr : s.size ≤ (bytesRow s (grownCap W s.size 0 5)).size := by
    unfold bytesRow
    rw [Array.size_append, Array.size_map]
    exact Nat.le_add_right _ _
  refine ⟨?_, ?_⟩
  · rw [Nat.zero_add]
    have h := World.cell?_alloc_mark W.drew (bytesRow s (grownCap W s.size 0 5)) 5 ((bytesRow s (grownCap W s.size 0 5)).size, (bytesRow s (grownCap W s.size 0 5)).size + 1) j
    rw [show W.drew.heap.size = W.heap.size from rfl] at h
    rw [h, bytesRow_at s _ j hj]
    rfl
  · rw [Nat.zero_add]
    have h := World.frozen?_alloc_mark W.drew (bytesRow s (grownCap W s.size 0 5)) 5 (bytesRow s (grownCap W s.size 0 5)).size ((bytesRow s (grownCap W s.size 0 5)).size + 1) j
    rw [show W.drew.heap.size = W.heap.size from rfl] at h
    rw [h, decide_eq_false (show ¬ (bytesRow s (grownCap W s.size 0 5)).size ≤ j by omega)]
    rfl

/-- What the loop of ShaKeeps holds to. -/
def KR (w5 : World) (G n v k : Nat) (wr : World) : Prop := wr.there G 0 n ∧ wr.rangeAt G 0 (u8s (reps k v)) ∧ w5.grownBy wr (some G)
theorem there_setCell {w : World} {G n i : Nat} {v : Value} (h : w.there G 0 n) : (w.setCell ⟨G, i, none⟩ v).there G 0 n := fun j hj => by
  have := World.there_setCells h G i [v] j hj
  simpa [World.setCells] using this
theorem KR.next {w5 wr : World} {G n v k : Nat} (h : KR w5 G n v k wr) (hk : k < n) : KR w5 G n v (k + 1) (wr.setCell ⟨G, k, none⟩ (.int .u8 (v : Int))) := by
  obtain ⟨h1, h2, h3⟩ := h
  refine ⟨there_setCell h1, fun j u hu => ?_, grown_trans h3 (grown_setCell _ _ _ _)⟩
  have hj : j < k + 1 := by simpa [reps_length] using (List.getElem?_eq_some_iff.1 hu).1
  have hu' : u = .int .u8 (v : Int) := by
    rw [u8s_get _ j (by rw [reps_length]; exact hj)] at hu
    injection hu with hu
    rw [← hu]
    simp [reps, List.getD, hj]
  subst hu'
  rw [Nat.zero_add]
  by_cases e : j = k
  · subst e
    obtain ⟨x, hx⟩ := Option.isSome_iff_exists.1 (h1 j hk).1
    rw [Nat.zero_add] at hx
    exact World.cell?_setCell_same _ _ _ hx
  · rw [World.cell?_setCell_other _ _ _ _ (fun e' => e (by injection e' with _ e'; exact e'.symm))]
    have := h2 j _ (u8s_get (reps k v) j (by rw [reps_length]; omega))
    rw [Nat.zero_add] at this
    rw [this]
    simp [reps, List.getD, show j < k by omega]

set_option maxHeartbeats 1000000 in
theorem keeps_long (a : ByteArray) (v : Nat) (w : World) (hg : Globs w) (h1 : 200 < a.size) (ha : a.size ≤ maxLen) :
    Calls Tryd.prog 7 #[.string a, .int .u8 v] w fun e w' => e = .returned (.bool true) ∧ Below w.heap.size w w' := by
  unfold maxLen at ha
  have HG := Sl.mk hg
  clear hg
  go_enter Tryd.func7, Tryd.ntmps7
  go_wp2_with fail
  refine (new_ex _ HG.out).mono ?_
  rintro e w1 ⟨rfl, HS1, HB1⟩
  go_wp2_with fail
  refine (awake_ex w _ HB1.out HG.out).mono ?_
  rintro e w2 ⟨rfl, HX2, HB2⟩
  go_wp2_with fail
  refine (awake_ex w _ HB2.out HG.out).mono ?_
  rintro e w3 ⟨rfl, HX3, HB3⟩
  go_wp2
  go_ret
  exact ⟨rfl, HB3.out⟩

set_option maxHeartbeats 1000000 in
theorem keeps_short (a : ByteArray) (v : Nat) (w : World) (hg : Globs w) (h1 : a.size ≤ 200) :
    Calls Tryd.prog 7 #[.string a, .int .u8 v] w fun e w' => e = .returned (.bool true) ∧ Below w.heap.size w w' := by
  have HG := Sl.mk hg
  clear hg
  go_enter Tryd.func7, Tryd.ntmps7
  go_wp2_with fail
  refine (new_ex _ HG.out).mono ?_
  rintro e w1 ⟨rfl, HS1, HB1⟩
  go_wp2_with fail
  refine (awake_ex w _ HB1.out HG.out).mono ?_
  rintro e w2 ⟨rfl, HX2, HB2⟩
  have HS2 : Sl (SumAt w2 w.heap.size st0) := ⟨sumAt_below HS1.out HX2.out⟩
  clear HS1 HB1 HX2
  obtain ⟨c4, w4, hc4, HV4, HT4, HB4⟩ := conv_free a w2
  have HS4 : Sl (SumAt w4 w.heap.size st0) := ⟨sumAt_below HS2.out HB4.out⟩
  have HB04 : Sl (Below w.heap.size w w4) := ⟨HB2.out.trans (HB4.out.mono HB2.out.size)⟩
  have HNE : Sl (w.heap.size < w2.heap.size) := ⟨sumAt_lt HS2.out⟩
  go_wp2_with fail
  refine (add_ex w _ w.heap.size st0 (bytes a) _ (Nat.le_refl _) HB04.out HG.out HS4.out okSt0 (HV4.out _ (by have := HNE.out; omega)) (bytes_small a) (by rw [bytes_length]; show 0 + _ < _; omega)).mono ?_
  rintro e w5 ⟨rfl, HS5, HB5, HX5⟩
  have OK1 : Sl (OkSt (feed st0 (bytes a))) := ⟨okSt0.feed (bytes_small a).mem⟩
  have HL1 : Sl ((feed st0 (bytes a)).L = a.size) := ⟨by rw [feed_L, bytes_length]; show 0 + _ = _; omega⟩
  have HK0 : Sl (KR w5 w2.heap.size a.size v 0 w5) := ⟨⟨fun j hj => by
    obtain ⟨h1, h2⟩ := HT4.out j hj
    have hne : some w2.heap.size ≠ some w.heap.size := fun e => by injection e with e; have := HNE.out; omega
    obtain ⟨x, hx⟩ := Option.isSome_iff_exists.1 h1
    have hlt := block_lt_of_cell hx
    rw [World.cell?_of_block (w := w4) (HX5.out.block _ hlt hne), World.frozen?_of_block (w := w4) (HX5.out.block _ hlt hne)]
    exact ⟨h1, h2⟩, fun j u hu => by simp [u8s, reps] at hu, grown_refl _ _⟩⟩
  clear HX5 hc4 HV4 HB4 HS4 HB04 HS2 HB2 HT4
  obtain ⟨s1, hs1⟩ : ∃ s1, s1 = feed st0 (bytes a) := ⟨_, rfl⟩
  have HE1 := Sl.mk hs1
  rw [← hs1] at HS5 OK1 HL1
  clear hs1
  obtain ⟨G, hG⟩ : ∃ G, G = w2.heap.size := ⟨_, rfl⟩
  rw [← hG] at HNE HK0
  go_wp2_with fail
  rw [← hG]
  clear hG
  go_loopw [7] (fun i wr => ∃ k : Nat, k ≤ a.size ∧ i = .int .i64 k ∧ KR w5 G a.size v k wr) (fun i _ => a.size - (intOf i).toNat)
  case atStart => exact ⟨0, by omega, rfl, HK0.out⟩
  case round =>
    clear HK0
    obtain ⟨k, hk, rfl, hrel⟩ := hrel
    have HR := Sl.mk hrel
    by_cases hlt : k < a.size
    · obtain ⟨x, cx⟩ := Option.isSome_iff_exists.1 (hrel.1 k hlt).1
      have fx := (hrel.1 k hlt).2
      rw [Nat.zero_add] at cx fx
      clear hrel
      go_wp2
      go_roundw
      case rel => exact ⟨k + 1, by omega, by go_num, HR.out.next hlt⟩
      case measure => simp [intOf]; omega
    · have hge : a.size ≤ k := by omega
      have HRG : Sl (wr.rangeAt G 0 (u8s (reps a.size v))) := ⟨by
        have e : k = a.size := by omega
        have := hrel.2.1
        rw [e] at this; exact this⟩
      have HSW : Sl (SumAt wr w.heap.size s1) := ⟨by
        show _ = _
        rw [hrel.2.2.block _ (sumAt_lt HS5.out) (fun e => by injection e with e; have := HNE.out; omega)]; exact HS5.out⟩
      have HBW : Sl (Below w.heap.size w wr) := ⟨HB5.out.trans ⟨hrel.2.2.os, hrel.2.2.tape, hrel.2.2.output, hrel.2.2.size, fun k hk => hrel.2.2.block k (by have := HB5.out.size; omega) (fun e => by injection e with e; have := HNE.out; omega)⟩⟩
      have HGT : Sl (0 < a.size → G < wr.heap.size) := ⟨fun h => block_lt_of_cell (HRG.out 0 _ (u8s_get _ 0 (by rw [reps_length]; exact h)))⟩
      clear hrel HR hlt hk HS5 HB5
      go_wp2_with fail
      refine (told_ex w.heap.size s1 _ HSW.out OK1.out (HG.out.below HBW.out HG.out.size) (by rw [HL1.out]; omega)).mono ?_
      rintro e w6 ⟨bt, HBT, HBL, rfl, HB6⟩
      have HB06 : Sl (Below w.heap.size w w6) := ⟨HBW.out.trans (HB6.out.mono HBW.out.size)⟩
      have HR6 : Sl (w6.rangeAt G 0 (u8s (reps a.size v))) := ⟨fun j u hu => by
        have hj : j < a.size := by simpa [reps_length] using (List.getElem?_eq_some_iff.1 hu).1
        rw [HB6.out.cell (p := ⟨G, 0 + j, none⟩) (HGT.out (by omega))]; exact HRG.out j u hu⟩
      have HG6 : Sl (0 < a.size → G < w6.heap.size) := ⟨fun h => by have := HGT.out h; have := HB6.out.size; omega⟩
      have HI24 : Sl ((Tryd.prog.info? 24).map (·.size) = some (u8s bt).toArray.size) := ⟨by
        have : (Tryd.prog.info? 24).map (·.size) = some 20 := by kernel_rfl
        simpa [HBL.out] using this⟩
      have HO20 : Sl ((u8s z20).toArray.size = (u8s bt).toArray.size) := ⟨by simp [HBL.out, z20]⟩
      clear HSW HBW HRG HGT HB6
      go_upto_region 11 with (refine wpList_store_row rfl 24 (.tmp 8) (.tmp 38) rfl w6.heap.size _ rfl rfl 24 _ (alloc_new _ _ _ rfl) HI24.out HO20.out (all_oneCell_toArray (u8s_one _)) ?_)
      generalize hw7 : World.setRow _ _ _ = wz
      have HRT : Sl (wz.rangeAt w6.heap.size 0 (u8s bt)) := ⟨by rw [← hw7]; exact range_setRow _ _ (alloc_new _ _ _ rfl)⟩
      have HB67 : Sl (Below w6.heap.size w6 wz) := ⟨by rw [← hw7]; exact below_setRow ((Below.refl _ _).alloc (Nat.le_refl _) _) (Nat.le_refl _) _⟩
      have HZ7 : Sl (wz.heap.size = w6.heap.size + 1) := ⟨by rw [← hw7, setRow_size, alloc_size]⟩
      clear hw7
      have HBZ : Sl (Below w.heap.size w wz) := ⟨HB06.out.trans (HB67.out.mono HB06.out.size)⟩
      have HRGZ : Sl (wz.rangeAt G 0 (u8s (reps a.size v))) := ⟨fun j u hu => by
        have hj : j < a.size := by simpa [reps_length] using (List.getElem?_eq_some_iff.1 hu).1
        rw [HB67.out.cell (p := ⟨G, 0 + j, none⟩) (HG6.out (by omega))]; exact HR6.out j u hu⟩
      have hGZ : 0 < a.size → G < wz.heap.size := fun h => by have := HG6.out h; rw [HZ7.out]; omega
      have hTA : w6.heap.size < wz.heap.size := by rw [HZ7.out]; omega
      clear HB06 HB67 HZ7 HI24 HO20 HR6 HG6
      have HGG := Sl.mk hGZ
      clear hGZ
      generalize w6.heap.size = T8 at *
      clear w6
      have HGZ : Sl (Globs wz) := ⟨HG.out.below HBZ.out HG.out.size⟩
      have HSM : Sl (Small 256 bt) := ⟨by rw [HBT.out]; exact told_small _⟩
      have q1 := eql_u8s bt HBL.out HSM.out
      have q2 := eqlIn_u8s bt HBL.out HSM.out
      have HT1 : Sl (bt = told (feed st0 (bytes a))) := ⟨by rw [HBT.out, HE1.out]⟩
      have HI24 : Sl ((Tryd.prog.info? 24).map (·.size) = some (u8s bt).length) := ⟨by
        have : (Tryd.prog.info? 24).map (·.size) = some 20 := by kernel_rfl
        simpa [HBL.out] using this⟩
      have hqs : ((strOf (reps a.size v)) == (strOf (reps a.size v))) = true := by rw [beq_toListBytes]; simp
      have HK : Sl (∀ W, Below wz.heap.size wz W → W.rangeAt T8 0 (u8s bt) ∧ W.rangeAt G 0 (u8s (reps a.size v)) ∧ Below wz.heap.size wz W) := ⟨fun W h =>
        ⟨fun j u hu => by rw [h.cell (p := ⟨T8, 0 + j, none⟩) hTA]; exact HRT.out j u hu, fun j u hu => by
          have hj : j < a.size := by simpa [reps_length] using (List.getElem?_eq_some_iff.1 hu).1
          rw [h.cell (p := ⟨G, 0 + j, none⟩) (HGG.out (by omega))]; exact HRGZ.out j u hu, h⟩⟩
      have HWZ : Below wz.heap.size wz wz.drew := (Below.refl _ _).drew
      refine wp_region_noPanic ?_
      refine wp_region_held (S := fun W => W.rangeAt T8 0 (u8s bt) ∧ W.rangeAt G 0 (u8s (reps a.size v)) ∧ Below wz.heap.size wz W) (by kernel_rfl) ?_
      change wpAnyH _ _ _ _ _ _ _ _ wz.drew
      have HS0 := HK.out _ HWZ
      refine heldTake (d := (some 39)) (op := .load 24 (.tmp 8)) (g := none) 0 (.agg (u8s bt).toArray) rfl (by kernel_rfl) (by kernel_rfl) (by kernel_rfl) (by kernel_rfl) ?y0 HS0 ?_
      case y0 => intro o ho w hS; refine load_yields 24 (.tmp 8) T8 0 ?_ (u8s bt) (.array 20 5) (hS.1) Tryd.underlying24 rfl HI24.out o ho; kernel_rfl
      refine heldTake (d := (some 40)) (op := .move (.tmp 0)) (g := none) 1 (.string a) rfl (by kernel_rfl) (by kernel_rfl) (by kernel_rfl) (by kernel_rfl) ?y1 HS0 ?_
      case y1 => intro o ho w _; simp only [execOp, ho]; go_simp; try rfl
      obtain ⟨c13, w13, hc13, HV13, HB13⟩ := conv_str a wz.drew
      have HS13 := HK.out _ (below_step HWZ HB13.out)
      refine heldRun (d := (some 41)) (op := .convert 9 26 (.tmp 40)) (g := none) 2 (.slice (some ⟨wz.heap.size, 0, none⟩) a.size c13) (w13) rfl (by kernel_rfl) (by kernel_rfl) ?y2 HS13 ?_
      case y2 => intro o ho; simp only [execOp, ho]; go_simp
      refine heldCall (d := (some 42)) (op := .call { callee := .value (.func 11), args := #[.tmp 41], argTypes := #[26] }) (g := none) 3 11 #[.slice (some ⟨wz.heap.size, 0, none⟩) a.size c13] rfl (by kernel_rfl) (by kernel_rfl) ?y3 ?_
      case y3 => intro o ho; simp only [execOp, ho]; go_simp
      refine (ofW _ (HGZ.out.below HS13.2.2 HGZ.out.size) _ (bytes a) bt ⟨⟨_, HV13.out (wz.heap.size + 1) (by show _ ≠ wz.heap.size; omega)⟩⟩ (bytes_small a) (by rw [bytes_length]; omega) HT1).mono ?_
      rintro e w14 ⟨rfl, hb14⟩
      have HS14 := HK.out _ (below_step HS13.2.2 hb14)
      refine ⟨_, rfl, HS14, ?_⟩
      clear hc13
      refine heldTake (d := (some 43)) (op := .binOp .eql 24 (.tmp 39) (.tmp 42) 24) (g := none) 4 (.bool true) rfl (by kernel_rfl) (by kernel_rfl) (by kernel_rfl) (by kernel_rfl) ?y4 HS14 ?_
      case y4 => intro o ho w _; simp only [execOp, ho]; go_simp; try rfl
      refine heldTake (d := (some 44)) (op := .move (.tmp 43)) (g := none) 5 (.bool true) rfl (by kernel_rfl) (by kernel_rfl) (by kernel_rfl) (by kernel_rfl) ?y5 HS14 ?_
      case y5 => intro o ho w _; simp only [execOp, ho]; go_simp; try rfl
      refine heldTake (d := (some 45)) (op := .move (.tmp 6)) (g := (some (5, true))) 6 (.slice (some ⟨G, 0, none⟩) a.size c4) rfl (by kernel_rfl) (by kernel_rfl) (by kernel_rfl) (by kernel_rfl) ?y6 HS14 ?_
      case y6 => intro o ho w _; simp only [execOp, ho]; go_simp; try rfl
      refine heldTake (d := (some 46)) (op := .convert 26 9 (.tmp 45)) (g := (some (5, true))) 7 (.string (strOf (reps a.size v))) rfl (by kernel_rfl) (by kernel_rfl) (by kernel_rfl) (by kernel_rfl) ?y7 HS14 ?_
      case y7 => intro o ho W hS; have hcb := conv_back (c := c4) (reps a.size v) (reps_length a.size v) hS.2.1; simp only [execOp, ho]; go_simp
      refine heldTake (d := (some 47)) (op := .move (.tmp 0)) (g := (some (5, true))) 8 (.string a) rfl (by kernel_rfl) (by kernel_rfl) (by kernel_rfl) (by kernel_rfl) ?y8 HS14 ?_
      case y8 => intro o ho w _; simp only [execOp, ho]; go_simp; try rfl
      refine heldTake (d := (some 48)) (op := .call { callee := .builtin .len, args := #[.tmp 47], argTypes := #[9] }) (g := (some (5, true))) 9 (.int .i64 (a.size : Int)) rfl (by kernel_rfl) (by kernel_rfl) (by kernel_rfl) (by kernel_rfl) ?y9 HS14 ?_
      case y9 => intro o ho w _; simp only [execOp, ho]; go_simp; try rfl
      refine heldTake (d := (some 49)) (op := .move (.tmp 1)) (g := (some (5, true))) 10 (.int .u8 (v : Int)) rfl (by kernel_rfl) (by kernel_rfl) (by kernel_rfl) (by kernel_rfl) ?y10 HS14 ?_
      case y10 => intro o ho w _; simp only [execOp, ho]; go_simp; try rfl
      refine heldCall (d := (some 50)) (op := .call { callee := .value (.func 17), args := #[.tmp 48, .tmp 49], argTypes := #[3, 5] }) (g := (some (5, true))) 11 17 #[.int .i64 (a.size : Int), .int .u8 (v : Int)] rfl (by kernel_rfl) (by kernel_rfl) ?y11 ?_
      case y11 => intro o ho; simp only [execOp, ho]; go_simp
      refine (fill_any a.size v _ (by omega)).mono ?_
      rintro e w15 ⟨rfl, hb15⟩
      have HS15 := HK.out _ (below_step HS14.2.2 hb15)
      refine ⟨_, rfl, HS15, ?_⟩
      refine heldTake (d := (some 51)) (op := .binOp .eql 9 (.tmp 46) (.tmp 50) 9) (g := (some (5, true))) 12 (.bool true) rfl (by kernel_rfl) (by kernel_rfl) (by kernel_rfl) (by kernel_rfl) ?y12 HS15 ?_
      case y12 => intro o ho w _; simp only [execOp, ho]; go_simp; try rfl
      refine heldTake (d := (some 52)) (op := .pick (.tmp 44) (.tmp 51) (.const (.bool false))) (g := none) 13 (.bool true) rfl (by kernel_rfl) (by kernel_rfl) (by kernel_rfl) (by kernel_rfl) ?y13 HS15 ?_
      case y13 => intro o ho w _; simp only [execOp, ho]; go_simp; try rfl
      refine heldTake (d := (some 4)) (op := .assign (.tmp 52)) (g := none) 14 (.bool true) rfl (by kernel_rfl) (by kernel_rfl) (by kernel_rfl) (by kernel_rfl) ?y14 HS15 ?_
      case y14 => intro o ho w _; simp only [execOp, ho]; go_simp; try rfl
      refine wpAnyH_done (by kernel_rfl) ?_ _
      refine NoPanic.normal ?_
      go_wp2
      go_ret
      exact ⟨by kernel_rfl, HBZ.out.trans (HS15.2.2.mono HBZ.out.size)⟩

theorem keeps_walk (a : ByteArray) (v : Nat) (w : World) (hg : Globs w) (ha : a.size ≤ maxLen) :
    Calls Tryd.prog 7 #[.string a, .int .u8 v] w fun e w' => e = .returned (.bool true) ∧ Below w.heap.size w w' := by
  by_cases h : 200 < a.size
  · exact keeps_long a v w hg h ha
  · exact keeps_short a v w hg (by omega)
end Go.Proofs.YtmiemklgekhfeaaDoor
