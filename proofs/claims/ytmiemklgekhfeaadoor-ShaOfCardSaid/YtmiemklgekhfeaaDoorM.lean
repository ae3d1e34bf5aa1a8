/- ShaNothing, the walk: whatever two strings are handed over, the law's Go text returns true, and nothing that was in memory changes. Conditions: the two tables of package sha are as its text lays them; the strings fit in memory. -/
import Derived.Test.YtmiemklgekhfeaaDoorL
namespace Go.Proofs.YtmiemklgekhfeaaDoor
open Go.RowKit

theorem new_ex (w : World) (hg : Globs w) :
    Calls Tryd.prog 13 #[] w fun e w' => e = .returned (.pointer (some ⟨w.heap.size, 0, none⟩)) ∧ Sl (SumAt w' w.heap.size st0) ∧ Sl (Below w.heap.size w w') :=
  (new_any w hg).mono fun _ _ ⟨he, hw⟩ => ⟨he, ⟨by rw [hw]; exact alloc_new _ _ _ rfl⟩, ⟨by rw [hw]; exact (Below.refl _ _).alloc (Nat.le_refl _) _⟩⟩
theorem awake_ex (w0 W : World) (hB : Below w0.heap.size w0 W) (hg : Globs w0) : Calls Tryd.prog 9 #[] W fun e w' => e = .returned (.bool true) ∧ Sl (Below W.heap.size W w') ∧ Sl (Below w0.heap.size w0 w') :=
  (awake_any W (hg.below hB hg.size)).mono fun _ _ ⟨he, hb⟩ => ⟨he, ⟨hb⟩, ⟨hB.trans (hb.mono hB.size)⟩⟩

theorem range_setRow (w : World) {g : Nat} {old : Array Value} {t : TypeId} {fr : Nat × Nat} (l : List Value) (h : w.heap[g]? = some (.cells old t fr)) : (w.setRow g l.toArray).rangeAt g 0 l := fun j v hv => by
  rw [Nat.zero_add, cell_of_row _ _ _ _ _ _ (setRow_heap _ _ _ _ _ _ h)]
  simpa using hv
theorem src_empty (w : World) (b : Nat) (a : Option Addr) (c : Nat) : SrcAt w b (.slice a 0 c) [] := ⟨a, c, 0, 0, rfl, by simp, fun h => by simp at h, fun h => by simp at h, fun i hi => by simp at hi⟩
theorem range_grown {w w' : World} {b T : Nat} {l : List Value} (h : w.rangeAt T 0 l) (hg : w.grownBy w' (some b)) (hT : T ≠ b) (hlt : T < w.heap.size) : w'.rangeAt T 0 l := fun j v hv => by
  rw [World.cell?_of_block (w := w) (hg.block T hlt (fun e => hT (by injection e)))]; exact h j v hv

theorem keepTwo {wz W : World} {A B : Nat} {l m : List Value} (ha : Sl (wz.rangeAt A 0 l)) (hb : Sl (wz.rangeAt B 0 m)) (hA : A < wz.heap.size) (hB : B < wz.heap.size) (h : Below wz.heap.size wz W) :
    W.rangeAt A 0 l ∧ W.rangeAt B 0 m ∧ Below wz.heap.size wz W :=
  ⟨fun j v hv => by rw [h.cell (p := ⟨A, 0 + j, none⟩) hA]; exact ha.out j v hv, fun j v hv => by rw [h.cell (p := ⟨B, 0 + j, none⟩) hB]; exact hb.out j v hv, h⟩
theorem below_step {wz W w' : World} (h : Below wz.heap.size wz W) (hb : Below W.heap.size W w') : Below wz.heap.size wz w' := h.trans (hb.mono h.size)
theorem src_later {W w' : World} {v : Value} {bs : List Nat} (h : Sl (∃ b0, SrcAt W b0 v bs)) (hb : Below W.heap.size W w') : Sl (∃ b0, SrcAt w' b0 v bs) := h.out.elim fun _ h => ⟨⟨_, h.later hb (Nat.le_refl _)⟩⟩
theorem ofW (W : World) (hg : Globs W) (v : Value) (bs bt : List Nat) (hv : Sl (∃ b0, SrcAt W b0 v bs)) (hs : Small 256 bs) (hL : bs.length < 1000000000) (hbt : Sl (bt = told (feed st0 bs))) :
    Calls Tryd.prog 11 #[v] W fun e w' => e = .returned (.agg (u8s bt).toArray) ∧ Below W.heap.size W w' :=
  hv.out.elim fun b0 hv => (of_any b0 v bs W hv hs hg hL).mono fun _ _ ⟨b1, h1, _, he, hb⟩ => ⟨by rw [he, h1.out, hbt.out], hb.out⟩
theorem toldW (W : World) (hg : Globs W) (b : Nat) (s : St) (bt : List Nat) (hs : SumAt W b s) (ok : OkSt s) (hL : s.L < 1000000000) (hbt : Sl (bt = told s)) :
    Calls Tryd.prog 15 #[.pointer (some ⟨b, 0, none⟩)] W fun e w' => e = .returned (.agg (u8s bt).toArray) ∧ Below W.heap.size W w' :=
  (told_any b s W hs ok hg hL).mono fun _ _ ⟨he, hb⟩ => ⟨by rw [he, hbt.out], hb⟩

set_option maxHeartbeats 1000000 in
theorem nothing_long (a b : ByteArray) (w : World) (hg : Globs w) (h : 200 < a.size ∨ 200 < b.size) (ha : a.size ≤ maxLen) (hb : b.size ≤ maxLen) :
    Calls Tryd.prog 6 #[.string a, .string b] w fun e w' => e = .returned (.bool true) ∧ Below w.heap.size w w' := by
  unfold maxLen at ha hb
  have HG := Sl.mk hg
  clear hg
  by_cases h1 : 200 < a.size
  · clear h
    go_enter Tryd.func6, Tryd.ntmps6
    go_wp2_with fail
    refine (new_ex _ HG.out).mono ?_
    rintro e w1 ⟨rfl, HS1, HB1⟩
    go_wp2_with fail
    refine (awake_ex w _ HB1.out HG.out).mono ?_
    rintro e w2 ⟨rfl, HX2, HB2⟩
    go_wp2_with fail
    refine (awake_ex w _ HB2.out HG.out).mono ?_
    rintro e w3 ⟨rfl, HX3, HB3⟩
    go_wp2
    go_ret
    exact ⟨rfl, HB3.out⟩
  · have h2 : 200 < b.size := by omega
    clear h
    go_enter Tryd.func6, Tryd.ntmps6
    go_wp2_with fail
    refine (new_ex _ HG.out).mono ?_
    rintro e w1 ⟨rfl, HS1, HB1⟩
    go_wp2_with fail
    refine (awake_ex w _ HB1.out HG.out).mono ?_
    rintro e w2 ⟨rfl, HX2, HB2⟩
    go_wp2_with fail
    refine (awake_ex w _ HB2.out HG.out).mono ?_
    rintro e w3 ⟨rfl, HX3, HB3⟩
    go_wp2
    go_ret
    exact ⟨rfl, HB3.out⟩

set_option maxHeartbeats 1000000 in
theorem nothing_short (a b : ByteArray) (w : World) (hg : Globs w) (h1 : a.size ≤ 200) (h2 : b.size ≤ 200) :
    Calls Tryd.prog 6 #[.string a, .string b] w fun e w' => e = .returned (.bool true) ∧ Below w.heap.size w w' := by
  have HG := Sl.mk hg
  clear hg
  go_enter Tryd.func6, Tryd.ntmps6
  go_wp2_with fail
  refine (new_ex _ HG.out).mono ?_
  rintro e w1 ⟨rfl, HS1, HB1⟩
  go_wp2_with fail
  refine (awake_ex w _ HB1.out HG.out).mono ?_
  rintro e w2 ⟨rfl, HX2, HB2⟩
  have HS2 : Sl (SumAt w2 w.heap.size st0) := ⟨sumAt_below HS1.out HX2.out⟩
  clear HS1 HB1 HX2
  go_wp2_with fail
  refine (add_ex w _ w.heap.size st0 [] _ (Nat.le_refl _) HB2.out HG.out HS2.out okSt0 (src_nil _ _) (Small.of_mem (by decide) (by decide)) (by decide)).mono ?_
  rintro e w3 ⟨rfl, HS3, HB3, HX3⟩
  replace HS3 : Sl (SumAt w3 w.heap.size st0) := HS3
  clear HS2 HB2 HX3
  obtain ⟨c4, w4, hc4, HV4, HB4⟩ := conv_str a w3
  have HS4 : Sl (SumAt w4 w.heap.size st0) := ⟨sumAt_below HS3.out HB4.out⟩
  have HB04 : Sl (Below w.heap.size w w4) := ⟨HB3.out.trans (HB4.out.mono HB3.out.size)⟩
  have HNE : Sl (w.heap.size ≠ w3.heap.size) := ⟨by have := sumAt_lt HS3.out; omega⟩
  go_wp2_with fail
  refine (add_ex w _ w.heap.size st0 (bytes a) _ (Nat.le_refl _) HB04.out HG.out HS4.out okSt0 (HV4.out _ HNE.out) (bytes_small a) (by rw [bytes_length]; show 0 + _ < _; omega)).mono ?_
  rintro e w5 ⟨rfl, HS5, HB5, HX5⟩
  have OK1 : Sl (OkSt (feed st0 (bytes a))) := ⟨okSt0.feed (bytes_small a).mem⟩
  have HL1 : Sl ((feed st0 (bytes a)).L = a.size) := ⟨by rw [feed_L, bytes_length]; show 0 + _ = _; omega⟩
  clear HX5 hc4 HV4 HB4 HS4 HB04 HNE HS3 HB3
  obtain ⟨s1, hs1⟩ : ∃ s1, s1 = feed st0 (bytes a) := ⟨_, rfl⟩
  have HE1 := Sl.mk hs1
  rw [← hs1] at HS5 OK1 HL1
  clear hs1
  go_wp2_with fail
  refine (told_ex w.heap.size s1 _ HS5.out OK1.out (HG.out.below HB5.out HG.out.size) (by rw [HL1.out]; omega)).mono ?_
  rintro e w6 ⟨bt, HBT, HBL, rfl, HB6⟩
  have HS6 : Sl (SumAt w6 w.heap.size s1) := ⟨sumAt_below HS5.out HB6.out⟩
  have HB06 : Sl (Below w.heap.size w w6) := ⟨HB5.out.trans (HB6.out.mono HB5.out.size)⟩
  have HI24 : Sl ((Tryd.prog.info? 24).map (·.size) = some (u8s bt).toArray.size) := ⟨by
    have : (Tryd.prog.info? 24).map (·.size) = some 20 := by kernel_rfl
    simpa [HBL.out] using this⟩
  have HO20 : Sl ((u8s z20).toArray.size = (u8s bt).toArray.size) := ⟨by simp [HBL.out, z20]⟩
  clear HS5 HB5 HB6
  go_upto_region 7 with (refine wpList_store_row rfl 24 (.tmp 6) (.tmp 33) rfl w6.heap.size _ rfl rfl 24 _ (alloc_new _ _ _ rfl) HI24.out HO20.out (all_oneCell_toArray (u8s_one _)) ?_)
  generalize hw7 : World.setRow _ _ _ = w7
  have HR7 : Sl (w7.rangeAt w6.heap.size 0 (u8s bt)) := ⟨by rw [← hw7]; exact range_setRow _ _ (alloc_new _ _ _ rfl)⟩
  have HB67 : Sl (Below w6.heap.size w6 w7) := ⟨by rw [← hw7]; exact below_setRow ((Below.refl _ _).alloc (Nat.le_refl _) _) (Nat.le_refl _) _⟩
  have HZ7 : Sl (w7.heap.size = w6.heap.size + 1) := ⟨by rw [← hw7, setRow_size, alloc_size]⟩
  clear hw7
  have HS7 : Sl (SumAt w7 w.heap.size s1) := ⟨sumAt_below HS6.out HB67.out⟩
  have HB07 : Sl (Below w.heap.size w w7) := ⟨HB06.out.trans (HB67.out.mono HB06.out.size)⟩
  have HLT7 : Sl (w6.heap.size < w7.heap.size) := ⟨by rw [HZ7.out]; omega⟩
  have HNT6 : Sl (w.heap.size ≠ w6.heap.size) := ⟨by have := sumAt_lt HS6.out; omega⟩
  clear HS6 HB06 HB67 HZ7
  generalize w6.heap.size = T6 at *
  clear w6
  go_wp2_with fail
  refine (add_ex w _ w.heap.size s1 [] _ (Nat.le_refl _) (HB07.out.alloc HB07.out.size _) HG.out (sumAt_alloc HS7.out _) OK1.out (src_empty _ _ _ _) (Small.of_mem (by decide) (by decide)) (by rw [HL1.out]; show _ + 0 < _; omega)).mono ?_
  rintro e w8 ⟨rfl, HS8, HB8, HX8⟩
  replace HS8 : Sl (SumAt w8 w.heap.size s1) := HS8
  have HR8 : Sl (w8.rangeAt T6 0 (u8s bt)) := ⟨range_grown (World.rangeAt_alloc HR7.out _) HX8.out (Ne.symm HNT6.out) (by rw [alloc_size]; have := HLT7.out; omega)⟩
  have HLT8 : Sl (T6 < w8.heap.size) := ⟨by have := HX8.out.size; rw [alloc_size] at this; have := HLT7.out; omega⟩
  clear HX8 HR7 HLT7 HS7 HB07
  go_wp2_with fail
  refine (told_ex w.heap.size s1 _ HS8.out OK1.out (HG.out.below HB8.out HG.out.size) (by rw [HL1.out]; omega)).mono ?_
  rintro e w9 ⟨bt2, HBT2, HBL2, rfl, HB9⟩
  obtain rfl : bt2 = bt := by rw [HBT2.out, HBT.out]
  clear HBT2 HBL2
  have HS9 : Sl (SumAt w9 w.heap.size s1) := ⟨sumAt_below HS8.out HB9.out⟩
  have HB09 : Sl (Below w.heap.size w w9) := ⟨HB8.out.trans (HB9.out.mono HB8.out.size)⟩
  have HR9 : Sl (w9.rangeAt T6 0 (u8s bt2)) := ⟨fun j v hv => by rw [HB9.out.cell (p := ⟨T6, 0 + j, none⟩) HLT8.out]; exact HR8.out j v hv⟩
  have HLT9 : Sl (T6 < w9.heap.size) := ⟨by have := HB9.out.size; have := HLT8.out; omega⟩
  clear HS8 HB8 HB9 HR8 HLT8
  go_upto_region 9 with (refine wpList_store_row rfl 24 (.tmp 7) (.tmp 38) rfl w9.heap.size _ rfl rfl 24 _ (alloc_new _ _ _ rfl) HI24.out HO20.out (all_oneCell_toArray (u8s_one _)) ?_)
  generalize hw10 : World.setRow _ _ _ = w10
  have HRB : Sl (w10.rangeAt w9.heap.size 0 (u8s bt2)) := ⟨by rw [← hw10]; exact range_setRow _ _ (alloc_new _ _ _ rfl)⟩
  have HB910 : Sl (Below w9.heap.size w9 w10) := ⟨by rw [← hw10]; exact below_setRow ((Below.refl _ _).alloc (Nat.le_refl _) _) (Nat.le_refl _) _⟩
  have HZ10 : Sl (w10.heap.size = w9.heap.size + 1) := ⟨by rw [← hw10, setRow_size, alloc_size]⟩
  clear hw10
  have HS10 : Sl (SumAt w10 w.heap.size s1) := ⟨sumAt_below HS9.out HB910.out⟩
  have HB010 : Sl (Below w.heap.size w w10) := ⟨HB09.out.trans (HB910.out.mono HB09.out.size)⟩
  have HRA : Sl (w10.rangeAt T6 0 (u8s bt2)) := ⟨fun j v hv => by rw [HB910.out.cell (p := ⟨T6, 0 + j, none⟩) HLT9.out]; exact HR9.out j v hv⟩
  have HLTA : Sl (T6 < w10.heap.size) := ⟨by have := HB910.out.size; have := HLT9.out; omega⟩
  have HLTB : Sl (w9.heap.size < w10.heap.size) := ⟨by rw [HZ10.out]; omega⟩
  have HNT7 : Sl (w.heap.size ≠ w9.heap.size) := ⟨by have := sumAt_lt HS9.out; omega⟩
  clear HS9 HB09 HB910 HZ10 HR9 HLT9
  generalize w9.heap.size = T7 at *
  clear w9
  obtain ⟨c11, w11, hc11, HV11, HB11⟩ := conv_str b w10
  have HS11 : Sl (SumAt w11 w.heap.size s1) := ⟨sumAt_below HS10.out HB11.out⟩
  have HB011 : Sl (Below w.heap.size w w11) := ⟨HB010.out.trans (HB11.out.mono HB010.out.size)⟩
  have HNE : Sl (w.heap.size ≠ w10.heap.size) := ⟨by have := sumAt_lt HS10.out; omega⟩
  go_wp2_with fail
  refine (add_ex w _ w.heap.size s1 (bytes b) _ (Nat.le_refl _) HB011.out HG.out HS11.out OK1.out (HV11.out _ HNE.out) (bytes_small b) (by rw [HL1.out, bytes_length]; omega)).mono ?_
  rintro e wz ⟨rfl, HSZ, HBZ, HXZ⟩
  have HRA2 : Sl (wz.rangeAt T6 0 (u8s bt2)) := ⟨range_grown (fun j v hv => by rw [HB11.out.cell (p := ⟨T6, 0 + j, none⟩) HLTA.out]; exact HRA.out j v hv) HXZ.out (Ne.symm HNT6.out) (by have := HB11.out.size; have := HLTA.out; omega)⟩
  have HRB2 : Sl (wz.rangeAt T7 0 (u8s bt2)) := ⟨range_grown (fun j v hv => by rw [HB11.out.cell (p := ⟨T7, 0 + j, none⟩) HLTB.out]; exact HRB.out j v hv) HXZ.out (Ne.symm HNT7.out) (by have := HB11.out.size; have := HLTB.out; omega)⟩
  have hTA : T6 < wz.heap.size := by have := HB11.out.size; have := HLTA.out; have := HXZ.out.size; omega
  have hTB : T7 < wz.heap.size := by have := HB11.out.size; have := HLTB.out; have := HXZ.out.size; omega
  have OK2 : Sl (OkSt (feed s1 (bytes b))) := ⟨OK1.out.feed (bytes_small b).mem⟩
  have HL2 : Sl ((feed s1 (bytes b)).L = a.size + b.size) := ⟨by rw [feed_L, bytes_length, HL1.out]⟩
  clear HXZ hc11 HV11 HB11 HS11 HB011 HNE HRA HRB HLTA HLTB HS10 HB010 HNT6 HNT7 HI24 HO20
  obtain ⟨s2, hs2⟩ : ∃ s2, s2 = feed s1 (bytes b) := ⟨_, rfl⟩
  have HE2 := Sl.mk hs2
  rw [← hs2] at HSZ OK2 HL2
  clear hs2
  have HGZ : Sl (Globs wz) := ⟨HG.out.below HBZ.out HG.out.size⟩
  obtain ⟨b2, hb2⟩ : ∃ b2, b2 = told s2 := ⟨_, rfl⟩
  have HB2 := Sl.mk hb2
  have HBL2 : Sl (b2.length = 20) := ⟨by rw [hb2]; exact told_length _⟩
  have HSM2 : Sl (Small 256 b2) := ⟨by rw [hb2]; exact told_small _⟩
  clear hb2
  have HSM : Sl (Small 256 bt2) := ⟨by rw [HBT.out]; exact told_small _⟩
  have q1 := eql_u8s bt2 HBL.out HSM.out
  have q2 := eqlIn_u8s bt2 HBL.out HSM.out
  have q3 := eql_u8s b2 HBL2.out HSM2.out
  have q4 := eqlIn_u8s b2 HBL2.out HSM2.out
  have HT1 : Sl (bt2 = told (feed st0 (bytes a))) := ⟨by rw [HBT.out, HE1.out]⟩
  have HT2 : Sl (b2 = told (feed st0 (bytes (a ++ b)))) := ⟨by rw [bytes_append, feed_append, ← HE1.out, ← HE2.out, HB2.out]⟩
  have HI24 : Sl ((Tryd.prog.info? 24).map (·.size) = some (u8s bt2).length) := ⟨by
    have : (Tryd.prog.info? 24).map (·.size) = some 20 := by kernel_rfl
    simpa [HBL.out] using this⟩
  go_wp2_with fail
  have hab : a.size + b.size ≤ 9223372036854775807 := by omega
  have HWZ : Below wz.heap.size wz wz.drew := (Below.refl _ _).drew
  refine wp_region_noPanic ?_
  refine wp_region_held (S := fun W => W.rangeAt T6 0 (u8s bt2) ∧ W.rangeAt T7 0 (u8s bt2) ∧ Below wz.heap.size wz W) (by kernel_rfl) ?_
  change wpAnyH _ _ _ _ _ _ _ _ wz.drew
  have HS0 := keepTwo HRA2 HRB2 hTA hTB HWZ
  refine heldTake (d := (some 43)) (op := .load 24 (.tmp 6)) (g := none) 0 (.agg (u8s bt2).toArray) rfl (by kernel_rfl) (by kernel_rfl) (by kernel_rfl) (by kernel_rfl) ?y0 HS0 ?_
  case y0 => intro o ho w hS; refine load_yields 24 (.tmp 6) T6 0 ?_ (u8s bt2) (.array 20 5) (hS.1) Tryd.underlying24 rfl HI24.out o ho; kernel_rfl
  refine heldTake (d := (some 44)) (op := .load 24 (.tmp 7)) (g := none) 1 (.agg (u8s bt2).toArray) rfl (by kernel_rfl) (by kernel_rfl) (by kernel_rfl) (by kernel_rfl) ?y1 HS0 ?_
  case y1 => intro o ho w hS; refine load_yields 24 (.tmp 7) T7 0 ?_ (u8s bt2) (.array 20 5) (hS.2.1) Tryd.underlying24 rfl HI24.out o ho; kernel_rfl
  refine heldTake (d := (some 45)) (op := .binOp .eql 24 (.tmp 43) (.tmp 44) 24) (g := none) 2 (.bool true) rfl (by kernel_rfl) (by kernel_rfl) (by kernel_rfl) (by kernel_rfl) ?y2 HS0 ?_
  case y2 => intro o ho w _; simp only [execOp, ho]; go_simp; try rfl
  refine heldTake (d := (some 46)) (op := .move (.tmp 45)) (g := none) 3 (.bool true) rfl (by kernel_rfl) (by kernel_rfl) (by kernel_rfl) (by kernel_rfl) ?y3 HS0 ?_
  case y3 => intro o ho w _; simp only [execOp, ho]; go_simp; try rfl
  refine heldTake (d := (some 47)) (op := .load 24 (.tmp 6)) (g := (some (3, true))) 4 (.agg (u8s bt2).toArray) rfl (by kernel_rfl) (by kernel_rfl) (by kernel_rfl) (by kernel_rfl) ?y4 HS0 ?_
  case y4 => intro o ho w hS; refine load_yields 24 (.tmp 6) T6 0 ?_ (u8s bt2) (.array 20 5) (hS.1) Tryd.underlying24 rfl HI24.out o ho; kernel_rfl
  refine heldTake (d := (some 48)) (op := .move (.tmp 0)) (g := (some (3, true))) 5 (.string a) rfl (by kernel_rfl) (by kernel_rfl) (by kernel_rfl) (by kernel_rfl) ?y5 HS0 ?_
  case y5 => intro o ho w _; simp only [execOp, ho]; go_simp; try rfl
  obtain ⟨c13, w13, hc13, HV13, HB13⟩ := conv_str a wz.drew
  have HS13 := keepTwo HRA2 HRB2 hTA hTB (below_step HWZ HB13.out)
  refine heldRun (d := (some 49)) (op := .convert 9 26 (.tmp 48)) (g := (some (3, true))) 6 (.slice (some ⟨wz.heap.size, 0, none⟩) a.size c13) (w13) rfl (by kernel_rfl) (by kernel_rfl) ?y6 HS13 ?_
  case y6 => intro o ho; simp only [execOp, ho]; go_simp
  refine heldCall (d := (some 50)) (op := .call { callee := .value (.func 11), args := #[.tmp 49], argTypes := #[26] }) (g := (some (3, true))) 7 11 #[.slice (some ⟨wz.heap.size, 0, none⟩) a.size c13] rfl (by kernel_rfl) (by kernel_rfl) ?y7 ?_
  case y7 => intro o ho; simp only [execOp, ho]; go_simp
  refine (ofW _ (HGZ.out.below HS13.2.2 HGZ.out.size) _ (bytes a) bt2 ⟨⟨_, HV13.out (wz.heap.size + 1) (by show _ ≠ wz.heap.size; omega)⟩⟩ (bytes_small a) (by rw [bytes_length]; omega) HT1).mono ?_
  rintro e w14 ⟨rfl, hb14⟩
  have HS14 := keepTwo HRA2 HRB2 hTA hTB (below_step HS13.2.2 hb14)
  refine ⟨_, rfl, HS14, ?_⟩
  clear hc13
  refine heldTake (d := (some 51)) (op := .binOp .eql 24 (.tmp 47) (.tmp 50) 24) (g := (some (3, true))) 8 (.bool true) rfl (by kernel_rfl) (by kernel_rfl) (by kernel_rfl) (by kernel_rfl) ?y8 HS14 ?_
  case y8 => intro o ho w _; simp only [execOp, ho]; go_simp; try rfl
  refine heldTake (d := (some 52)) (op := .pick (.tmp 46) (.tmp 51) (.const (.bool false))) (g := none) 9 (.bool true) rfl (by kernel_rfl) (by kernel_rfl) (by kernel_rfl) (by kernel_rfl) ?y9 HS14 ?_
  case y9 => intro o ho w _; simp only [execOp, ho]; go_simp; try rfl
  refine heldTake (d := (some 53)) (op := .move (.tmp 52)) (g := none) 10 (.bool true) rfl (by kernel_rfl) (by kernel_rfl) (by kernel_rfl) (by kernel_rfl) ?y10 HS14 ?_
  case y10 => intro o ho w _; simp only [execOp, ho]; go_simp; try rfl
  refine heldTake (d := (some 54)) (op := .move (.tmp 5)) (g := (some (10, true))) 11 (.pointer (some ⟨w.heap.size, 0, none⟩)) rfl (by kernel_rfl) (by kernel_rfl) (by kernel_rfl) (by kernel_rfl) ?y11 HS14 ?_
  case y11 => intro o ho w _; simp only [execOp, ho]; go_simp; try rfl
  refine heldTake (d := (some 56)) (op := .move (.tmp 0)) (g := (some (10, true))) 13 (.string a) rfl (by kernel_rfl) (by kernel_rfl) (by kernel_rfl) (by kernel_rfl) ?y13 HS14 ?_
  case y13 => intro o ho w _; simp only [execOp, ho]; go_simp; try rfl
  refine heldTake (d := (some 57)) (op := .move (.tmp 1)) (g := (some (10, true))) 14 (.string b) rfl (by kernel_rfl) (by kernel_rfl) (by kernel_rfl) (by kernel_rfl) ?y14 HS14 ?_
  case y14 => intro o ho w _; simp only [execOp, ho]; go_simp; try rfl
  refine heldTake (d := (some 58)) (op := .binOp .add 9 (.tmp 56) (.tmp 57) 9) (g := (some (10, true))) 15 (.string (a ++ b)) rfl (by kernel_rfl) (by kernel_rfl) (by kernel_rfl) (by kernel_rfl) ?y15 HS14 ?_
  case y15 => intro o ho w _; simp only [execOp, ho]; go_simp; try rfl
  refine heldBoth (di := 55) (dj := 59) (opi := .call { callee := .value (.func 15), args := #[.tmp 54], argTypes := #[30] }) (opj := .convert 9 26 (.tmp 58)) (gi := (some (10, true))) (gj := (some (10, true))) 12 16 15 #[.pointer (some ⟨w.heap.size, 0, none⟩)] (.agg (u8s b2).toArray) (fun v W => Sl (∃ b0, SrcAt W b0 v (bytes (a ++ b)))) rfl rfl (by kernel_rfl) (fun _ => by kernel_rfl) (by kernel_rfl) (by kernel_rfl) (by decide) (by decide) (by kernel_rfl) (by kernel_rfl) (by kernel_rfl) ?yi12 ?yk12 (fun W w1 hS hb => keepTwo HRA2 HRB2 hTA hTB (below_step hS.2.2 hb)) (fun v W w1 hT hb => src_later hT hb) (fun W hS => toldW W (HGZ.out.below hS.2.2 HGZ.out.size) w.heap.size s2 b2 (sumAt_below HSZ.out hS.2.2) OK2.out (by rw [HL2.out]; omega) HB2) ?yj12 HS14 ?_
  case yi12 => intro o ho W; simp only [execOp, ho]; go_simp
  case yk12 => intro v o ho W; simp only [execOp, ho]; go_simp
  case yj12 => intro W; obtain ⟨c, w1, hc, hv, hb⟩ := conv_str (a ++ b) W; exact ⟨_, w1, fun o ho => by simp only [execOp, ho]; go_simp, fun o ho => by simp only [execOp, ho]; go_simp, hb.out, ⟨_, hv.out (W.heap.size + 1) (by omega)⟩⟩
  intro v15 w15 HS15 HT15
  refine heldCall (d := (some 60)) (op := .call { callee := .value (.func 11), args := #[.tmp 59], argTypes := #[26] }) (g := (some (10, true))) 17 11 #[v15] rfl (by kernel_rfl) (by kernel_rfl) ?y17 ?_
  case y17 => intro o ho; simp only [execOp, ho]; go_simp
  refine (ofW _ (HGZ.out.below HS15.2.2 HGZ.out.size) _ (bytes (a ++ b)) b2 HT15 (bytes_small _) (by rw [bytes_append, List.length_append, bytes_length, bytes_length]; omega) HT2).mono ?_
  rintro e w16 ⟨rfl, hb16⟩
  have HS16 := keepTwo HRA2 HRB2 hTA hTB (below_step HS15.2.2 hb16)
  refine ⟨_, rfl, HS16, ?_⟩
  refine heldTake (d := (some 61)) (op := .binOp .eql 24 (.tmp 55) (.tmp 60) 24) (g := (some (10, true))) 18 (.bool true) rfl (by kernel_rfl) (by kernel_rfl) (by kernel_rfl) (by kernel_rfl) ?y18 HS16 ?_
  case y18 => intro o ho w _; simp only [execOp, ho]; go_simp; try rfl
  refine heldTake (d := (some 62)) (op := .pick (.tmp 53) (.tmp 61) (.const (.bool false))) (g := none) 19 (.bool true) rfl (by kernel_rfl) (by kernel_rfl) (by kernel_rfl) (by kernel_rfl) ?y19 HS16 ?_
  case y19 => intro o ho w _; simp only [execOp, ho]; go_simp; try rfl
  refine heldTake (d := (some 63)) (op := .move (.tmp 62)) (g := none) 20 (.bool true) rfl (by kernel_rfl) (by kernel_rfl) (by kernel_rfl) (by kernel_rfl) ?y20 HS16 ?_
  case y20 => intro o ho w _; simp only [execOp, ho]; go_simp; try rfl
  refine heldTake (d := (some 64)) (op := .move (.tmp 5)) (g := (some (20, true))) 21 (.pointer (some ⟨w.heap.size, 0, none⟩)) rfl (by kernel_rfl) (by kernel_rfl) (by kernel_rfl) (by kernel_rfl) ?y21 HS16 ?_
  case y21 => intro o ho w _; simp only [execOp, ho]; go_simp; try rfl
  refine heldTake (d := (some 66)) (op := .move (.tmp 0)) (g := (some (20, true))) 23 (.string a) rfl (by kernel_rfl) (by kernel_rfl) (by kernel_rfl) (by kernel_rfl) ?y23 HS16 ?_
  case y23 => intro o ho w _; simp only [execOp, ho]; go_simp; try rfl
  refine heldTake (d := (some 67)) (op := .call { callee := .builtin .len, args := #[.tmp 66], argTypes := #[9] }) (g := (some (20, true))) 24 (.int .i64 (a.size : Int)) rfl (by kernel_rfl) (by kernel_rfl) (by kernel_rfl) (by kernel_rfl) ?y24 HS16 ?_
  case y24 => intro o ho w _; simp only [execOp, ho]; go_simp; try rfl
  refine heldTake (d := (some 68)) (op := .move (.tmp 1)) (g := (some (20, true))) 25 (.string b) rfl (by kernel_rfl) (by kernel_rfl) (by kernel_rfl) (by kernel_rfl) ?y25 HS16 ?_
  case y25 => intro o ho w _; simp only [execOp, ho]; go_simp; try rfl
  refine heldTake (d := (some 69)) (op := .call { callee := .builtin .len, args := #[.tmp 68], argTypes := #[9] }) (g := (some (20, true))) 26 (.int .i64 (b.size : Int)) rfl (by kernel_rfl) (by kernel_rfl) (by kernel_rfl) (by kernel_rfl) ?y26 HS16 ?_
  case y26 => intro o ho w _; simp only [execOp, ho]; go_simp; try rfl
  have e27 : IntKind.i64.wrap ((a.size : Int) + (b.size : Int)) = (a.size : Int) + (b.size : Int) := IntWalk.i64_in _ (by omega)
  refine heldTake (d := (some 70)) (op := .binOp .add 3 (.tmp 67) (.tmp 69) 3) (g := (some (20, true))) 27 (.int .i64 ((a.size : Int) + (b.size : Int))) rfl (by kernel_rfl) (by kernel_rfl) (by kernel_rfl) (by kernel_rfl) ?y27 HS16 ?_
  case y27 => intro o ho w _; simp only [execOp, ho]; go_simp; try rfl
  have e28 : IntKind.u64.wrap ((a.size : Int) + (b.size : Int)) = (a.size : Int) + (b.size : Int) := IntWalk.u64_in _ (by omega)
  refine heldTake (d := (some 71)) (op := .convert 3 34 (.tmp 70)) (g := (some (20, true))) 28 (.int .u64 ((a.size : Int) + (b.size : Int))) rfl (by kernel_rfl) (by kernel_rfl) (by kernel_rfl) (by kernel_rfl) ?y28 HS16 ?_
  case y28 => intro o ho w _; simp only [execOp, ho]; go_simp; try rfl
  refine heldCall (d := (some 65)) (op := .call { callee := .value (.func 16), args := #[.tmp 64], argTypes := #[30] }) (g := (some (20, true))) 22 16 #[.pointer (some ⟨w.heap.size, 0, none⟩)] rfl (by kernel_rfl) (by kernel_rfl) ?y22 ?_
  case y22 => intro o ho; simp only [execOp, ho]; go_simp
  refine (len_any w.heap.size s2 _ (sumAt_below HSZ.out HS16.2.2) OK2.out).mono ?_
  rintro e w17 ⟨rfl, rfl⟩
  refine ⟨_, rfl, HS16, ?_⟩
  have hl2 : ((s2.L : Int) == (a.size : Int) + (b.size : Int)) = true := by rw [HL2.out]; simp
  refine heldTake (d := (some 72)) (op := .binOp .eql 34 (.tmp 65) (.tmp 71) 34) (g := (some (20, true))) 29 (.bool true) rfl (by kernel_rfl) (by kernel_rfl) (by kernel_rfl) (by kernel_rfl) ?y29 HS16 ?_
  case y29 => intro o ho w _; simp only [execOp, ho]; go_simp; try rfl
  refine heldTake (d := (some 73)) (op := .pick (.tmp 63) (.tmp 72) (.const (.bool false))) (g := none) 30 (.bool true) rfl (by kernel_rfl) (by kernel_rfl) (by kernel_rfl) (by kernel_rfl) ?y30 HS16 ?_
  case y30 => intro o ho w _; simp only [execOp, ho]; go_simp; try rfl
  refine heldTake (d := (some 4)) (op := .assign (.tmp 73)) (g := none) 31 (.bool true) rfl (by kernel_rfl) (by kernel_rfl) (by kernel_rfl) (by kernel_rfl) ?y31 HS16 ?_
  case y31 => intro o ho w _; simp only [execOp, ho]; go_simp; try rfl
  refine wpAnyH_done (by kernel_rfl) ?_ _
  refine NoPanic.normal ?_
  go_wp2
  go_ret
  exact ⟨by kernel_rfl, HBZ.out.trans (HS16.2.2.mono HBZ.out.size)⟩

theorem nothing_walk (a b : ByteArray) (w : World) (hg : Globs w) (ha : a.size ≤ maxLen) (hb : b.size ≤ maxLen) :
    Calls Tryd.prog 6 #[.string a, .string b] w fun e w' => e = .returned (.bool true) ∧ Below w.heap.size w w' := by
  by_cases h : 200 < a.size ∨ 200 < b.size
  · exact nothing_long a b w hg h ha hb
  · exact nothing_short a b w hg (by omega) (by omega)
end Go.Proofs.YtmiemklgekhfeaaDoor
