/- The contract of awake of the statements' package: it answers true; nothing that was in memory changes. Condition: the two tables are as the text lays them. -/
import Derived.Test.YtmiemklgekhfeaaDoorH
import Derived.Test.YtmiemklgekhfeaaDoorI
import Derived.Test.YtmiemklgekhfeaaDoorK
import Derived.Stop.BytesEq
namespace Go.Proofs.YtmiemklgekhfeaaDoor
open Go.RowKit

theorem src_any {w : World} {b g n c : Nat} {l : List Nat} {t : TypeId} {fr : Nat × Nat} (h : w.heap[g]? = some (.cells (u8s l).toArray t fr)) (hn : l.length = n) (hc : n ≤ c) (hne : g ≠ b) : SrcAt w b (.slice (some ⟨g, 0, none⟩) n c) l :=
  ⟨some ⟨g, 0, none⟩, c, g, 0, by rw [hn], by omega, fun _ => rfl, fun _ => hne, fun i hi => by
    rw [Nat.zero_add, cell_of_row _ _ _ _ _ _ h]
    simpa using u8s_get l i hi⟩
theorem src_nil (w : World) (b : Nat) : SrcAt w b (.slice none 0 0) [] := ⟨none, 0, 0, 0, rfl, by simp, fun h => by simp at h, fun h => by simp at h, fun i hi => by simp at hi⟩

/-- Add, in a call that began in w0 and made the sum itself. -/
theorem add_ex (w0 W : World) (b : Nat) (s : St) (bs : List Nat) (v : Value) (h0 : w0.heap.size ≤ b) (hB : Below w0.heap.size w0 W) (hg : Globs w0) (hs : SumAt W b s) (ok : OkSt s) (hv : SrcAt W b v bs) (hsm : Small 256 bs) (hL : s.L + bs.length < 1000000000) :
    Calls Tryd.prog 14 #[.pointer (some ⟨b, 0, none⟩), v] W fun e w' => e = .returned (.tuple #[]) ∧ Sl (SumAt w' b (feed s bs)) ∧ Sl (Below w0.heap.size w0 w') ∧ Sl (W.grownBy w' (some b)) :=
  (add_any b s bs v W hs ok hv hsm (hg.below hB hg.size) (by have := hg.size; omega) (by omega)).mono fun _ _ ⟨he, h1, h2⟩ => ⟨he, ⟨h1⟩, ⟨hB.trans ⟨h2.os, h2.tape, h2.output, h2.size, fun k hk => h2.block k (by have := hB.size; omega) (fun e => by injection e with e; omega)⟩⟩, ⟨h2⟩⟩
theorem sumAt_alloc {w : World} {b : Nat} {s : St} (h : SumAt w b s) (o : Obj) : SumAt (w.alloc o) b s := by
  have hlt : b < w.heap.size := (Array.getElem?_eq_some_iff.1 h).1
  show _ = _
  rw [alloc_old _ _ _ hlt]; exact h
theorem sumAt_lt {w : World} {b : Nat} {s : St} (h : SumAt w b s) : b < w.heap.size := (Array.getElem?_eq_some_iff.1 h).1

theorem u8s_cells (l : List Nat) (h : Small 256 l) : u8s l = (l.map UInt8.ofNat).map Extern.Stop.cell := by
  simp only [u8s, List.map_map]
  refine List.map_congr_left (fun x hx => ?_)
  have hx' := h.mem x hx
  simp only [v8, Function.comp_def, Extern.Stop.cell]
  congr 1
  rw [UInt8.toNat_ofNat_of_lt' hx']
  rfl
theorem eql_u8s (t : List Nat) (ht : t.length = 20) (hs : Small 256 t) (w : World) : (binOp .eql 24 (.agg (u8s t).toArray) (.agg (u8s t).toArray)).run Tryd.prog w = .ok (.bool true) w := by
  rw [u8s_cells t hs, run_eql_bytes w 24 5 20 Tryd.underlying24 Tryd.underlying5 (fun w => by kernel_rfl) _ _ (by simp [ht]) (by simp [ht])]
  simp
theorem eqlIn_u8s (t : List Nat) (ht : t.length = 20) (hs : Small 256 t) (w : World) : (Op.equalIn 10000 24 (.agg (u8s t).toArray) (.agg (u8s t).toArray)).run Tryd.prog w = .ok true w := by
  rw [u8s_cells t hs, run_equalIn_bytes w 9998 24 5 20 Tryd.underlying24 Tryd.underlying5 (fun w => by kernel_rfl) _ _ (by simp [ht]) (by simp [ht])]
  simp
theorem text5 (w5 W : World) (hW : Sl (Below w5.heap.size w5 W)) (t : List Nat) (ht : Sl (t.length = 20)) :
    Calls Tryd.prog 10 #[.agg (u8s t).toArray] W fun e w' => e = .returned (.string (strOf t)) ∧ Sl (Below w5.heap.size w5 w') :=
  (text_any t W ht.out).mono fun _ _ ⟨he, hb⟩ => ⟨he, ⟨hW.out.trans (hb.mono hW.out.size)⟩⟩
theorem of5 (w5 W : World) (hg : Sl (Globs w5)) (hW : Sl (Below w5.heap.size w5 W)) (v : Value) (bs bt : List Nat) (hv : Sl (∃ b0, SrcAt W b0 v bs)) (hs : Sl (Small 256 bs)) (hL : Sl (bs.length < 1000000000)) (hbt : Sl (bt = told (feed st0 bs))) :
    Calls Tryd.prog 11 #[v] W fun e w' => e = .returned (.agg (u8s bt).toArray) ∧ Sl (Below w5.heap.size w5 w') :=
  hv.out.elim fun b0 hv => (of_any b0 v bs W hv hs.out (hg.out.below hW.out hg.out.size) hL.out).mono fun _ _ ⟨b1, h1, _, he, hb⟩ => ⟨by rw [he, h1.out, hbt.out], ⟨hW.out.trans (hb.out.mono hW.out.size)⟩⟩
theorem below_alloc5 {w5 W : World} (h : Sl (Below w5.heap.size w5 W)) (o : Obj) : Sl (Below w5.heap.size w5 (W.alloc o)) := ⟨h.out.alloc h.out.size o⟩
theorem src_abc (W : World) (fr : Nat × Nat) : Sl (∃ b0, SrcAt (W.alloc (.cells #[.int .u8 97, .int .u8 98, .int .u8 99] 5 fr)) b0 (.slice (some ⟨W.heap.size, 0, none⟩) 3 3) [97, 98, 99]) :=
  ⟨⟨W.heap.size + 1, src_any (l := [97, 98, 99]) (alloc_new _ _ _ rfl) rfl (Nat.le_refl _) (by omega)⟩⟩
theorem keep5 {w5 W : World} {B : Nat} {l : List Value} (hr : Sl (w5.rangeAt B 0 l)) (hB : B < w5.heap.size) (h : Sl (Below w5.heap.size w5 W)) : W.rangeAt B 0 l ∧ Below w5.heap.size w5 W :=
  ⟨fun j v hv => by rw [h.out.cell (p := ⟨B, 0 + j, none⟩) hB]; exact hr.out j v hv, h.out⟩
theorem drew5 {w5 W : World} (h : Sl (Below w5.heap.size w5 W)) : Sl (Below w5.heap.size w5 W.drew) := ⟨h.out.drew⟩

set_option maxHeartbeats 1000000 in
theorem awake_any (w : World) (hg : Globs w) : Calls Tryd.prog 9 #[] w fun e w' => e = .returned (.bool true) ∧ Below w.heap.size w w' := by
  have HG := Sl.mk hg
  have kc := fun (w : World) (C : Array Value) (n c : Nat) => Lib.run_convert_bytes_const (P := Tryd.prog) w 26 5 C n c Tryd.underlying26 Tryd.underlying5
  clear hg
  go_enter Tryd.func9, Tryd.ntmps9
  go_wp2_with fail
  refine (new_any _ HG.out).mono ?_
  rintro e w1 ⟨rfl, hw1⟩
  have HS1 : Sl (SumAt w1 w.heap.size st0) := ⟨by rw [hw1]; exact alloc_new _ _ _ rfl⟩
  have HB1 : Sl (Below w.heap.size w w1) := ⟨by rw [hw1]; exact (Below.refl _ _).alloc (Nat.le_refl _) _⟩
  clear hw1
  go_wp2_with fail
  refine (add_ex w _ w.heap.size st0 [97] _ (Nat.le_refl _) (HB1.out.alloc HB1.out.size _) HG.out (sumAt_alloc HS1.out _) okSt0 (src_any (l := [97]) (alloc_new _ _ _ rfl) rfl (Nat.le_refl _) (by have := sumAt_lt HS1.out; omega)) (Small.of_mem (by decide) (by decide)) (by decide)).mono ?_
  rintro e w2 ⟨rfl, HS2, HB2, HX2⟩
  clear HS1 HB1 HX2
  go_wp2_with fail
  refine (add_ex w _ w.heap.size (feed st0 [97]) [98, 99] _ (Nat.le_refl _) (HB2.out.alloc HB2.out.size _) HG.out (sumAt_alloc HS2.out _) (okSt0.feed (by decide)) (src_any (l := [98, 99]) (alloc_new _ _ _ rfl) rfl (Nat.le_refl _) (by have := sumAt_lt HS2.out; omega)) (Small.of_mem (by decide) (by decide)) (by rw [feed_L]; decide)).mono ?_
  rintro e w3 ⟨rfl, HS3, HB3, HX3⟩
  clear HS2 HB2 HX3
  have OK3 : Sl (OkSt (feed (feed st0 [97]) [98, 99])) := ⟨(okSt0.feed (by decide)).feed (by decide)⟩
  have HF : Sl (feed (feed st0 [97]) [98, 99] = feed st0 [97, 98, 99]) := ⟨rfl⟩
  have HL3 : Sl ((feed (feed st0 [97]) [98, 99]).L = 3) := ⟨by rw [feed_L, feed_L]; rfl⟩
  go_wp2_with fail
  refine (told_ex w.heap.size _ _ HS3.out OK3.out (HG.out.below HB3.out HG.out.size) (by rw [HL3.out]; decide)).mono ?_
  rintro e w4 ⟨bt, HBT, HBL, rfl, HB4⟩
  have HS4 : Sl (SumAt w4 w.heap.size (feed (feed st0 [97]) [98, 99])) := ⟨sumAt_below HS3.out HB4.out⟩
  have HB04 : Sl (Below w.heap.size w w4) := ⟨HB3.out.trans (HB4.out.mono HB3.out.size)⟩
  have HX : Sl (bt = [169, 153, 62, 54, 71, 6, 129, 106, 186, 62, 37, 113, 120, 80, 194, 108, 156, 208, 216, 157]) := ⟨by rw [HBT.out, HF.out]; exact told_abc⟩
  have HI24 : Sl ((Tryd.prog.info? 24).map (·.size) = some (u8s bt).toArray.size) := ⟨by
    have : (Tryd.prog.info? 24).map (·.size) = some 20 := by kernel_rfl
    simpa [HBL.out] using this⟩
  have HO20 : Sl ((u8s z20).toArray.size = (u8s bt).toArray.size) := ⟨by simp [HBL.out, z20]⟩
  clear HS3 HB3 HB4 HBT HF
  generalize feed (feed st0 [97]) [98, 99] = s3 at *
  go_upto_region 7 with (refine wpList_store_row rfl 24 (.tmp 2) (.tmp 15) rfl w4.heap.size _ rfl rfl 24 _ (alloc_new _ _ _ rfl) HI24.out HO20.out (all_oneCell_toArray (u8s_one _)) ?_)
  generalize hw5 : World.setRow _ _ _ = w5
  have HR5 : Sl (w5.rangeAt w4.heap.size 0 (u8s bt)) := ⟨fun j v hv => by
    have hr : w5.heap[w4.heap.size]? = some (.cells (u8s bt).toArray 24 (0, 0)) := by rw [← hw5]; exact setRow_heap _ _ _ _ _ _ (alloc_new _ _ _ rfl)
    rw [Nat.zero_add]; exact row_cell hr j v hv⟩
  have HZ5 : Sl (w5.heap.size = w4.heap.size + 1) := ⟨by rw [← hw5, setRow_size, alloc_size]⟩
  have HB45 : Sl (Below w4.heap.size w4 w5) := ⟨by rw [← hw5]; exact below_setRow ((Below.refl _ _).alloc (Nat.le_refl _) _) (Nat.le_refl _) _⟩
  clear hw5
  have HB05 : Sl (Below w.heap.size w w5) := ⟨HB04.out.trans (HB45.out.mono HB04.out.size)⟩
  have HG5 : Sl (Globs w5) := ⟨HG.out.below HB05.out HG.out.size⟩
  have HS5 : Sl (SumAt w5 w.heap.size s3) := ⟨sumAt_below HS4.out HB45.out⟩
  have hB5 : w4.heap.size < w5.heap.size := by rw [HZ5.out]; omega
  have cL := sumAt_len HS5.out OK3.out
  clear HI24 HO20 HB45 HB04 HS4 HZ5
  generalize w4.heap.size = B at *
  clear w4
  have HW5 : Sl (Below w5.heap.size w5 w5) := ⟨Below.refl _ _⟩
  have HW5' : Sl (Below w5.heap.size w5 w5.drew) := drew5 HW5
  obtain ⟨bn, hbn⟩ : ∃ bn : List Nat, bn = [218, 57, 163, 238, 94, 107, 75, 13, 50, 85, 191, 239, 149, 96, 24, 144, 175, 216, 7, 9] := ⟨_, rfl⟩
  have HBN := Sl.mk hbn
  have hx : strOf bt = ⟨#[169, 153, 62, 54, 71, 6, 129, 106, 186, 62, 37, 113, 120, 80, 194, 108, 156, 208, 216, 157]⟩ := by rw [HX.out]; rfl
  have hxn : (strOf bn).extract 0 4 = ⟨#[218, 57, 163, 238]⟩ := by rw [HBN.out]; rfl
  have hsn : (strOf bn).size = 20 := by rw [HBN.out]; rfl
  have HBNL : Sl (bn.length = 20) := ⟨by rw [HBN.out]; rfl⟩
  have HSM : Sl (Small 256 bt) := ⟨by rw [HX.out]; exact Small.of_mem (by decide) (by decide)⟩
  have HTA : Sl (bt = told (feed st0 [97, 98, 99])) := ⟨by rw [told_abc, HX.out]⟩
  have HTN : Sl (bn = told (feed st0 [])) := ⟨by rw [told_nil, HBN.out]⟩
  have HSA : Sl (Small 256 [97, 98, 99]) := ⟨Small.of_mem (by decide) (by decide)⟩
  have HSN : Sl (Small 256 []) := ⟨Small.of_mem (by decide) (by decide)⟩
  have HLA : Sl ([97, 98, 99].length < 1000000000) := ⟨by decide⟩
  have HLN : Sl (([] : List Nat).length < 1000000000) := ⟨by decide⟩
  have HNIL : Sl (∀ W : World, ∃ b0, SrcAt W b0 (.slice none 0 0) []) := ⟨fun W => ⟨0, src_nil W 0⟩⟩
  have q1 := eql_u8s bt HBL.out HSM.out
  have q2 := eqlIn_u8s bt HBL.out HSM.out
  have hL3 := HL3.out
  have HI24 : Sl ((Tryd.prog.info? 24).map (·.size) = some (u8s bt).length) := ⟨by
    have : (Tryd.prog.info? 24).map (·.size) = some 20 := by kernel_rfl
    simpa [HBL.out] using this⟩
  clear hbn
  refine wp_region_noPanic ?_
  refine wp_region_held (S := fun W => W.rangeAt B 0 (u8s bt) ∧ Below w5.heap.size w5 W) (by kernel_rfl) ?_
  change wpAnyH _ _ _ _ _ _ _ _ w5.drew
  have HS0 := keep5 HR5 hB5 HW5'
  refine heldTake (d := (some 16)) (op := .load 24 (.tmp 2)) (g := none) 0 (.agg (u8s bt).toArray) rfl (by kernel_rfl) (by kernel_rfl) (by kernel_rfl) (by kernel_rfl) ?y0 HS0 ?_
  case y0 => intro o ho w hS; refine load_yields 24 (.tmp 2) B 0 ?_ (u8s bt) (.array 20 5) (hS.1) Tryd.underlying24 rfl HI24.out o ho; kernel_rfl
  refine heldCall (d := (some 17)) (op := .call { callee := .value (.func 10), args := #[.tmp 16], argTypes := #[24] }) (g := none) 1 10 #[.agg (u8s bt).toArray] rfl (by kernel_rfl) (by kernel_rfl) ?y1 ?_
  case y1 => intro o ho; simp only [execOp, ho]; go_simp
  refine (text5 w5 _ HW5' bt HBL).mono ?_
  rintro e w6 ⟨rfl, HW6⟩
  have HS6 := keep5 HR5 hB5 HW6
  refine ⟨_, rfl, HS6, ?_⟩
  refine heldTake (d := (some 18)) (op := .binOp .eql 9 (.tmp 17) (.const (.string ⟨#[169, 153, 62, 54, 71, 6, 129, 106, 186, 62, 37, 113, 120, 80, 194, 108, 156, 208, 216, 157]⟩)) 9) (g := none) 2 (.bool true) rfl (by kernel_rfl) (by kernel_rfl) (by kernel_rfl) (by kernel_rfl) ?y2 HS6 ?_
  case y2 => intro o ho w _; simp only [execOp, ho]; go_simp; try rfl
  refine heldTake (d := (some 19)) (op := .move (.tmp 18)) (g := none) 3 (.bool true) rfl (by kernel_rfl) (by kernel_rfl) (by kernel_rfl) (by kernel_rfl) ?y3 HS6 ?_
  case y3 => intro o ho w _; simp only [execOp, ho]; go_simp; try rfl
  refine heldTake (d := (some 23)) (op := .load 24 (.tmp 2)) (g := (some (3, true))) 7 (.agg (u8s bt).toArray) rfl (by kernel_rfl) (by kernel_rfl) (by kernel_rfl) (by kernel_rfl) ?y7 HS6 ?_
  case y7 => intro o ho w hS; refine load_yields 24 (.tmp 2) B 0 ?_ (u8s bt) (.array 20 5) (hS.1) Tryd.underlying24 rfl HI24.out o ho; kernel_rfl
  refine heldRun (d := (some 20)) (op := .buildSlice 26 3 #[(0, .const (.int .u8 97)), (1, .const (.int .u8 98)), (2, .const (.int .u8 99))]) (g := (some (3, true))) 4 (.slice (some ⟨w6.heap.size, 0, none⟩) 3 3) (w6.alloc (.cells #[.int .u8 97, .int .u8 98, .int .u8 99] 5)) rfl (by kernel_rfl) (by kernel_rfl) ?y4 (keep5 HR5 hB5 (below_alloc5 HW6 _)) ?_
  case y4 => intro o ho; simp only [execOp, ho]; go_simp
  refine heldRun (d := (some 21)) (op := .convert 26 26 (.tmp 20)) (g := (some (3, true))) 5 (.slice (some ⟨w6.heap.size, 0, none⟩) 3 3) (w6.alloc (.cells #[.int .u8 97, .int .u8 98, .int .u8 99] 5 (3, 4))) rfl (by kernel_rfl) (by kernel_rfl) ?y5 (keep5 HR5 hB5 (below_alloc5 HW6 _)) ?_
  case y5 => intro o ho; simp only [execOp, ho]; go_simp
  refine heldCall (d := (some 22)) (op := .call { callee := .value (.func 11), args := #[.tmp 21], argTypes := #[26] }) (g := (some (3, true))) 6 11 #[.slice (some ⟨w6.heap.size, 0, none⟩) 3 3] rfl (by kernel_rfl) (by kernel_rfl) ?y6 ?_
  case y6 => intro o ho; simp only [execOp, ho]; go_simp
  refine (of5 w5 _ HG5 (below_alloc5 HW6 _) _ [97, 98, 99] bt (src_abc _ _) HSA HLA HTA).mono ?_
  rintro e w7 ⟨rfl, HW7⟩
  have HS7 := keep5 HR5 hB5 HW7
  refine ⟨_, rfl, HS7, ?_⟩
  refine heldTake (d := (some 24)) (op := .binOp .eql 24 (.tmp 22) (.tmp 23) 24) (g := (some (3, true))) 8 (.bool true) rfl (by kernel_rfl) (by kernel_rfl) (by kernel_rfl) (by kernel_rfl) ?y8 HS7 ?_
  case y8 => intro o ho w _; simp only [execOp, ho]; go_simp; try rfl
  refine heldTake (d := (some 25)) (op := .pick (.tmp 19) (.tmp 24) (.const (.bool false))) (g := none) 9 (.bool true) rfl (by kernel_rfl) (by kernel_rfl) (by kernel_rfl) (by kernel_rfl) ?y9 HS7 ?_
  case y9 => intro o ho w _; simp only [execOp, ho]; go_simp; try rfl
  refine heldTake (d := (some 26)) (op := .move (.tmp 25)) (g := none) 10 (.bool true) rfl (by kernel_rfl) (by kernel_rfl) (by kernel_rfl) (by kernel_rfl) ?y10 HS7 ?_
  case y10 => intro o ho w _; simp only [execOp, ho]; go_simp; try rfl
  refine heldTake (d := (some 27)) (op := .move (.tmp 1)) (g := (some (10, true))) 11 (.pointer (some ⟨w.heap.size, 0, none⟩)) rfl (by kernel_rfl) (by kernel_rfl) (by kernel_rfl) (by kernel_rfl) ?y11 HS7 ?_
  case y11 => intro o ho w _; simp only [execOp, ho]; go_simp; try rfl
  refine heldCall (d := (some 28)) (op := .call { callee := .value (.func 16), args := #[.tmp 27], argTypes := #[30] }) (g := (some (10, true))) 12 16 #[.pointer (some ⟨w.heap.size, 0, none⟩)] rfl (by kernel_rfl) (by kernel_rfl) ?y12 ?_
  case y12 => intro o ho; simp only [execOp, ho]; go_simp
  refine (len_any w.heap.size s3 _ (sumAt_below HS5.out HW7.out) OK3.out).mono ?_
  rintro e w8 ⟨rfl, rfl⟩
  refine ⟨_, rfl, HS7, ?_⟩
  refine heldTake (d := (some 29)) (op := .binOp .eql 34 (.tmp 28) (.const (.int .u64 3)) 34) (g := (some (10, true))) 13 (.bool true) rfl (by kernel_rfl) (by kernel_rfl) (by kernel_rfl) (by kernel_rfl) ?y13 HS7 ?_
  case y13 => intro o ho w _; simp only [execOp, ho]; go_simp; try rfl
  refine heldTake (d := (some 30)) (op := .pick (.tmp 26) (.tmp 29) (.const (.bool false))) (g := none) 14 (.bool true) rfl (by kernel_rfl) (by kernel_rfl) (by kernel_rfl) (by kernel_rfl) ?y14 HS7 ?_
  case y14 => intro o ho w _; simp only [execOp, ho]; go_simp; try rfl
  refine heldTake (d := (some 31)) (op := .move (.tmp 30)) (g := none) 15 (.bool true) rfl (by kernel_rfl) (by kernel_rfl) (by kernel_rfl) (by kernel_rfl) ?y15 HS7 ?_
  case y15 => intro o ho w _; simp only [execOp, ho]; go_simp; try rfl
  refine heldCall (d := (some 32)) (op := .call { callee := .value (.func 11), args := #[.const (.slice none 0 0)], argTypes := #[26] }) (g := (some (15, true))) 16 11 #[.slice none 0 0] rfl (by kernel_rfl) (by kernel_rfl) ?y16 ?_
  case y16 => intro o ho; simp only [execOp, ho]; go_simp
  refine (of5 w5 _ HG5 HW7 _ [] bn ⟨HNIL.out _⟩ HSN HLN HTN).mono ?_
  rintro e w9 ⟨rfl, HW9⟩
  have HS9 := keep5 HR5 hB5 HW9
  refine ⟨_, rfl, HS9, ?_⟩
  refine heldCall (d := (some 33)) (op := .call { callee := .value (.func 10), args := #[.tmp 32], argTypes := #[24] }) (g := (some (15, true))) 17 10 #[.agg (u8s bn).toArray] rfl (by kernel_rfl) (by kernel_rfl) ?y17 ?_
  case y17 => intro o ho; simp only [execOp, ho]; go_simp
  refine (text5 w5 _ HW9 bn HBNL).mono ?_
  rintro e w10 ⟨rfl, HW10⟩
  have HS10 := keep5 HR5 hB5 HW10
  refine ⟨_, rfl, HS10, ?_⟩
  refine heldTake (d := (some 34)) (op := .slice 9 (.tmp 33) none (some (.const (.int .i64 4))) none) (g := (some (15, true))) 18 (.string ⟨#[218, 57, 163, 238]⟩) rfl (by kernel_rfl) (by kernel_rfl) (by kernel_rfl) (by kernel_rfl) ?y18 HS10 ?_
  case y18 => intro o ho w _; simp only [execOp, ho]; go_simp; try rfl
  refine heldTake (d := (some 35)) (op := .binOp .eql 9 (.tmp 34) (.const (.string ⟨#[218, 57, 163, 238]⟩)) 9) (g := (some (15, true))) 19 (.bool true) rfl (by kernel_rfl) (by kernel_rfl) (by kernel_rfl) (by kernel_rfl) ?y19 HS10 ?_
  case y19 => intro o ho w _; simp only [execOp, ho]; go_simp; try rfl
  refine heldTake (d := (some 36)) (op := .pick (.tmp 31) (.tmp 35) (.const (.bool false))) (g := none) 20 (.bool true) rfl (by kernel_rfl) (by kernel_rfl) (by kernel_rfl) (by kernel_rfl) ?y20 HS10 ?_
  case y20 => intro o ho w _; simp only [execOp, ho]; go_simp; try rfl
  refine heldTake (d := (some 0)) (op := .assign (.tmp 36)) (g := none) 21 (.bool true) rfl (by kernel_rfl) (by kernel_rfl) (by kernel_rfl) (by kernel_rfl) ?y21 HS10 ?_
  case y21 => intro o ho w _; simp only [execOp, ho]; go_simp; try rfl
  refine wpAnyH_done (by kernel_rfl) ?_ _
  refine NoPanic.normal ?_
  go_wp2
  go_ret
  exact ⟨by kernel_rfl, HB05.out.trans (HW10.out.mono HB05.out.size)⟩
end Go.Proofs.YtmiemklgekhfeaaDoor
