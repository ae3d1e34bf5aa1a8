/- stream: Feed of a stream that is wrong already. -/
import Derived.Test.YtimndpmbgfoofaaDoorSmA
set_option maxRecDepth 100000
namespace Go.Proofs.YtimndpmbgfoofaaDoor.Stm
open Go.RowKit MaskPlain FramePlain StreamPlain Mas Fra

set_option maxHeartbeats 1000000 in
theorem feed_err {w0 W0 : World} {b : Nat} {masked : Bool} {most : Int} {part : List Nat} {e : Nat} {v : Value} (hs : StrmAt w0 W0 b masked most part e v) (h0 : e ≠ 0) (u : Value) :
    Calls Tryd.prog 24 #[.pointer (some ⟨b, 0, none⟩), u] W0 fun x w' => x = .returned (.tuple #[.slice none 0 0, .int .i64 (e : Int)]) ∧ Sl (StrmAt w0 w' b masked most part e v) ∧ Sl (Below W0.heap.size W0 w') := by
  obtain ⟨w1, hw1⟩ : ∃ V, W0.alloc (.cells #[.pointer (some ⟨b, 0, none⟩)] 48) = V := ⟨_, rfl⟩
  have HB1 : Sl (Below W0.heap.size W0 w1) := ⟨by rw [← hw1]; exact (Below.refl _ _).alloc (Nat.le_refl _) _⟩
  have HC1 : Sl (w1.heap[W0.heap.size]? = some (.cells #[.pointer (some ⟨b, 0, none⟩)] 48 (0, 0))) := ⟨by rw [← hw1]; exact alloc_new _ _ _ rfl⟩
  have HST1 : Sl (StrmAt w0 w1 b masked most part e v) := ⟨hs.below HB1.out⟩
  obtain ⟨_, _, _, he1⟩ := HST1.out.cells
  have hc1 := cell_of_one HC1.out
  have hCl : W0.heap.size < w1.heap.size := block_lt_of_cell hc1
  have hbl : b < w1.heap.size := block_lt_of_cell he1
  have hq : ((e : Int) != 0) = true := by simp; omega
  clear h0 hs
  go_enter Tryd.func24, Tryd.ntmps24
  go_upto_region 2 with fail
  obtain ⟨Rw, hRw⟩ : ∃ R, w1.drew = R := ⟨_, rfl⟩
  have HS0 : Below w1.heap.size w1 Rw := by rw [← hRw]; exact (Below.refl _ _).drew
  refine wp_region_noPanic ?_
  refine wp_region_held (S := (fun V => Below w1.heap.size w1 V)) (by kernel_rfl) ?_
  change wpAnyH _ _ _ _ _ _ _ _ w1.drew
  rw [hRw]
  refine heldTake (d := some 16) (op := .load 48 (Operand.tmp 2)) (g := none) 0 ?v0 rfl (by kernel_rfl) (by kernel_rfl) (by kernel_rfl) (by kernel_rfl) ?y0 HS0 ?_
  case y0 => intro o' ho W hS; have hcx : W.cell? ⟨W0.heap.size, 0, none⟩ = some (.pointer (some ⟨b, 0, none⟩)) := (hS.cell hCl).trans hc1; simp only [execOp, ho]; go_simp; try rfl
  simp only [Act.put, List.setIfInBounds_toArray, List.set_cons_zero, List.set_cons_succ]
  refine heldTake (d := some 17) (op := .nilCheck (Operand.tmp 16)) (g := none) 1 ?v1 rfl (by kernel_rfl) (by kernel_rfl) (by kernel_rfl) (by kernel_rfl) ?y1 HS0 ?_
  case y1 => intro o' ho W hS; simp only [execOp, ho]; go_simp; try rfl
  simp only [Act.put, List.setIfInBounds_toArray, List.set_cons_zero, List.set_cons_succ]
  refine heldTake (d := some 18) (op := .fieldAddr 80 (Operand.tmp 17) 3) (g := none) 2 ?v2 rfl (by kernel_rfl) (by kernel_rfl) (by kernel_rfl) (by kernel_rfl) ?y2 HS0 ?_
  case y2 => intro o' ho W hS; simp only [execOp, ho]; go_simp; try rfl
  simp only [Act.put, List.setIfInBounds_toArray, List.set_cons_zero, List.set_cons_succ]
  refine heldTake (d := some 19) (op := .load 24 (Operand.tmp 18)) (g := none) 3 ?v3 rfl (by kernel_rfl) (by kernel_rfl) (by kernel_rfl) (by kernel_rfl) ?y3 HS0 ?_
  case y3 => intro o' ho W hS; have hcx : W.cell? ⟨b, 3, none⟩ = some (.int .i64 (e : Int)) := (hS.cell hbl).trans he1; simp only [execOp, ho]; go_simp; try rfl
  simp only [Act.put, List.setIfInBounds_toArray, List.set_cons_zero, List.set_cons_succ]
  refine heldTake (d := some 4) (op := .assign (Operand.const (Value.slice none 0 0))) (g := none) 4 ?v4 rfl (by kernel_rfl) (by kernel_rfl) (by kernel_rfl) (by kernel_rfl) ?y4 HS0 ?_
  case y4 => intro o' ho W hS; simp only [execOp, ho]; go_simp; try rfl
  simp only [Act.put, List.setIfInBounds_toArray, List.set_cons_zero, List.set_cons_succ]
  refine heldTake (d := some 5) (op := .assign (Operand.tmp 19)) (g := none) 5 ?v5 rfl (by kernel_rfl) (by kernel_rfl) (by kernel_rfl) (by kernel_rfl) ?y5 HS0 ?_
  case y5 => intro o' ho W hS; simp only [execOp, ho]; go_simp; try rfl
  simp only [Act.put, List.setIfInBounds_toArray, List.set_cons_zero, List.set_cons_succ]
  refine wpAnyH_done (by kernel_rfl) ?_ _
  refine NoPanic.normal ?_
  go_wp2
  go_ret2
  exact ⟨rfl, ⟨HST1.out.below HS0⟩, ⟨HB1.out.trans (HS0.mono HB1.out.size)⟩⟩
end Go.Proofs.YtimndpmbgfoofaaDoor.Stm
/- stream: Feed. -/
set_option maxRecDepth 100000
namespace Go.Proofs.YtimndpmbgfoofaaDoor.Stm
open Go.RowKit MaskPlain FramePlain StreamPlain Mas Fra

set_option maxHeartbeats 4000000 in
theorem feed_any {w0 W0 : World} {b : Nat} {masked : Bool} {most : Int} {part : List Nat} {v : Value} (hs : StrmAt w0 W0 b masked most part 0 v) (hg : Globs w0) (a : Option Addr) (L cap : Nat) (bs : List Nat) (hu : SrcAt W0 (.slice a L cap) bs) (hsp : Small 256 part) (hsb : Small 256 bs) (hl : part.length + bs.length ≤ 100000) (hmo : most ≤ 9223372036854775807) (gs : List Fr) (e lf : Nat) (hall : all (part ++ bs) masked most = (gs, e, lf)) :
    Calls Tryd.prog 24 #[.pointer (some ⟨b, 0, none⟩), .slice a L cap] W0 fun x w' => ∃ vf v', x = .returned (.tuple #[vf, .int .i64 (e : Int)]) ∧ Sl (OwnR w' W0.heap.size vf gs) ∧ Sl (StrmAt w0 w' b masked most ((part ++ bs).drop ((part ++ bs).length - lf)) e v') ∧ Sl (Two W0 w' b (ob v b)) ∧ Sl (v'.ownBlock = v.ownBlock ∨ ∀ g, v'.ownBlock = some g → W0.heap.size ≤ g) := by
  have HG := Sl.mk hg
  obtain ⟨T, hT⟩ : ∃ T, part ++ bs = T := ⟨_, rfl⟩
  have hTs : Sl (Small 256 T) := ⟨by rw [← hT]; exact hsp.append hsb⟩
  have hTl : Sl (T.length ≤ 100000) := ⟨by rw [← hT, List.length_append]; exact hl⟩
  have HALL : Sl (all T masked most = (gs, e, lf)) := ⟨by rw [← hT]; exact hall⟩
  have HW := Sl.mk hs.L.size
  have HMO := Sl.mk hmo
  obtain ⟨w1, hw1⟩ : ∃ V, W0.alloc (.cells #[.pointer (some ⟨b, 0, none⟩)] 48) = V := ⟨_, rfl⟩
  have HB1 : Sl (Below W0.heap.size W0 w1) := ⟨by rw [← hw1]; exact (Below.refl _ _).alloc (Nat.le_refl _) _⟩
  have HC1 : Sl (w1.heap[W0.heap.size]? = some (.cells #[.pointer (some ⟨b, 0, none⟩)] 48 (0, 0))) := ⟨by rw [← hw1]; exact alloc_new _ _ _ rfl⟩
  have HST1 : Sl (StrmAt w0 w1 b masked most part 0 v) := ⟨hs.below HB1.out⟩
  have HU1 : Sl (SrcAt w1 (.slice a L cap) bs) := ⟨hu.below (Nat.le_refl _) HB1.out⟩
  have HNE : Sl (W0.heap.size ≠ b) := ⟨by have := hs.lt; omega⟩
  have he1 : w1.cell? ⟨b, 3, none⟩ = some (.int .i64 0) := HST1.out.cells.2.2.2
  have hc1 := cell_of_one HC1.out
  rw [hT]
  clear hs hg hu hsp hsb hall hmo
  go_enter Tryd.func24, Tryd.ntmps24
  go_upto_region 3 with fail
  obtain ⟨Rw, hRw⟩ : ∃ R, w1.drew = R := ⟨_, rfl⟩
  have HB : Below w1.heap.size w1 Rw := by rw [← hRw]; exact (Below.refl _ _).drew
  have HS0 : Rw.heap[W0.heap.size]? = some (.cells #[.pointer (some ⟨b, 0, none⟩)] 48 (0, 0)) := below_key HC1.out HB
  refine wp_region_noPanic ?_
  refine wp_region_held (S := fun V => V.heap[W0.heap.size]? = some (.cells #[.pointer (some ⟨b, 0, none⟩)] 48 (0, 0))) (by kernel_rfl) ?_
  change wpAnyH _ _ _ _ _ _ _ _ w1.drew
  rw [hRw]
  clear hRw
  have HSR := HST1.out.below HB
  obtain ⟨v1, w2, hap, ho1, hg1, hob⟩ := add_bs HSR.O (HU1.out.below (Nat.le_refl _) HB) (by omega) HSR.L.size
  have hkb := ownB_kind HSR.O HSR.X (by decide)
  have hkc := ownB_kind HSR.O HS0 (by decide)
  have HS2 : w2.heap[W0.heap.size]? = some (.cells #[.pointer (some ⟨b, 0, none⟩)] 48 (0, 0)) := by rw [hg1.block W0.heap.size (Array.getElem?_eq_some_iff.1 HS0).1 (fun e => hkc e.symm)]; exact HS0
  have HX2 : w2.heap[b]? = some (.cells #[.bool masked, .int .i64 most, v, .int .i64 ((0 : Nat) : Int)] 80 (0, 0)) := by rw [hg1.block b HSR.lt (fun e => hkb e.symm)]; exact HSR.X
  rw [hT] at ho1
  obtain ⟨a1, c1, rfl⟩ : ∃ a1 c1, v1 = .slice a1 T.length c1 := by
    rcases ho1.2 with ⟨rfl, hz⟩ | ⟨g, cap, cur, rfl, _⟩
    · rw [hz]; exact ⟨_, _, rfl⟩
    · exact ⟨_, _, rfl⟩
  obtain ⟨TL, hTL⟩ : ∃ n, T.length = n := ⟨_, rfl⟩
  rw [hTL] at ho1 hap hob
  obtain ⟨HS3, HT3⟩ := strm_fed (T := T) HSR hg1 (by rw [hTL]; exact ho1)
  obtain ⟨w3, hw3⟩ : ∃ V, w2.setCell ⟨b, 2, none⟩ (.slice a1 TL c1) = V := ⟨_, rfl⟩
  have hne : W0.heap.size ≠ b := HNE.out
  have HC3 : w3.heap[W0.heap.size]? = some (.cells #[.pointer (some ⟨b, 0, none⟩)] 48 (0, 0)) := by rw [← hw3, heap_setCell_other _ _ _ _ hne]; exact HS2
  have hf2 : w2.frozen? ⟨b, 2, none⟩ = false := frozen_of_row _ _ _ _ _ HX2
  have hp2 : w2.cell? ⟨b, 2, none⟩ = some v := by rw [cell_of_row _ _ _ _ _ _ HX2]; rfl
  have hpR : Rw.cell? ⟨b, 2, none⟩ = some v := HSR.cells.2.2.1
  rw [hw3] at HS3 HT3
  refine heldTake (d := some 20) (op := .load 48 (Operand.tmp 2)) (g := none) 0 ?v0a rfl (by kernel_rfl) (by kernel_rfl) (by kernel_rfl) (by kernel_rfl) ?y0a HS0 ?_
  case y0a => intro o' ho W hS; have hcx := cell_of_one hS; simp only [execOp, ho]; go_simp; try rfl
  simp only [Act.put, List.setIfInBounds_toArray, List.set_cons_zero, List.set_cons_succ]
  refine heldTake (d := some 21) (op := .load 48 (Operand.tmp 2)) (g := none) 1 ?v1a rfl (by kernel_rfl) (by kernel_rfl) (by kernel_rfl) (by kernel_rfl) ?y1a HS0 ?_
  case y1a => intro o' ho W hS; have hcx := cell_of_one hS; simp only [execOp, ho]; go_simp; try rfl
  simp only [Act.put, List.setIfInBounds_toArray, List.set_cons_zero, List.set_cons_succ]
  refine heldTake (d := some 22) (op := .nilCheck (Operand.tmp 21)) (g := none) 2 ?v2a rfl (by kernel_rfl) (by kernel_rfl) (by kernel_rfl) (by kernel_rfl) ?y2a HS0 ?_
  case y2a => intro o' ho W hS; simp only [execOp, ho]; go_simp; try rfl
  simp only [Act.put, List.setIfInBounds_toArray, List.set_cons_zero, List.set_cons_succ]
  refine heldTake (d := some 23) (op := .fieldAddr 80 (Operand.tmp 22) 2) (g := none) 3 ?v3a rfl (by kernel_rfl) (by kernel_rfl) (by kernel_rfl) (by kernel_rfl) ?y3a HS0 ?_
  case y3a => intro o' ho W hS; simp only [execOp, ho]; go_simp; try rfl
  simp only [Act.put, List.setIfInBounds_toArray, List.set_cons_zero, List.set_cons_succ]
  refine heldTake (d := some 25) (op := .move (Operand.tmp 1)) (g := none) 5 ?v5a rfl (by kernel_rfl) (by kernel_rfl) (by kernel_rfl) (by kernel_rfl) ?y5a HS0 ?_
  case y5a => intro o' ho W hS; simp only [execOp, ho]; go_simp; try rfl
  simp only [Act.put, List.setIfInBounds_toArray, List.set_cons_zero, List.set_cons_succ]
  refine heldRunT (d := some 24) (op := .load 36 (Operand.tmp 23)) (g := none) (t := 36) 4 (v) Rw rfl (by kernel_rfl) (by kernel_rfl) ?y4a HS0 ?_
  case y4a => intro o' ho _; simp only [execOp, ho]; go_simp; try rfl
  simp only [Act.put, List.setIfInBounds_toArray, List.set_cons_zero, List.set_cons_succ]
  refine heldRunT (d := some 26) (op := .call { callee := Callee.builtin Builtin.append, args := #[Operand.tmp 24, Operand.tmp 25], argTypes := #[36, 36] }) (g := none) (t := 36) 6 (.slice a1 TL c1) w2 rfl (by kernel_rfl) (by kernel_rfl) ?y6a HS2 ?_
  case y6a => intro o' ho ht; exact run_appB ho ht (by rfl) (by rfl) hap
  simp only [Act.put, List.setIfInBounds_toArray, List.set_cons_zero, List.set_cons_succ]
  refine heldTake (d := some 27) (op := .nilCheck (Operand.tmp 20)) (g := none) 7 ?v7a rfl (by kernel_rfl) (by kernel_rfl) (by kernel_rfl) (by kernel_rfl) ?y7a HS2 ?_
  case y7a => intro o' ho W hS; simp only [execOp, ho]; go_simp; try rfl
  simp only [Act.put, List.setIfInBounds_toArray, List.set_cons_zero, List.set_cons_succ]
  refine heldTake (d := some 28) (op := .fieldAddr 80 (Operand.tmp 27) 2) (g := none) 8 ?v8a rfl (by kernel_rfl) (by kernel_rfl) (by kernel_rfl) (by kernel_rfl) ?y8a HS2 ?_
  case y8a => intro o' ho W hS; simp only [execOp, ho]; go_simp; try rfl
  simp only [Act.put, List.setIfInBounds_toArray, List.set_cons_zero, List.set_cons_succ]
  refine heldStore (d := none) (op := .store 36 (Operand.tmp 28) (Operand.tmp 26)) (g := none) (t := 0) 9 w3 rfl (by kernel_rfl) (by kernel_rfl) ?y9a HC3 ?_
  case y9a => intro o' ho ht; rw [← hw3]; simp only [execOp, ho]; go_simp; try rfl
  simp only [Act.put]
  refine wpAnyH_done (by kernel_rfl) ?_ _
  refine NoPanic.normal ?_
  have HTL := Sl.mk hTL
  have hw3le : Sl (W0.heap.size ≤ w3.heap.size) := ⟨by have := HT3.size; have := HB.size; have := HB1.out.size; omega⟩
  have HST3 := Sl.mk HS3
  have HC3' := Sl.mk HC3
  have HTW : Sl (Two W0 w3 b (ob v b)) := ⟨(Two.ofBelow (HB1.out.trans (HB.mono HB1.out.size))).trans HT3⟩
  have HOB : Sl ((Value.slice a1 TL c1).ownBlock = v.ownBlock ∨ ∀ g, (Value.slice a1 TL c1).ownBlock = some g → W0.heap.size ≤ g) := ⟨by
    rcases hob with h | h
    · exact .inl h
    · exact .inr (fun g hg => by rw [h] at hg; injection hg with hg; have := HB1.out.size; have := HB.size; omega)⟩
  clear HB HS0 HSR hap ho1 hg1 hob hkb hkc HS2 HX2 HS3 HT3 hw3 hne HC3 hf2 hp2 hpR HST1 HU1 HC1 HB1 hc1 he1 hTL
  have HR4 : (w3.alloc (.cells #[.int .i64 0] 3)).heap[w3.heap.size]? = some (.cells #[.int .i64 ((0 : Nat) : Int)] 3 (0, 0)) := alloc_new _ _ _ rfl
  have HB4 : Below w3.heap.size w3 (w3.alloc (.cells #[.int .i64 0] 3)) := (Below.refl _ _).alloc (Nat.le_refl _) _
  have HS4 := Sl.mk (HST3.out.below HB4)
  have HC4 := Sl.mk (below_key HC3'.out HB4)
  have HT4 := Sl.mk (two_below HTW.out HB4)
  have HR4' := Sl.mk HR4
  obtain ⟨f0, n0, k0, ho0, hn0, hP0⟩ := pl_start masked most hTs.out
  have CN := next_any HS4.out HG.out W0.heap.size w3.heap.size 0 f0 n0 k0 HC4.out HR4 (Nat.zero_le _) hTs.out hTl.out HMO.out ho0 (by omega)
  have HP0 := Sl.mk hP0
  obtain ⟨rf, ro, rm, ka, kb, kc, kd, rd, hval⟩ := val_parts f0
  have HCV : Sl ((cv f0).toArray = #[.bool rf, .int .i64 ro, .bool rm, .int .u8 ((ka : Nat) : Int), .int .u8 ((kb : Nat) : Int), .int .u8 ((kc : Nat) : Int), .int .u8 ((kd : Nat) : Int), .string rd]) := ⟨by have h := hval; rw [cv_val] at h; injection h⟩
  rw [hval] at CN
  clear HR4 HB4 ho0 hn0 hP0 hval HST3 HC3' HTW hl hw1
  go_wp2_with fail
  refine CN.mono ?_
  rintro e5 w5 ⟨rfl, HR5, HG5⟩
  clear CN
  obtain ⟨w6, hw6⟩ : ∃ V, (w5.alloc (.cells #[.bool false, .int .i64 0, .bool false, .int .u8 0, .int .u8 0, .int .u8 0, .int .u8 0, .string { data := #[] }] 44)).setRow w5.heap.size #[.bool rf, .int .i64 ro, .bool rm, .int .u8 ((ka : Nat) : Int), .int .u8 ((kb : Nat) : Int), .int .u8 ((kc : Nat) : Int), .int .u8 ((kd : Nat) : Int), .string rd] = V := ⟨_, rfl⟩
  have HI := fr_info (cs := #[.bool rf, .int .i64 ro, .bool rm, .int .u8 ((ka : Nat) : Int), .int .u8 ((kb : Nat) : Int), .int .u8 ((kc : Nat) : Int), .int .u8 ((kd : Nat) : Int), .string rd]) rfl
  have HR5' : Sl (w5.heap[w3.heap.size]? = some (.cells #[.int .i64 ((n0 : Nat) : Int)] 3 (0, 0))) := ⟨by have h := HR5.out; rw [Nat.zero_add] at h; exact h⟩
  have hRge : W0.heap.size ≤ w3.heap.size := hw3le.out
  have HL0 : Sl (LR w0 W0 b W0.heap.size w3.heap.size w5.heap.size (w5.heap.size + 1) masked most T v (.slice a1 TL c1) w6 (.slice none 0 0) [] f0 k0 n0) := ⟨by rw [← hw6, ← HCV.out]; exact LR.start HS4.out HC4.out HR4'.out HR5'.out hRge HT4.out HG5.out HP0.out HW.out⟩
  clear HS4 HC4 HT4 HR4' HR5 HR5' HG5 HP0 HCV hRge
  go_wp2_with (refine wpList_store_row rfl 44 (.tmp 9) (.tmp 33) rfl w5.heap.size #[.bool rf, .int .i64 ro, .bool rm, .int .u8 ((ka : Nat) : Int), .int .u8 ((kb : Nat) : Int), .int .u8 ((kc : Nat) : Int), .int .u8 ((kd : Nat) : Int), .string rd] rfl rfl 44 #[.bool false, .int .i64 0, .bool false, .int .u8 0, .int .u8 0, .int .u8 0, .int .u8 0, .string { data := #[] }] (bx_new w5 _) HI rfl (fr_all _ _ _ _ _ _ _ _) ?_)
  obtain ⟨q, hq⟩ : ∃ q, w5.heap.size = q := ⟨_, rfl⟩
  obtain ⟨RR, hRR⟩ : ∃ RR, w3.heap.size = RR := ⟨_, rfl⟩
  rw [hq, hRR] at HL0 ⊢
  clear hq hRR HI
  go_loopw [8, 10] (fun u0 x wr => ∃ (k : Nat) (fs : List Fr) (f : Fr) (r : Nat) (u : Value), u = u0 ∧ x = .int .i64 (k : Int) ∧ Sl (LR w0 W0 b W0.heap.size RR q (q + 1) masked most T v (.slice a1 TL c1) wr u fs f k r)) (fun u x _ => if intOf x = 0 then TL + 1 - lenV u else 0)
  case atStart => exact ⟨k0, [], f0, n0, _, rfl, rfl, HL0⟩
  case round =>
    obtain ⟨k, fs, f, r, u, rfl, rfl, HL⟩ := hrel
    by_cases hk : k = 0
    · subst hk
      have hq8 : (((0 : Nat) : Int) == 0) = true := rfl
      obtain ⟨f', n', k', ho', hn', hP'⟩ := pl_step hTs.out HL.out.hP
      obtain ⟨rf, ro, rm, ka, kb, kc, kd, rd, hval⟩ := val_parts f
      have hcv : (cv f).toArray = #[.bool rf, .int .i64 ro, .bool rm, .int .u8 ((ka : Nat) : Int), .int .u8 ((kb : Nat) : Int), .int .u8 ((kc : Nat) : Int), .int .u8 ((kd : Nat) : Int), .string rd] := by have h := hval; rw [cv_val] at h; injection h
      have HQ0 : Sl (wr.heap[q]? = some (.cells #[.bool rf, .int .i64 ro, .bool rm, .int .u8 ((ka : Nat) : Int), .int .u8 ((kb : Nat) : Int), .int .u8 ((kc : Nat) : Int), .int .u8 ((kd : Nat) : Int), .string rd] 44 (0, 0))) := ⟨by rw [← hcv]; exact HL.out.hQ⟩
      obtain ⟨e0, e1, e2, e3, e4, e5, e6, e7⟩ := bx8 HQ0.out
      have HP' := Sl.mk hP'
      have HLEN := Sl.mk (pl_len HL.out.hP)
      have HB1 : Below wr.heap.size wr (wr.alloc (.cells #[.bool rf, .int .i64 ro, .bool rm, .int .u8 ((ka : Nat) : Int), .int .u8 ((kb : Nat) : Int), .int .u8 ((kc : Nat) : Int), .int .u8 ((kd : Nat) : Int), .string rd] 44)) := (Below.refl _ _).alloc (Nat.le_refl _) _
      have HO1 := Sl.mk (HL.out.hO.below HB1)
      have HF1 : Sl (FrsAt (wr.alloc (.cells #[.bool rf, .int .i64 ro, .bool rm, .int .u8 ((ka : Nat) : Int), .int .u8 ((kb : Nat) : Int), .int .u8 ((kc : Nat) : Int), .int .u8 ((kd : Nat) : Int), .string rd] 44)) (.slice (some ⟨wr.heap.size, 0, none⟩) 1 1) [f]) := ⟨frs_one (alloc_new _ _ _ rfl) hcv.symm⟩
      have HN1 : Sl (q + 1 ≤ (wr.alloc (.cells #[.bool rf, .int .i64 ro, .bool rm, .int .u8 ((ka : Nat) : Int), .int .u8 ((kb : Nat) : Int), .int .u8 ((kc : Nat) : Int), .int .u8 ((kd : Nat) : Int), .string rd] 44)).heap.size) := ⟨Nat.le_trans HL.out.hN HB1.size⟩
      have HBA := Sl.mk HB1
      have HFL : Sl (fs.length + [f].length ≤ 1000000) := ⟨by have h1 := HLEN.out.1; have h2 := hTl.out; show fs.length + 1 ≤ _; omega⟩
      clear HB1 hP' hval
      go_wp2_with (at_builtin; refine app_frs rfl (.tmp 42) (.tmp 44) rfl rfl (q + 1) u (.slice (some ⟨wr.heap.size, 0, none⟩) 1 1) fs [f] rfl HO1.out rfl HF1.out HFL.out HN1.out ?_)
      clear e0 e1 e2 e3 e4 e5 e6 e7
      intro u' w7 HO7 HG7
      have HL1 : LR w0 W0 b W0.heap.size RR q (q + 1) masked most T v (.slice a1 TL c1) (wr.alloc (.cells #[.bool rf, .int .i64 ro, .bool rm, .int .u8 ((ka : Nat) : Int), .int .u8 ((kb : Nat) : Int), .int .u8 ((kc : Nat) : Int), .int .u8 ((kd : Nat) : Int), .string rd] 44)) u fs f 0 r := LR.below HL.out HBA.out
      obtain ⟨S7, C7, R7, Q7, N7, T7⟩ := HL1.told HW.out HG7.out
      have CN := next_any S7 HG.out W0.heap.size RR r f' n' k' C7 R7 (by have := HLEN.out.2; omega) hTs.out hTl.out HMO.out ho' hn'
      have HS7 := Sl.mk S7
      have HC7 := Sl.mk C7
      have HR7 := Sl.mk R7
      have HQ7 := Sl.mk Q7
      have HN7 := Sl.mk N7
      have HT7 := Sl.mk T7
      have HK := Sl.mk HL.out.hK
      have hlu : lenV u = fs.length := HL.out.hO.len
      have hlu' : lenV u' = fs.length + 1 := by have := HO7.out.len; rw [List.length_append] at this; exact this
      obtain ⟨rf2, ro2, rm2, ka2, kb2, kc2, kd2, rd2, hval2⟩ := val_parts f'
      have HCV2 : Sl ((cv f').toArray = #[.bool rf2, .int .i64 ro2, .bool rm2, .int .u8 ((ka2 : Nat) : Int), .int .u8 ((kb2 : Nat) : Int), .int .u8 ((kc2 : Nat) : Int), .int .u8 ((kd2 : Nat) : Int), .string rd2]) := ⟨by have h := hval2; rw [cv_val] at h; injection h⟩
      rw [hval2] at CN
      clear S7 C7 R7 Q7 N7 T7 ho' hn' hval2 HL HL1 HBA HO1 HF1 HN1 HFL HG7 HQ0
      go_wp2_with fail
      refine CN.mono ?_
      rintro e8 w8 ⟨rfl, HR8, HG8⟩
      clear CN
      have hkq : RR ≠ q := fun e => by
        have h1 := HR7.out; rw [e, HQ7.out] at h1; injection h1 with h; injection h with _ h; exact absurd h (by decide)
      have HQ8 : Sl (w8.heap[q]? = some (.cells #[.bool rf, .int .i64 ro, .bool rm, .int .u8 ((ka : Nat) : Int), .int .u8 ((kb : Nat) : Int), .int .u8 ((kc : Nat) : Int), .int .u8 ((kd : Nat) : Int), .string rd] 44 (0, 0))) := ⟨by rw [HG8.out.block _ (Array.getElem?_eq_some_iff.1 HQ7.out).1 (fun e => hkq (by injection e with e; exact e.symm)), ← hcv]; exact HQ7.out⟩
      have HI := fr_info (cs := #[.bool rf2, .int .i64 ro2, .bool rm2, .int .u8 ((ka2 : Nat) : Int), .int .u8 ((kb2 : Nat) : Int), .int .u8 ((kc2 : Nat) : Int), .int .u8 ((kd2 : Nat) : Int), .string rd2]) rfl
      have HL9 : Sl (LR w0 W0 b W0.heap.size RR q (q + 1) masked most T v (.slice a1 TL c1) (w8.setRow q #[.bool rf2, .int .i64 ro2, .bool rm2, .int .u8 ((ka2 : Nat) : Int), .int .u8 ((kb2 : Nat) : Int), .int .u8 ((kc2 : Nat) : Int), .int .u8 ((kd2 : Nat) : Int), .string rd2]) u' (fs ++ [f]) f' k' (r + n')) := ⟨by rw [← HCV2.out]; exact LR.next HS7.out HC7.out HR8.out HR7.out HQ7.out HO7.out HN7.out HK.out HT7.out HG8.out HP'.out HW.out⟩
      clear HS7 HC7 HR7 HQ7 HN7 HT7 HK HR8 HG8 HP' HO7 HCV2 hcv
      go_wp2_with (refine wpList_store_row rfl 44 (.tmp 9) (.tmp 40) rfl q #[.bool rf2, .int .i64 ro2, .bool rm2, .int .u8 ((ka2 : Nat) : Int), .int .u8 ((kb2 : Nat) : Int), .int .u8 ((kc2 : Nat) : Int), .int .u8 ((kd2 : Nat) : Int), .string rd2] rfl rfl 44 #[.bool rf, .int .i64 ro, .bool rm, .int .u8 ((ka : Nat) : Int), .int .u8 ((kb : Nat) : Int), .int .u8 ((kc : Nat) : Int), .int .u8 ((kd : Nat) : Int), .string rd] HQ8.out HI rfl (fr_all _ _ _ _ _ _ _ _) ?_)
      refine ⟨⟨k', fs ++ [f], f', r + n', u', rfl, rfl, HL9⟩, ?_⟩
      have := HLEN.out.1
      have h2 := HTL.out
      show (if ((k' : Nat) : Int) = 0 then TL + 1 - lenV u' else 0) < (if ((0 : Nat) : Int) = 0 then TL + 1 - lenV u else 0)
      rw [if_pos (show ((0 : Nat) : Int) = 0 from rfl)]
      split <;> omega
    · have hq8 : ((k : Int) == 0) = false := by simp; omega
      by_cases h9 : k = 90
      · subst h9
        have hq9 : (((90 : Nat) : Int) != 90) = false := rfl
        obtain ⟨ha, hrT⟩ := pl_more hTs.out HL.out.hP
        rw [HALL.out] at ha
        injection ha with ha1 ha
        injection ha with ha2 ha3
        subst ha1 ha2 ha3
        have HL2 := Sl.mk HL.out.hS
        have HC2 := Sl.mk HL.out.hC
        have HR2 := Sl.mk HL.out.hR
        have HO2 := Sl.mk HL.out.hO
        have HT2 := Sl.mk HL.out.hT
        have HK2 := Sl.mk HL.out.hK
        have hsz2 : Sl (W0.heap.size ≤ wr.heap.size) := ⟨HL.out.hT.size⟩
        have hrr := cell_of_one HR2.out
        by_cases h0 : r = 0
        · subst h0
          have hq1 : (((0 : Nat) : Int) > 0) = False := eq_false (by omega)
          clear HL hTl hTs HALL HG HMO
          go_wp2
          go_ret2
          refine ⟨_, _, rfl, ⟨own_base HO2.out (by have := HK2.out; omega)⟩, ⟨?_⟩, HT2, HOB⟩
          rw [show T.length - (T.length - 0) = 0 by omega, List.drop_zero]
          exact HL2.out
        · have hq1 : ((r : Int) > 0) = True := eq_true (by omega)
          rw [HTL.out] at hrT
          clear HL HALL HG HMO
          go_upto_region 15 with fail
          obtain ⟨Rw, hRw⟩ : ∃ R, wr.drew = R := ⟨_, rfl⟩
          have HB : Below wr.heap.size wr Rw := by rw [← hRw]; exact (Below.refl _ _).drew
          have HS0 : Rw.heap[W0.heap.size]? = some (.cells #[.pointer (some ⟨b, 0, none⟩)] 48 (0, 0)) ∧ Rw.heap[RR]? = some (.cells #[.int .i64 (r : Int)] 3 (0, 0)) := ⟨below_key HC2.out HB, below_key HR2.out HB⟩
          refine wp_region_noPanic ?_
          refine wp_region_held (S := fun V => V.heap[W0.heap.size]? = some (.cells #[.pointer (some ⟨b, 0, none⟩)] 48 (0, 0)) ∧ V.heap[RR]? = some (.cells #[.int .i64 (r : Int)] 3 (0, 0))) (by kernel_rfl) ?_
          change wpAnyH _ _ _ _ _ _ _ _ wr.drew
          rw [hRw]
          clear hRw
          have HSR := HL2.out.below HB
          obtain ⟨a', ha'⟩ : ∃ a', fromA a1 r c1 = a' := ⟨_, rfl⟩
          have hsl : ∀ (V : World) (ev : Operand → Value) (o : Oper) (x y : Operand), o.op = .slice 36 x (some y) none none → ev x = .slice a1 TL c1 → ev y = .int .i64 (r : Int) → (execOp ev o).run Tryd.prog V = .ok (.value (.slice a' (TL - r) (c1 - r))) V := fun V ev o x y ho hx hy => by
            rw [← ha']; exact slice_from ho hx hy hrT
          have hsrc : SrcAt Rw (.slice a' (TL - r) (c1 - r)) (T.drop r) := by rw [← ha']; exact SrcAt.from HSR.src hrT HTL.out
          obtain ⟨v2, w2, hap, ho1, hg1, hob⟩ := add_bs (Z := Rw) (base := w0.heap.size) (v := .slice none 0 0) (m := []) (World.ownsRow_nil _ _ _ _) hsrc (by have := hTl.out; rw [List.length_drop]; simp; omega) HSR.L.size
          rw [List.nil_append] at ho1
          obtain ⟨a2, c2, rfl⟩ : ∃ a2 c2, v2 = .slice a2 (T.drop r).length c2 := by
            rcases ho1.2 with ⟨rfl, hz⟩ | ⟨g, cap, cur, rfl, _⟩
            · rw [hz]; exact ⟨_, _, rfl⟩
            · exact ⟨_, _, rfl⟩
          obtain ⟨DL, hDL⟩ : ∃ n, (T.drop r).length = n := ⟨_, rfl⟩
          rw [hDL] at ho1 hap hob
          obtain ⟨HS3, HG3⟩ := strm_cut (T := T.drop r) HSR hg1 (by rw [hDL]; exact ho1)
          have HX2 : w2.heap[b]? = some (.cells #[.bool masked, .int .i64 most, .slice a1 TL c1, .int .i64 ((0 : Nat) : Int)] 80 (0, 0)) := by rw [hg1.block b HSR.lt (by simp [Value.ownBlock])]; exact HSR.X
          have HS2 : w2.heap[W0.heap.size]? = some (.cells #[.pointer (some ⟨b, 0, none⟩)] 48 (0, 0)) ∧ w2.heap[RR]? = some (.cells #[.int .i64 (r : Int)] 3 (0, 0)) := ⟨by rw [hg1.block W0.heap.size (Array.getElem?_eq_some_iff.1 HS0.1).1 (by simp [Value.ownBlock])]; exact HS0.1, by rw [hg1.block RR (Array.getElem?_eq_some_iff.1 HS0.2).1 (by simp [Value.ownBlock])]; exact HS0.2⟩
          obtain ⟨w4, hw4⟩ : ∃ V, w2.setCell ⟨b, 2, none⟩ (.slice a2 DL c2) = V := ⟨_, rfl⟩
          have hneC : W0.heap.size ≠ b := HNE.out
          have hneR : RR ≠ b := fun e => by
            have h1 := HS0.2; rw [e, HSR.X] at h1; injection h1 with h; injection h with _ h; exact absurd h (by decide)
          have HS4 : w4.heap[W0.heap.size]? = some (.cells #[.pointer (some ⟨b, 0, none⟩)] 48 (0, 0)) ∧ w4.heap[RR]? = some (.cells #[.int .i64 (r : Int)] 3 (0, 0)) := ⟨by rw [← hw4, heap_setCell_other _ _ _ _ hneC]; exact HS2.1, by rw [← hw4, heap_setCell_other _ _ _ _ hneR]; exact HS2.2⟩
          have hf2 : w2.frozen? ⟨b, 2, none⟩ = false := frozen_of_row _ _ _ _ _ HX2
          have hp2 : w2.cell? ⟨b, 2, none⟩ = some (.slice a1 TL c1) := by rw [cell_of_row _ _ _ _ _ _ HX2]; rfl
          have hpR : Rw.cell? ⟨b, 2, none⟩ = some (.slice a1 TL c1) := HSR.cells.2.2.1
          rw [hw4] at HS3 HG3
          refine heldTake (d := some 59) (op := .load 48 (Operand.tmp 2)) (g := none) 0 ?v0c rfl (by kernel_rfl) (by kernel_rfl) (by kernel_rfl) (by kernel_rfl) ?y0c HS0 ?_
          case y0c => intro o' ho W hS; have hcx := cell_of_one hS.1; simp only [execOp, ho]; go_simp; try rfl
          simp only [Act.put, List.setIfInBounds_toArray, List.set_cons_zero, List.set_cons_succ]
          refine heldTake (d := some 60) (op := .load 48 (Operand.tmp 2)) (g := none) 1 ?v1c rfl (by kernel_rfl) (by kernel_rfl) (by kernel_rfl) (by kernel_rfl) ?y1c HS0 ?_
          case y1c => intro o' ho W hS; have hcx := cell_of_one hS.1; simp only [execOp, ho]; go_simp; try rfl
          simp only [Act.put, List.setIfInBounds_toArray, List.set_cons_zero, List.set_cons_succ]
          refine heldTake (d := some 61) (op := .nilCheck (Operand.tmp 60)) (g := none) 2 ?v2c rfl (by kernel_rfl) (by kernel_rfl) (by kernel_rfl) (by kernel_rfl) ?y2c HS0 ?_
          case y2c => intro o' ho W hS; simp only [execOp, ho]; go_simp; try rfl
          simp only [Act.put, List.setIfInBounds_toArray, List.set_cons_zero, List.set_cons_succ]
          refine heldTake (d := some 62) (op := .fieldAddr 80 (Operand.tmp 61) 2) (g := none) 3 ?v3c rfl (by kernel_rfl) (by kernel_rfl) (by kernel_rfl) (by kernel_rfl) ?y3c HS0 ?_
          case y3c => intro o' ho W hS; simp only [execOp, ho]; go_simp; try rfl
          simp only [Act.put, List.setIfInBounds_toArray, List.set_cons_zero, List.set_cons_succ]
          refine heldTake (d := some 64) (op := .load 3 (Operand.tmp 6)) (g := none) 5 ?v5c rfl (by kernel_rfl) (by kernel_rfl) (by kernel_rfl) (by kernel_rfl) ?y5c HS0 ?_
          case y5c => intro o' ho W hS; have hcx := cell_of_one hS.2; simp only [execOp, ho]; go_simp; try rfl
          simp only [Act.put, List.setIfInBounds_toArray, List.set_cons_zero, List.set_cons_succ]
          refine heldRunT (d := some 63) (op := .load 36 (Operand.tmp 62)) (g := none) (t := 36) 4 (.slice a1 TL c1) Rw rfl (by kernel_rfl) (by kernel_rfl) ?y4c HS0 ?_
          case y4c => intro o' ho _; simp only [execOp, ho]; go_simp; try rfl
          simp only [Act.put, List.setIfInBounds_toArray, List.set_cons_zero, List.set_cons_succ]
          refine heldTake (d := some 65) (op := .slice 36 (Operand.tmp 63) (some (Operand.tmp 64)) none none) (g := none) 6 ((.slice a' (TL - r) (c1 - r))) rfl (by kernel_rfl) (by kernel_rfl) (by kernel_rfl) (by kernel_rfl) ?y6c HS0 ?_
          case y6c => intro o' ho W hS; exact hsl W _ o' _ _ ho (by rfl) (by rfl)
          simp only [Act.put, List.setIfInBounds_toArray, List.set_cons_zero, List.set_cons_succ]
          refine heldRunT (d := some 66) (op := .call { callee := Callee.builtin Builtin.append, args := #[Operand.const (Value.slice none 0 0), Operand.tmp 65], argTypes := #[36, 36] }) (g := none) (t := 36) 7 (.slice a2 DL c2) w2 rfl (by kernel_rfl) (by kernel_rfl) ?y7c HS2 ?_
          case y7c => intro o' ho ht; exact run_appB ho ht (by rfl) (by rfl) hap
          simp only [Act.put, List.setIfInBounds_toArray, List.set_cons_zero, List.set_cons_succ]
          refine heldTake (d := some 67) (op := .nilCheck (Operand.tmp 59)) (g := none) 8 ?v8c rfl (by kernel_rfl) (by kernel_rfl) (by kernel_rfl) (by kernel_rfl) ?y8c HS2 ?_
          case y8c => intro o' ho W hS; simp only [execOp, ho]; go_simp; try rfl
          simp only [Act.put, List.setIfInBounds_toArray, List.set_cons_zero, List.set_cons_succ]
          refine heldTake (d := some 68) (op := .fieldAddr 80 (Operand.tmp 67) 2) (g := none) 9 ?v9c rfl (by kernel_rfl) (by kernel_rfl) (by kernel_rfl) (by kernel_rfl) ?y9c HS2 ?_
          case y9c => intro o' ho W hS; simp only [execOp, ho]; go_simp; try rfl
          simp only [Act.put, List.setIfInBounds_toArray, List.set_cons_zero, List.set_cons_succ]
          refine heldStore (d := none) (op := .store 36 (Operand.tmp 68) (Operand.tmp 66)) (g := none) (t := 0) 10 w4 rfl (by kernel_rfl) (by kernel_rfl) ?y10c HS4 ?_
          case y10c => intro o' ho ht; rw [← hw4]; simp only [execOp, ho]; go_simp; try rfl
          simp only [Act.put]
          refine wpAnyH_done (by kernel_rfl) ?_ _
          refine NoPanic.normal ?_
          have HS3' := Sl.mk HS3
          have HT3' : Sl (Two W0 w4 b (ob v b)) := ⟨two_left (two_below HT2.out HB) HG3⟩
          have HO3' : Sl (OwnR w4 (q + 1) u gs) := ⟨(HO2.out.below HB).kept HG3 (.inr ((HO2.out.below HB).kind HSR.X (by decide)))⟩
          have HOB3 : Sl ((Value.slice a2 DL c2).ownBlock = v.ownBlock ∨ ∀ g, (Value.slice a2 DL c2).ownBlock = some g → W0.heap.size ≤ g) := ⟨by
            rcases hob with h | h
            · exact .inr (fun g hg => by rw [h] at hg; cases hg)
            · exact .inr (fun g hg => by rw [h] at hg; injection hg with hg; have := hsz2.out; have := HB.size; omega)⟩
          clear HB HS0 HSR ha' hsl hsrc hap ho1 hg1 hob HX2 HS2 HS3 HG3 hw4 hneC hneR HS4 hf2 hp2 hpR
          go_wp2
          go_ret2
          refine ⟨_, _, rfl, ⟨own_base HO3'.out (by have := HK2.out; omega)⟩, ⟨?_⟩, HT3', HOB3⟩
          rw [show T.length - (T.length - r) = r by have := HTL.out; omega]
          exact HS3'.out
      · have hq9 : ((k : Int) != 90) = true := by simp; omega
        have ha := pl_err hTs.out HL.out.hP hk h9
        rw [HALL.out] at ha
        injection ha with ha1 ha
        injection ha with ha2 ha3
        subst ha1 ha2 ha3
        have HL2 := Sl.mk HL.out.hS
        have HC2 := Sl.mk HL.out.hC
        have HR2 := Sl.mk HL.out.hR
        have HO2 := Sl.mk HL.out.hO
        have HT2 := Sl.mk HL.out.hT
        have HK2 := Sl.mk HL.out.hK
        have hsz2 : Sl (W0.heap.size ≤ wr.heap.size) := ⟨HL.out.hT.size⟩
        clear HL hTl hTs HALL HG HMO
        go_upto_region 12 with fail
        obtain ⟨Rw, hRw⟩ : ∃ R, wr.drew = R := ⟨_, rfl⟩
        have HB : Below wr.heap.size wr Rw := by rw [← hRw]; exact (Below.refl _ _).drew
        have HS0 : Rw.heap[W0.heap.size]? = some (.cells #[.pointer (some ⟨b, 0, none⟩)] 48 (0, 0)) := below_key HC2.out HB
        refine wp_region_noPanic ?_
        refine wp_region_held (S := fun V => V.heap[W0.heap.size]? = some (.cells #[.pointer (some ⟨b, 0, none⟩)] 48 (0, 0))) (by kernel_rfl) ?_
        change wpAnyH _ _ _ _ _ _ _ _ wr.drew
        rw [hRw]
        clear hRw
        have HSR := HL2.out.below HB
        obtain ⟨HS3, HG3, hp2, hf2⟩ := strm_err HSR e
        obtain ⟨w2, hw2⟩ : ∃ V, Rw.setCell ⟨b, 3, none⟩ (.int .i64 (e : Int)) = V := ⟨_, rfl⟩
        rw [hw2] at HS3 HG3 hp2 hf2
        obtain ⟨w4, hw4⟩ : ∃ V, w2.setCell ⟨b, 2, none⟩ (.slice none 0 0) = V := ⟨_, rfl⟩
        rw [hw4] at HS3 HG3
        have hneC : W0.heap.size ≠ b := HNE.out
        have HS2 : w2.heap[W0.heap.size]? = some (.cells #[.pointer (some ⟨b, 0, none⟩)] 48 (0, 0)) := by rw [← hw2, heap_setCell_other _ _ _ _ hneC]; exact HS0
        have HS4 : w4.heap[W0.heap.size]? = some (.cells #[.pointer (some ⟨b, 0, none⟩)] 48 (0, 0)) := by rw [← hw4, heap_setCell_other _ _ _ _ hneC]; exact HS2
        have hp0 : Rw.cell? ⟨b, 3, none⟩ = some (.int .i64 ((0 : Nat) : Int)) := HSR.cells.2.2.2
        have hf0 := HSR.froz 3
        refine heldTake (d := some 48) (op := .load 48 (Operand.tmp 2)) (g := none) 0 ?v0d rfl (by kernel_rfl) (by kernel_rfl) (by kernel_rfl) (by kernel_rfl) ?y0d HS0 ?_
        case y0d => intro o' ho W hS; have hcx := cell_of_one hS; simp only [execOp, ho]; go_simp; try rfl
        simp only [Act.put, List.setIfInBounds_toArray, List.set_cons_zero, List.set_cons_succ]
        refine heldTake (d := some 49) (op := .load 48 (Operand.tmp 2)) (g := none) 1 ?v1d rfl (by kernel_rfl) (by kernel_rfl) (by kernel_rfl) (by kernel_rfl) ?y1d HS0 ?_
        case y1d => intro o' ho W hS; have hcx := cell_of_one hS; simp only [execOp, ho]; go_simp; try rfl
        simp only [Act.put, List.setIfInBounds_toArray, List.set_cons_zero, List.set_cons_succ]
        refine heldTake (d := some 50) (op := .move (Operand.tmp 10)) (g := none) 2 ?v2d rfl (by kernel_rfl) (by kernel_rfl) (by kernel_rfl) (by kernel_rfl) ?y2d HS0 ?_
        case y2d => intro o' ho W hS; simp only [execOp, ho]; go_simp; try rfl
        simp only [Act.put, List.setIfInBounds_toArray, List.set_cons_zero, List.set_cons_succ]
        refine heldTake (d := some 51) (op := .nilCheck (Operand.tmp 48)) (g := none) 3 ?v3d rfl (by kernel_rfl) (by kernel_rfl) (by kernel_rfl) (by kernel_rfl) ?y3d HS0 ?_
        case y3d => intro o' ho W hS; simp only [execOp, ho]; go_simp; try rfl
        simp only [Act.put, List.setIfInBounds_toArray, List.set_cons_zero, List.set_cons_succ]
        refine heldTake (d := some 52) (op := .fieldAddr 80 (Operand.tmp 51) 3) (g := none) 4 ?v4d rfl (by kernel_rfl) (by kernel_rfl) (by kernel_rfl) (by kernel_rfl) ?y4d HS0 ?_
        case y4d => intro o' ho W hS; simp only [execOp, ho]; go_simp; try rfl
        simp only [Act.put, List.setIfInBounds_toArray, List.set_cons_zero, List.set_cons_succ]
        refine heldStore (d := none) (op := .store 24 (Operand.tmp 52) (Operand.tmp 50)) (g := none) (t := 0) 5 w2 rfl (by kernel_rfl) (by kernel_rfl) ?y5d HS2 ?_
        case y5d => intro o' ho ht; rw [← hw2]; simp only [execOp, ho]; go_simp; try rfl
        simp only [Act.put]
        refine heldTake (d := some 53) (op := .nilCheck (Operand.tmp 49)) (g := none) 6 ?v6d rfl (by kernel_rfl) (by kernel_rfl) (by kernel_rfl) (by kernel_rfl) ?y6d HS2 ?_
        case y6d => intro o' ho W hS; simp only [execOp, ho]; go_simp; try rfl
        simp only [Act.put, List.setIfInBounds_toArray, List.set_cons_zero, List.set_cons_succ]
        refine heldTake (d := some 54) (op := .fieldAddr 80 (Operand.tmp 53) 2) (g := none) 7 ?v7d rfl (by kernel_rfl) (by kernel_rfl) (by kernel_rfl) (by kernel_rfl) ?y7d HS2 ?_
        case y7d => intro o' ho W hS; simp only [execOp, ho]; go_simp; try rfl
        simp only [Act.put, List.setIfInBounds_toArray, List.set_cons_zero, List.set_cons_succ]
        refine heldStore (d := none) (op := .store 36 (Operand.tmp 54) (Operand.const (Value.slice none 0 0))) (g := none) (t := 0) 8 w4 rfl (by kernel_rfl) (by kernel_rfl) ?y8d HS4 ?_
        case y8d => intro o' ho ht; rw [← hw4]; simp only [execOp, ho]; go_simp; try rfl
        simp only [Act.put]
        refine wpAnyH_done (by kernel_rfl) ?_ _
        refine NoPanic.normal ?_
        have HS3' := Sl.mk HS3
        have HT3' : Sl (Two W0 w4 b (ob v b)) := ⟨two_left (two_below HT2.out HB) HG3⟩
        have HO3' : Sl (OwnR w4 (q + 1) u gs) := ⟨(HO2.out.below HB).kept HG3 (.inr ((HO2.out.below HB).kind HSR.X (by decide)))⟩
        clear HB HS0 HSR HS3 HG3 hp2 hf2 hw2 hw4 hneC HS2 HS4 hp0 hf0
        go_wp2
        go_ret2
        refine ⟨_, .slice none 0 0, rfl, ⟨own_base HO3'.out (by have := HK2.out; omega)⟩, ⟨?_⟩, HT3', ⟨.inr (fun g hg => by cases hg)⟩⟩
        rw [Nat.sub_zero, List.drop_length]
        exact HS3'.out
end Go.Proofs.YtimndpmbgfoofaaDoor.Stm
/- stream: forms of Feed for use. -/
set_option maxRecDepth 100000
namespace Go.Proofs.YtimndpmbgfoofaaDoor.Stm
open Go.RowKit MaskPlain FramePlain StreamPlain Mas Fra

/-- Feed, for use. -/
theorem feed_ex {w0 W : World} {b : Nat} {masked : Bool} {most : Int} {part : List Nat} {v : Value} (hs : StrmAt w0 W b masked most part 0 v) (hg : Globs w0) (u : Value) (bs : List Nat) (hu : SrcAt W u bs) (hsp : Small 256 part) (hsb : Small 256 bs) (hl : part.length + bs.length ≤ 100000) (hmo : most ≤ 9223372036854775807) {gs : List Fr} {e lf : Nat} (hall : all (part ++ bs) masked most = (gs, e, lf)) (part' : List Nat) (hp : (part ++ bs).drop ((part ++ bs).length - lf) = part') (n : Nat) (hn : gs.length = n) :
    Calls Tryd.prog 24 #[.pointer (some ⟨b, 0, none⟩), u] W fun x w' => ∃ a c v', x = .returned (.tuple #[.slice a n c, .int .i64 (e : Int)]) ∧ Sl (FrsAt w' (.slice a n c) gs) ∧ Sl (∀ g, (Value.slice a n c).ownBlock = some g → W.heap.size ≤ g) ∧ Sl (StrmAt w0 w' b masked most part' e v') ∧ Sl (Two W w' b (ob v b)) := by
  subst hp hn
  obtain ⟨a, cap, sb, so, rfl, h1, h2, h3⟩ := hu
  refine (feed_any hs hg a bs.length cap bs ⟨a, cap, sb, so, rfl, h1, h2, h3⟩ hsp hsb hl hmo gs e lf hall).mono ?_
  rintro x w' ⟨vf, v', rfl, ho, hS, hT, _⟩
  obtain ⟨a', c', rfl⟩ := ho.out.slice
  exact ⟨a', c', v', rfl, ⟨ho.out.frs⟩, ⟨fun g hg => ho.out.ge hg⟩, hS, hT⟩
theorem part_ex {w0 W : World} {b : Nat} {masked : Bool} {most : Int} {part : List Nat} {err : Nat} {v : Value} (h : StrmAt w0 W b masked most part err v) (n : Nat) (hn : part.length = n) :
    Calls Tryd.prog 27 #[.pointer (some ⟨b, 0, none⟩)] W fun e w' => e = .returned (.int .i64 (n : Int)) ∧ W = w' := by subst hn; exact part_any h
theorem two_of {w0 W w' : World} {b : Nat} {masked : Bool} {most : Int} {part : List Nat} {err : Nat} {v : Value} (hs : StrmAt w0 W b masked most part err v) (h : Two W w' b (ob v b)) {B : Nat} (hB : B ≤ w0.heap.size) : Below B W w' :=
  ⟨h.os, h.tape, h.output, h.size, fun k hk => h.block k (by have := hs.L.size; omega) (by have := hs.B; omega) (by have := hs.ge; omega)⟩
end Go.Proofs.YtimndpmbgfoofaaDoor.Stm
