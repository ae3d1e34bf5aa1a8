/- stream: Feed of a stream that is wrong already. -/
import Derived.Test.YtlgmgalopdfcaaaDoorSE
set_option maxRecDepth 100000
namespace Go.Proofs.YtlgmgalopdfcaaaDoor
open Go.RowKit MaskPlain FramePlain StreamPlain Mas Fra

set_option maxHeartbeats 1000000 in
theorem feed_err {w0 W0 : World} {b : Nat} {masked : Bool} {most : Int} {part : List Nat} {e : Nat} {v : Value} (hs : StrmAt w0 W0 b masked most part e v) (h0 : e ≠ 0) (u : Value) :
    Calls Tryd.prog 12 #[.pointer (some ⟨b, 0, none⟩), u] W0 fun x w' => x = .returned (.tuple #[.slice none 0 0, .int .i64 (e : Int)]) ∧ Sl (StrmAt w0 w' b masked most part e v) ∧ Sl (Below W0.heap.size W0 w') := by
  obtain ⟨w1, hw1⟩ : ∃ V, W0.alloc (.cells #[.pointer (some ⟨b, 0, none⟩)] 23) = V := ⟨_, rfl⟩
  have HB1 : Sl (Below W0.heap.size W0 w1) := ⟨by rw [← hw1]; exact (Below.refl _ _).alloc (Nat.le_refl _) _⟩
  have HC1 : Sl (w1.heap[W0.heap.size]? = some (.cells #[.pointer (some ⟨b, 0, none⟩)] 23 (0, 0))) := ⟨by rw [← hw1]; exact alloc_new _ _ _ rfl⟩
  have HST1 : Sl (StrmAt w0 w1 b masked most part e v) := ⟨hs.below HB1.out⟩
  obtain ⟨_, _, _, he1⟩ := HST1.out.cells
  have hc1 := cell_of_one HC1.out
  have hCl : W0.heap.size < w1.heap.size := block_lt_of_cell hc1
  have hbl : b < w1.heap.size := block_lt_of_cell he1
  have hq : ((e : Int) != 0) = true := by simp; omega
  clear h0 hs
  go_enter Tryd.func12, Tryd.ntmps12
  go_upto_region 2 with fail
  obtain ⟨Rw, hRw⟩ : ∃ R, w1.drew = R := ⟨_, rfl⟩
  have HS0 : Below w1.heap.size w1 Rw := by rw [← hRw]; exact (Below.refl _ _).drew
  refine wp_region_noPanic ?_
  refine wp_region_held (S := (fun V => Below w1.heap.size w1 V)) (by kernel_rfl) ?_
  change wpAnyH _ _ _ _ _ _ _ _ w1.drew
  rw [hRw]
  refine heldTake (d := some 16) (op := .load 23 (Operand.tmp 2)) (g := none) 0 ?v0 rfl (by kernel_rfl) (by kernel_rfl) (by kernel_rfl) (by kernel_rfl) ?y0 HS0 ?_
  case y0 => intro o' ho W hS; have hcx : W.cell? ⟨W0.heap.size, 0, none⟩ = some (.pointer (some ⟨b, 0, none⟩)) := (hS.cell hCl).trans hc1; simp only [execOp, ho]; go_simp; try rfl
  simp only [Act.put, List.setIfInBounds_toArray, List.set_cons_zero, List.set_cons_succ]
  refine heldTake (d := some 17) (op := .nilCheck (Operand.tmp 16)) (g := none) 1 ?v1 rfl (by kernel_rfl) (by kernel_rfl) (by kernel_rfl) (by kernel_rfl) ?y1 HS0 ?_
  case y1 => intro o' ho W hS; simp only [execOp, ho]; go_simp; try rfl
  simp only [Act.put, List.setIfInBounds_toArray, List.set_cons_zero, List.set_cons_succ]
  refine heldTake (d := some 18) (op := .fieldAddr 51 (Operand.tmp 17) 3) (g := none) 2 ?v2 rfl (by kernel_rfl) (by kernel_rfl) (by kernel_rfl) (by kernel_rfl) ?y2 HS0 ?_
  case y2 => intro o' ho W hS; simp only [execOp, ho]; go_simp; try rfl
  simp only [Act.put, List.setIfInBounds_toArray, List.set_cons_zero, List.set_cons_succ]
  refine heldTake (d := some 19) (op := .load 24 (Operand.tmp 18)) (g := none) 3 ?v3 rfl (by kernel_rfl) (by kernel_rfl) (by kernel_rfl) (by kernel_rfl) ?y3 HS0 ?_
  case y3 => intro o' ho W hS; have hcx : W.cell? ⟨b, 3, none⟩ = some (.int .i64 (e : Int)) := (hS.cell hbl).trans he1; simp only [execOp, ho]; go_simp; try rfl
  simp only [Act.put, List.setIfInBounds_toArray, List.set_cons_zero, List.set_cons_succ]
  refine heldTake (d := some 4) (op := .assign (Operand.const (Value.slice none 0 0))) (g := none) 4 ?v4 rfl (by kernel_rfl) (by kernel_rfl) (by kernel_rfl) (by kernel_rfl) ?y4 HS0 ?_
  case y4 => intro o' ho W hS; simp only [execOp, ho]; go_simp; try rfl
  simp only [Act.put, List.setIfInBounds_toArray, List.set_cons_zero, List.set_cons_succ]
  refine heldTake (d := some 5) (op := .assign (Operand.tmp 19)) (g := none) 5 ?v5 rfl (by kernel_rfl) (by kernel_rfl) (by kernel_rfl) (by kernel_rfl) ?y5 HS0 ?_
  case y5 => intro o' ho W hS; simp only [execOp, ho]; go_simp; try rfl
  simp only [Act.put, List.setIfInBounds_toArray, List.set_cons_zero, List.set_cons_succ]
  refine wpAnyH_done (by kernel_rfl) ?_ _
  refine NoPanic.normal ?_
  go_wp2
  go_ret2
  exact ⟨rfl, ⟨HST1.out.below HS0⟩, ⟨HB1.out.trans (HS0.mono HB1.out.size)⟩⟩
end Go.Proofs.YtlgmgalopdfcaaaDoor
