/- queue: Room. -/
import Derived.Test.YtflnmjiopeoodaaQD
set_option maxRecDepth 100000
namespace Go.Proofs.Ytflnmjiopeoodaa.Que
open Go.RowKit Evt QueuePlain
open MsgPlain (Ev)

set_option maxHeartbeats 4000000 in
theorem room_any {w0 W : World} {q : Nat} {v : Value} {count bytes' : Int} {l : List Ev} (n : Int) (r : Bool) (h : Qu w0 W q v count bytes' l) (hr : room count bytes' l n = r) :
    Calls Try.prog 15 #[.pointer (some ⟨q, 0, none⟩), .int .i64 n] W fun e w' => e = .returned (.bool r) ∧ Sl (Below W.heap.size W w') := by
  obtain ⟨c0, c1, c2, -⟩ := h.N.cells
  obtain ⟨m, hm⟩ : ∃ m, size l = m := ⟨_, rfl⟩
  obtain ⟨k, hk⟩ : ∃ k, l.length = k := ⟨_, rfl⟩
  have hmb : (m : Int) ≤ bytes' := by rw [← hm]; exact h.I.2
  have hb1 := h.D
  have hlt := h.N.lt
  have hR : decide ((k : Int) < count ∧ 0 ≤ n ∧ n ≤ bytes' ∧ (m : Int) + n ≤ bytes') = r := by rw [← hk, ← hm]; exact hr
  have HQ := Sl.mk h
  have HK := Sl.mk hk
  rw [hm] at c2
  have hwr : wrap64 (bytes' - (m : Int)) = bytes' - (m : Int) := by unfold wrap64; omega
  have hwk : IntKind.i64.wrap (bytes' - (m : Int)) = bytes' - (m : Int) := by simp [IntKind.wrap, IntKind.signed, IntKind.bits]; omega
  clear h hr hm hk
  by_cases h1 : (k : Int) < count
  · have hq1 : ((k : Int) < count) = True := eq_true h1
    by_cases h2 : 0 ≤ n
    · have hq2 : (n ≥ 0) = True := eq_true h2
      by_cases h3 : n ≤ bytes' - (m : Int)
      · have hq3 : (n ≤ bytes' - (m : Int)) = True := eq_true h3
        have HRR : Sl (r = true) := ⟨by rw [← hR]; simp; omega⟩
        clear hR
        go_enter Try.func15, Try.ntmps15
        go_upto_region 1 with fail
        obtain ⟨Rw, hRw⟩ : ∃ R, W.drew = R := ⟨_, rfl⟩
        have HBR : Below W.heap.size W Rw := by rw [← hRw]; exact (Below.refl _ _).drew
        refine wp_region_noPanic ?_
        refine wp_region_held (S := fun V => Below W.heap.size W V) (by kernel_rfl) ?_
        change wpAnyH _ _ _ _ _ _ _ _ W.drew
        rw [hRw]
        clear hRw
        refine heldTake (d := some 5) (op := .move (Operand.tmp 0)) (g := none) 0 ?v0 rfl (by kernel_rfl) (by kernel_rfl) (by kernel_rfl) (by kernel_rfl) ?y0 HBR ?_
        case y0 => intro o' ho W hS; simp only [execOp, ho]; go_simp; try rfl
        simp only [Act.put, List.setIfInBounds_toArray, List.set_cons_zero, List.set_cons_succ]
        refine heldTake (d := some 7) (op := .move (Operand.tmp 0)) (g := none) 2 ?v2 rfl (by kernel_rfl) (by kernel_rfl) (by kernel_rfl) (by kernel_rfl) ?y2 HBR ?_
        case y2 => intro o' ho W hS; simp only [execOp, ho]; go_simp; try rfl
        simp only [Act.put, List.setIfInBounds_toArray, List.set_cons_zero, List.set_cons_succ]
        refine heldTake (d := some 8) (op := .nilCheck (Operand.tmp 7)) (g := none) 3 ?v3 rfl (by kernel_rfl) (by kernel_rfl) (by kernel_rfl) (by kernel_rfl) ?y3 HBR ?_
        case y3 => intro o' ho W hS; simp only [execOp, ho]; go_simp; try rfl
        simp only [Act.put, List.setIfInBounds_toArray, List.set_cons_zero, List.set_cons_succ]
        refine heldTake (d := some 9) (op := .fieldAddr 56 (Operand.tmp 8) 0) (g := none) 4 ?v4 rfl (by kernel_rfl) (by kernel_rfl) (by kernel_rfl) (by kernel_rfl) ?y4 HBR ?_
        case y4 => intro o' ho W hS; simp only [execOp, ho]; go_simp; try rfl
        simp only [Act.put, List.setIfInBounds_toArray, List.set_cons_zero, List.set_cons_succ]
        refine heldTake (d := some 10) (op := .load 3 (Operand.tmp 9)) (g := none) 5 ?v5 rfl (by kernel_rfl) (by kernel_rfl) (by kernel_rfl) (by kernel_rfl) ?y5 HBR ?_
        case y5 => intro o' ho W hS; have hc := (hS.cell (p := ⟨q, 0, none⟩) hlt).trans c0; simp only [execOp, ho]; go_simp; try rfl
        simp only [Act.put, List.setIfInBounds_toArray, List.set_cons_zero, List.set_cons_succ]
        refine heldCall (d := some 6) (op := .call { callee := Callee.value (Operand.func 17), args := #[Operand.tmp 5], argTypes := #[23] }) (g := none) 1 17 #[.pointer (some ⟨q, 0, none⟩)] rfl (by kernel_rfl) (by kernel_rfl) ?y1 ?_
        case y1 => intro o' ho; simp only [execOp, ho]; go_simp; try rfl
        refine (len_any HK.out (HQ.out.below HBR).N).mono ?_
        rintro e w2 ⟨rfl, rfl⟩
        refine ⟨_, rfl, HBR, ?_⟩
        simp only [Act.put, List.setIfInBounds_toArray, List.set_cons_zero, List.set_cons_succ]
        refine heldTake (d := some 11) (op := .binOp BinOp.lss 3 (Operand.tmp 6) (Operand.tmp 10) 3) (g := none) 6 (.bool true) rfl (by kernel_rfl) (by kernel_rfl) (by kernel_rfl) (by kernel_rfl) ?y6 HBR ?_
        case y6 => intro o' ho W hS; exact by simp only [execOp, ho]; go_simp; try rfl
        simp only [Act.put, List.setIfInBounds_toArray, List.set_cons_zero, List.set_cons_succ]
        refine heldTake (d := some 12) (op := .move (Operand.tmp 11)) (g := none) 7 (.bool true) rfl (by kernel_rfl) (by kernel_rfl) (by kernel_rfl) (by kernel_rfl) ?y7 HBR ?_
        case y7 => intro o' ho W hS; exact by simp only [execOp, ho]; go_simp; try rfl
        simp only [Act.put, List.setIfInBounds_toArray, List.set_cons_zero, List.set_cons_succ]
        refine heldTake (d := some 13) (op := .move (Operand.tmp 1)) (g := some (7, true)) 8 ?v8 rfl (by kernel_rfl) (by kernel_rfl) (by kernel_rfl) (by kernel_rfl) ?y8 HBR ?_
        case y8 => intro o' ho W hS; simp only [execOp, ho]; go_simp; try rfl
        simp only [Act.put, List.setIfInBounds_toArray, List.set_cons_zero, List.set_cons_succ]
        refine heldTake (d := some 14) (op := .binOp BinOp.geq 3 (Operand.tmp 13) (Operand.const (Value.int IntKind.i64 0)) 3) (g := some (7, true)) 9 (.bool true) rfl (by kernel_rfl) (by kernel_rfl) (by kernel_rfl) (by kernel_rfl) ?y9 HBR ?_
        case y9 => intro o' ho W hS; exact by simp only [execOp, ho]; go_simp; try rfl
        simp only [Act.put, List.setIfInBounds_toArray, List.set_cons_zero, List.set_cons_succ]
        refine heldTake (d := some 15) (op := .pick (Operand.tmp 12) (Operand.tmp 14) (Operand.const (Value.bool false))) (g := none) 10 (.bool true) rfl (by kernel_rfl) (by kernel_rfl) (by kernel_rfl) (by kernel_rfl) ?y10 HBR ?_
        case y10 => intro o' ho W hS; exact by simp only [execOp, ho]; go_simp; try rfl
        simp only [Act.put, List.setIfInBounds_toArray, List.set_cons_zero, List.set_cons_succ]
        refine heldTake (d := some 16) (op := .move (Operand.tmp 15)) (g := none) 11 (.bool true) rfl (by kernel_rfl) (by kernel_rfl) (by kernel_rfl) (by kernel_rfl) ?y11 HBR ?_
        case y11 => intro o' ho W hS; exact by simp only [execOp, ho]; go_simp; try rfl
        simp only [Act.put, List.setIfInBounds_toArray, List.set_cons_zero, List.set_cons_succ]
        refine heldTake (d := some 17) (op := .move (Operand.tmp 1)) (g := some (11, true)) 12 ?v12 rfl (by kernel_rfl) (by kernel_rfl) (by kernel_rfl) (by kernel_rfl) ?y12 HBR ?_
        case y12 => intro o' ho W hS; simp only [execOp, ho]; go_simp; try rfl
        simp only [Act.put, List.setIfInBounds_toArray, List.set_cons_zero, List.set_cons_succ]
        refine heldTake (d := some 18) (op := .move (Operand.tmp 0)) (g := some (11, true)) 13 ?v13 rfl (by kernel_rfl) (by kernel_rfl) (by kernel_rfl) (by kernel_rfl) ?y13 HBR ?_
        case y13 => intro o' ho W hS; simp only [execOp, ho]; go_simp; try rfl
        simp only [Act.put, List.setIfInBounds_toArray, List.set_cons_zero, List.set_cons_succ]
        refine heldTake (d := some 19) (op := .nilCheck (Operand.tmp 18)) (g := some (11, true)) 14 ?v14 rfl (by kernel_rfl) (by kernel_rfl) (by kernel_rfl) (by kernel_rfl) ?y14 HBR ?_
        case y14 => intro o' ho W hS; simp only [execOp, ho]; go_simp; try rfl
        simp only [Act.put, List.setIfInBounds_toArray, List.set_cons_zero, List.set_cons_succ]
        refine heldTake (d := some 20) (op := .fieldAddr 56 (Operand.tmp 19) 1) (g := some (11, true)) 15 ?v15 rfl (by kernel_rfl) (by kernel_rfl) (by kernel_rfl) (by kernel_rfl) ?y15 HBR ?_
        case y15 => intro o' ho W hS; simp only [execOp, ho]; go_simp; try rfl
        simp only [Act.put, List.setIfInBounds_toArray, List.set_cons_zero, List.set_cons_succ]
        refine heldTake (d := some 22) (op := .move (Operand.tmp 0)) (g := some (11, true)) 17 ?v17 rfl (by kernel_rfl) (by kernel_rfl) (by kernel_rfl) (by kernel_rfl) ?y17 HBR ?_
        case y17 => intro o' ho W hS; simp only [execOp, ho]; go_simp; try rfl
        simp only [Act.put, List.setIfInBounds_toArray, List.set_cons_zero, List.set_cons_succ]
        refine heldTake (d := some 23) (op := .nilCheck (Operand.tmp 22)) (g := some (11, true)) 18 ?v18 rfl (by kernel_rfl) (by kernel_rfl) (by kernel_rfl) (by kernel_rfl) ?y18 HBR ?_
        case y18 => intro o' ho W hS; simp only [execOp, ho]; go_simp; try rfl
        simp only [Act.put, List.setIfInBounds_toArray, List.set_cons_zero, List.set_cons_succ]
        refine heldTake (d := some 24) (op := .fieldAddr 56 (Operand.tmp 23) 2) (g := some (11, true)) 19 ?v19 rfl (by kernel_rfl) (by kernel_rfl) (by kernel_rfl) (by kernel_rfl) ?y19 HBR ?_
        case y19 => intro o' ho W hS; simp only [execOp, ho]; go_simp; try rfl
        simp only [Act.put, List.setIfInBounds_toArray, List.set_cons_zero, List.set_cons_succ]
        refine heldTake (d := some 21) (op := .load 3 (Operand.tmp 20)) (g := some (11, true)) 16 ?v16 rfl (by kernel_rfl) (by kernel_rfl) (by kernel_rfl) (by kernel_rfl) ?y16 HBR ?_
        case y16 => intro o' ho W hS; have hc := (hS.cell (p := ⟨q, 1, none⟩) hlt).trans c1; simp only [execOp, ho]; go_simp; try rfl
        simp only [Act.put, List.setIfInBounds_toArray, List.set_cons_zero, List.set_cons_succ]
        refine heldTake (d := some 25) (op := .load 3 (Operand.tmp 24)) (g := some (11, true)) 20 ?v20 rfl (by kernel_rfl) (by kernel_rfl) (by kernel_rfl) (by kernel_rfl) ?y20 HBR ?_
        case y20 => intro o' ho W hS; have hc := (hS.cell (p := ⟨q, 2, none⟩) hlt).trans c2; simp only [execOp, ho]; go_simp; try rfl
        simp only [Act.put, List.setIfInBounds_toArray, List.set_cons_zero, List.set_cons_succ]
        refine heldTake (d := some 26) (op := .binOp BinOp.sub 3 (Operand.tmp 21) (Operand.tmp 25) 3) (g := some (11, true)) 21 ?v21 rfl (by kernel_rfl) (by kernel_rfl) (by kernel_rfl) (by kernel_rfl) ?y21 HBR ?_
        case y21 => intro o' ho W hS; simp only [execOp, ho]; go_simp; try rfl
        simp only [Act.put, List.setIfInBounds_toArray, List.set_cons_zero, List.set_cons_succ]
        refine heldTake (d := some 27) (op := .binOp BinOp.leq 3 (Operand.tmp 17) (Operand.tmp 26) 3) (g := some (11, true)) 22 (.bool true) rfl (by kernel_rfl) (by kernel_rfl) (by kernel_rfl) (by kernel_rfl) ?y22 HBR ?_
        case y22 => intro o' ho W hS; exact by simp only [execOp, ho]; go_simp; try rfl
        simp only [Act.put, List.setIfInBounds_toArray, List.set_cons_zero, List.set_cons_succ]
        refine heldTake (d := some 28) (op := .pick (Operand.tmp 16) (Operand.tmp 27) (Operand.const (Value.bool false))) (g := none) 23 (.bool true) rfl (by kernel_rfl) (by kernel_rfl) (by kernel_rfl) (by kernel_rfl) ?y23 HBR ?_
        case y23 => intro o' ho W hS; exact by simp only [execOp, ho]; go_simp; try rfl
        simp only [Act.put, List.setIfInBounds_toArray, List.set_cons_zero, List.set_cons_succ]
        refine heldTake (d := some 4) (op := .assign (Operand.tmp 28)) (g := none) 24 (.bool true) rfl (by kernel_rfl) (by kernel_rfl) (by kernel_rfl) (by kernel_rfl) ?y24 HBR ?_
        case y24 => intro o' ho W hS; exact by simp only [execOp, ho]; go_simp; try rfl
        simp only [Act.put, List.setIfInBounds_toArray, List.set_cons_zero, List.set_cons_succ]
        refine wpAnyH_done (by kernel_rfl) ?_ _
        refine NoPanic.normal ?_
        go_wp2
        go_ret
        exact ⟨by rw [HRR.out]; rfl, ⟨HBR⟩⟩
      · have hq3 : (n ≤ bytes' - (m : Int)) = False := eq_false h3
        have HRR : Sl (r = false) := ⟨by rw [← hR]; simp; omega⟩
        clear hR
        go_enter Try.func15, Try.ntmps15
        go_upto_region 1 with fail
        obtain ⟨Rw, hRw⟩ : ∃ R, W.drew = R := ⟨_, rfl⟩
        have HBR : Below W.heap.size W Rw := by rw [← hRw]; exact (Below.refl _ _).drew
        refine wp_region_noPanic ?_
        refine wp_region_held (S := fun V => Below W.heap.size W V) (by kernel_rfl) ?_
        change wpAnyH _ _ _ _ _ _ _ _ W.drew
        rw [hRw]
        clear hRw
        refine heldTake (d := some 5) (op := .move (Operand.tmp 0)) (g := none) 0 ?v0 rfl (by kernel_rfl) (by kernel_rfl) (by kernel_rfl) (by kernel_rfl) ?y0 HBR ?_
        case y0 => intro o' ho W hS; simp only [execOp, ho]; go_simp; try rfl
        simp only [Act.put, List.setIfInBounds_toArray, List.set_cons_zero, List.set_cons_succ]
        refine heldTake (d := some 7) (op := .move (Operand.tmp 0)) (g := none) 2 ?v2 rfl (by kernel_rfl) (by kernel_rfl) (by kernel_rfl) (by kernel_rfl) ?y2 HBR ?_
        case y2 => intro o' ho W hS; simp only [execOp, ho]; go_simp; try rfl
        simp only [Act.put, List.setIfInBounds_toArray, List.set_cons_zero, List.set_cons_succ]
        refine heldTake (d := some 8) (op := .nilCheck (Operand.tmp 7)) (g := none) 3 ?v3 rfl (by kernel_rfl) (by kernel_rfl) (by kernel_rfl) (by kernel_rfl) ?y3 HBR ?_
        case y3 => intro o' ho W hS; simp only [execOp, ho]; go_simp; try rfl
        simp only [Act.put, List.setIfInBounds_toArray, List.set_cons_zero, List.set_cons_succ]
        refine heldTake (d := some 9) (op := .fieldAddr 56 (Operand.tmp 8) 0) (g := none) 4 ?v4 rfl (by kernel_rfl) (by kernel_rfl) (by kernel_rfl) (by kernel_rfl) ?y4 HBR ?_
        case y4 => intro o' ho W hS; simp only [execOp, ho]; go_simp; try rfl
        simp only [Act.put, List.setIfInBounds_toArray, List.set_cons_zero, List.set_cons_succ]
        refine heldTake (d := some 10) (op := .load 3 (Operand.tmp 9)) (g := none) 5 ?v5 rfl (by kernel_rfl) (by kernel_rfl) (by kernel_rfl) (by kernel_rfl) ?y5 HBR ?_
        case y5 => intro o' ho W hS; have hc := (hS.cell (p := ⟨q, 0, none⟩) hlt).trans c0; simp only [execOp, ho]; go_simp; try rfl
        simp only [Act.put, List.setIfInBounds_toArray, List.set_cons_zero, List.set_cons_succ]
        refine heldCall (d := some 6) (op := .call { callee := Callee.value (Operand.func 17), args := #[Operand.tmp 5], argTypes := #[23] }) (g := none) 1 17 #[.pointer (some ⟨q, 0, none⟩)] rfl (by kernel_rfl) (by kernel_rfl) ?y1 ?_
        case y1 => intro o' ho; simp only [execOp, ho]; go_simp; try rfl
        refine (len_any HK.out (HQ.out.below HBR).N).mono ?_
        rintro e w2 ⟨rfl, rfl⟩
        refine ⟨_, rfl, HBR, ?_⟩
        simp only [Act.put, List.setIfInBounds_toArray, List.set_cons_zero, List.set_cons_succ]
        refine heldTake (d := some 11) (op := .binOp BinOp.lss 3 (Operand.tmp 6) (Operand.tmp 10) 3) (g := none) 6 (.bool true) rfl (by kernel_rfl) (by kernel_rfl) (by kernel_rfl) (by kernel_rfl) ?y6 HBR ?_
        case y6 => intro o' ho W hS; exact by simp only [execOp, ho]; go_simp; try rfl
        simp only [Act.put, List.setIfInBounds_toArray, List.set_cons_zero, List.set_cons_succ]
        refine heldTake (d := some 12) (op := .move (Operand.tmp 11)) (g := none) 7 (.bool true) rfl (by kernel_rfl) (by kernel_rfl) (by kernel_rfl) (by kernel_rfl) ?y7 HBR ?_
        case y7 => intro o' ho W hS; exact by simp only [execOp, ho]; go_simp; try rfl
        simp only [Act.put, List.setIfInBounds_toArray, List.set_cons_zero, List.set_cons_succ]
        refine heldTake (d := some 13) (op := .move (Operand.tmp 1)) (g := some (7, true)) 8 ?v8 rfl (by kernel_rfl) (by kernel_rfl) (by kernel_rfl) (by kernel_rfl) ?y8 HBR ?_
        case y8 => intro o' ho W hS; simp only [execOp, ho]; go_simp; try rfl
        simp only [Act.put, List.setIfInBounds_toArray, List.set_cons_zero, List.set_cons_succ]
        refine heldTake (d := some 14) (op := .binOp BinOp.geq 3 (Operand.tmp 13) (Operand.const (Value.int IntKind.i64 0)) 3) (g := some (7, true)) 9 (.bool true) rfl (by kernel_rfl) (by kernel_rfl) (by kernel_rfl) (by kernel_rfl) ?y9 HBR ?_
        case y9 => intro o' ho W hS; exact by simp only [execOp, ho]; go_simp; try rfl
        simp only [Act.put, List.setIfInBounds_toArray, List.set_cons_zero, List.set_cons_succ]
        refine heldTake (d := some 15) (op := .pick (Operand.tmp 12) (Operand.tmp 14) (Operand.const (Value.bool false))) (g := none) 10 (.bool true) rfl (by kernel_rfl) (by kernel_rfl) (by kernel_rfl) (by kernel_rfl) ?y10 HBR ?_
        case y10 => intro o' ho W hS; exact by simp only [execOp, ho]; go_simp; try rfl
        simp only [Act.put, List.setIfInBounds_toArray, List.set_cons_zero, List.set_cons_succ]
        refine heldTake (d := some 16) (op := .move (Operand.tmp 15)) (g := none) 11 (.bool true) rfl (by kernel_rfl) (by kernel_rfl) (by kernel_rfl) (by kernel_rfl) ?y11 HBR ?_
        case y11 => intro o' ho W hS; exact by simp only [execOp, ho]; go_simp; try rfl
        simp only [Act.put, List.setIfInBounds_toArray, List.set_cons_zero, List.set_cons_succ]
        refine heldTake (d := some 17) (op := .move (Operand.tmp 1)) (g := some (11, true)) 12 ?v12 rfl (by kernel_rfl) (by kernel_rfl) (by kernel_rfl) (by kernel_rfl) ?y12 HBR ?_
        case y12 => intro o' ho W hS; simp only [execOp, ho]; go_simp; try rfl
        simp only [Act.put, List.setIfInBounds_toArray, List.set_cons_zero, List.set_cons_succ]
        refine heldTake (d := some 18) (op := .move (Operand.tmp 0)) (g := some (11, true)) 13 ?v13 rfl (by kernel_rfl) (by kernel_rfl) (by kernel_rfl) (by kernel_rfl) ?y13 HBR ?_
        case y13 => intro o' ho W hS; simp only [execOp, ho]; go_simp; try rfl
        simp only [Act.put, List.setIfInBounds_toArray, List.set_cons_zero, List.set_cons_succ]
        refine heldTake (d := some 19) (op := .nilCheck (Operand.tmp 18)) (g := some (11, true)) 14 ?v14 rfl (by kernel_rfl) (by kernel_rfl) (by kernel_rfl) (by kernel_rfl) ?y14 HBR ?_
        case y14 => intro o' ho W hS; simp only [execOp, ho]; go_simp; try rfl
        simp only [Act.put, List.setIfInBounds_toArray, List.set_cons_zero, List.set_cons_succ]
        refine heldTake (d := some 20) (op := .fieldAddr 56 (Operand.tmp 19) 1) (g := some (11, true)) 15 ?v15 rfl (by kernel_rfl) (by kernel_rfl) (by kernel_rfl) (by kernel_rfl) ?y15 HBR ?_
        case y15 => intro o' ho W hS; simp only [execOp, ho]; go_simp; try rfl
        simp only [Act.put, List.setIfInBounds_toArray, List.set_cons_zero, List.set_cons_succ]
        refine heldTake (d := some 22) (op := .move (Operand.tmp 0)) (g := some (11, true)) 17 ?v17 rfl (by kernel_rfl) (by kernel_rfl) (by kernel_rfl) (by kernel_rfl) ?y17 HBR ?_
        case y17 => intro o' ho W hS; simp only [execOp, ho]; go_simp; try rfl
        simp only [Act.put, List.setIfInBounds_toArray, List.set_cons_zero, List.set_cons_succ]
        refine heldTake (d := some 23) (op := .nilCheck (Operand.tmp 22)) (g := some (11, true)) 18 ?v18 rfl (by kernel_rfl) (by kernel_rfl) (by kernel_rfl) (by kernel_rfl) ?y18 HBR ?_
        case y18 => intro o' ho W hS; simp only [execOp, ho]; go_simp; try rfl
        simp only [Act.put, List.setIfInBounds_toArray, List.set_cons_zero, List.set_cons_succ]
        refine heldTake (d := some 24) (op := .fieldAddr 56 (Operand.tmp 23) 2) (g := some (11, true)) 19 ?v19 rfl (by kernel_rfl) (by kernel_rfl) (by kernel_rfl) (by kernel_rfl) ?y19 HBR ?_
        case y19 => intro o' ho W hS; simp only [execOp, ho]; go_simp; try rfl
        simp only [Act.put, List.setIfInBounds_toArray, List.set_cons_zero, List.set_cons_succ]
        refine heldTake (d := some 21) (op := .load 3 (Operand.tmp 20)) (g := some (11, true)) 16 ?v16 rfl (by kernel_rfl) (by kernel_rfl) (by kernel_rfl) (by kernel_rfl) ?y16 HBR ?_
        case y16 => intro o' ho W hS; have hc := (hS.cell (p := ⟨q, 1, none⟩) hlt).trans c1; simp only [execOp, ho]; go_simp; try rfl
        simp only [Act.put, List.setIfInBounds_toArray, List.set_cons_zero, List.set_cons_succ]
        refine heldTake (d := some 25) (op := .load 3 (Operand.tmp 24)) (g := some (11, true)) 20 ?v20 rfl (by kernel_rfl) (by kernel_rfl) (by kernel_rfl) (by kernel_rfl) ?y20 HBR ?_
        case y20 => intro o' ho W hS; have hc := (hS.cell (p := ⟨q, 2, none⟩) hlt).trans c2; simp only [execOp, ho]; go_simp; try rfl
        simp only [Act.put, List.setIfInBounds_toArray, List.set_cons_zero, List.set_cons_succ]
        refine heldTake (d := some 26) (op := .binOp BinOp.sub 3 (Operand.tmp 21) (Operand.tmp 25) 3) (g := some (11, true)) 21 ?v21 rfl (by kernel_rfl) (by kernel_rfl) (by kernel_rfl) (by kernel_rfl) ?y21 HBR ?_
        case y21 => intro o' ho W hS; simp only [execOp, ho]; go_simp; try rfl
        simp only [Act.put, List.setIfInBounds_toArray, List.set_cons_zero, List.set_cons_succ]
        refine heldTake (d := some 27) (op := .binOp BinOp.leq 3 (Operand.tmp 17) (Operand.tmp 26) 3) (g := some (11, true)) 22 (.bool false) rfl (by kernel_rfl) (by kernel_rfl) (by kernel_rfl) (by kernel_rfl) ?y22 HBR ?_
        case y22 => intro o' ho W hS; exact by simp only [execOp, ho]; go_simp; try rfl
        simp only [Act.put, List.setIfInBounds_toArray, List.set_cons_zero, List.set_cons_succ]
        refine heldTake (d := some 28) (op := .pick (Operand.tmp 16) (Operand.tmp 27) (Operand.const (Value.bool false))) (g := none) 23 (.bool false) rfl (by kernel_rfl) (by kernel_rfl) (by kernel_rfl) (by kernel_rfl) ?y23 HBR ?_
        case y23 => intro o' ho W hS; exact by simp only [execOp, ho]; go_simp; try rfl
        simp only [Act.put, List.setIfInBounds_toArray, List.set_cons_zero, List.set_cons_succ]
        refine heldTake (d := some 4) (op := .assign (Operand.tmp 28)) (g := none) 24 (.bool false) rfl (by kernel_rfl) (by kernel_rfl) (by kernel_rfl) (by kernel_rfl) ?y24 HBR ?_
        case y24 => intro o' ho W hS; exact by simp only [execOp, ho]; go_simp; try rfl
        simp only [Act.put, List.setIfInBounds_toArray, List.set_cons_zero, List.set_cons_succ]
        refine wpAnyH_done (by kernel_rfl) ?_ _
        refine NoPanic.normal ?_
        go_wp2
        go_ret
        exact ⟨by rw [HRR.out]; rfl, ⟨HBR⟩⟩
    · have hq2 : (n ≥ 0) = False := eq_false h2
      have HRR : Sl (r = false) := ⟨by rw [← hR]; simp; omega⟩
      clear hR
      go_enter Try.func15, Try.ntmps15
      go_upto_region 1 with fail
      obtain ⟨Rw, hRw⟩ : ∃ R, W.drew = R := ⟨_, rfl⟩
      have HBR : Below W.heap.size W Rw := by rw [← hRw]; exact (Below.refl _ _).drew
      refine wp_region_noPanic ?_
      refine wp_region_held (S := fun V => Below W.heap.size W V) (by kernel_rfl) ?_
      change wpAnyH _ _ _ _ _ _ _ _ W.drew
      rw [hRw]
      clear hRw
      refine heldTake (d := some 5) (op := .move (Operand.tmp 0)) (g := none) 0 ?v0 rfl (by kernel_rfl) (by kernel_rfl) (by kernel_rfl) (by kernel_rfl) ?y0 HBR ?_
      case y0 => intro o' ho W hS; simp only [execOp, ho]; go_simp; try rfl
      simp only [Act.put, List.setIfInBounds_toArray, List.set_cons_zero, List.set_cons_succ]
      refine heldTake (d := some 7) (op := .move (Operand.tmp 0)) (g := none) 2 ?v2 rfl (by kernel_rfl) (by kernel_rfl) (by kernel_rfl) (by kernel_rfl) ?y2 HBR ?_
      case y2 => intro o' ho W hS; simp only [execOp, ho]; go_simp; try rfl
      simp only [Act.put, List.setIfInBounds_toArray, List.set_cons_zero, List.set_cons_succ]
      refine heldTake (d := some 8) (op := .nilCheck (Operand.tmp 7)) (g := none) 3 ?v3 rfl (by kernel_rfl) (by kernel_rfl) (by kernel_rfl) (by kernel_rfl) ?y3 HBR ?_
      case y3 => intro o' ho W hS; simp only [execOp, ho]; go_simp; try rfl
      simp only [Act.put, List.setIfInBounds_toArray, List.set_cons_zero, List.set_cons_succ]
      refine heldTake (d := some 9) (op := .fieldAddr 56 (Operand.tmp 8) 0) (g := none) 4 ?v4 rfl (by kernel_rfl) (by kernel_rfl) (by kernel_rfl) (by kernel_rfl) ?y4 HBR ?_
      case y4 => intro o' ho W hS; simp only [execOp, ho]; go_simp; try rfl
      simp only [Act.put, List.setIfInBounds_toArray, List.set_cons_zero, List.set_cons_succ]
      refine heldTake (d := some 10) (op := .load 3 (Operand.tmp 9)) (g := none) 5 ?v5 rfl (by kernel_rfl) (by kernel_rfl) (by kernel_rfl) (by kernel_rfl) ?y5 HBR ?_
      case y5 => intro o' ho W hS; have hc := (hS.cell (p := ⟨q, 0, none⟩) hlt).trans c0; simp only [execOp, ho]; go_simp; try rfl
      simp only [Act.put, List.setIfInBounds_toArray, List.set_cons_zero, List.set_cons_succ]
      refine heldCall (d := some 6) (op := .call { callee := Callee.value (Operand.func 17), args := #[Operand.tmp 5], argTypes := #[23] }) (g := none) 1 17 #[.pointer (some ⟨q, 0, none⟩)] rfl (by kernel_rfl) (by kernel_rfl) ?y1 ?_
      case y1 => intro o' ho; simp only [execOp, ho]; go_simp; try rfl
      refine (len_any HK.out (HQ.out.below HBR).N).mono ?_
      rintro e w2 ⟨rfl, rfl⟩
      refine ⟨_, rfl, HBR, ?_⟩
      simp only [Act.put, List.setIfInBounds_toArray, List.set_cons_zero, List.set_cons_succ]
      refine heldTake (d := some 11) (op := .binOp BinOp.lss 3 (Operand.tmp 6) (Operand.tmp 10) 3) (g := none) 6 (.bool true) rfl (by kernel_rfl) (by kernel_rfl) (by kernel_rfl) (by kernel_rfl) ?y6 HBR ?_
      case y6 => intro o' ho W hS; exact by simp only [execOp, ho]; go_simp; try rfl
      simp only [Act.put, List.setIfInBounds_toArray, List.set_cons_zero, List.set_cons_succ]
      refine heldTake (d := some 12) (op := .move (Operand.tmp 11)) (g := none) 7 (.bool true) rfl (by kernel_rfl) (by kernel_rfl) (by kernel_rfl) (by kernel_rfl) ?y7 HBR ?_
      case y7 => intro o' ho W hS; exact by simp only [execOp, ho]; go_simp; try rfl
      simp only [Act.put, List.setIfInBounds_toArray, List.set_cons_zero, List.set_cons_succ]
      refine heldTake (d := some 13) (op := .move (Operand.tmp 1)) (g := some (7, true)) 8 ?v8 rfl (by kernel_rfl) (by kernel_rfl) (by kernel_rfl) (by kernel_rfl) ?y8 HBR ?_
      case y8 => intro o' ho W hS; simp only [execOp, ho]; go_simp; try rfl
      simp only [Act.put, List.setIfInBounds_toArray, List.set_cons_zero, List.set_cons_succ]
      refine heldTake (d := some 14) (op := .binOp BinOp.geq 3 (Operand.tmp 13) (Operand.const (Value.int IntKind.i64 0)) 3) (g := some (7, true)) 9 (.bool false) rfl (by kernel_rfl) (by kernel_rfl) (by kernel_rfl) (by kernel_rfl) ?y9 HBR ?_
      case y9 => intro o' ho W hS; exact by simp only [execOp, ho]; go_simp; try rfl
      simp only [Act.put, List.setIfInBounds_toArray, List.set_cons_zero, List.set_cons_succ]
      refine heldTake (d := some 15) (op := .pick (Operand.tmp 12) (Operand.tmp 14) (Operand.const (Value.bool false))) (g := none) 10 (.bool false) rfl (by kernel_rfl) (by kernel_rfl) (by kernel_rfl) (by kernel_rfl) ?y10 HBR ?_
      case y10 => intro o' ho W hS; exact by simp only [execOp, ho]; go_simp; try rfl
      simp only [Act.put, List.setIfInBounds_toArray, List.set_cons_zero, List.set_cons_succ]
      refine heldTake (d := some 16) (op := .move (Operand.tmp 15)) (g := none) 11 (.bool false) rfl (by kernel_rfl) (by kernel_rfl) (by kernel_rfl) (by kernel_rfl) ?y11 HBR ?_
      case y11 => intro o' ho W hS; exact by simp only [execOp, ho]; go_simp; try rfl
      simp only [Act.put, List.setIfInBounds_toArray, List.set_cons_zero, List.set_cons_succ]
      refine heldSkip (d := some 17) (op := .move (Operand.tmp 1)) (g := some (11, true)) 12 rfl (by kernel_rfl) (by kernel_rfl) (by kernel_rfl) (by kernel_rfl) HBR ?_
      simp only [Act.put, List.setIfInBounds_toArray, List.set_cons_zero, List.set_cons_succ]
      refine heldSkip (d := some 18) (op := .move (Operand.tmp 0)) (g := some (11, true)) 13 rfl (by kernel_rfl) (by kernel_rfl) (by kernel_rfl) (by kernel_rfl) HBR ?_
      simp only [Act.put, List.setIfInBounds_toArray, List.set_cons_zero, List.set_cons_succ]
      refine heldSkip (d := some 19) (op := .nilCheck (Operand.tmp 18)) (g := some (11, true)) 14 rfl (by kernel_rfl) (by kernel_rfl) (by kernel_rfl) (by kernel_rfl) HBR ?_
      simp only [Act.put, List.setIfInBounds_toArray, List.set_cons_zero, List.set_cons_succ]
      refine heldSkip (d := some 20) (op := .fieldAddr 56 (Operand.tmp 19) 1) (g := some (11, true)) 15 rfl (by kernel_rfl) (by kernel_rfl) (by kernel_rfl) (by kernel_rfl) HBR ?_
      simp only [Act.put, List.setIfInBounds_toArray, List.set_cons_zero, List.set_cons_succ]
      refine heldSkip (d := some 21) (op := .load 3 (Operand.tmp 20)) (g := some (11, true)) 16 rfl (by kernel_rfl) (by kernel_rfl) (by kernel_rfl) (by kernel_rfl) HBR ?_
      simp only [Act.put, List.setIfInBounds_toArray, List.set_cons_zero, List.set_cons_succ]
      refine heldSkip (d := some 22) (op := .move (Operand.tmp 0)) (g := some (11, true)) 17 rfl (by kernel_rfl) (by kernel_rfl) (by kernel_rfl) (by kernel_rfl) HBR ?_
      simp only [Act.put, List.setIfInBounds_toArray, List.set_cons_zero, List.set_cons_succ]
      refine heldSkip (d := some 23) (op := .nilCheck (Operand.tmp 22)) (g := some (11, true)) 18 rfl (by kernel_rfl) (by kernel_rfl) (by kernel_rfl) (by kernel_rfl) HBR ?_
      simp only [Act.put, List.setIfInBounds_toArray, List.set_cons_zero, List.set_cons_succ]
      refine heldSkip (d := some 24) (op := .fieldAddr 56 (Operand.tmp 23) 2) (g := some (11, true)) 19 rfl (by kernel_rfl) (by kernel_rfl) (by kernel_rfl) (by kernel_rfl) HBR ?_
      simp only [Act.put, List.setIfInBounds_toArray, List.set_cons_zero, List.set_cons_succ]
      refine heldSkip (d := some 25) (op := .load 3 (Operand.tmp 24)) (g := some (11, true)) 20 rfl (by kernel_rfl) (by kernel_rfl) (by kernel_rfl) (by kernel_rfl) HBR ?_
      simp only [Act.put, List.setIfInBounds_toArray, List.set_cons_zero, List.set_cons_succ]
      refine heldSkip (d := some 26) (op := .binOp BinOp.sub 3 (Operand.tmp 21) (Operand.tmp 25) 3) (g := some (11, true)) 21 rfl (by kernel_rfl) (by kernel_rfl) (by kernel_rfl) (by kernel_rfl) HBR ?_
      simp only [Act.put, List.setIfInBounds_toArray, List.set_cons_zero, List.set_cons_succ]
      refine heldSkip (d := some 27) (op := .binOp BinOp.leq 3 (Operand.tmp 17) (Operand.tmp 26) 3) (g := some (11, true)) 22 rfl (by kernel_rfl) (by kernel_rfl) (by kernel_rfl) (by kernel_rfl) HBR ?_
      simp only [Act.put, List.setIfInBounds_toArray, List.set_cons_zero, List.set_cons_succ]
      refine heldTake (d := some 28) (op := .pick (Operand.tmp 16) (Operand.tmp 27) (Operand.const (Value.bool false))) (g := none) 23 (.bool false) rfl (by kernel_rfl) (by kernel_rfl) (by kernel_rfl) (by kernel_rfl) ?y23 HBR ?_
      case y23 => intro o' ho W hS; exact by simp only [execOp, ho]; go_simp; try rfl
      simp only [Act.put, List.setIfInBounds_toArray, List.set_cons_zero, List.set_cons_succ]
      refine heldTake (d := some 4) (op := .assign (Operand.tmp 28)) (g := none) 24 (.bool false) rfl (by kernel_rfl) (by kernel_rfl) (by kernel_rfl) (by kernel_rfl) ?y24 HBR ?_
      case y24 => intro o' ho W hS; exact by simp only [execOp, ho]; go_simp; try rfl
      simp only [Act.put, List.setIfInBounds_toArray, List.set_cons_zero, List.set_cons_succ]
      refine wpAnyH_done (by kernel_rfl) ?_ _
      refine NoPanic.normal ?_
      go_wp2
      go_ret
      exact ⟨by rw [HRR.out]; rfl, ⟨HBR⟩⟩
  · have hq1 : ((k : Int) < count) = False := eq_false h1
    have HRR : Sl (r = false) := ⟨by rw [← hR]; simp; omega⟩
    clear hR
    go_enter Try.func15, Try.ntmps15
    go_upto_region 1 with fail
    obtain ⟨Rw, hRw⟩ : ∃ R, W.drew = R := ⟨_, rfl⟩
    have HBR : Below W.heap.size W Rw := by rw [← hRw]; exact (Below.refl _ _).drew
    refine wp_region_noPanic ?_
    refine wp_region_held (S := fun V => Below W.heap.size W V) (by kernel_rfl) ?_
    change wpAnyH _ _ _ _ _ _ _ _ W.drew
    rw [hRw]
    clear hRw
    refine heldTake (d := some 5) (op := .move (Operand.tmp 0)) (g := none) 0 ?v0 rfl (by kernel_rfl) (by kernel_rfl) (by kernel_rfl) (by kernel_rfl) ?y0 HBR ?_
    case y0 => intro o' ho W hS; simp only [execOp, ho]; go_simp; try rfl
    simp only [Act.put, List.setIfInBounds_toArray, List.set_cons_zero, List.set_cons_succ]
    refine heldTake (d := some 7) (op := .move (Operand.tmp 0)) (g := none) 2 ?v2 rfl (by kernel_rfl) (by kernel_rfl) (by kernel_rfl) (by kernel_rfl) ?y2 HBR ?_
    case y2 => intro o' ho W hS; simp only [execOp, ho]; go_simp; try rfl
    simp only [Act.put, List.setIfInBounds_toArray, List.set_cons_zero, List.set_cons_succ]
    refine heldTake (d := some 8) (op := .nilCheck (Operand.tmp 7)) (g := none) 3 ?v3 rfl (by kernel_rfl) (by kernel_rfl) (by kernel_rfl) (by kernel_rfl) ?y3 HBR ?_
    case y3 => intro o' ho W hS; simp only [execOp, ho]; go_simp; try rfl
    simp only [Act.put, List.setIfInBounds_toArray, List.set_cons_zero, List.set_cons_succ]
    refine heldTake (d := some 9) (op := .fieldAddr 56 (Operand.tmp 8) 0) (g := none) 4 ?v4 rfl (by kernel_rfl) (by kernel_rfl) (by kernel_rfl) (by kernel_rfl) ?y4 HBR ?_
    case y4 => intro o' ho W hS; simp only [execOp, ho]; go_simp; try rfl
    simp only [Act.put, List.setIfInBounds_toArray, List.set_cons_zero, List.set_cons_succ]
    refine heldTake (d := some 10) (op := .load 3 (Operand.tmp 9)) (g := none) 5 ?v5 rfl (by kernel_rfl) (by kernel_rfl) (by kernel_rfl) (by kernel_rfl) ?y5 HBR ?_
    case y5 => intro o' ho W hS; have hc := (hS.cell (p := ⟨q, 0, none⟩) hlt).trans c0; simp only [execOp, ho]; go_simp; try rfl
    simp only [Act.put, List.setIfInBounds_toArray, List.set_cons_zero, List.set_cons_succ]
    refine heldCall (d := some 6) (op := .call { callee := Callee.value (Operand.func 17), args := #[Operand.tmp 5], argTypes := #[23] }) (g := none) 1 17 #[.pointer (some ⟨q, 0, none⟩)] rfl (by kernel_rfl) (by kernel_rfl) ?y1 ?_
    case y1 => intro o' ho; simp only [execOp, ho]; go_simp; try rfl
    refine (len_any HK.out (HQ.out.below HBR).N).mono ?_
    rintro e w2 ⟨rfl, rfl⟩
    refine ⟨_, rfl, HBR, ?_⟩
    simp only [Act.put, List.setIfInBounds_toArray, List.set_cons_zero, List.set_cons_succ]
    refine heldTake (d := some 11) (op := .binOp BinOp.lss 3 (Operand.tmp 6) (Operand.tmp 10) 3) (g := none) 6 (.bool false) rfl (by kernel_rfl) (by kernel_rfl) (by kernel_rfl) (by kernel_rfl) ?y6 HBR ?_
    case y6 => intro o' ho W hS; exact by simp only [execOp, ho]; go_simp; try rfl
    simp only [Act.put, List.setIfInBounds_toArray, List.set_cons_zero, List.set_cons_succ]
    refine heldTake (d := some 12) (op := .move (Operand.tmp 11)) (g := none) 7 (.bool false) rfl (by kernel_rfl) (by kernel_rfl) (by kernel_rfl) (by kernel_rfl) ?y7 HBR ?_
    case y7 => intro o' ho W hS; exact by simp only [execOp, ho]; go_simp; try rfl
    simp only [Act.put, List.setIfInBounds_toArray, List.set_cons_zero, List.set_cons_succ]
    refine heldSkip (d := some 13) (op := .move (Operand.tmp 1)) (g := some (7, true)) 8 rfl (by kernel_rfl) (by kernel_rfl) (by kernel_rfl) (by kernel_rfl) HBR ?_
    simp only [Act.put, List.setIfInBounds_toArray, List.set_cons_zero, List.set_cons_succ]
    refine heldSkip (d := some 14) (op := .binOp BinOp.geq 3 (Operand.tmp 13) (Operand.const (Value.int IntKind.i64 0)) 3) (g := some (7, true)) 9 rfl (by kernel_rfl) (by kernel_rfl) (by kernel_rfl) (by kernel_rfl) HBR ?_
    simp only [Act.put, List.setIfInBounds_toArray, List.set_cons_zero, List.set_cons_succ]
    refine heldTake (d := some 15) (op := .pick (Operand.tmp 12) (Operand.tmp 14) (Operand.const (Value.bool false))) (g := none) 10 (.bool false) rfl (by kernel_rfl) (by kernel_rfl) (by kernel_rfl) (by kernel_rfl) ?y10 HBR ?_
    case y10 => intro o' ho W hS; exact by simp only [execOp, ho]; go_simp; try rfl
    simp only [Act.put, List.setIfInBounds_toArray, List.set_cons_zero, List.set_cons_succ]
    refine heldTake (d := some 16) (op := .move (Operand.tmp 15)) (g := none) 11 (.bool false) rfl (by kernel_rfl) (by kernel_rfl) (by kernel_rfl) (by kernel_rfl) ?y11 HBR ?_
    case y11 => intro o' ho W hS; exact by simp only [execOp, ho]; go_simp; try rfl
    simp only [Act.put, List.setIfInBounds_toArray, List.set_cons_zero, List.set_cons_succ]
    refine heldSkip (d := some 17) (op := .move (Operand.tmp 1)) (g := some (11, true)) 12 rfl (by kernel_rfl) (by kernel_rfl) (by kernel_rfl) (by kernel_rfl) HBR ?_
    simp only [Act.put, List.setIfInBounds_toArray, List.set_cons_zero, List.set_cons_succ]
    refine heldSkip (d := some 18) (op := .move (Operand.tmp 0)) (g := some (11, true)) 13 rfl (by kernel_rfl) (by kernel_rfl) (by kernel_rfl) (by kernel_rfl) HBR ?_
    simp only [Act.put, List.setIfInBounds_toArray, List.set_cons_zero, List.set_cons_succ]
    refine heldSkip (d := some 19) (op := .nilCheck (Operand.tmp 18)) (g := some (11, true)) 14 rfl (by kernel_rfl) (by kernel_rfl) (by kernel_rfl) (by kernel_rfl) HBR ?_
    simp only [Act.put, List.setIfInBounds_toArray, List.set_cons_zero, List.set_cons_succ]
    refine heldSkip (d := some 20) (op := .fieldAddr 56 (Operand.tmp 19) 1) (g := some (11, true)) 15 rfl (by kernel_rfl) (by kernel_rfl) (by kernel_rfl) (by kernel_rfl) HBR ?_
    simp only [Act.put, List.setIfInBounds_toArray, List.set_cons_zero, List.set_cons_succ]
    refine heldSkip (d := some 21) (op := .load 3 (Operand.tmp 20)) (g := some (11, true)) 16 rfl (by kernel_rfl) (by kernel_rfl) (by kernel_rfl) (by kernel_rfl) HBR ?_
    simp only [Act.put, List.setIfInBounds_toArray, List.set_cons_zero, List.set_cons_succ]
    refine heldSkip (d := some 22) (op := .move (Operand.tmp 0)) (g := some (11, true)) 17 rfl (by kernel_rfl) (by kernel_rfl) (by kernel_rfl) (by kernel_rfl) HBR ?_
    simp only [Act.put, List.setIfInBounds_toArray, List.set_cons_zero, List.set_cons_succ]
    refine heldSkip (d := some 23) (op := .nilCheck (Operand.tmp 22)) (g := some (11, true)) 18 rfl (by kernel_rfl) (by kernel_rfl) (by kernel_rfl) (by kernel_rfl) HBR ?_
    simp only [Act.put, List.setIfInBounds_toArray, List.set_cons_zero, List.set_cons_succ]
    refine heldSkip (d := some 24) (op := .fieldAddr 56 (Operand.tmp 23) 2) (g := some (11, true)) 19 rfl (by kernel_rfl) (by kernel_rfl) (by kernel_rfl) (by kernel_rfl) HBR ?_
    simp only [Act.put, List.setIfInBounds_toArray, List.set_cons_zero, List.set_cons_succ]
    refine heldSkip (d := some 25) (op := .load 3 (Operand.tmp 24)) (g := some (11, true)) 20 rfl (by kernel_rfl) (by kernel_rfl) (by kernel_rfl) (by kernel_rfl) HBR ?_
    simp only [Act.put, List.setIfInBounds_toArray, List.set_cons_zero, List.set_cons_succ]
    refine heldSkip (d := some 26) (op := .binOp BinOp.sub 3 (Operand.tmp 21) (Operand.tmp 25) 3) (g := some (11, true)) 21 rfl (by kernel_rfl) (by kernel_rfl) (by kernel_rfl) (by kernel_rfl) HBR ?_
    simp only [Act.put, List.setIfInBounds_toArray, List.set_cons_zero, List.set_cons_succ]
    refine heldSkip (d := some 27) (op := .binOp BinOp.leq 3 (Operand.tmp 17) (Operand.tmp 26) 3) (g := some (11, true)) 22 rfl (by kernel_rfl) (by kernel_rfl) (by kernel_rfl) (by kernel_rfl) HBR ?_
    simp only [Act.put, List.setIfInBounds_toArray, List.set_cons_zero, List.set_cons_succ]
    refine heldTake (d := some 28) (op := .pick (Operand.tmp 16) (Operand.tmp 27) (Operand.const (Value.bool false))) (g := none) 23 (.bool false) rfl (by kernel_rfl) (by kernel_rfl) (by kernel_rfl) (by kernel_rfl) ?y23 HBR ?_
    case y23 => intro o' ho W hS; exact by simp only [execOp, ho]; go_simp; try rfl
    simp only [Act.put, List.setIfInBounds_toArray, List.set_cons_zero, List.set_cons_succ]
    refine heldTake (d := some 4) (op := .assign (Operand.tmp 28)) (g := none) 24 (.bool false) rfl (by kernel_rfl) (by kernel_rfl) (by kernel_rfl) (by kernel_rfl) ?y24 HBR ?_
    case y24 => intro o' ho W hS; exact by simp only [execOp, ho]; go_simp; try rfl
    simp only [Act.put, List.setIfInBounds_toArray, List.set_cons_zero, List.set_cons_succ]
    refine wpAnyH_done (by kernel_rfl) ?_ _
    refine NoPanic.normal ?_
    go_wp2
    go_ret
    exact ⟨by rw [HRR.out]; rfl, ⟨HBR⟩⟩
end Go.Proofs.Ytflnmjiopeoodaa.Que
