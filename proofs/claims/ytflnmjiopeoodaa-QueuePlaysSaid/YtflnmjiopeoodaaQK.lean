/- queue: the document's Size and Room. -/
import Derived.Test.YtflnmjiopeoodaaQJ
set_option maxRecDepth 100000
namespace Go.Proofs.Ytflnmjiopeoodaa.Que
open Go.RowKit Evt QueuePlain
open MsgPlain (Ev)

/-- The document's queue, in a block. -/
theorem box_q (W : World) (count bytes' : Int) (L : Value) : ∃ V, W.alloc (.cells #[.int .i64 count, .int .i64 bytes', L] 30) = V ∧ Sl (Below W.heap.size W V) ∧ V.heap[W.heap.size]? = some (.cells #[.int .i64 count, .int .i64 bytes', L] 30 (0, 0)) :=
  ⟨_, rfl, ⟨(Below.refl _ _).alloc (Nat.le_refl _) _⟩, alloc_new _ _ _ rfl⟩
theorem q_cells {W : World} {g : Nat} {count bytes' : Int} {L : Value} (h : W.heap[g]? = some (.cells #[.int .i64 count, .int .i64 bytes', L] 30 (0, 0))) : W.cell? ⟨g, 0, none⟩ = some (.int .i64 count) ∧ W.cell? ⟨g, 1, none⟩ = some (.int .i64 bytes') ∧ W.cell? ⟨g, 2, none⟩ = some L := by
  refine ⟨?_, ?_, ?_⟩ <;> (rw [cell_of_row _ _ _ _ _ _ h]; rfl)
set_option maxHeartbeats 4000000 in
theorem refsize_any (l : List Ev) (L : Value) (count bytes' : Int) (m : Nat) (W : World) (hL : EvsAt W L l) (hl : l.length ≤ 1000000) (hm : size l = m) (hm2 : m ≤ 1000000000) :
    Calls Try.prog 19 #[.agg #[.int .i64 count, .int .i64 bytes', L]] W fun e w' => e = .returned (.int .i64 (m : Int)) ∧ Sl (Below W.heap.size W w') := by
  obtain ⟨a, c, rfl⟩ := hL.slice
  obtain ⟨n, hn⟩ : ∃ n, l.length = n := ⟨_, rfl⟩
  rw [hn] at hL hl ⊢
  obtain ⟨wa, hwa, HBa, ha⟩ := box_q W count bytes' (.slice a n c)
  have HL := Sl.mk hL
  have HA := Sl.mk ha
  have HN := Sl.mk hn
  have HM := Sl.mk hm
  clear hL hn ha hm
  go_enter Try.func19, Try.ntmps19
  go_wp2
  go_loopw [3, 4] (fun y i wr => ∃ (k r : Nat), y = .int .i64 (r : Int) ∧ i = .int .i64 (k : Int) ∧ k ≤ n ∧ r ≤ m ∧ Sl (size (l.take k) = r) ∧ Sl (Below wa.heap.size wa wr)) (fun _ i _ => n - (intOf i).toNat)
  case atStart => exact ⟨0, 0, rfl, rfl, Nat.zero_le _, Nat.zero_le _, ⟨rfl⟩, ⟨Below.refl _ _⟩⟩
  case round =>
    obtain ⟨k, r, rfl, rfl, hk, hr, HR, HB⟩ := hrel
    obtain ⟨d0, d1, d2⟩ := q_cells (below_key HA.out HB.out)
    by_cases hkn : k < n
    · have hlt : ((k : Int) < (n : Int)) = True := eq_true (by omega)
      have hkl : k < l.length := by rw [HN.out]; exact hkn
      obtain ⟨sb, so, rfl⟩ := HL.out.cap.2.2 (by omega)
      obtain ⟨o, cd, d, he⟩ : ∃ o cd d, l.getD k Ev0 = ⟨o, cd, d⟩ := ⟨_, _, _, rfl⟩
      obtain ⟨-, -, c2⟩ := ((HL.out.below HBa.out).below HB.out).at3 k hkl he
      have hst : size (l.take (k + 1)) = r + d.length := by rw [size_take l k hkl Ev0, HR.out, he]
      have hle : r + d.length ≤ m := by rw [← hst, ← HM.out]; exact size_take_le l (k + 1)
      obtain ⟨S, hS⟩ : ∃ S, strOf d = S := ⟨_, rfl⟩
      have hSz : S.size = d.length := by rw [← hS, strOf_size]
      rw [hS] at c2
      rw [← hSz] at hst hle
      have HST := Sl.mk hst
      clear he hst hS hSz
      go_wp2
      exact ⟨⟨k + 1, r + S.size, by go_num, by go_num, by omega, by omega, HST, HB⟩, by simp [intOf]; omega⟩
    · obtain rfl : k = n := by omega
      have hlt : ((k : Int) < (k : Int)) = False := eq_false (by omega)
      obtain rfl : r = m := by rw [← HR.out, ← HM.out, List.take_of_length_le (by rw [HN.out]; exact Nat.le_refl _)]
      go_wp2
      go_ret
      exact ⟨rfl, ⟨HBa.out.trans (HB.out.mono HBa.out.size)⟩⟩
set_option maxHeartbeats 8000000 in
theorem refroom_any (l : List Ev) (L : Value) (count bytes' n : Int) (r : Bool) (W : World) (hL : EvsAt W L l) (hl : l.length ≤ 1000000) (hz : size l ≤ 1000000000) (hb : bytes' ≤ 1000000000) (hr : room count bytes' l n = r) :
    Calls Try.prog 16 #[.agg #[.int .i64 count, .int .i64 bytes', L], .int .i64 n] W fun e w' => e = .returned (.bool r) ∧ Sl (Below W.heap.size W w') := by
  obtain ⟨a, c, rfl⟩ := hL.slice
  obtain ⟨k, hk⟩ : ∃ k, l.length = k := ⟨_, rfl⟩
  obtain ⟨m, hm⟩ : ∃ m, size l = m := ⟨_, rfl⟩
  rw [hm] at hz
  have hR : decide ((k : Int) < count ∧ 0 ≤ n ∧ n ≤ bytes' ∧ (m : Int) + n ≤ bytes') = r := by rw [← hk, ← hm]; exact hr
  have HL := Sl.mk hL
  have HLN := Sl.mk hl
  have HM := Sl.mk hm
  rw [hk] at HL hl ⊢
  obtain ⟨wa, hwa, HBa, ha⟩ := box_q W count bytes' (.slice a k c)
  have hxl : W.heap.size < wa.heap.size := (Array.getElem?_eq_some_iff.1 ha).1
  have HA := Sl.mk ha
  clear hL hr ha hm
  by_cases h1 : (k : Int) < count
  · have hq1 : ((k : Int) < count) = True := eq_true h1
    by_cases h2 : 0 ≤ n
    · have hq2 : (n ≥ 0) = True := eq_true h2
      by_cases h3 : n ≤ bytes'
      · have hq3 : (n ≤ bytes') = True := eq_true h3
        have hwr : wrap64 ((m : Int) + n) = (m : Int) + n := by unfold wrap64; omega
        have hwk : IntKind.i64.wrap ((m : Int) + n) = (m : Int) + n := by rw [IntKind.wrap_i64]; omega
        by_cases h4 : (m : Int) + n ≤ bytes'
        · have hq4 : ((m : Int) + n ≤ bytes') = True := eq_true h4
          have HRR : Sl (r = true) := ⟨by rw [← hR]; simp; omega⟩
          clear hR
          go_enter Try.func16, Try.ntmps16
          go_upto_region 1 with fail
          obtain ⟨Rw, hRw⟩ : ∃ R, wa.drew = R := ⟨_, rfl⟩
          have HBR : Below wa.heap.size wa Rw := by rw [← hRw]; exact (Below.refl _ _).drew
          refine wp_region_noPanic ?_
          refine wp_region_held (S := fun V => Below wa.heap.size wa V) (by kernel_rfl) ?_
          change wpAnyH _ _ _ _ _ _ _ _ wa.drew
          rw [hRw]
          clear hRw
          refine heldTake (d := some 5) (op := .fieldAddr 30 (Operand.tmp 2) 2) (g := none) 0 ?v0 rfl (by kernel_rfl) (by kernel_rfl) (by kernel_rfl) (by kernel_rfl) ?y0 HBR ?_
          case y0 => intro o' ho W hS; simp only [execOp, ho]; go_simp; try rfl
          simp only [Act.put, List.setIfInBounds_toArray, List.set_cons_zero, List.set_cons_succ]
          refine heldTake (d := some 6) (op := .load 28 (Operand.tmp 5)) (g := none) 1 ?v1 rfl (by kernel_rfl) (by kernel_rfl) (by kernel_rfl) (by kernel_rfl) ?y1 HBR ?_
          case y1 => intro o' ho W hS; obtain ⟨d0, d1, d2⟩ := q_cells ((hS.block _ hxl).trans HA.out); simp only [execOp, ho]; go_simp; try rfl
          simp only [Act.put, List.setIfInBounds_toArray, List.set_cons_zero, List.set_cons_succ]
          refine heldTake (d := some 7) (op := .call { callee := Callee.builtin Builtin.len, args := #[Operand.tmp 6], argTypes := #[28] }) (g := none) 2 ?v2 rfl (by kernel_rfl) (by kernel_rfl) (by kernel_rfl) (by kernel_rfl) ?y2 HBR ?_
          case y2 => intro o' ho W hS; simp only [execOp, ho]; go_simp; try rfl
          simp only [Act.put, List.setIfInBounds_toArray, List.set_cons_zero, List.set_cons_succ]
          refine heldTake (d := some 8) (op := .fieldAddr 30 (Operand.tmp 2) 0) (g := none) 3 ?v3 rfl (by kernel_rfl) (by kernel_rfl) (by kernel_rfl) (by kernel_rfl) ?y3 HBR ?_
          case y3 => intro o' ho W hS; simp only [execOp, ho]; go_simp; try rfl
          simp only [Act.put, List.setIfInBounds_toArray, List.set_cons_zero, List.set_cons_succ]
          refine heldTake (d := some 9) (op := .load 3 (Operand.tmp 8)) (g := none) 4 ?v4 rfl (by kernel_rfl) (by kernel_rfl) (by kernel_rfl) (by kernel_rfl) ?y4 HBR ?_
          case y4 => intro o' ho W hS; obtain ⟨d0, d1, d2⟩ := q_cells ((hS.block _ hxl).trans HA.out); simp only [execOp, ho]; go_simp; try rfl
          simp only [Act.put, List.setIfInBounds_toArray, List.set_cons_zero, List.set_cons_succ]
          refine heldTake (d := some 10) (op := .binOp BinOp.lss 3 (Operand.tmp 7) (Operand.tmp 9) 3) (g := none) 5 (.bool true) rfl (by kernel_rfl) (by kernel_rfl) (by kernel_rfl) (by kernel_rfl) ?y5 HBR ?_
          case y5 => intro o' ho W hS; exact by simp only [execOp, ho]; go_simp; first | done | (simp; done) | rfl
          simp only [Act.put, List.setIfInBounds_toArray, List.set_cons_zero, List.set_cons_succ]
          refine heldTake (d := some 11) (op := .move (Operand.tmp 10)) (g := none) 6 (.bool true) rfl (by kernel_rfl) (by kernel_rfl) (by kernel_rfl) (by kernel_rfl) ?y6 HBR ?_
          case y6 => intro o' ho W hS; exact by simp only [execOp, ho]; go_simp; first | done | (simp; done) | rfl
          simp only [Act.put, List.setIfInBounds_toArray, List.set_cons_zero, List.set_cons_succ]
          refine heldTake (d := some 12) (op := .move (Operand.tmp 1)) (g := some (6, true)) 7 ?v7 rfl (by kernel_rfl) (by kernel_rfl) (by kernel_rfl) (by kernel_rfl) ?y7 HBR ?_
          case y7 => intro o' ho W hS; simp only [execOp, ho]; go_simp; try rfl
          simp only [Act.put, List.setIfInBounds_toArray, List.set_cons_zero, List.set_cons_succ]
          refine heldTake (d := some 13) (op := .binOp BinOp.geq 3 (Operand.tmp 12) (Operand.const (Value.int IntKind.i64 0)) 3) (g := some (6, true)) 8 (.bool true) rfl (by kernel_rfl) (by kernel_rfl) (by kernel_rfl) (by kernel_rfl) ?y8 HBR ?_
          case y8 => intro o' ho W hS; exact by simp only [execOp, ho]; go_simp; first | done | (simp; done) | rfl
          simp only [Act.put, List.setIfInBounds_toArray, List.set_cons_zero, List.set_cons_succ]
          refine heldTake (d := some 14) (op := .pick (Operand.tmp 11) (Operand.tmp 13) (Operand.const (Value.bool false))) (g := none) 9 (.bool true) rfl (by kernel_rfl) (by kernel_rfl) (by kernel_rfl) (by kernel_rfl) ?y9 HBR ?_
          case y9 => intro o' ho W hS; exact by simp only [execOp, ho]; go_simp; first | done | (simp; done) | rfl
          simp only [Act.put, List.setIfInBounds_toArray, List.set_cons_zero, List.set_cons_succ]
          refine heldTake (d := some 15) (op := .move (Operand.tmp 14)) (g := none) 10 (.bool true) rfl (by kernel_rfl) (by kernel_rfl) (by kernel_rfl) (by kernel_rfl) ?y10 HBR ?_
          case y10 => intro o' ho W hS; exact by simp only [execOp, ho]; go_simp; first | done | (simp; done) | rfl
          simp only [Act.put, List.setIfInBounds_toArray, List.set_cons_zero, List.set_cons_succ]
          refine heldTake (d := some 16) (op := .move (Operand.tmp 1)) (g := some (10, true)) 11 ?v11 rfl (by kernel_rfl) (by kernel_rfl) (by kernel_rfl) (by kernel_rfl) ?y11 HBR ?_
          case y11 => intro o' ho W hS; simp only [execOp, ho]; go_simp; try rfl
          simp only [Act.put, List.setIfInBounds_toArray, List.set_cons_zero, List.set_cons_succ]
          refine heldTake (d := some 17) (op := .fieldAddr 30 (Operand.tmp 2) 1) (g := some (10, true)) 12 ?v12 rfl (by kernel_rfl) (by kernel_rfl) (by kernel_rfl) (by kernel_rfl) ?y12 HBR ?_
          case y12 => intro o' ho W hS; simp only [execOp, ho]; go_simp; try rfl
          simp only [Act.put, List.setIfInBounds_toArray, List.set_cons_zero, List.set_cons_succ]
          refine heldTake (d := some 18) (op := .load 3 (Operand.tmp 17)) (g := some (10, true)) 13 ?v13 rfl (by kernel_rfl) (by kernel_rfl) (by kernel_rfl) (by kernel_rfl) ?y13 HBR ?_
          case y13 => intro o' ho W hS; obtain ⟨d0, d1, d2⟩ := q_cells ((hS.block _ hxl).trans HA.out); simp only [execOp, ho]; go_simp; try rfl
          simp only [Act.put, List.setIfInBounds_toArray, List.set_cons_zero, List.set_cons_succ]
          refine heldTake (d := some 19) (op := .binOp BinOp.leq 3 (Operand.tmp 16) (Operand.tmp 18) 3) (g := some (10, true)) 14 (.bool true) rfl (by kernel_rfl) (by kernel_rfl) (by kernel_rfl) (by kernel_rfl) ?y14 HBR ?_
          case y14 => intro o' ho W hS; exact by simp only [execOp, ho]; go_simp; first | done | (simp; done) | rfl
          simp only [Act.put, List.setIfInBounds_toArray, List.set_cons_zero, List.set_cons_succ]
          refine heldTake (d := some 20) (op := .pick (Operand.tmp 15) (Operand.tmp 19) (Operand.const (Value.bool false))) (g := none) 15 (.bool true) rfl (by kernel_rfl) (by kernel_rfl) (by kernel_rfl) (by kernel_rfl) ?y15 HBR ?_
          case y15 => intro o' ho W hS; exact by simp only [execOp, ho]; go_simp; first | done | (simp; done) | rfl
          simp only [Act.put, List.setIfInBounds_toArray, List.set_cons_zero, List.set_cons_succ]
          refine heldTake (d := some 21) (op := .move (Operand.tmp 20)) (g := none) 16 (.bool true) rfl (by kernel_rfl) (by kernel_rfl) (by kernel_rfl) (by kernel_rfl) ?y16 HBR ?_
          case y16 => intro o' ho W hS; exact by simp only [execOp, ho]; go_simp; first | done | (simp; done) | rfl
          simp only [Act.put, List.setIfInBounds_toArray, List.set_cons_zero, List.set_cons_succ]
          refine heldTake (d := some 22) (op := .load 30 (Operand.tmp 2)) (g := some (16, true)) 17 ?v17 rfl (by kernel_rfl) (by kernel_rfl) (by kernel_rfl) (by kernel_rfl) ?y17 HBR ?_
          case y17 => intro o' ho W hS; obtain ⟨d0, d1, d2⟩ := q_cells ((hS.block _ hxl).trans HA.out); simp only [execOp, ho]; go_simp; try rfl
          simp only [Act.put, List.setIfInBounds_toArray, List.set_cons_zero, List.set_cons_succ]
          refine heldTake (d := some 24) (op := .move (Operand.tmp 1)) (g := some (16, true)) 19 ?v19 rfl (by kernel_rfl) (by kernel_rfl) (by kernel_rfl) (by kernel_rfl) ?y19 HBR ?_
          case y19 => intro o' ho W hS; simp only [execOp, ho]; go_simp; try rfl
          simp only [Act.put, List.setIfInBounds_toArray, List.set_cons_zero, List.set_cons_succ]
          refine heldTake (d := some 26) (op := .fieldAddr 30 (Operand.tmp 2) 1) (g := some (16, true)) 21 ?v21 rfl (by kernel_rfl) (by kernel_rfl) (by kernel_rfl) (by kernel_rfl) ?y21 HBR ?_
          case y21 => intro o' ho W hS; simp only [execOp, ho]; go_simp; try rfl
          simp only [Act.put, List.setIfInBounds_toArray, List.set_cons_zero, List.set_cons_succ]
          refine heldTake (d := some 27) (op := .load 3 (Operand.tmp 26)) (g := some (16, true)) 22 ?v22 rfl (by kernel_rfl) (by kernel_rfl) (by kernel_rfl) (by kernel_rfl) ?y22 HBR ?_
          case y22 => intro o' ho W hS; obtain ⟨d0, d1, d2⟩ := q_cells ((hS.block _ hxl).trans HA.out); simp only [execOp, ho]; go_simp; try rfl
          simp only [Act.put, List.setIfInBounds_toArray, List.set_cons_zero, List.set_cons_succ]
          refine heldCall (d := some 23) (op := .call { callee := Callee.value (Operand.func 19), args := #[Operand.tmp 22], argTypes := #[30] }) (g := some (16, true)) 18 19 #[.agg #[.int .i64 count, .int .i64 bytes', .slice a k c]] rfl (by kernel_rfl) (by kernel_rfl) ?y18 ?_
          case y18 => intro o' ho; simp only [execOp, ho]; go_simp; try rfl
          refine (refsize_any l (.slice a k c) count bytes' m Rw ((HL.out.below HBa.out).below HBR) HLN.out HM.out hz).mono ?_
          rintro e w2 ⟨rfl, HB2⟩
          have HS2 : Below wa.heap.size wa w2 := HBR.trans (HB2.out.mono HBR.size)
          refine ⟨_, rfl, HS2, ?_⟩
          simp only [Act.put, List.setIfInBounds_toArray, List.set_cons_zero, List.set_cons_succ]
          refine heldTake (d := some 25) (op := .binOp BinOp.add 3 (Operand.tmp 23) (Operand.tmp 24) 3) (g := some (16, true)) 20 (.int .i64 ((m : Int) + n)) rfl (by kernel_rfl) (by kernel_rfl) (by kernel_rfl) (by kernel_rfl) ?y20 HS2 ?_
          case y20 => intro o' ho W hS; exact by simp only [execOp, ho]; go_simp; first | done | (rw [hwk]; done) | (rw [hwr]; done)
          simp only [Act.put, List.setIfInBounds_toArray, List.set_cons_zero, List.set_cons_succ]
          refine heldTake (d := some 28) (op := .binOp BinOp.leq 3 (Operand.tmp 25) (Operand.tmp 27) 3) (g := some (16, true)) 23 (.bool true) rfl (by kernel_rfl) (by kernel_rfl) (by kernel_rfl) (by kernel_rfl) ?y23 HS2 ?_
          case y23 => intro o' ho W hS; exact by simp only [execOp, ho]; go_simp; first | done | (simp; done) | rfl
          simp only [Act.put, List.setIfInBounds_toArray, List.set_cons_zero, List.set_cons_succ]
          refine heldTake (d := some 29) (op := .pick (Operand.tmp 21) (Operand.tmp 28) (Operand.const (Value.bool false))) (g := none) 24 (.bool true) rfl (by kernel_rfl) (by kernel_rfl) (by kernel_rfl) (by kernel_rfl) ?y24 HS2 ?_
          case y24 => intro o' ho W hS; exact by simp only [execOp, ho]; go_simp; first | done | (simp; done) | rfl
          simp only [Act.put, List.setIfInBounds_toArray, List.set_cons_zero, List.set_cons_succ]
          refine heldTake (d := some 4) (op := .assign (Operand.tmp 29)) (g := none) 25 (.bool true) rfl (by kernel_rfl) (by kernel_rfl) (by kernel_rfl) (by kernel_rfl) ?y25 HS2 ?_
          case y25 => intro o' ho W hS; exact by simp only [execOp, ho]; go_simp; first | done | (simp; done) | rfl
          simp only [Act.put, List.setIfInBounds_toArray, List.set_cons_zero, List.set_cons_succ]
          refine wpAnyH_done (by kernel_rfl) ?_ _
          refine NoPanic.normal ?_
          go_wp2
          go_ret
          exact ⟨by rw [HRR.out]; rfl, ⟨HBa.out.trans (HS2.mono HBa.out.size)⟩⟩
        · have hq4 : ((m : Int) + n ≤ bytes') = False := eq_false h4
          have HRR : Sl (r = false) := ⟨by rw [← hR]; simp; omega⟩
          clear hR
          go_enter Try.func16, Try.ntmps16
          go_upto_region 1 with fail
          obtain ⟨Rw, hRw⟩ : ∃ R, wa.drew = R := ⟨_, rfl⟩
          have HBR : Below wa.heap.size wa Rw := by rw [← hRw]; exact (Below.refl _ _).drew
          refine wp_region_noPanic ?_
          refine wp_region_held (S := fun V => Below wa.heap.size wa V) (by kernel_rfl) ?_
          change wpAnyH _ _ _ _ _ _ _ _ wa.drew
          rw [hRw]
          clear hRw
          refine heldTake (d := some 5) (op := .fieldAddr 30 (Operand.tmp 2) 2) (g := none) 0 ?v0 rfl (by kernel_rfl) (by kernel_rfl) (by kernel_rfl) (by kernel_rfl) ?y0 HBR ?_
          case y0 => intro o' ho W hS; simp only [execOp, ho]; go_simp; try rfl
          simp only [Act.put, List.setIfInBounds_toArray, List.set_cons_zero, List.set_cons_succ]
          refine heldTake (d := some 6) (op := .load 28 (Operand.tmp 5)) (g := none) 1 ?v1 rfl (by kernel_rfl) (by kernel_rfl) (by kernel_rfl) (by kernel_rfl) ?y1 HBR ?_
          case y1 => intro o' ho W hS; obtain ⟨d0, d1, d2⟩ := q_cells ((hS.block _ hxl).trans HA.out); simp only [execOp, ho]; go_simp; try rfl
          simp only [Act.put, List.setIfInBounds_toArray, List.set_cons_zero, List.set_cons_succ]
          refine heldTake (d := some 7) (op := .call { callee := Callee.builtin Builtin.len, args := #[Operand.tmp 6], argTypes := #[28] }) (g := none) 2 ?v2 rfl (by kernel_rfl) (by kernel_rfl) (by kernel_rfl) (by kernel_rfl) ?y2 HBR ?_
          case y2 => intro o' ho W hS; simp only [execOp, ho]; go_simp; try rfl
          simp only [Act.put, List.setIfInBounds_toArray, List.set_cons_zero, List.set_cons_succ]
          refine heldTake (d := some 8) (op := .fieldAddr 30 (Operand.tmp 2) 0) (g := none) 3 ?v3 rfl (by kernel_rfl) (by kernel_rfl) (by kernel_rfl) (by kernel_rfl) ?y3 HBR ?_
          case y3 => intro o' ho W hS; simp only [execOp, ho]; go_simp; try rfl
          simp only [Act.put, List.setIfInBounds_toArray, List.set_cons_zero, List.set_cons_succ]
          refine heldTake (d := some 9) (op := .load 3 (Operand.tmp 8)) (g := none) 4 ?v4 rfl (by kernel_rfl) (by kernel_rfl) (by kernel_rfl) (by kernel_rfl) ?y4 HBR ?_
          case y4 => intro o' ho W hS; obtain ⟨d0, d1, d2⟩ := q_cells ((hS.block _ hxl).trans HA.out); simp only [execOp, ho]; go_simp; try rfl
          simp only [Act.put, List.setIfInBounds_toArray, List.set_cons_zero, List.set_cons_succ]
          refine heldTake (d := some 10) (op := .binOp BinOp.lss 3 (Operand.tmp 7) (Operand.tmp 9) 3) (g := none) 5 (.bool true) rfl (by kernel_rfl) (by kernel_rfl) (by kernel_rfl) (by kernel_rfl) ?y5 HBR ?_
          case y5 => intro o' ho W hS; exact by simp only [execOp, ho]; go_simp; first | done | (simp; done) | rfl
          simp only [Act.put, List.setIfInBounds_toArray, List.set_cons_zero, List.set_cons_succ]
          refine heldTake (d := some 11) (op := .move (Operand.tmp 10)) (g := none) 6 (.bool true) rfl (by kernel_rfl) (by kernel_rfl) (by kernel_rfl) (by kernel_rfl) ?y6 HBR ?_
          case y6 => intro o' ho W hS; exact by simp only [execOp, ho]; go_simp; first | done | (simp; done) | rfl
          simp only [Act.put, List.setIfInBounds_toArray, List.set_cons_zero, List.set_cons_succ]
          refine heldTake (d := some 12) (op := .move (Operand.tmp 1)) (g := some (6, true)) 7 ?v7 rfl (by kernel_rfl) (by kernel_rfl) (by kernel_rfl) (by kernel_rfl) ?y7 HBR ?_
          case y7 => intro o' ho W hS; simp only [execOp, ho]; go_simp; try rfl
          simp only [Act.put, List.setIfInBounds_toArray, List.set_cons_zero, List.set_cons_succ]
          refine heldTake (d := some 13) (op := .binOp BinOp.geq 3 (Operand.tmp 12) (Operand.const (Value.int IntKind.i64 0)) 3) (g := some (6, true)) 8 (.bool true) rfl (by kernel_rfl) (by kernel_rfl) (by kernel_rfl) (by kernel_rfl) ?y8 HBR ?_
          case y8 => intro o' ho W hS; exact by simp only [execOp, ho]; go_simp; first | done | (simp; done) | rfl
          simp only [Act.put, List.setIfInBounds_toArray, List.set_cons_zero, List.set_cons_succ]
          refine heldTake (d := some 14) (op := .pick (Operand.tmp 11) (Operand.tmp 13) (Operand.const (Value.bool false))) (g := none) 9 (.bool true) rfl (by kernel_rfl) (by kernel_rfl) (by kernel_rfl) (by kernel_rfl) ?y9 HBR ?_
          case y9 => intro o' ho W hS; exact by simp only [execOp, ho]; go_simp; first | done | (simp; done) | rfl
          simp only [Act.put, List.setIfInBounds_toArray, List.set_cons_zero, List.set_cons_succ]
          refine heldTake (d := some 15) (op := .move (Operand.tmp 14)) (g := none) 10 (.bool true) rfl (by kernel_rfl) (by kernel_rfl) (by kernel_rfl) (by kernel_rfl) ?y10 HBR ?_
          case y10 => intro o' ho W hS; exact by simp only [execOp, ho]; go_simp; first | done | (simp; done) | rfl
          simp only [Act.put, List.setIfInBounds_toArray, List.set_cons_zero, List.set_cons_succ]
          refine heldTake (d := some 16) (op := .move (Operand.tmp 1)) (g := some (10, true)) 11 ?v11 rfl (by kernel_rfl) (by kernel_rfl) (by kernel_rfl) (by kernel_rfl) ?y11 HBR ?_
          case y11 => intro o' ho W hS; simp only [execOp, ho]; go_simp; try rfl
          simp only [Act.put, List.setIfInBounds_toArray, List.set_cons_zero, List.set_cons_succ]
          refine heldTake (d := some 17) (op := .fieldAddr 30 (Operand.tmp 2) 1) (g := some (10, true)) 12 ?v12 rfl (by kernel_rfl) (by kernel_rfl) (by kernel_rfl) (by kernel_rfl) ?y12 HBR ?_
          case y12 => intro o' ho W hS; simp only [execOp, ho]; go_simp; try rfl
          simp only [Act.put, List.setIfInBounds_toArray, List.set_cons_zero, List.set_cons_succ]
          refine heldTake (d := some 18) (op := .load 3 (Operand.tmp 17)) (g := some (10, true)) 13 ?v13 rfl (by kernel_rfl) (by kernel_rfl) (by kernel_rfl) (by kernel_rfl) ?y13 HBR ?_
          case y13 => intro o' ho W hS; obtain ⟨d0, d1, d2⟩ := q_cells ((hS.block _ hxl).trans HA.out); simp only [execOp, ho]; go_simp; try rfl
          simp only [Act.put, List.setIfInBounds_toArray, List.set_cons_zero, List.set_cons_succ]
          refine heldTake (d := some 19) (op := .binOp BinOp.leq 3 (Operand.tmp 16) (Operand.tmp 18) 3) (g := some (10, true)) 14 (.bool true) rfl (by kernel_rfl) (by kernel_rfl) (by kernel_rfl) (by kernel_rfl) ?y14 HBR ?_
          case y14 => intro o' ho W hS; exact by simp only [execOp, ho]; go_simp; first | done | (simp; done) | rfl
          simp only [Act.put, List.setIfInBounds_toArray, List.set_cons_zero, List.set_cons_succ]
          refine heldTake (d := some 20) (op := .pick (Operand.tmp 15) (Operand.tmp 19) (Operand.const (Value.bool false))) (g := none) 15 (.bool true) rfl (by kernel_rfl) (by kernel_rfl) (by kernel_rfl) (by kernel_rfl) ?y15 HBR ?_
          case y15 => intro o' ho W hS; exact by simp only [execOp, ho]; go_simp; first | done | (simp; done) | rfl
          simp only [Act.put, List.setIfInBounds_toArray, List.set_cons_zero, List.set_cons_succ]
          refine heldTake (d := some 21) (op := .move (Operand.tmp 20)) (g := none) 16 (.bool true) rfl (by kernel_rfl) (by kernel_rfl) (by kernel_rfl) (by kernel_rfl) ?y16 HBR ?_
          case y16 => intro o' ho W hS; exact by simp only [execOp, ho]; go_simp; first | done | (simp; done) | rfl
          simp only [Act.put, List.setIfInBounds_toArray, List.set_cons_zero, List.set_cons_succ]
          refine heldTake (d := some 22) (op := .load 30 (Operand.tmp 2)) (g := some (16, true)) 17 ?v17 rfl (by kernel_rfl) (by kernel_rfl) (by kernel_rfl) (by kernel_rfl) ?y17 HBR ?_
          case y17 => intro o' ho W hS; obtain ⟨d0, d1, d2⟩ := q_cells ((hS.block _ hxl).trans HA.out); simp only [execOp, ho]; go_simp; try rfl
          simp only [Act.put, List.setIfInBounds_toArray, List.set_cons_zero, List.set_cons_succ]
          refine heldTake (d := some 24) (op := .move (Operand.tmp 1)) (g := some (16, true)) 19 ?v19 rfl (by kernel_rfl) (by kernel_rfl) (by kernel_rfl) (by kernel_rfl) ?y19 HBR ?_
          case y19 => intro o' ho W hS; simp only [execOp, ho]; go_simp; try rfl
          simp only [Act.put, List.setIfInBounds_toArray, List.set_cons_zero, List.set_cons_succ]
          refine heldTake (d := some 26) (op := .fieldAddr 30 (Operand.tmp 2) 1) (g := some (16, true)) 21 ?v21 rfl (by kernel_rfl) (by kernel_rfl) (by kernel_rfl) (by kernel_rfl) ?y21 HBR ?_
          case y21 => intro o' ho W hS; simp only [execOp, ho]; go_simp; try rfl
          simp only [Act.put, List.setIfInBounds_toArray, List.set_cons_zero, List.set_cons_succ]
          refine heldTake (d := some 27) (op := .load 3 (Operand.tmp 26)) (g := some (16, true)) 22 ?v22 rfl (by kernel_rfl) (by kernel_rfl) (by kernel_rfl) (by kernel_rfl) ?y22 HBR ?_
          case y22 => intro o' ho W hS; obtain ⟨d0, d1, d2⟩ := q_cells ((hS.block _ hxl).trans HA.out); simp only [execOp, ho]; go_simp; try rfl
          simp only [Act.put, List.setIfInBounds_toArray, List.set_cons_zero, List.set_cons_succ]
          refine heldCall (d := some 23) (op := .call { callee := Callee.value (Operand.func 19), args := #[Operand.tmp 22], argTypes := #[30] }) (g := some (16, true)) 18 19 #[.agg #[.int .i64 count, .int .i64 bytes', .slice a k c]] rfl (by kernel_rfl) (by kernel_rfl) ?y18 ?_
          case y18 => intro o' ho; simp only [execOp, ho]; go_simp; try rfl
          refine (refsize_any l (.slice a k c) count bytes' m Rw ((HL.out.below HBa.out).below HBR) HLN.out HM.out hz).mono ?_
          rintro e w2 ⟨rfl, HB2⟩
          have HS2 : Below wa.heap.size wa w2 := HBR.trans (HB2.out.mono HBR.size)
          refine ⟨_, rfl, HS2, ?_⟩
          simp only [Act.put, List.setIfInBounds_toArray, List.set_cons_zero, List.set_cons_succ]
          refine heldTake (d := some 25) (op := .binOp BinOp.add 3 (Operand.tmp 23) (Operand.tmp 24) 3) (g := some (16, true)) 20 (.int .i64 ((m : Int) + n)) rfl (by kernel_rfl) (by kernel_rfl) (by kernel_rfl) (by kernel_rfl) ?y20 HS2 ?_
          case y20 => intro o' ho W hS; exact by simp only [execOp, ho]; go_simp; first | done | (rw [hwk]; done) | (rw [hwr]; done)
          simp only [Act.put, List.setIfInBounds_toArray, List.set_cons_zero, List.set_cons_succ]
          refine heldTake (d := some 28) (op := .binOp BinOp.leq 3 (Operand.tmp 25) (Operand.tmp 27) 3) (g := some (16, true)) 23 (.bool false) rfl (by kernel_rfl) (by kernel_rfl) (by kernel_rfl) (by kernel_rfl) ?y23 HS2 ?_
          case y23 => intro o' ho W hS; exact by simp only [execOp, ho]; go_simp; first | done | (simp; done) | rfl
          simp only [Act.put, List.setIfInBounds_toArray, List.set_cons_zero, List.set_cons_succ]
          refine heldTake (d := some 29) (op := .pick (Operand.tmp 21) (Operand.tmp 28) (Operand.const (Value.bool false))) (g := none) 24 (.bool false) rfl (by kernel_rfl) (by kernel_rfl) (by kernel_rfl) (by kernel_rfl) ?y24 HS2 ?_
          case y24 => intro o' ho W hS; exact by simp only [execOp, ho]; go_simp; first | done | (simp; done) | rfl
          simp only [Act.put, List.setIfInBounds_toArray, List.set_cons_zero, List.set_cons_succ]
          refine heldTake (d := some 4) (op := .assign (Operand.tmp 29)) (g := none) 25 (.bool false) rfl (by kernel_rfl) (by kernel_rfl) (by kernel_rfl) (by kernel_rfl) ?y25 HS2 ?_
          case y25 => intro o' ho W hS; exact by simp only [execOp, ho]; go_simp; first | done | (simp; done) | rfl
          simp only [Act.put, List.setIfInBounds_toArray, List.set_cons_zero, List.set_cons_succ]
          refine wpAnyH_done (by kernel_rfl) ?_ _
          refine NoPanic.normal ?_
          go_wp2
          go_ret
          exact ⟨by rw [HRR.out]; rfl, ⟨HBa.out.trans (HS2.mono HBa.out.size)⟩⟩
      · have hq3 : (n ≤ bytes') = False := eq_false h3
        have HRR : Sl (r = false) := ⟨by rw [← hR]; simp; omega⟩
        clear hR
        go_enter Try.func16, Try.ntmps16
        go_upto_region 1 with fail
        obtain ⟨Rw, hRw⟩ : ∃ R, wa.drew = R := ⟨_, rfl⟩
        have HBR : Below wa.heap.size wa Rw := by rw [← hRw]; exact (Below.refl _ _).drew
        refine wp_region_noPanic ?_
        refine wp_region_held (S := fun V => Below wa.heap.size wa V) (by kernel_rfl) ?_
        change wpAnyH _ _ _ _ _ _ _ _ wa.drew
        rw [hRw]
        clear hRw
        refine heldTake (d := some 5) (op := .fieldAddr 30 (Operand.tmp 2) 2) (g := none) 0 ?v0 rfl (by kernel_rfl) (by kernel_rfl) (by kernel_rfl) (by kernel_rfl) ?y0 HBR ?_
        case y0 => intro o' ho W hS; simp only [execOp, ho]; go_simp; try rfl
        simp only [Act.put, List.setIfInBounds_toArray, List.set_cons_zero, List.set_cons_succ]
        refine heldTake (d := some 6) (op := .load 28 (Operand.tmp 5)) (g := none) 1 ?v1 rfl (by kernel_rfl) (by kernel_rfl) (by kernel_rfl) (by kernel_rfl) ?y1 HBR ?_
        case y1 => intro o' ho W hS; obtain ⟨d0, d1, d2⟩ := q_cells ((hS.block _ hxl).trans HA.out); simp only [execOp, ho]; go_simp; try rfl
        simp only [Act.put, List.setIfInBounds_toArray, List.set_cons_zero, List.set_cons_succ]
        refine heldTake (d := some 7) (op := .call { callee := Callee.builtin Builtin.len, args := #[Operand.tmp 6], argTypes := #[28] }) (g := none) 2 ?v2 rfl (by kernel_rfl) (by kernel_rfl) (by kernel_rfl) (by kernel_rfl) ?y2 HBR ?_
        case y2 => intro o' ho W hS; simp only [execOp, ho]; go_simp; try rfl
        simp only [Act.put, List.setIfInBounds_toArray, List.set_cons_zero, List.set_cons_succ]
        refine heldTake (d := some 8) (op := .fieldAddr 30 (Operand.tmp 2) 0) (g := none) 3 ?v3 rfl (by kernel_rfl) (by kernel_rfl) (by kernel_rfl) (by kernel_rfl) ?y3 HBR ?_
        case y3 => intro o' ho W hS; simp only [execOp, ho]; go_simp; try rfl
        simp only [Act.put, List.setIfInBounds_toArray, List.set_cons_zero, List.set_cons_succ]
        refine heldTake (d := some 9) (op := .load 3 (Operand.tmp 8)) (g := none) 4 ?v4 rfl (by kernel_rfl) (by kernel_rfl) (by kernel_rfl) (by kernel_rfl) ?y4 HBR ?_
        case y4 => intro o' ho W hS; obtain ⟨d0, d1, d2⟩ := q_cells ((hS.block _ hxl).trans HA.out); simp only [execOp, ho]; go_simp; try rfl
        simp only [Act.put, List.setIfInBounds_toArray, List.set_cons_zero, List.set_cons_succ]
        refine heldTake (d := some 10) (op := .binOp BinOp.lss 3 (Operand.tmp 7) (Operand.tmp 9) 3) (g := none) 5 (.bool true) rfl (by kernel_rfl) (by kernel_rfl) (by kernel_rfl) (by kernel_rfl) ?y5 HBR ?_
        case y5 => intro o' ho W hS; exact by simp only [execOp, ho]; go_simp; first | done | (simp; done) | rfl
        simp only [Act.put, List.setIfInBounds_toArray, List.set_cons_zero, List.set_cons_succ]
        refine heldTake (d := some 11) (op := .move (Operand.tmp 10)) (g := none) 6 (.bool true) rfl (by kernel_rfl) (by kernel_rfl) (by kernel_rfl) (by kernel_rfl) ?y6 HBR ?_
        case y6 => intro o' ho W hS; exact by simp only [execOp, ho]; go_simp; first | done | (simp; done) | rfl
        simp only [Act.put, List.setIfInBounds_toArray, List.set_cons_zero, List.set_cons_succ]
        refine heldTake (d := some 12) (op := .move (Operand.tmp 1)) (g := some (6, true)) 7 ?v7 rfl (by kernel_rfl) (by kernel_rfl) (by kernel_rfl) (by kernel_rfl) ?y7 HBR ?_
        case y7 => intro o' ho W hS; simp only [execOp, ho]; go_simp; try rfl
        simp only [Act.put, List.setIfInBounds_toArray, List.set_cons_zero, List.set_cons_succ]
        refine heldTake (d := some 13) (op := .binOp BinOp.geq 3 (Operand.tmp 12) (Operand.const (Value.int IntKind.i64 0)) 3) (g := some (6, true)) 8 (.bool true) rfl (by kernel_rfl) (by kernel_rfl) (by kernel_rfl) (by kernel_rfl) ?y8 HBR ?_
        case y8 => intro o' ho W hS; exact by simp only [execOp, ho]; go_simp; first | done | (simp; done) | rfl
        simp only [Act.put, List.setIfInBounds_toArray, List.set_cons_zero, List.set_cons_succ]
        refine heldTake (d := some 14) (op := .pick (Operand.tmp 11) (Operand.tmp 13) (Operand.const (Value.bool false))) (g := none) 9 (.bool true) rfl (by kernel_rfl) (by kernel_rfl) (by kernel_rfl) (by kernel_rfl) ?y9 HBR ?_
        case y9 => intro o' ho W hS; exact by simp only [execOp, ho]; go_simp; first | done | (simp; done) | rfl
        simp only [Act.put, List.setIfInBounds_toArray, List.set_cons_zero, List.set_cons_succ]
        refine heldTake (d := some 15) (op := .move (Operand.tmp 14)) (g := none) 10 (.bool true) rfl (by kernel_rfl) (by kernel_rfl) (by kernel_rfl) (by kernel_rfl) ?y10 HBR ?_
        case y10 => intro o' ho W hS; exact by simp only [execOp, ho]; go_simp; first | done | (simp; done) | rfl
        simp only [Act.put, List.setIfInBounds_toArray, List.set_cons_zero, List.set_cons_succ]
        refine heldTake (d := some 16) (op := .move (Operand.tmp 1)) (g := some (10, true)) 11 ?v11 rfl (by kernel_rfl) (by kernel_rfl) (by kernel_rfl) (by kernel_rfl) ?y11 HBR ?_
        case y11 => intro o' ho W hS; simp only [execOp, ho]; go_simp; try rfl
        simp only [Act.put, List.setIfInBounds_toArray, List.set_cons_zero, List.set_cons_succ]
        refine heldTake (d := some 17) (op := .fieldAddr 30 (Operand.tmp 2) 1) (g := some (10, true)) 12 ?v12 rfl (by kernel_rfl) (by kernel_rfl) (by kernel_rfl) (by kernel_rfl) ?y12 HBR ?_
        case y12 => intro o' ho W hS; simp only [execOp, ho]; go_simp; try rfl
        simp only [Act.put, List.setIfInBounds_toArray, List.set_cons_zero, List.set_cons_succ]
        refine heldTake (d := some 18) (op := .load 3 (Operand.tmp 17)) (g := some (10, true)) 13 ?v13 rfl (by kernel_rfl) (by kernel_rfl) (by kernel_rfl) (by kernel_rfl) ?y13 HBR ?_
        case y13 => intro o' ho W hS; obtain ⟨d0, d1, d2⟩ := q_cells ((hS.block _ hxl).trans HA.out); simp only [execOp, ho]; go_simp; try rfl
        simp only [Act.put, List.setIfInBounds_toArray, List.set_cons_zero, List.set_cons_succ]
        refine heldTake (d := some 19) (op := .binOp BinOp.leq 3 (Operand.tmp 16) (Operand.tmp 18) 3) (g := some (10, true)) 14 (.bool false) rfl (by kernel_rfl) (by kernel_rfl) (by kernel_rfl) (by kernel_rfl) ?y14 HBR ?_
        case y14 => intro o' ho W hS; exact by simp only [execOp, ho]; go_simp; first | done | (simp; done) | rfl
        simp only [Act.put, List.setIfInBounds_toArray, List.set_cons_zero, List.set_cons_succ]
        refine heldTake (d := some 20) (op := .pick (Operand.tmp 15) (Operand.tmp 19) (Operand.const (Value.bool false))) (g := none) 15 (.bool false) rfl (by kernel_rfl) (by kernel_rfl) (by kernel_rfl) (by kernel_rfl) ?y15 HBR ?_
        case y15 => intro o' ho W hS; exact by simp only [execOp, ho]; go_simp; first | done | (simp; done) | rfl
        simp only [Act.put, List.setIfInBounds_toArray, List.set_cons_zero, List.set_cons_succ]
        refine heldTake (d := some 21) (op := .move (Operand.tmp 20)) (g := none) 16 (.bool false) rfl (by kernel_rfl) (by kernel_rfl) (by kernel_rfl) (by kernel_rfl) ?y16 HBR ?_
        case y16 => intro o' ho W hS; exact by simp only [execOp, ho]; go_simp; first | done | (simp; done) | rfl
        simp only [Act.put, List.setIfInBounds_toArray, List.set_cons_zero, List.set_cons_succ]
        refine heldSkip (d := some 22) (op := .load 30 (Operand.tmp 2)) (g := some (16, true)) 17 rfl (by kernel_rfl) (by kernel_rfl) (by kernel_rfl) (by kernel_rfl) HBR ?_
        simp only [Act.put, List.setIfInBounds_toArray, List.set_cons_zero, List.set_cons_succ]
        refine heldSkip (d := some 23) (op := .call { callee := Callee.value (Operand.func 19), args := #[Operand.tmp 22], argTypes := #[30] }) (g := some (16, true)) 18 rfl (by kernel_rfl) (by kernel_rfl) (by kernel_rfl) (by kernel_rfl) HBR ?_
        simp only [Act.put, List.setIfInBounds_toArray, List.set_cons_zero, List.set_cons_succ]
        refine heldSkip (d := some 24) (op := .move (Operand.tmp 1)) (g := some (16, true)) 19 rfl (by kernel_rfl) (by kernel_rfl) (by kernel_rfl) (by kernel_rfl) HBR ?_
        simp only [Act.put, List.setIfInBounds_toArray, List.set_cons_zero, List.set_cons_succ]
        refine heldSkip (d := some 25) (op := .binOp BinOp.add 3 (Operand.tmp 23) (Operand.tmp 24) 3) (g := some (16, true)) 20 rfl (by kernel_rfl) (by kernel_rfl) (by kernel_rfl) (by kernel_rfl) HBR ?_
        simp only [Act.put, List.setIfInBounds_toArray, List.set_cons_zero, List.set_cons_succ]
        refine heldSkip (d := some 26) (op := .fieldAddr 30 (Operand.tmp 2) 1) (g := some (16, true)) 21 rfl (by kernel_rfl) (by kernel_rfl) (by kernel_rfl) (by kernel_rfl) HBR ?_
        simp only [Act.put, List.setIfInBounds_toArray, List.set_cons_zero, List.set_cons_succ]
        refine heldSkip (d := some 27) (op := .load 3 (Operand.tmp 26)) (g := some (16, true)) 22 rfl (by kernel_rfl) (by kernel_rfl) (by kernel_rfl) (by kernel_rfl) HBR ?_
        simp only [Act.put, List.setIfInBounds_toArray, List.set_cons_zero, List.set_cons_succ]
        refine heldSkip (d := some 28) (op := .binOp BinOp.leq 3 (Operand.tmp 25) (Operand.tmp 27) 3) (g := some (16, true)) 23 rfl (by kernel_rfl) (by kernel_rfl) (by kernel_rfl) (by kernel_rfl) HBR ?_
        simp only [Act.put, List.setIfInBounds_toArray, List.set_cons_zero, List.set_cons_succ]
        refine heldTake (d := some 29) (op := .pick (Operand.tmp 21) (Operand.tmp 28) (Operand.const (Value.bool false))) (g := none) 24 (.bool false) rfl (by kernel_rfl) (by kernel_rfl) (by kernel_rfl) (by kernel_rfl) ?y24 HBR ?_
        case y24 => intro o' ho W hS; exact by simp only [execOp, ho]; go_simp; first | done | (simp; done) | rfl
        simp only [Act.put, List.setIfInBounds_toArray, List.set_cons_zero, List.set_cons_succ]
        refine heldTake (d := some 4) (op := .assign (Operand.tmp 29)) (g := none) 25 (.bool false) rfl (by kernel_rfl) (by kernel_rfl) (by kernel_rfl) (by kernel_rfl) ?y25 HBR ?_
        case y25 => intro o' ho W hS; exact by simp only [execOp, ho]; go_simp; first | done | (simp; done) | rfl
        simp only [Act.put, List.setIfInBounds_toArray, List.set_cons_zero, List.set_cons_succ]
        refine wpAnyH_done (by kernel_rfl) ?_ _
        refine NoPanic.normal ?_
        go_wp2
        go_ret
        exact ⟨by rw [HRR.out]; rfl, ⟨HBa.out.trans (HBR.mono HBa.out.size)⟩⟩
    · have hq2 : (n ≥ 0) = False := eq_false h2
      have HRR : Sl (r = false) := ⟨by rw [← hR]; simp; omega⟩
      clear hR
      go_enter Try.func16, Try.ntmps16
      go_upto_region 1 with fail
      obtain ⟨Rw, hRw⟩ : ∃ R, wa.drew = R := ⟨_, rfl⟩
      have HBR : Below wa.heap.size wa Rw := by rw [← hRw]; exact (Below.refl _ _).drew
      refine wp_region_noPanic ?_
      refine wp_region_held (S := fun V => Below wa.heap.size wa V) (by kernel_rfl) ?_
      change wpAnyH _ _ _ _ _ _ _ _ wa.drew
      rw [hRw]
      clear hRw
      refine heldTake (d := some 5) (op := .fieldAddr 30 (Operand.tmp 2) 2) (g := none) 0 ?v0 rfl (by kernel_rfl) (by kernel_rfl) (by kernel_rfl) (by kernel_rfl) ?y0 HBR ?_
      case y0 => intro o' ho W hS; simp only [execOp, ho]; go_simp; try rfl
      simp only [Act.put, List.setIfInBounds_toArray, List.set_cons_zero, List.set_cons_succ]
      refine heldTake (d := some 6) (op := .load 28 (Operand.tmp 5)) (g := none) 1 ?v1 rfl (by kernel_rfl) (by kernel_rfl) (by kernel_rfl) (by kernel_rfl) ?y1 HBR ?_
      case y1 => intro o' ho W hS; obtain ⟨d0, d1, d2⟩ := q_cells ((hS.block _ hxl).trans HA.out); simp only [execOp, ho]; go_simp; try rfl
      simp only [Act.put, List.setIfInBounds_toArray, List.set_cons_zero, List.set_cons_succ]
      refine heldTake (d := some 7) (op := .call { callee := Callee.builtin Builtin.len, args := #[Operand.tmp 6], argTypes := #[28] }) (g := none) 2 ?v2 rfl (by kernel_rfl) (by kernel_rfl) (by kernel_rfl) (by kernel_rfl) ?y2 HBR ?_
      case y2 => intro o' ho W hS; simp only [execOp, ho]; go_simp; try rfl
      simp only [Act.put, List.setIfInBounds_toArray, List.set_cons_zero, List.set_cons_succ]
      refine heldTake (d := some 8) (op := .fieldAddr 30 (Operand.tmp 2) 0) (g := none) 3 ?v3 rfl (by kernel_rfl) (by kernel_rfl) (by kernel_rfl) (by kernel_rfl) ?y3 HBR ?_
      case y3 => intro o' ho W hS; simp only [execOp, ho]; go_simp; try rfl
      simp only [Act.put, List.setIfInBounds_toArray, List.set_cons_zero, List.set_cons_succ]
      refine heldTake (d := some 9) (op := .load 3 (Operand.tmp 8)) (g := none) 4 ?v4 rfl (by kernel_rfl) (by kernel_rfl) (by kernel_rfl) (by kernel_rfl) ?y4 HBR ?_
      case y4 => intro o' ho W hS; obtain ⟨d0, d1, d2⟩ := q_cells ((hS.block _ hxl).trans HA.out); simp only [execOp, ho]; go_simp; try rfl
      simp only [Act.put, List.setIfInBounds_toArray, List.set_cons_zero, List.set_cons_succ]
      refine heldTake (d := some 10) (op := .binOp BinOp.lss 3 (Operand.tmp 7) (Operand.tmp 9) 3) (g := none) 5 (.bool true) rfl (by kernel_rfl) (by kernel_rfl) (by kernel_rfl) (by kernel_rfl) ?y5 HBR ?_
      case y5 => intro o' ho W hS; exact by simp only [execOp, ho]; go_simp; first | done | (simp; done) | rfl
      simp only [Act.put, List.setIfInBounds_toArray, List.set_cons_zero, List.set_cons_succ]
      refine heldTake (d := some 11) (op := .move (Operand.tmp 10)) (g := none) 6 (.bool true) rfl (by kernel_rfl) (by kernel_rfl) (by kernel_rfl) (by kernel_rfl) ?y6 HBR ?_
      case y6 => intro o' ho W hS; exact by simp only [execOp, ho]; go_simp; first | done | (simp; done) | rfl
      simp only [Act.put, List.setIfInBounds_toArray, List.set_cons_zero, List.set_cons_succ]
      refine heldTake (d := some 12) (op := .move (Operand.tmp 1)) (g := some (6, true)) 7 ?v7 rfl (by kernel_rfl) (by kernel_rfl) (by kernel_rfl) (by kernel_rfl) ?y7 HBR ?_
      case y7 => intro o' ho W hS; simp only [execOp, ho]; go_simp; try rfl
      simp only [Act.put, List.setIfInBounds_toArray, List.set_cons_zero, List.set_cons_succ]
      refine heldTake (d := some 13) (op := .binOp BinOp.geq 3 (Operand.tmp 12) (Operand.const (Value.int IntKind.i64 0)) 3) (g := some (6, true)) 8 (.bool false) rfl (by kernel_rfl) (by kernel_rfl) (by kernel_rfl) (by kernel_rfl) ?y8 HBR ?_
      case y8 => intro o' ho W hS; exact by simp only [execOp, ho]; go_simp; first | done | (simp; done) | rfl
      simp only [Act.put, List.setIfInBounds_toArray, List.set_cons_zero, List.set_cons_succ]
      refine heldTake (d := some 14) (op := .pick (Operand.tmp 11) (Operand.tmp 13) (Operand.const (Value.bool false))) (g := none) 9 (.bool false) rfl (by kernel_rfl) (by kernel_rfl) (by kernel_rfl) (by kernel_rfl) ?y9 HBR ?_
      case y9 => intro o' ho W hS; exact by simp only [execOp, ho]; go_simp; first | done | (simp; done) | rfl
      simp only [Act.put, List.setIfInBounds_toArray, List.set_cons_zero, List.set_cons_succ]
      refine heldTake (d := some 15) (op := .move (Operand.tmp 14)) (g := none) 10 (.bool false) rfl (by kernel_rfl) (by kernel_rfl) (by kernel_rfl) (by kernel_rfl) ?y10 HBR ?_
      case y10 => intro o' ho W hS; exact by simp only [execOp, ho]; go_simp; first | done | (simp; done) | rfl
      simp only [Act.put, List.setIfInBounds_toArray, List.set_cons_zero, List.set_cons_succ]
      refine heldSkip (d := some 16) (op := .move (Operand.tmp 1)) (g := some (10, true)) 11 rfl (by kernel_rfl) (by kernel_rfl) (by kernel_rfl) (by kernel_rfl) HBR ?_
      simp only [Act.put, List.setIfInBounds_toArray, List.set_cons_zero, List.set_cons_succ]
      refine heldSkip (d := some 17) (op := .fieldAddr 30 (Operand.tmp 2) 1) (g := some (10, true)) 12 rfl (by kernel_rfl) (by kernel_rfl) (by kernel_rfl) (by kernel_rfl) HBR ?_
      simp only [Act.put, List.setIfInBounds_toArray, List.set_cons_zero, List.set_cons_succ]
      refine heldSkip (d := some 18) (op := .load 3 (Operand.tmp 17)) (g := some (10, true)) 13 rfl (by kernel_rfl) (by kernel_rfl) (by kernel_rfl) (by kernel_rfl) HBR ?_
      simp only [Act.put, List.setIfInBounds_toArray, List.set_cons_zero, List.set_cons_succ]
      refine heldSkip (d := some 19) (op := .binOp BinOp.leq 3 (Operand.tmp 16) (Operand.tmp 18) 3) (g := some (10, true)) 14 rfl (by kernel_rfl) (by kernel_rfl) (by kernel_rfl) (by kernel_rfl) HBR ?_
      simp only [Act.put, List.setIfInBounds_toArray, List.set_cons_zero, List.set_cons_succ]
      refine heldTake (d := some 20) (op := .pick (Operand.tmp 15) (Operand.tmp 19) (Operand.const (Value.bool false))) (g := none) 15 (.bool false) rfl (by kernel_rfl) (by kernel_rfl) (by kernel_rfl) (by kernel_rfl) ?y15 HBR ?_
      case y15 => intro o' ho W hS; exact by simp only [execOp, ho]; go_simp; first | done | (simp; done) | rfl
      simp only [Act.put, List.setIfInBounds_toArray, List.set_cons_zero, List.set_cons_succ]
      refine heldTake (d := some 21) (op := .move (Operand.tmp 20)) (g := none) 16 (.bool false) rfl (by kernel_rfl) (by kernel_rfl) (by kernel_rfl) (by kernel_rfl) ?y16 HBR ?_
      case y16 => intro o' ho W hS; exact by simp only [execOp, ho]; go_simp; first | done | (simp; done) | rfl
      simp only [Act.put, List.setIfInBounds_toArray, List.set_cons_zero, List.set_cons_succ]
      refine heldSkip (d := some 22) (op := .load 30 (Operand.tmp 2)) (g := some (16, true)) 17 rfl (by kernel_rfl) (by kernel_rfl) (by kernel_rfl) (by kernel_rfl) HBR ?_
      simp only [Act.put, List.setIfInBounds_toArray, List.set_cons_zero, List.set_cons_succ]
      refine heldSkip (d := some 23) (op := .call { callee := Callee.value (Operand.func 19), args := #[Operand.tmp 22], argTypes := #[30] }) (g := some (16, true)) 18 rfl (by kernel_rfl) (by kernel_rfl) (by kernel_rfl) (by kernel_rfl) HBR ?_
      simp only [Act.put, List.setIfInBounds_toArray, List.set_cons_zero, List.set_cons_succ]
      refine heldSkip (d := some 24) (op := .move (Operand.tmp 1)) (g := some (16, true)) 19 rfl (by kernel_rfl) (by kernel_rfl) (by kernel_rfl) (by kernel_rfl) HBR ?_
      simp only [Act.put, List.setIfInBounds_toArray, List.set_cons_zero, List.set_cons_succ]
      refine heldSkip (d := some 25) (op := .binOp BinOp.add 3 (Operand.tmp 23) (Operand.tmp 24) 3) (g := some (16, true)) 20 rfl (by kernel_rfl) (by kernel_rfl) (by kernel_rfl) (by kernel_rfl) HBR ?_
      simp only [Act.put, List.setIfInBounds_toArray, List.set_cons_zero, List.set_cons_succ]
      refine heldSkip (d := some 26) (op := .fieldAddr 30 (Operand.tmp 2) 1) (g := some (16, true)) 21 rfl (by kernel_rfl) (by kernel_rfl) (by kernel_rfl) (by kernel_rfl) HBR ?_
      simp only [Act.put, List.setIfInBounds_toArray, List.set_cons_zero, List.set_cons_succ]
      refine heldSkip (d := some 27) (op := .load 3 (Operand.tmp 26)) (g := some (16, true)) 22 rfl (by kernel_rfl) (by kernel_rfl) (by kernel_rfl) (by kernel_rfl) HBR ?_
      simp only [Act.put, List.setIfInBounds_toArray, List.set_cons_zero, List.set_cons_succ]
      refine heldSkip (d := some 28) (op := .binOp BinOp.leq 3 (Operand.tmp 25) (Operand.tmp 27) 3) (g := some (16, true)) 23 rfl (by kernel_rfl) (by kernel_rfl) (by kernel_rfl) (by kernel_rfl) HBR ?_
      simp only [Act.put, List.setIfInBounds_toArray, List.set_cons_zero, List.set_cons_succ]
      refine heldTake (d := some 29) (op := .pick (Operand.tmp 21) (Operand.tmp 28) (Operand.const (Value.bool false))) (g := none) 24 (.bool false) rfl (by kernel_rfl) (by kernel_rfl) (by kernel_rfl) (by kernel_rfl) ?y24 HBR ?_
      case y24 => intro o' ho W hS; exact by simp only [execOp, ho]; go_simp; first | done | (simp; done) | rfl
      simp only [Act.put, List.setIfInBounds_toArray, List.set_cons_zero, List.set_cons_succ]
      refine heldTake (d := some 4) (op := .assign (Operand.tmp 29)) (g := none) 25 (.bool false) rfl (by kernel_rfl) (by kernel_rfl) (by kernel_rfl) (by kernel_rfl) ?y25 HBR ?_
      case y25 => intro o' ho W hS; exact by simp only [execOp, ho]; go_simp; first | done | (simp; done) | rfl
      simp only [Act.put, List.setIfInBounds_toArray, List.set_cons_zero, List.set_cons_succ]
      refine wpAnyH_done (by kernel_rfl) ?_ _
      refine NoPanic.normal ?_
      go_wp2
      go_ret
      exact ⟨by rw [HRR.out]; rfl, ⟨HBa.out.trans (HBR.mono HBa.out.size)⟩⟩
  · have hq1 : ((k : Int) < count) = False := eq_false h1
    have HRR : Sl (r = false) := ⟨by rw [← hR]; simp; omega⟩
    clear hR
    go_enter Try.func16, Try.ntmps16
    go_upto_region 1 with fail
    obtain ⟨Rw, hRw⟩ : ∃ R, wa.drew = R := ⟨_, rfl⟩
    have HBR : Below wa.heap.size wa Rw := by rw [← hRw]; exact (Below.refl _ _).drew
    refine wp_region_noPanic ?_
    refine wp_region_held (S := fun V => Below wa.heap.size wa V) (by kernel_rfl) ?_
    change wpAnyH _ _ _ _ _ _ _ _ wa.drew
    rw [hRw]
    clear hRw
    refine heldTake (d := some 5) (op := .fieldAddr 30 (Operand.tmp 2) 2) (g := none) 0 ?v0 rfl (by kernel_rfl) (by kernel_rfl) (by kernel_rfl) (by kernel_rfl) ?y0 HBR ?_
    case y0 => intro o' ho W hS; simp only [execOp, ho]; go_simp; try rfl
    simp only [Act.put, List.setIfInBounds_toArray, List.set_cons_zero, List.set_cons_succ]
    refine heldTake (d := some 6) (op := .load 28 (Operand.tmp 5)) (g := none) 1 ?v1 rfl (by kernel_rfl) (by kernel_rfl) (by kernel_rfl) (by kernel_rfl) ?y1 HBR ?_
    case y1 => intro o' ho W hS; obtain ⟨d0, d1, d2⟩ := q_cells ((hS.block _ hxl).trans HA.out); simp only [execOp, ho]; go_simp; try rfl
    simp only [Act.put, List.setIfInBounds_toArray, List.set_cons_zero, List.set_cons_succ]
    refine heldTake (d := some 7) (op := .call { callee := Callee.builtin Builtin.len, args := #[Operand.tmp 6], argTypes := #[28] }) (g := none) 2 ?v2 rfl (by kernel_rfl) (by kernel_rfl) (by kernel_rfl) (by kernel_rfl) ?y2 HBR ?_
    case y2 => intro o' ho W hS; simp only [execOp, ho]; go_simp; try rfl
    simp only [Act.put, List.setIfInBounds_toArray, List.set_cons_zero, List.set_cons_succ]
    refine heldTake (d := some 8) (op := .fieldAddr 30 (Operand.tmp 2) 0) (g := none) 3 ?v3 rfl (by kernel_rfl) (by kernel_rfl) (by kernel_rfl) (by kernel_rfl) ?y3 HBR ?_
    case y3 => intro o' ho W hS; simp only [execOp, ho]; go_simp; try rfl
    simp only [Act.put, List.setIfInBounds_toArray, List.set_cons_zero, List.set_cons_succ]
    refine heldTake (d := some 9) (op := .load 3 (Operand.tmp 8)) (g := none) 4 ?v4 rfl (by kernel_rfl) (by kernel_rfl) (by kernel_rfl) (by kernel_rfl) ?y4 HBR ?_
    case y4 => intro o' ho W hS; obtain ⟨d0, d1, d2⟩ := q_cells ((hS.block _ hxl).trans HA.out); simp only [execOp, ho]; go_simp; try rfl
    simp only [Act.put, List.setIfInBounds_toArray, List.set_cons_zero, List.set_cons_succ]
    refine heldTake (d := some 10) (op := .binOp BinOp.lss 3 (Operand.tmp 7) (Operand.tmp 9) 3) (g := none) 5 (.bool false) rfl (by kernel_rfl) (by kernel_rfl) (by kernel_rfl) (by kernel_rfl) ?y5 HBR ?_
    case y5 => intro o' ho W hS; exact by simp only [execOp, ho]; go_simp; first | done | (simp; done) | rfl
    simp only [Act.put, List.setIfInBounds_toArray, List.set_cons_zero, List.set_cons_succ]
    refine heldTake (d := some 11) (op := .move (Operand.tmp 10)) (g := none) 6 (.bool false) rfl (by kernel_rfl) (by kernel_rfl) (by kernel_rfl) (by kernel_rfl) ?y6 HBR ?_
    case y6 => intro o' ho W hS; exact by simp only [execOp, ho]; go_simp; first | done | (simp; done) | rfl
    simp only [Act.put, List.setIfInBounds_toArray, List.set_cons_zero, List.set_cons_succ]
    refine heldSkip (d := some 12) (op := .move (Operand.tmp 1)) (g := some (6, true)) 7 rfl (by kernel_rfl) (by kernel_rfl) (by kernel_rfl) (by kernel_rfl) HBR ?_
    simp only [Act.put, List.setIfInBounds_toArray, List.set_cons_zero, List.set_cons_succ]
    refine heldSkip (d := some 13) (op := .binOp BinOp.geq 3 (Operand.tmp 12) (Operand.const (Value.int IntKind.i64 0)) 3) (g := some (6, true)) 8 rfl (by kernel_rfl) (by kernel_rfl) (by kernel_rfl) (by kernel_rfl) HBR ?_
    simp only [Act.put, List.setIfInBounds_toArray, List.set_cons_zero, List.set_cons_succ]
    refine heldTake (d := some 14) (op := .pick (Operand.tmp 11) (Operand.tmp 13) (Operand.const (Value.bool false))) (g := none) 9 (.bool false) rfl (by kernel_rfl) (by kernel_rfl) (by kernel_rfl) (by kernel_rfl) ?y9 HBR ?_
    case y9 => intro o' ho W hS; exact by simp only [execOp, ho]; go_simp; first | done | (simp; done) | rfl
    simp only [Act.put, List.setIfInBounds_toArray, List.set_cons_zero, List.set_cons_succ]
    refine heldTake (d := some 15) (op := .move (Operand.tmp 14)) (g := none) 10 (.bool false) rfl (by kernel_rfl) (by kernel_rfl) (by kernel_rfl) (by kernel_rfl) ?y10 HBR ?_
    case y10 => intro o' ho W hS; exact by simp only [execOp, ho]; go_simp; first | done | (simp; done) | rfl
    simp only [Act.put, List.setIfInBounds_toArray, List.set_cons_zero, List.set_cons_succ]
    refine heldSkip (d := some 16) (op := .move (Operand.tmp 1)) (g := some (10, true)) 11 rfl (by kernel_rfl) (by kernel_rfl) (by kernel_rfl) (by kernel_rfl) HBR ?_
    simp only [Act.put, List.setIfInBounds_toArray, List.set_cons_zero, List.set_cons_succ]
    refine heldSkip (d := some 17) (op := .fieldAddr 30 (Operand.tmp 2) 1) (g := some (10, true)) 12 rfl (by kernel_rfl) (by kernel_rfl) (by kernel_rfl) (by kernel_rfl) HBR ?_
    simp only [Act.put, List.setIfInBounds_toArray, List.set_cons_zero, List.set_cons_succ]
    refine heldSkip (d := some 18) (op := .load 3 (Operand.tmp 17)) (g := some (10, true)) 13 rfl (by kernel_rfl) (by kernel_rfl) (by kernel_rfl) (by kernel_rfl) HBR ?_
    simp only [Act.put, List.setIfInBounds_toArray, List.set_cons_zero, List.set_cons_succ]
    refine heldSkip (d := some 19) (op := .binOp BinOp.leq 3 (Operand.tmp 16) (Operand.tmp 18) 3) (g := some (10, true)) 14 rfl (by kernel_rfl) (by kernel_rfl) (by kernel_rfl) (by kernel_rfl) HBR ?_
    simp only [Act.put, List.setIfInBounds_toArray, List.set_cons_zero, List.set_cons_succ]
    refine heldTake (d := some 20) (op := .pick (Operand.tmp 15) (Operand.tmp 19) (Operand.const (Value.bool false))) (g := none) 15 (.bool false) rfl (by kernel_rfl) (by kernel_rfl) (by kernel_rfl) (by kernel_rfl) ?y15 HBR ?_
    case y15 => intro o' ho W hS; exact by simp only [execOp, ho]; go_simp; first | done | (simp; done) | rfl
    simp only [Act.put, List.setIfInBounds_toArray, List.set_cons_zero, List.set_cons_succ]
    refine heldTake (d := some 21) (op := .move (Operand.tmp 20)) (g := none) 16 (.bool false) rfl (by kernel_rfl) (by kernel_rfl) (by kernel_rfl) (by kernel_rfl) ?y16 HBR ?_
    case y16 => intro o' ho W hS; exact by simp only [execOp, ho]; go_simp; first | done | (simp; done) | rfl
    simp only [Act.put, List.setIfInBounds_toArray, List.set_cons_zero, List.set_cons_succ]
    refine heldSkip (d := some 22) (op := .load 30 (Operand.tmp 2)) (g := some (16, true)) 17 rfl (by kernel_rfl) (by kernel_rfl) (by kernel_rfl) (by kernel_rfl) HBR ?_
    simp only [Act.put, List.setIfInBounds_toArray, List.set_cons_zero, List.set_cons_succ]
    refine heldSkip (d := some 23) (op := .call { callee := Callee.value (Operand.func 19), args := #[Operand.tmp 22], argTypes := #[30] }) (g := some (16, true)) 18 rfl (by kernel_rfl) (by kernel_rfl) (by kernel_rfl) (by kernel_rfl) HBR ?_
    simp only [Act.put, List.setIfInBounds_toArray, List.set_cons_zero, List.set_cons_succ]
    refine heldSkip (d := some 24) (op := .move (Operand.tmp 1)) (g := some (16, true)) 19 rfl (by kernel_rfl) (by kernel_rfl) (by kernel_rfl) (by kernel_rfl) HBR ?_
    simp only [Act.put, List.setIfInBounds_toArray, List.set_cons_zero, List.set_cons_succ]
    refine heldSkip (d := some 25) (op := .binOp BinOp.add 3 (Operand.tmp 23) (Operand.tmp 24) 3) (g := some (16, true)) 20 rfl (by kernel_rfl) (by kernel_rfl) (by kernel_rfl) (by kernel_rfl) HBR ?_
    simp only [Act.put, List.setIfInBounds_toArray, List.set_cons_zero, List.set_cons_succ]
    refine heldSkip (d := some 26) (op := .fieldAddr 30 (Operand.tmp 2) 1) (g := some (16, true)) 21 rfl (by kernel_rfl) (by kernel_rfl) (by kernel_rfl) (by kernel_rfl) HBR ?_
    simp only [Act.put, List.setIfInBounds_toArray, List.set_cons_zero, List.set_cons_succ]
    refine heldSkip (d := some 27) (op := .load 3 (Operand.tmp 26)) (g := some (16, true)) 22 rfl (by kernel_rfl) (by kernel_rfl) (by kernel_rfl) (by kernel_rfl) HBR ?_
    simp only [Act.put, List.setIfInBounds_toArray, List.set_cons_zero, List.set_cons_succ]
    refine heldSkip (d := some 28) (op := .binOp BinOp.leq 3 (Operand.tmp 25) (Operand.tmp 27) 3) (g := some (16, true)) 23 rfl (by kernel_rfl) (by kernel_rfl) (by kernel_rfl) (by kernel_rfl) HBR ?_
    simp only [Act.put, List.setIfInBounds_toArray, List.set_cons_zero, List.set_cons_succ]
    refine heldTake (d := some 29) (op := .pick (Operand.tmp 21) (Operand.tmp 28) (Operand.const (Value.bool false))) (g := none) 24 (.bool false) rfl (by kernel_rfl) (by kernel_rfl) (by kernel_rfl) (by kernel_rfl) ?y24 HBR ?_
    case y24 => intro o' ho W hS; exact by simp only [execOp, ho]; go_simp; first | done | (simp; done) | rfl
    simp only [Act.put, List.setIfInBounds_toArray, List.set_cons_zero, List.set_cons_succ]
    refine heldTake (d := some 4) (op := .assign (Operand.tmp 29)) (g := none) 25 (.bool false) rfl (by kernel_rfl) (by kernel_rfl) (by kernel_rfl) (by kernel_rfl) ?y25 HBR ?_
    case y25 => intro o' ho W hS; exact by simp only [execOp, ho]; go_simp; first | done | (simp; done) | rfl
    simp only [Act.put, List.setIfInBounds_toArray, List.set_cons_zero, List.set_cons_succ]
    refine wpAnyH_done (by kernel_rfl) ?_ _
    refine NoPanic.normal ?_
    go_wp2
    go_ret
    exact ⟨by rw [HRR.out]; rfl, ⟨HBa.out.trans (HBR.mono HBa.out.size)⟩⟩
end Go.Proofs.Ytflnmjiopeoodaa.Que
