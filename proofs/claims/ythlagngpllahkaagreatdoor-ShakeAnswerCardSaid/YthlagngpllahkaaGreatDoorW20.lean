/- shake: the document's Answer: a grant. -/
import Derived.Test.YthlagngpllahkaaGreatDoorW5
import Derived.Test.YthlagngpllahkaaGreatDoorW4
import Derived.Test.YthlagngpllahkaaGreatDoorHdE
set_option maxRecDepth 100000
namespace Go.Proofs.YthlagngpllahkaaGreatDoor
open Go.RowKit HeadPlain

set_option maxHeartbeats 4000000 in
theorem answerD_any (key p : ByteArray) (w : World) (hk : key.size ≤ 300) (hp : p.size ≤ 300) :
    Calls Tryz.prog 23 #[.string key, .string p] w fun e w' => Sl (HeadR w' (grantV key p) e) ∧ Sl (Below w.heap.size w w') := by
  have CA : Sl (∀ V, Calls Tryz.prog 20 #[.string key] V fun e w' => e = .returned (.string (accS key)) ∧ Sl (Below V.heap.size V w')) := ⟨fun V => acceptR_any key V hk⟩
  have HSZ : Sl (∀ f ∈ [(bUp, bWs), (bConn, bUp), (bAcc, accS key), (bProt, p)], f.1.size ≤ maxLen ∧ f.2.size ≤ maxLen) := ⟨fun f hf => by
    have h1 := accS_size key
    simp only [List.mem_cons, List.not_mem_nil, or_false] at hf
    rcases hf with rfl | rfl | rfl | rfl
    · exact ⟨show bUp.size ≤ maxLen by decide, show bWs.size ≤ maxLen by decide⟩
    · exact ⟨show bConn.size ≤ maxLen by decide, show bUp.size ≤ maxLen by decide⟩
    · exact ⟨show bAcc.size ≤ maxLen by decide, show (accS key).size ≤ maxLen by unfold maxLen; omega⟩
    · exact ⟨show bProt.size ≤ maxLen by decide, show p.size ≤ maxLen by unfold maxLen; omega⟩⟩
  have HV0 : Sl (p.size = 0 → grantV key p = ⟨bH11, b101, bSwi, [(bUp, bWs), (bConn, bUp), (bAcc, accS key)]⟩) := ⟨fun h => by unfold grantV; rw [if_pos h]; rfl⟩
  have HV1 : Sl (p.size ≠ 0 → grantV key p = ⟨bH11, b101, bSwi, [(bUp, bWs), (bConn, bUp), (bAcc, accS key), (bProt, p)]⟩) := ⟨fun h => by unfold grantV; rw [if_neg h]; rfl⟩
  obtain ⟨x, hx⟩ : ∃ x, accS key = x := ⟨_, rfl⟩
  rw [hx] at CA HSZ HV0 HV1
  clear hx hk hp
  obtain ⟨w0, hw0⟩ : ∃ V, w.alloc (.cells #[.string { data := #[] }, .string { data := #[] }, .string { data := #[] }, .slice none 0 0] 25) = V := ⟨_, rfl⟩
  have HB0 : Sl (Below w.heap.size w w0) := ⟨by rw [← hw0]; exact (Below.refl _ _).alloc (Nat.le_refl _) _⟩
  have HX0 : Sl (w0.heap[w.heap.size]? = some (.cells #[.string { data := #[] }, .string { data := #[] }, .string { data := #[] }, .slice none 0 0] 25 (0, 0))) := ⟨by rw [← hw0]; exact alloc_new _ _ _ rfl⟩
  obtain ⟨W0, hW0⟩ : ∃ W, w0.alloc (.cells #[.string { data := #[72, 84, 84, 80, 47, 49, 46, 49] }, .string { data := #[49, 48, 49] }, .string { data := #[83, 119, 105, 116, 99, 104, 105, 110, 103, 32, 80, 114, 111, 116, 111, 99, 111, 108, 115] }, .slice none 0 0] 25) = W := ⟨_, rfl⟩
  have S0 : Sl (AS w #[.string { data := #[] }, .string { data := #[] }, .string { data := #[] }, .slice none 0 0] w0.heap.size bH11 b101 bSwi [] (.slice none 0 0) W0) := ⟨by rw [← hW0]; exact AS.new HB0.out HX0.out⟩
  have hW0b : W0.setCell ⟨w0.heap.size, 3, none⟩ (.slice none 0 0) = W0 := by rw [← hW0, World.setCell_alloc_new]; rfl
  have g3 : W0.frozen? ⟨w0.heap.size, 3, none⟩ = false := frozen_of_row _ _ _ _ _ S0.out.H
  have e3 : W0.cell? ⟨w0.heap.size, 3, none⟩ = some (.slice none 0 0) := (head_cells S0.out.H).2.2.2
  go_enter Tryz.func23, Tryz.ntmps23
  obtain ⟨A0, hA0⟩ : ∃ A, W0.alloc (.cells #[.string { data := #[85, 112, 103, 114, 97, 100, 101] }, .string { data := #[119, 101, 98, 115, 111, 99, 107, 101, 116] }] 60) = A := ⟨_, rfl⟩
  have BA0 : Sl (Below W0.heap.size W0 A0) := ⟨by rw [← hA0]; exact (Below.refl _ _).alloc (Nat.le_refl _) _⟩
  have HL0 : Sl (A0.heap[W0.heap.size]? = some (.cells #[.string { data := #[85, 112, 103, 114, 97, 100, 101] }, .string { data := #[119, 101, 98, 115, 111, 99, 107, 101, 116] }] 60 (0, 0))) := ⟨by rw [← hA0]; exact alloc_new _ _ _ rfl⟩
  have SA0 := Sl.mk (S0.out.below BA0.out)
  have p30 := (head_cells S0.out.H).2.2.2
  go_wp2_with (at_builtin; refine app_flds rfl rfl _ _ rfl w.heap.size _ [] [(bUp, bWs)] W0.heap.size 1 rfl SA0.out.O rfl rfl _ HL0.out rfl (show 0 + 1 ≤ 1000 by omega) SA0.out.B.size ?_)
  intro v' X0 HO0 HG0
  obtain ⟨va1, vc1, hv'⟩ : ∃ a c, v' = .slice a 1 c := HO0.out.slice
  subst hv'
  obtain ⟨W1, hW1⟩ : ∃ W, X0.setCell ⟨w0.heap.size, 3, none⟩ (.slice va1 1 vc1) = W := ⟨_, rfl⟩
  have S1 : Sl (AS w #[.string { data := #[] }, .string { data := #[] }, .string { data := #[] }, .slice none 0 0] w0.heap.size bH11 b101 bSwi [(bUp, bWs)] (.slice va1 1 vc1) W1) := ⟨by rw [← hW1]; exact SA0.out.step HO0.out HG0.out⟩
  obtain ⟨f30, p40⟩ := SA0.out.frozen HG0.out
  clear hA0 BA0 HL0 SA0 p30 HO0 HG0 S0
  clear hW0 hw0 hW0b g3 e3
  obtain ⟨A1, hA1⟩ : ∃ A, W1.alloc (.cells #[.string { data := #[67, 111, 110, 110, 101, 99, 116, 105, 111, 110] }, .string { data := #[85, 112, 103, 114, 97, 100, 101] }] 60) = A := ⟨_, rfl⟩
  have BA1 : Sl (Below W1.heap.size W1 A1) := ⟨by rw [← hA1]; exact (Below.refl _ _).alloc (Nat.le_refl _) _⟩
  have HL1 : Sl (A1.heap[W1.heap.size]? = some (.cells #[.string { data := #[67, 111, 110, 110, 101, 99, 116, 105, 111, 110] }, .string { data := #[85, 112, 103, 114, 97, 100, 101] }] 60 (0, 0))) := ⟨by rw [← hA1]; exact alloc_new _ _ _ rfl⟩
  have SA1 := Sl.mk (S1.out.below BA1.out)
  have p31 := (head_cells S1.out.H).2.2.2
  go_wp2_with (at_builtin; refine app_flds rfl rfl _ _ rfl w.heap.size _ [(bUp, bWs)] [(bConn, bUp)] W1.heap.size 1 rfl SA1.out.O rfl rfl _ HL1.out rfl (show 1 + 1 ≤ 1000 by omega) SA1.out.B.size ?_)
  intro v' X1 HO1 HG1
  obtain ⟨va2, vc2, hv'⟩ : ∃ a c, v' = .slice a 2 c := HO1.out.slice
  subst hv'
  obtain ⟨W2, hW2⟩ : ∃ W, X1.setCell ⟨w0.heap.size, 3, none⟩ (.slice va2 2 vc2) = W := ⟨_, rfl⟩
  have S2 : Sl (AS w #[.string { data := #[] }, .string { data := #[] }, .string { data := #[] }, .slice none 0 0] w0.heap.size bH11 b101 bSwi [(bUp, bWs), (bConn, bUp)] (.slice va2 2 vc2) W2) := ⟨by rw [← hW2]; exact SA1.out.step HO1.out HG1.out⟩
  obtain ⟨f31, p41⟩ := SA1.out.frozen HG1.out
  clear hA1 BA1 HL1 SA1 p31 HO1 HG1 S1
  clear f30 p40 hW1
  go_upto_region 4 with fail
  clear f31 p41 hW2
  go_cut [] (fun wx => ∃ a c, AS w #[.string { data := #[] }, .string { data := #[] }, .string { data := #[] }, .slice none 0 0] w0.heap.size bH11 b101 bSwi [(bUp, bWs), (bConn, bUp), (bAcc, x)] (.slice a 3 c) wx)
  case first =>
    obtain ⟨R, hR⟩ : ∃ R, W2.drew = R := ⟨_, rfl⟩
    have SR : Sl (AS w #[.string { data := #[] }, .string { data := #[] }, .string { data := #[] }, .slice none 0 0] w0.heap.size bH11 b101 bSwi [(bUp, bWs), (bConn, bUp)] (.slice va2 2 vc2) R) := ⟨by rw [← hR]; exact S2.out.below (Below.refl _ _).drew⟩
    have HS0 : Below w.heap.size w R ∧ R.heap[w.heap.size]? = some (.cells #[.string { data := #[] }, .string { data := #[] }, .string { data := #[] }, .slice none 0 0] 25 (0, 0)) := ⟨SR.out.B, SR.out.R⟩
    have cR : R.cell? ⟨w0.heap.size, 3, none⟩ = some (.slice va2 2 vc2) := (head_cells SR.out.H).2.2.2
    refine wp_region_noPanic ?_
    refine wp_region_held (S := fun V => Below w.heap.size w V ∧ V.heap[w.heap.size]? = some (.cells #[.string { data := #[] }, .string { data := #[] }, .string { data := #[] }, .slice none 0 0] 25 (0, 0))) (by kernel_rfl) ?_
    change wpAnyH _ _ _ _ _ _ _ _ W2.drew
    rw [hR]
    clear hR
    refine heldTake (d := some 20) (op := Go.Op.fieldAddr 25 (Go.Operand.tmp 5) 1) (g := none) 0 ?v0 rfl (by kernel_rfl) (by kernel_rfl) (by kernel_rfl) (by kernel_rfl) ?y0 HS0 ?_
    case y0 => intro o ho w hS; simp only [execOp, ho]; go_simp; try rfl
    simp only [Act.put, List.setIfInBounds_toArray, List.set_cons_zero, List.set_cons_succ]
    refine heldTake (d := some 22) (op := Go.Op.move (Go.Operand.tmp 0)) (g := none) 2 ?v2 rfl (by kernel_rfl) (by kernel_rfl) (by kernel_rfl) (by kernel_rfl) ?y2 HS0 ?_
    case y2 => intro o ho w hS; simp only [execOp, ho]; go_simp; try rfl
    simp only [Act.put, List.setIfInBounds_toArray, List.set_cons_zero, List.set_cons_succ]
    refine heldLC (di := some 21) (opi := Go.Op.load 23 (Go.Operand.tmp 20)) (gi := none) (dj := some 23) (opj := Go.Op.call { callee := Go.Callee.value (Go.Operand.func 20), args := #[Go.Operand.tmp 22], argTypes := #[9] }) (gj := none) 1 3 (.slice va2 2 vc2) 20 ?a13 rfl rfl (by kernel_rfl) (by kernel_rfl) (by kernel_rfl) ?y1 ?y3 HS0 ?n1 ?n3
    case y1 => intro o ho; simp only [execOp, ho]; go_simp; try rfl
    case y3 => intro o ho; simp only [execOp, ho]; go_simp; try rfl
    case n1 =>
      simp only [Act.put, List.setIfInBounds_toArray, List.set_cons_zero, List.set_cons_succ]
      refine heldCall (d := some 23) (op := Go.Op.call { callee := Go.Callee.value (Go.Operand.func 20), args := #[Go.Operand.tmp 22], argTypes := #[9] }) (g := none) 3 20 ?a3p rfl (by kernel_rfl) (by kernel_rfl) ?y3p ?_
      case y3p => intro o ho; simp only [execOp, ho]; go_simp; try rfl
      refine (CA.out _).mono ?_
      rintro e R2 ⟨rfl, HE2⟩
      have S2x := Sl.mk (SR.out.below HE2.out)
      have HS2 : Below w.heap.size w R2 ∧ R2.heap[w.heap.size]? = some (.cells #[.string { data := #[] }, .string { data := #[] }, .string { data := #[] }, .slice none 0 0] 25 (0, 0)) := ⟨S2x.out.B, S2x.out.R⟩
      refine ⟨_, rfl, HS2, ?_⟩
      have c2 : R2.cell? ⟨w0.heap.size, 3, none⟩ = some (.slice va2 2 vc2) := (head_cells S2x.out.H).2.2.2
      simp only [Act.put, List.setIfInBounds_toArray, List.set_cons_zero, List.set_cons_succ]
      refine heldTake (d := some 24) (op := Go.Op.build 60 #[(0, Go.Operand.const (Go.Value.string { data := #[83, 101, 99, 45, 87, 101, 98, 83, 111, 99, 107, 101, 116, 45, 65, 99, 99, 101, 112, 116] })), (1, Go.Operand.tmp 23)]) (g := none) 4 ?v4p rfl (by kernel_rfl) (by kernel_rfl) (by kernel_rfl) (by kernel_rfl) ?y4p HS2 ?_
      case y4p => intro o ho w hS; simp only [execOp, ho]; go_simp; try rfl
      simp only [Act.put, List.setIfInBounds_toArray, List.set_cons_zero, List.set_cons_succ]
      obtain ⟨A, hA⟩ : ∃ A, R2.alloc (.cells #[.string { data := #[83, 101, 99, 45, 87, 101, 98, 83, 111, 99, 107, 101, 116, 45, 65, 99, 99, 101, 112, 116] }, .string x] 60) = A := ⟨_, rfl⟩
      have BA : Sl (Below R2.heap.size R2 A) := ⟨by rw [← hA]; exact (Below.refl _ _).alloc (Nat.le_refl _) _⟩
      have HL : Sl (A.heap[R2.heap.size]? = some (.cells #[.string { data := #[83, 101, 99, 45, 87, 101, 98, 83, 111, 99, 107, 101, 116, 45, 65, 99, 99, 101, 112, 116] }, .string x] 60 (0, 0))) := ⟨by rw [← hA]; exact alloc_new _ _ _ rfl⟩
      have SA := Sl.mk (S2x.out.below BA.out)
      have HSA : Below w.heap.size w A ∧ A.heap[w.heap.size]? = some (.cells #[.string { data := #[] }, .string { data := #[] }, .string { data := #[] }, .slice none 0 0] 25 (0, 0)) := ⟨SA.out.B, SA.out.R⟩
      have cA : A.cell? ⟨w0.heap.size, 3, none⟩ = some (.slice va2 2 vc2) := (head_cells SA.out.H).2.2.2
      refine heldRunT (d := some 25) (op := Go.Op.buildSlice 23 1 #[(0, Go.Operand.tmp 24)]) (g := none) 5 (.slice (some ⟨R2.heap.size, 0, none⟩) 1 1) A rfl (by kernel_rfl) (by kernel_rfl) ?y5p HSA ?_
      case y5p => intro o ho ht; simp only [execOp, ho]; go_simp; first | done | rw [hA] | rfl
      simp only [Act.put, List.setIfInBounds_toArray, List.set_cons_zero, List.set_cons_succ]
      obtain ⟨v2, X5, hr6, ho6, hg6⟩ := add_flds (gs := [(bAcc, x)]) (k := 1) SA.out.O rfl HL.out rfl (show 2 + 1 ≤ 1000 by omega) SA.out.B.size
      obtain ⟨av, cv, hv2⟩ : ∃ a c, v2 = .slice a 3 c := OwnF.slice ho6
      subst hv2
      have S6 := Sl.mk (SA.out.step ho6 hg6)
      obtain ⟨f0, c0⟩ := SA.out.frozen hg6
      have HSX : Below w.heap.size w X5 ∧ X5.heap[w.heap.size]? = some (.cells #[.string { data := #[] }, .string { data := #[] }, .string { data := #[] }, .slice none 0 0] 25 (0, 0)) := ⟨ownF_grown SA.out.B SA.out.O hg6, staysF SA.out.O hg6 SA.out.R (by decide)⟩
      refine heldRunT (d := some 26) (op := Go.Op.call { callee := Go.Callee.builtin Go.Builtin.append, args := #[Go.Operand.tmp 21, Go.Operand.tmp 25], argTypes := #[23, 23] }) (g := none) 6 (.slice av 3 cv) X5 rfl (by kernel_rfl) (by kernel_rfl) ?y6p HSX ?_
      case y6p => intro o ho ht; simp only [execOp, ho, ht, resolve, invoke, builtin, Sem.run_bind, Sem.run_pure, Result.andThen_ok, List.map_toArray, List.map_cons, List.map_nil]; refine (congrArg (fun r => Result.andThen r _) hr6).trans ?_; rfl
      simp only [Act.put, List.setIfInBounds_toArray, List.set_cons_zero, List.set_cons_succ]
      refine heldTake (d := some 27) (op := Go.Op.fieldAddr 25 (Go.Operand.tmp 5) 1) (g := none) 7 ?v7p rfl (by kernel_rfl) (by kernel_rfl) (by kernel_rfl) (by kernel_rfl) ?y7p HSX ?_
      case y7p => intro o ho w hS; simp only [execOp, ho]; go_simp; try rfl
      simp only [Act.put, List.setIfInBounds_toArray, List.set_cons_zero, List.set_cons_succ]
      have HSY : Below w.heap.size w (X5.setCell ⟨w0.heap.size, 3, none⟩ (.slice av 3 cv)) ∧ (X5.setCell ⟨w0.heap.size, 3, none⟩ (.slice av 3 cv)).heap[w.heap.size]? = some (.cells #[.string { data := #[] }, .string { data := #[] }, .string { data := #[] }, .slice none 0 0] 25 (0, 0)) := ⟨S6.out.B, S6.out.R⟩
      refine heldStore (d := none) (op := Go.Op.store 23 (Go.Operand.tmp 27) (Go.Operand.tmp 26)) (g := none) 8 (X5.setCell ⟨w0.heap.size, 3, none⟩ (.slice av 3 cv)) rfl (by kernel_rfl) (by kernel_rfl) ?y8p HSY ?_
      case y8p => intro o ho ht; simp only [execOp, ho]; go_simp; try rfl
      simp only [Act.put]
      refine wpAnyH_done (by kernel_rfl) ?_ _
      refine NoPanic.normal ?_
      go_wp2_with fail
      go_meet
      exact ⟨_, _, S6.out⟩
    case n3 =>
      refine (CA.out _).mono ?_
      rintro e R2 ⟨rfl, HE2⟩
      have S2x := Sl.mk (SR.out.below HE2.out)
      have HS2 : Below w.heap.size w R2 ∧ R2.heap[w.heap.size]? = some (.cells #[.string { data := #[] }, .string { data := #[] }, .string { data := #[] }, .slice none 0 0] 25 (0, 0)) := ⟨S2x.out.B, S2x.out.R⟩
      refine ⟨_, rfl, HS2, ?_⟩
      have c2 : R2.cell? ⟨w0.heap.size, 3, none⟩ = some (.slice va2 2 vc2) := (head_cells S2x.out.H).2.2.2
      simp only [Act.put, List.setIfInBounds_toArray, List.set_cons_zero, List.set_cons_succ]
      refine heldTake (d := some 24) (op := Go.Op.build 60 #[(0, Go.Operand.const (Go.Value.string { data := #[83, 101, 99, 45, 87, 101, 98, 83, 111, 99, 107, 101, 116, 45, 65, 99, 99, 101, 112, 116] })), (1, Go.Operand.tmp 23)]) (g := none) 4 ?v4q rfl (by kernel_rfl) (by kernel_rfl) (by kernel_rfl) (by kernel_rfl) ?y4q HS2 ?_
      case y4q => intro o ho w hS; simp only [execOp, ho]; go_simp; try rfl
      simp only [Act.put, List.setIfInBounds_toArray, List.set_cons_zero, List.set_cons_succ]
      obtain ⟨A, hA⟩ : ∃ A, R2.alloc (.cells #[.string { data := #[83, 101, 99, 45, 87, 101, 98, 83, 111, 99, 107, 101, 116, 45, 65, 99, 99, 101, 112, 116] }, .string x] 60) = A := ⟨_, rfl⟩
      have BA : Sl (Below R2.heap.size R2 A) := ⟨by rw [← hA]; exact (Below.refl _ _).alloc (Nat.le_refl _) _⟩
      have HL : Sl (A.heap[R2.heap.size]? = some (.cells #[.string { data := #[83, 101, 99, 45, 87, 101, 98, 83, 111, 99, 107, 101, 116, 45, 65, 99, 99, 101, 112, 116] }, .string x] 60 (0, 0))) := ⟨by rw [← hA]; exact alloc_new _ _ _ rfl⟩
      have SA := Sl.mk (S2x.out.below BA.out)
      have HSA : Below w.heap.size w A ∧ A.heap[w.heap.size]? = some (.cells #[.string { data := #[] }, .string { data := #[] }, .string { data := #[] }, .slice none 0 0] 25 (0, 0)) := ⟨SA.out.B, SA.out.R⟩
      have cA : A.cell? ⟨w0.heap.size, 3, none⟩ = some (.slice va2 2 vc2) := (head_cells SA.out.H).2.2.2
      refine heldTwo (di := some 21) (opi := Go.Op.load 23 (Go.Operand.tmp 20)) (gi := none) (dj := some 25) (opj := Go.Op.buildSlice 23 1 #[(0, Go.Operand.tmp 24)]) (gj := none) 1 5 (.slice va2 2 vc2) R2 (.slice (some ⟨R2.heap.size, 0, none⟩) 1 1) A rfl rfl (by kernel_rfl) (by kernel_rfl) (by kernel_rfl) ?y1q ?y5q HS2 HSA ?n1q ?n5q
      case y1q => intro o ho ht; simp only [execOp, ho]; go_simp; try rfl
      case y5q => intro o ho ht; simp only [execOp, ho]; go_simp; first | done | rw [hA] | rfl
      case n1q =>
        simp only [Act.put, List.setIfInBounds_toArray, List.set_cons_zero, List.set_cons_succ]
        refine heldRunT (d := some 25) (op := Go.Op.buildSlice 23 1 #[(0, Go.Operand.tmp 24)]) (g := none) 5 (.slice (some ⟨R2.heap.size, 0, none⟩) 1 1) A rfl (by kernel_rfl) (by kernel_rfl) ?y5qa HSA ?_
        case y5qa => intro o ho ht; simp only [execOp, ho]; go_simp; first | done | rw [hA] | rfl
        simp only [Act.put, List.setIfInBounds_toArray, List.set_cons_zero, List.set_cons_succ]
        obtain ⟨v2, X5, hr6, ho6, hg6⟩ := add_flds (gs := [(bAcc, x)]) (k := 1) SA.out.O rfl HL.out rfl (show 2 + 1 ≤ 1000 by omega) SA.out.B.size
        obtain ⟨av, cv, hv2⟩ : ∃ a c, v2 = .slice a 3 c := OwnF.slice ho6
        subst hv2
        have S6 := Sl.mk (SA.out.step ho6 hg6)
        obtain ⟨f0, c0⟩ := SA.out.frozen hg6
        have HSX : Below w.heap.size w X5 ∧ X5.heap[w.heap.size]? = some (.cells #[.string { data := #[] }, .string { data := #[] }, .string { data := #[] }, .slice none 0 0] 25 (0, 0)) := ⟨ownF_grown SA.out.B SA.out.O hg6, staysF SA.out.O hg6 SA.out.R (by decide)⟩
        refine heldRunT (d := some 26) (op := Go.Op.call { callee := Go.Callee.builtin Go.Builtin.append, args := #[Go.Operand.tmp 21, Go.Operand.tmp 25], argTypes := #[23, 23] }) (g := none) 6 (.slice av 3 cv) X5 rfl (by kernel_rfl) (by kernel_rfl) ?y6qa HSX ?_
        case y6qa => intro o ho ht; simp only [execOp, ho, ht, resolve, invoke, builtin, Sem.run_bind, Sem.run_pure, Result.andThen_ok, List.map_toArray, List.map_cons, List.map_nil]; refine (congrArg (fun r => Result.andThen r _) hr6).trans ?_; rfl
        simp only [Act.put, List.setIfInBounds_toArray, List.set_cons_zero, List.set_cons_succ]
        refine heldTake (d := some 27) (op := Go.Op.fieldAddr 25 (Go.Operand.tmp 5) 1) (g := none) 7 ?v7qa rfl (by kernel_rfl) (by kernel_rfl) (by kernel_rfl) (by kernel_rfl) ?y7qa HSX ?_
        case y7qa => intro o ho w hS; simp only [execOp, ho]; go_simp; try rfl
        simp only [Act.put, List.setIfInBounds_toArray, List.set_cons_zero, List.set_cons_succ]
        have HSY : Below w.heap.size w (X5.setCell ⟨w0.heap.size, 3, none⟩ (.slice av 3 cv)) ∧ (X5.setCell ⟨w0.heap.size, 3, none⟩ (.slice av 3 cv)).heap[w.heap.size]? = some (.cells #[.string { data := #[] }, .string { data := #[] }, .string { data := #[] }, .slice none 0 0] 25 (0, 0)) := ⟨S6.out.B, S6.out.R⟩
        refine heldStore (d := none) (op := Go.Op.store 23 (Go.Operand.tmp 27) (Go.Operand.tmp 26)) (g := none) 8 (X5.setCell ⟨w0.heap.size, 3, none⟩ (.slice av 3 cv)) rfl (by kernel_rfl) (by kernel_rfl) ?y8qa HSY ?_
        case y8qa => intro o ho ht; simp only [execOp, ho]; go_simp; try rfl
        simp only [Act.put]
        refine wpAnyH_done (by kernel_rfl) ?_ _
        refine NoPanic.normal ?_
        go_wp2_with fail
        go_meet
        exact ⟨_, _, S6.out⟩
      case n5q =>
        simp only [Act.put, List.setIfInBounds_toArray, List.set_cons_zero, List.set_cons_succ]
        refine heldRunT (d := some 21) (op := Go.Op.load 23 (Go.Operand.tmp 20)) (g := none) 1 (.slice va2 2 vc2) A rfl (by kernel_rfl) (by kernel_rfl) ?y1qb HSA ?_
        case y1qb => intro o ho ht; simp only [execOp, ho]; go_simp; try rfl
        simp only [Act.put, List.setIfInBounds_toArray, List.set_cons_zero, List.set_cons_succ]
        obtain ⟨v2, X5, hr6, ho6, hg6⟩ := add_flds (gs := [(bAcc, x)]) (k := 1) SA.out.O rfl HL.out rfl (show 2 + 1 ≤ 1000 by omega) SA.out.B.size
        obtain ⟨av, cv, hv2⟩ : ∃ a c, v2 = .slice a 3 c := OwnF.slice ho6
        subst hv2
        have S6 := Sl.mk (SA.out.step ho6 hg6)
        obtain ⟨f0, c0⟩ := SA.out.frozen hg6
        have HSX : Below w.heap.size w X5 ∧ X5.heap[w.heap.size]? = some (.cells #[.string { data := #[] }, .string { data := #[] }, .string { data := #[] }, .slice none 0 0] 25 (0, 0)) := ⟨ownF_grown SA.out.B SA.out.O hg6, staysF SA.out.O hg6 SA.out.R (by decide)⟩
        refine heldRunT (d := some 26) (op := Go.Op.call { callee := Go.Callee.builtin Go.Builtin.append, args := #[Go.Operand.tmp 21, Go.Operand.tmp 25], argTypes := #[23, 23] }) (g := none) 6 (.slice av 3 cv) X5 rfl (by kernel_rfl) (by kernel_rfl) ?y6qb HSX ?_
        case y6qb => intro o ho ht; simp only [execOp, ho, ht, resolve, invoke, builtin, Sem.run_bind, Sem.run_pure, Result.andThen_ok, List.map_toArray, List.map_cons, List.map_nil]; refine (congrArg (fun r => Result.andThen r _) hr6).trans ?_; rfl
        simp only [Act.put, List.setIfInBounds_toArray, List.set_cons_zero, List.set_cons_succ]
        refine heldTake (d := some 27) (op := Go.Op.fieldAddr 25 (Go.Operand.tmp 5) 1) (g := none) 7 ?v7qb rfl (by kernel_rfl) (by kernel_rfl) (by kernel_rfl) (by kernel_rfl) ?y7qb HSX ?_
        case y7qb => intro o ho w hS; simp only [execOp, ho]; go_simp; try rfl
        simp only [Act.put, List.setIfInBounds_toArray, List.set_cons_zero, List.set_cons_succ]
        have HSY : Below w.heap.size w (X5.setCell ⟨w0.heap.size, 3, none⟩ (.slice av 3 cv)) ∧ (X5.setCell ⟨w0.heap.size, 3, none⟩ (.slice av 3 cv)).heap[w.heap.size]? = some (.cells #[.string { data := #[] }, .string { data := #[] }, .string { data := #[] }, .slice none 0 0] 25 (0, 0)) := ⟨S6.out.B, S6.out.R⟩
        refine heldStore (d := none) (op := Go.Op.store 23 (Go.Operand.tmp 27) (Go.Operand.tmp 26)) (g := none) 8 (X5.setCell ⟨w0.heap.size, 3, none⟩ (.slice av 3 cv)) rfl (by kernel_rfl) (by kernel_rfl) ?y8qb HSY ?_
        case y8qb => intro o ho ht; simp only [execOp, ho]; go_simp; try rfl
        simp only [Act.put]
        refine wpAnyH_done (by kernel_rfl) ?_ _
        refine NoPanic.normal ?_
        go_wp2_with fail
        go_meet
        exact ⟨_, _, S6.out⟩
  case rest =>
    obtain ⟨va3, vc3, hS3⟩ := hcut
    have S3 := Sl.mk hS3
    clear hS3 CA S2
    by_cases h0 : p.size = 0
    · have hq := eq_nil h0
      have HVV := Sl.mk (HV0.out h0)
      have HFM : Sl (∀ f ∈ [(bUp, bWs), (bConn, bUp), (bAcc, x)], f.1.size ≤ maxLen ∧ f.2.size ≤ maxLen) := ⟨fun f hf => HSZ.out f (by simp only [List.mem_cons, List.not_mem_nil, or_false] at hf ⊢; rcases hf with h | h | h <;> simp [h])⟩
      clear h0 HV0 HV1 HSZ
      have hwq := S3.out.Q
      obtain ⟨⟨r0, r1, r2, r3⟩, ⟨q0, q1, q2, q3⟩⟩ := zero_cells S3.out.R
      have hz6 : w.heap.size < wc.heap.size := lt_of_block S3.out.R
      obtain ⟨p0, p1, p2, p3⟩ := head_cells S3.out.H
      go_wp2
      obtain ⟨D2, D3⟩ := S3.out.out HFM.out (show 3 < 100000 by omega)
      refine bodyPost_ret (ret_head1 rfl _ _ w.heap.size 25 _ (0, 0) rfl (four_cells _ _ _ _ _ _ _ _ _ _ S3.out.R) rfl) rfl ?_
      rw [HVV.out]
      exact ⟨⟨_, _, rfl, D2.out⟩, D3⟩
    · have hq := neq_nil h0
      have HVV := Sl.mk (HV1.out h0)
      clear h0 HV0 HV1
      obtain ⟨A3, hA3⟩ : ∃ A, wc.alloc (.cells #[.string { data := #[83, 101, 99, 45, 87, 101, 98, 83, 111, 99, 107, 101, 116, 45, 80, 114, 111, 116, 111, 99, 111, 108] }, .string p] 60) = A := ⟨_, rfl⟩
      have BA3 : Sl (Below wc.heap.size wc A3) := ⟨by rw [← hA3]; exact (Below.refl _ _).alloc (Nat.le_refl _) _⟩
      have HL3 : Sl (A3.heap[wc.heap.size]? = some (.cells #[.string { data := #[83, 101, 99, 45, 87, 101, 98, 83, 111, 99, 107, 101, 116, 45, 80, 114, 111, 116, 111, 99, 111, 108] }, .string p] 60 (0, 0))) := ⟨by rw [← hA3]; exact alloc_new _ _ _ rfl⟩
      have SA3 := Sl.mk (S3.out.below BA3.out)
      have p33 := (head_cells S3.out.H).2.2.2
      go_wp2_with (at_builtin; refine app_flds rfl rfl _ _ rfl w.heap.size _ [(bUp, bWs), (bConn, bUp), (bAcc, x)] [(bProt, p)] wc.heap.size 1 rfl SA3.out.O rfl rfl _ HL3.out rfl (show 3 + 1 ≤ 1000 by omega) SA3.out.B.size ?_)
      intro v' X3 HO3 HG3
      obtain ⟨va4, vc4, hv'⟩ : ∃ a c, v' = .slice a 4 c := HO3.out.slice
      subst hv'
      obtain ⟨W4, hW4⟩ : ∃ W, X3.setCell ⟨w0.heap.size, 3, none⟩ (.slice va4 4 vc4) = W := ⟨_, rfl⟩
      have S4 : Sl (AS w #[.string { data := #[] }, .string { data := #[] }, .string { data := #[] }, .slice none 0 0] w0.heap.size bH11 b101 bSwi [(bUp, bWs), (bConn, bUp), (bAcc, x), (bProt, p)] (.slice va4 4 vc4) W4) := ⟨by rw [← hW4]; exact SA3.out.step HO3.out HG3.out⟩
      obtain ⟨f33, p43⟩ := SA3.out.frozen HG3.out
      have hwq := S4.out.Q
      obtain ⟨⟨r0, r1, r2, r3⟩, ⟨q0, q1, q2, q3⟩⟩ := zero_cells S4.out.R
      have hz6 : w.heap.size < W4.heap.size := lt_of_block S4.out.R
      obtain ⟨t0, t1, t2, t3⟩ := head_cells S4.out.H
      clear hA3 BA3 HL3 SA3 p33 HO3 HG3 S3
      go_wp2
      obtain ⟨D2, D3⟩ := S4.out.out HSZ.out (show 4 < 100000 by omega)
      refine bodyPost_ret (ret_head1 rfl _ _ w.heap.size 25 _ (0, 0) rfl (four_cells _ _ _ _ _ _ _ _ _ _ S4.out.R) rfl) rfl ?_
      rw [HVV.out]
      exact ⟨⟨_, _, rfl, D2.out⟩, D3⟩
end Go.Proofs.YthlagngpllahkaaGreatDoor
