/- shake: ShakeCheck's walk. -/
import Derived.Test.YthlagngpllahkaaGreatDoorW13
set_option maxRecDepth 100000
namespace Go.Proofs.YthlagngpllahkaaGreatDoor
open Go.RowKit HeadPlain Nam

theorem run_app2 {a : Act} {o : Oper} {x y : Operand} {Z w1 : World} {v0 src v1 : Value} (ho : o.op = .call { callee := .builtin .append, args := #[x, y], argTypes := #[28, 28] }) (ht : o.type = 28) (hs : a.eval x = v0) (hx : a.eval y = src)
    (hap : (Builtin.append_ #[28, 28] 28 #[v0, src]).run Tryz.prog Z = .ok v1 w1) : (execOp a.eval o).run Tryz.prog Z = .ok (.value v1) w1 := by
  unfold execOp
  simp only [ho, ht, resolve, invoke, builtin, Sem.run_bind, Sem.run_pure, Result.andThen_ok, List.map_toArray, List.map_cons, List.map_nil, hs, hx, hap]
set_option maxHeartbeats 8000000 in
theorem check_law (h : HdV) (bx : Value) (key : ByteArray) (v : Value) (l : List ByteArray) (w : World) (hg : GlobA w) (hfit : h.Fit) (hv : FieldsAt w bx h.fs) (hl : StrA w v l) (hll : l.length ≤ maxLen) (hs : ∀ s ∈ l, s.size ≤ maxLen) :
    Calls Tryz.prog 6 #[.agg #[.string h.a, .string h.b, .string h.c, bx], .string key, v] w fun e w' => e = .returned (.bool true) ∧ Sl (Below w.heap.size w w') := by
  have HG := Sl.mk hg
  have C13 : Sl (∀ V, Below w.heap.size w V → Calls Tryz.prog 13 #[.agg #[.string h.a, .string h.b, .string h.c, bx]] V fun e w' => Sl (FewR h e) ∧ Sl (Below V.heap.size V w')) := ⟨fun V hB => few_any h bx V (hv.below hB) hfit⟩
  have C17 : Sl (∀ r, fewB l = r → ∀ V, Below w.heap.size w V → Calls Tryz.prog 17 #[v] V fun e w' => e = .returned (.bool r) ∧ V = w') := ⟨fun r hr V hB => few_ex hr (hl.below hB) hll hs⟩
  have C30 : Sl (∀ V u, Fw h → key.size ≤ 300 → l.length ≤ 30 → Below w.heap.size w V → StrA V u l → Calls Tryz.prog 30 #[.agg #[.string h.a, .string h.b, .string h.c, bx], .string key, u] V fun e w' => e = .returned (chkV (checkV h key l)) ∧ Sl (Below V.heap.size V w')) := ⟨fun V u hf hk hn hB hS => check_shake h bx key l u V _ rfl (hg.of hB) (hv.below hB) hf (by omega) hS (by omega)⟩
  have C31 : Sl (∀ V, Fw h → key.size ≤ 300 → l.length ≤ 30 → Below w.heap.size w V → Calls Tryz.prog 31 #[.agg #[.string h.a, .string h.b, .string h.c, bx], .string key, v] V fun e w' => e = .returned (chkR (checkV h key l)) ∧ Sl (Below V.heap.size V w')) := ⟨fun V hf hk hn hB => checkR_law h bx key v l V (hv.below hB) hf hk (hl.below hB) (by omega)⟩
  have HXA : Sl (∀ V, Below w.heap.size w V → StrA (V.alloc (.cells #[] 9)) v l) := ⟨fun V hB => hl.below (hB.alloc hB.size _)⟩
  obtain ⟨cv, hcv⟩ : ∃ o, checkV h key l = o := ⟨_, rfl⟩
  rw [hcv] at C30 C31
  clear hcv hg hfit hll hs
  obtain ⟨vd, vc, _, _, rfl, _⟩ := hl
  obtain ⟨n, hn⟩ : ∃ n, l.length = n := ⟨_, rfl⟩
  have HN := Sl.mk hn
  rw [hn] at C17 C30 C31 HXA ⊢
  clear hn
  obtain ⟨bd, bc, sb, so, rfl, _⟩ := hv
  obtain ⟨nf, hnf⟩ : ∃ n, h.fs.length = n := ⟨_, rfl⟩
  rw [hnf] at C13 C30 C31 ⊢
  clear hnf
  obtain ⟨w0, hw0⟩ : ∃ V, w.alloc (.cells #[.string h.a, .string h.b, .string h.c, .slice bd nf bc] 25) = V := ⟨_, rfl⟩
  have HB0 : Sl (Below w.heap.size w w0) := ⟨by rw [← hw0]; exact (Below.refl _ _).alloc (Nat.le_refl _) _⟩
  have HX0 : Sl (w0.heap[w.heap.size]? = some (.cells #[.string h.a, .string h.b, .string h.c, .slice bd nf bc] 25 (0, 0))) := ⟨by rw [← hw0]; exact alloc_new _ _ _ rfl⟩
  go_enter Tryz.func6, Tryz.ntmps6
  go_wp2_with fail
  clear hw0
  refine (awake_ex HB0.out HG.out).mono ?_
  rintro e w1 ⟨rfl, HE, HB1⟩
  have HX1 := Sl.mk (box_below HX0.out HE.out)
  clear HE HX0 HB0
  obtain ⟨p0, p1, p2, p3⟩ := head_cells HX1.out
  go_wp2_with fail
  clear p0 p1 p2 p3
  refine (C13.out _ HB1.out).mono ?_
  rintro e w2 ⟨HFEW, HE⟩
  have HX2 := Sl.mk (box_below HX1.out HE.out)
  have HB2 := Sl.mk (below_trans HB1.out HE.out)
  clear HE HX1 HB1
  rcases HFEW.out with ⟨rfl, hfew⟩ | ⟨rfl, _⟩
  rotate_left
  · go_wp2_with fail
    refine (awake_ex HB2.out HG.out).mono ?_
    rintro e w3 ⟨rfl, _, HB3⟩
    go_wp2
    go_ret
    exact ⟨rfl, HB3⟩
  have HFW := Sl.mk (few_fw hfew)
  clear hfew HFEW
  by_cases hk : 300 < key.size
  · have hk1 : ((300 : Int) < (key.size : Int)) = True := eq_true (by omega)
    go_wp2_with fail
    refine (awake_ex HB2.out HG.out).mono ?_
    rintro e w3 ⟨rfl, _, HB3⟩
    go_wp2
    go_ret
    exact ⟨rfl, HB3⟩
  have hk1 : ((300 : Int) < (key.size : Int)) = False := eq_false (by omega)
  have hk2 : key.size ≤ 300 := by omega
  cases hfl : fewB l with
  | false =>
    have HR := Sl.mk hfl
    clear hfl
    go_wp2_with fail
    refine (C17.out _ HR.out _ HB2.out).mono ?_
    rintro e w3 ⟨rfl, rfl⟩
    go_wp2_with fail
    refine (awake_ex HB2.out HG.out).mono ?_
    rintro e w3 ⟨rfl, _, HB3⟩
    go_wp2
    go_ret
    exact ⟨rfl, HB3⟩
  | true =>
  have HN30 : Sl (n ≤ 30) := ⟨by rw [← HN.out]; exact (fewB_yes hfl).2⟩
  have HR := Sl.mk hfl
  clear hfl
  go_wp2_with fail
  refine (C17.out _ HR.out _ HB2.out).mono ?_
  rintro e w3 ⟨rfl, rfl⟩
  go_wp2
  obtain ⟨R, hR⟩ : ∃ R, w2.drew = R := ⟨_, rfl⟩
  have HBR : Sl (Below w.heap.size w R) := ⟨by rw [← hR]; exact HB2.out.drew⟩
  have HXR : Sl (R.heap[w.heap.size]? = some (.cells #[.string h.a, .string h.b, .string h.c, .slice bd nf bc] 25 (0, 0))) := ⟨by rw [← hR]; exact HX2.out⟩
  have HSR : Below w.heap.size w R ∧ R.heap[w.heap.size]? = some (.cells #[.string h.a, .string h.b, .string h.c, .slice bd nf bc] 25 (0, 0)) := ⟨HBR.out, HXR.out⟩
  have HOWN : Sl (∀ ty, ∃ v1 w1, (Builtin.append_ #[28, 28] ty #[.slice (some ⟨R.heap.size, 0, none⟩) 0 0, .slice vd n vc]).run Tryz.prog (R.alloc (.cells #[] 9)) = .ok v1 w1 ∧ OwnS w1 R.heap.size v1 ([] ++ l) ∧ (R.alloc (.cells #[] 9)).grownBy w1 (Value.slice (some ⟨R.heap.size, 0, none⟩) 0 0).ownBlock) := ⟨fun ty => add_all (own_lit R) (HXA.out R HBR.out) (by have := HN30.out; have := HN.out; simp; omega) (by rw [alloc_size]; omega) ty⟩
  obtain ⟨v1, R2, hap, hown, hgr⟩ := HOWN.out 28
  obtain ⟨HBA', HBA⟩ := app_below HBR.out (own_lit R) hgr
  have HO1 := Sl.mk hown
  clear hown hgr HOWN
  have HSA : Below w.heap.size w (R.alloc (.cells #[] 9)) ∧ (R.alloc (.cells #[] 9)).heap[w.heap.size]? = some (.cells #[.string h.a, .string h.b, .string h.c, .slice bd nf bc] 25 (0, 0)) := ⟨HBR.out.alloc HBR.out.size _, box_below HXR.out ((Below.refl _ _).alloc (Nat.le_refl _) _)⟩
  have HSB : Below w.heap.size w R2 ∧ R2.heap[w.heap.size]? = some (.cells #[.string h.a, .string h.b, .string h.c, .slice bd nf bc] 25 (0, 0)) := ⟨HBA.out, box_below HXR.out HBA'.out⟩
  refine wp_region_noPanic ?_
  refine wp_region_held (S := fun V => Below w.heap.size w V ∧ V.heap[w.heap.size]? = some (.cells #[.string h.a, .string h.b, .string h.c, .slice bd nf bc] 25 (0, 0))) (by kernel_rfl) ?_
  change wpAnyH _ _ _ _ _ _ _ _ w2.drew
  rw [hR]
  clear hR
  refine heldTake (d := some 30) (op := Go.Op.load 25 (Go.Operand.tmp 3)) (g := none) 0 ?v0 rfl (by kernel_rfl) (by kernel_rfl) (by kernel_rfl) (by kernel_rfl) ?y0 HSR ?_
  case y0 => intro o ho w hS; obtain ⟨p0, p1, p2, p3⟩ := head_cells hS.2; simp only [execOp, ho]; go_simp; try rfl
  simp only [Act.put, List.setIfInBounds_toArray, List.set_cons_zero, List.set_cons_succ]
  refine heldTake (d := some 31) (op := Go.Op.move (Go.Operand.tmp 1)) (g := none) 1 ?v1 rfl (by kernel_rfl) (by kernel_rfl) (by kernel_rfl) (by kernel_rfl) ?y1 HSR ?_
  case y1 => intro o ho w hS; simp only [execOp, ho]; go_simp; try rfl
  simp only [Act.put, List.setIfInBounds_toArray, List.set_cons_zero, List.set_cons_succ]
  refine heldTake (d := some 33) (op := Go.Op.move (Go.Operand.tmp 2)) (g := none) 3 ?v3 rfl (by kernel_rfl) (by kernel_rfl) (by kernel_rfl) (by kernel_rfl) ?y3 HSR ?_
  case y3 => intro o ho w hS; simp only [execOp, ho]; go_simp; try rfl
  simp only [Act.put, List.setIfInBounds_toArray, List.set_cons_zero, List.set_cons_succ]
  refine heldRunT (d := some 32) (op := Go.Op.buildSlice 28 0 #[]) (g := none) (t := 28) 2 (.slice (some ⟨R.heap.size, 0, none⟩) 0 0) (R.alloc (.cells #[] 9)) rfl (by kernel_rfl) (by kernel_rfl) ?y2 HSA ?_
  case y2 => intro o ho ht; simp only [execOp, ho]; go_simp; try rfl
  simp only [Act.put, List.setIfInBounds_toArray, List.set_cons_zero, List.set_cons_succ]
  refine heldRunT (d := some 34) (op := Go.Op.call { callee := Go.Callee.builtin Go.Builtin.append, args := #[Go.Operand.tmp 32, Go.Operand.tmp 33], argTypes := #[28, 28] }) (g := none) (t := 28) 4 v1 R2 rfl (by kernel_rfl) (by kernel_rfl) ?y4 HSB ?_
  case y4 => intro o ho ht; exact run_app2 ho ht rfl rfl hap
  simp only [Act.put, List.setIfInBounds_toArray, List.set_cons_zero, List.set_cons_succ]
  clear hap
  refine heldCall (d := some 35) (op := Go.Op.call { callee := Go.Callee.value (Go.Operand.func 30), args := #[Go.Operand.tmp 30, Go.Operand.tmp 31, Go.Operand.tmp 34], argTypes := #[25, 9, 28] }) (g := none) 5 30 ?a5 rfl (by kernel_rfl) (by kernel_rfl) ?y5 ?_
  case y5 => intro o ho; simp only [execOp, ho]; go_simp; try rfl
  refine (C30.out R2 v1 HFW.out hk2 HN30.out HBA.out HO1.out.strA).mono ?_
  rintro e R3 ⟨rfl, HE3⟩
  have HB3 := Sl.mk (below_trans HBA.out HE3.out)
  have HS3 : Below w.heap.size w R3 ∧ R3.heap[w.heap.size]? = some (.cells #[.string h.a, .string h.b, .string h.c, .slice bd nf bc] 25 (0, 0)) := ⟨HB3.out, box_below HSB.2 HE3.out⟩
  refine ⟨_, rfl, HS3, ?_⟩
  clear HSA HSB HSR HE3 HO1 HBA HBA'
  obtain ⟨cp, ce, hce⟩ : ∃ (p : ByteArray) (e : Int), chkV cv = .tuple #[.string p, .int .i64 e] := by cases cv <;> exact ⟨_, _, rfl⟩
  rw [hce]
  simp only [Act.put, List.setIfInBounds_toArray, List.set_cons_zero, List.set_cons_succ]
  refine heldTake (d := some 29) (op := Go.Op.move (Go.Operand.tmp 35)) (g := none) 6 ?v6 rfl (by kernel_rfl) (by kernel_rfl) (by kernel_rfl) (by kernel_rfl) ?y6 HS3 ?_
  case y6 => intro o ho w hS; simp only [execOp, ho]; go_simp; try rfl
  simp only [Act.put, List.setIfInBounds_toArray, List.set_cons_zero, List.set_cons_succ]
  refine heldTake (d := some 36) (op := Go.Op.extract (Go.Operand.tmp 29) 0) (g := none) 7 ?v7 rfl (by kernel_rfl) (by kernel_rfl) (by kernel_rfl) (by kernel_rfl) ?y7 HS3 ?_
  case y7 => intro o ho w hS; simp only [execOp, ho]; go_simp; try rfl
  simp only [Act.put, List.setIfInBounds_toArray, List.set_cons_zero, List.set_cons_succ]
  refine heldTake (d := some 37) (op := Go.Op.extract (Go.Operand.tmp 29) 1) (g := none) 8 ?v8 rfl (by kernel_rfl) (by kernel_rfl) (by kernel_rfl) (by kernel_rfl) ?y8 HS3 ?_
  case y8 => intro o ho w hS; simp only [execOp, ho]; go_simp; try rfl
  simp only [Act.put, List.setIfInBounds_toArray, List.set_cons_zero, List.set_cons_succ]
  refine heldTake (d := some 7) (op := Go.Op.assign (Go.Operand.tmp 36)) (g := none) 9 ?v9 rfl (by kernel_rfl) (by kernel_rfl) (by kernel_rfl) (by kernel_rfl) ?y9 HS3 ?_
  case y9 => intro o ho w hS; simp only [execOp, ho]; go_simp; try rfl
  simp only [Act.put, List.setIfInBounds_toArray, List.set_cons_zero, List.set_cons_succ]
  refine heldTake (d := some 8) (op := Go.Op.assign (Go.Operand.tmp 37)) (g := none) 10 ?v10 rfl (by kernel_rfl) (by kernel_rfl) (by kernel_rfl) (by kernel_rfl) ?y10 HS3 ?_
  case y10 => intro o ho w hS; simp only [execOp, ho]; go_simp; try rfl
  simp only [Act.put, List.setIfInBounds_toArray, List.set_cons_zero, List.set_cons_succ]
  refine wpAnyH_done (by kernel_rfl) ?_ _
  refine NoPanic.normal ?_
  obtain ⟨p0, p1, p2, p3⟩ := head_cells HS3.2
  go_wp2_with fail
  clear p0 p1 p2 p3
  refine (C31.out _ HFW.out hk2 HN30.out HB3.out).mono ?_
  rintro e w5 ⟨rfl, HE⟩
  have HB5 := Sl.mk (below_trans HB3.out HE.out)
  clear HE HS3
  cases cv with
  | none =>
    have h1 : chkV none = .tuple #[.string { data := #[] }, .int .i64 70] := rfl
    rw [h1] at hce
    injection hce with hce
    injection hce with hce
    injection hce with hc1 hce
    injection hce with hc2 _
    injection hc1 with hc1
    injection hc2 with _ hc2
    subst hc1 hc2
    clear h1
    simp only [chkR]
    go_wp2
    go_ret
    exact ⟨rfl, HB5⟩
  | some p =>
    have h1 : chkV (some p) = .tuple #[.string p, .int .i64 0] := rfl
    rw [h1] at hce
    injection hce with hce
    injection hce with hce
    injection hce with hc1 hce
    injection hce with hc2 _
    injection hc1 with hc1
    injection hc2 with _ hc2
    subst hc1 hc2
    clear h1
    have hpp : (p.toList == p.toList) = true := by simp
    simp only [chkR]
    go_wp2
    go_ret
    exact ⟨rfl, HB5⟩
theorem check_walk (h : HdV) (bx : Value) (key : ByteArray) (v : Value) (l : List ByteArray) (w : World) (hg : GlobA w) (hfit : h.Fit) (hv : FieldsAt w bx h.fs) (_ : key.size ≤ maxLen) (hl : StrA w v l) (hll : l.length ≤ maxLen) (hs : ∀ s ∈ l, s.size ≤ maxLen) :
    Calls Tryz.prog 6 #[.agg #[.string h.a, .string h.b, .string h.c, bx], .string key, v] w fun e w' => e = .returned (.bool true) ∧ Below w.heap.size w w' :=
  (check_law h bx key v l w hg hfit hv hl hll hs).mono fun _ _ ⟨h1, h2⟩ => ⟨h1, h2.out⟩
end Go.Proofs.YthlagngpllahkaaGreatDoor
