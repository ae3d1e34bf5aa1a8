/- HeadGets, the walk: whatever head and name come in, the law's Go text returns true, and nothing that was in memory changes. -/
import Derived.Test.YtcohecghibndhaaDoorU0
namespace Go.Proofs.YtcohecghibndhaaDoor
open Go.RowKit HeadPlain

theorem few_ex (w0 W : World) (h : HdV) (v : Value) (hB : Below w0.heap.size w0 W) (hv : FieldsAt W v h.fs) (hf : h.Fit) :
    Calls Tryd.prog 12 #[.agg #[.string h.a, .string h.b, .string h.c, v]] W fun e w' => Sl (FewR h e) ∧ Sl (Below W.heap.size W w') ∧ Sl (Below w0.heap.size w0 w') :=
  (few_any h v W hv hf).mono fun _ _ ⟨h1, h2⟩ => ⟨h1, h2, ⟨below_trans hB h2.out⟩⟩
theorem getR_ex (w0 W : World) (h : HdV) (v : Value) (name : ByteArray) (hB : Below w0.heap.size w0 W) (hv : FieldsAt W v h.fs) (hl : h.fs.length ≤ 100000) :
    Calls Tryd.prog 22 #[.agg #[.string h.a, .string h.b, .string h.c, v], .string name] W fun e w' => ∃ a c, e = .returned (.slice a (getV h.fs name).length c) ∧ Sl (StrA w' (.slice a (getV h.fs name).length c) (getV h.fs name)) ∧ Sl (Below W.heap.size W w') ∧ Sl (Below w0.heap.size w0 w') :=
  (getR_any h v name W hv hl).mono fun _ _ ⟨x, h1, h2, h3⟩ => by
    subst h1
    obtain ⟨a, c, rfl⟩ := h2.out.slice
    exact ⟨a, c, rfl, ⟨h2.out.strA⟩, h3, ⟨below_trans hB h3.out⟩⟩
theorem tokenR_ex (w0 W : World) (s : ByteArray) (r : Bool) (hr : token (bytes s) = r) (hB : Below w0.heap.size w0 W) (hs : s.size ≤ maxLen) :
    Calls Tryd.prog 24 #[.string s] W fun e w' => e = .returned (.bool r) ∧ Sl (Below W.heap.size W w') ∧ Sl (Below w0.heap.size w0 w') := by
  subst hr
  exact (tokenR_any s W hs).mono fun _ _ ⟨h1, h2⟩ => ⟨h1, by rw [h2]; exact ⟨Below.refl _ _⟩, by rw [h2]; exact ⟨hB⟩⟩

set_option maxHeartbeats 2000000 in
set_option maxRecDepth 100000 in
theorem gets_walk (h : HdV) (bx : Value) (name : ByteArray) (w : World) (hg : Globs w) (hf : h.Fit) (hv : FieldsAt w bx h.fs) (hn : name.size ≤ maxLen) :
    Calls Tryd.prog 6 #[.agg #[.string h.a, .string h.b, .string h.c, bx], .string name] w fun e w' => e = .returned (.bool true) ∧ Below w.heap.size w w' := by
  obtain ⟨vad, vn, vc, hvv, hvn⟩ : ∃ a n c, bx = .slice a n c ∧ n = h.fs.length := by obtain ⟨a, cap, _, _, h1, _⟩ := hv; exact ⟨_, _, _, h1, rfl⟩
  subst hvv
  subst hvn
  have HG := Sl.mk hg
  have HV := Sl.mk hv
  have HF := Sl.mk hf
  have HNM := Sl.mk hn
  unfold maxLen at hn
  clear hg hv hf
  obtain ⟨w1, hw1⟩ : ∃ w1, w.alloc (.cells #[.string h.a, .string h.b, .string h.c, .slice vad h.fs.length vc] 25) = w1 := ⟨_, rfl⟩
  have HB1 : Sl (Below w.heap.size w w1) := ⟨by rw [← hw1]; exact (Below.refl _ _).alloc (Nat.le_refl _) _⟩
  have HX1 : Sl (w1.heap[w.heap.size]? = some (.cells #[.string h.a, .string h.b, .string h.c, .slice vad h.fs.length vc] 25 (0, 0))) := ⟨by rw [← hw1]; exact alloc_new _ _ _ rfl⟩
  go_enter Tryd.func6, Tryd.ntmps6
  go_wp2_with fail
  refine (awake_ex w _ HB1.out HG.out).mono ?_
  rintro e w2 ⟨rfl, HX2, HB2⟩
  have HC2 := Sl.mk (box_below HX1.out HX2.out)
  have HFD2 := Sl.mk (HV.out.below HB2.out)
  clear HX1 HX2 HB1 hw1
  obtain ⟨p0, p1, p2, p3⟩ := head_cells HC2.out
  go_wp2_with fail
  refine (few_ex w _ h _ HB2.out HFD2.out HF.out).mono ?_
  rintro e w3 ⟨HR3, HX3, HB3⟩
  have HC3 := Sl.mk (box_below HC2.out HX3.out)
  have HFD3 := Sl.mk (HV.out.below HB3.out)
  clear HX3 HC2 HFD2 HB2 p0 p1 p2 p3
  rcases HR3.out with ⟨rfl, hF⟩ | ⟨rfl, hN⟩
  case inr =>
    clear HR3 hN
    go_wp2_with fail
    refine (awake_ex w _ HB3.out HG.out).mono ?_
    rintro e w4 ⟨rfl, HX4, HB4⟩
    go_wp2
    go_ret
    exact ⟨rfl, HB4.out⟩
  by_cases h1 : 300 < name.size
  · have h1' : (name.size : Int) > 300 := by omega
    clear HR3 hF
    go_wp2_with fail
    refine (awake_ex w _ HB3.out HG.out).mono ?_
    rintro e w4 ⟨rfl, HX4, HB4⟩
    go_wp2
    go_ret
    exact ⟨rfl, HB4.out⟩
  have h1' : ((name.size : Int) > 300) = False := eq_false (by omega)
  have HLN : Sl (h.fs.length ≤ 100000) := ⟨by have := hF.n; omega⟩
  have HGL : Sl ((getV h.fs name).length ≤ 1000000) := ⟨by have := getV_le h.fs name; have := HLN.out; omega⟩
  obtain ⟨tk, htk⟩ : ∃ z, token (bytes name) = z := ⟨_, rfl⟩
  have HTK := Sl.mk htk
  have htt : (tk == tk) = true := by simp
  clear HR3 hF htk
  go_wp2
  have HS0 : Below w.heap.size w w3.drew ∧ w3.drew.heap[w.heap.size]? = some (.cells #[.string h.a, .string h.b, .string h.c, .slice vad h.fs.length vc] 25 (0, 0)) := ⟨HB3.out.drew, HC3.out⟩
  have HFD : Sl (FieldsAt w3.drew (.slice vad h.fs.length vc) h.fs) := ⟨HFD3.out.below (Below.refl _ _).drew⟩
  have HBD : Sl (Below w.heap.size w w3.drew) := ⟨HB3.out.drew⟩
  refine wp_region_noPanic ?_
  refine wp_region_held (S := fun W => Below w.heap.size w W ∧ W.heap[w.heap.size]? = some (.cells #[.string h.a, .string h.b, .string h.c, .slice vad h.fs.length vc] 25 (0, 0))) (by kernel_rfl) ?_
  change wpAnyH _ _ _ _ _ _ _ _ w3.drew
  refine heldTake (d := some 18) (op := Go.Op.load 25 (Go.Operand.tmp 2)) (g := none) 0 ?v0 rfl (by kernel_rfl) (by kernel_rfl) (by kernel_rfl) (by kernel_rfl) ?y0 HS0 ?_
  case y0 => intro o ho w hS; obtain ⟨p0, p1, p2, p3⟩ := head_cells hS.2; simp only [execOp, ho]; go_simp; try rfl
  simp only [Act.put, List.setIfInBounds_toArray, List.set_cons_zero, List.set_cons_succ]
  refine heldTake (d := some 19) (op := Go.Op.move (Go.Operand.tmp 1)) (g := none) 1 ?v1 rfl (by kernel_rfl) (by kernel_rfl) (by kernel_rfl) (by kernel_rfl) ?y1 HS0 ?_
  case y1 => intro o ho w _; simp only [execOp, ho]; go_simp; try rfl
  simp only [Act.put, List.setIfInBounds_toArray, List.set_cons_zero, List.set_cons_succ]
  refine heldTake (d := some 21) (op := Go.Op.load 25 (Go.Operand.tmp 2)) (g := none) 3 ?v3 rfl (by kernel_rfl) (by kernel_rfl) (by kernel_rfl) (by kernel_rfl) ?y3 HS0 ?_
  case y3 => intro o ho w hS; obtain ⟨p0, p1, p2, p3⟩ := head_cells hS.2; simp only [execOp, ho]; go_simp; try rfl
  simp only [Act.put, List.setIfInBounds_toArray, List.set_cons_zero, List.set_cons_succ]
  refine heldTake (d := some 22) (op := Go.Op.move (Go.Operand.tmp 1)) (g := none) 4 ?v4 rfl (by kernel_rfl) (by kernel_rfl) (by kernel_rfl) (by kernel_rfl) ?y4 HS0 ?_
  case y4 => intro o ho w _; simp only [execOp, ho]; go_simp; try rfl
  simp only [Act.put, List.setIfInBounds_toArray, List.set_cons_zero, List.set_cons_succ]
  refine heldCall (d := some 20) (op := Go.Op.call { callee := Go.Callee.value (Go.Operand.func 21), args := #[Go.Operand.tmp 18, Go.Operand.tmp 19], argTypes := #[25, 9] }) (g := none) 2 21 ?a2 rfl (by kernel_rfl) (by kernel_rfl) ?y2 ?_
  case y2 => intro o ho; simp only [execOp, ho]; go_simp; try rfl
  refine (get_ex w _ h _ name HBD.out HFD.out HLN.out).mono ?_
  rintro e w5 ⟨a5, c5, rfl, HG5, HX5, HB5⟩
  have HS5 : Below w.heap.size w w5 ∧ w5.heap[w.heap.size]? = some (.cells #[.string h.a, .string h.b, .string h.c, .slice vad h.fs.length vc] 25 (0, 0)) := ⟨HB5.out, box_below HS0.2 HX5.out⟩
  have HFD5 := Sl.mk (HFD.out.below HX5.out)
  refine ⟨_, rfl, HS5, ?_⟩
  simp only [Act.put, List.setIfInBounds_toArray, List.set_cons_zero, List.set_cons_succ]
  refine heldCall (d := some 23) (op := Go.Op.call { callee := Go.Callee.value (Go.Operand.func 22), args := #[Go.Operand.tmp 21, Go.Operand.tmp 22], argTypes := #[25, 9] }) (g := none) 5 22 ?a5 rfl (by kernel_rfl) (by kernel_rfl) ?y5 ?_
  case y5 => intro o ho; simp only [execOp, ho]; go_simp; try rfl
  refine (getR_ex w _ h _ name HB5.out HFD5.out HLN.out).mono ?_
  rintro e w6 ⟨a6, c6, rfl, HG6, HX6, HB6⟩
  have HS6 : Below w.heap.size w w6 ∧ w6.heap[w.heap.size]? = some (.cells #[.string h.a, .string h.b, .string h.c, .slice vad h.fs.length vc] 25 (0, 0)) := ⟨HB6.out, box_below HS5.2 HX6.out⟩
  have HG56 := Sl.mk (HG5.out.below HX6.out)
  refine ⟨_, rfl, HS6, ?_⟩
  simp only [Act.put, List.setIfInBounds_toArray, List.set_cons_zero, List.set_cons_succ]
  refine heldCall (d := some 24) (op := Go.Op.call { callee := Go.Callee.value (Go.Operand.func 20), args := #[Go.Operand.tmp 20, Go.Operand.tmp 23], argTypes := #[43, 43] }) (g := none) 6 20 ?a6 rfl (by kernel_rfl) (by kernel_rfl) ?y6 ?_
  case y6 => intro o ho; simp only [execOp, ho]; go_simp; try rfl
  refine (row_ex w _ _ _ _ _ true (by simp) HB6.out HG56.out HG6.out HGL.out).mono ?_
  rintro e w7 ⟨rfl, HX7, HB7⟩
  have HS7 : Below w.heap.size w w7 ∧ w7.heap[w.heap.size]? = some (.cells #[.string h.a, .string h.b, .string h.c, .slice vad h.fs.length vc] 25 (0, 0)) := ⟨HB7.out, box_below HS6.2 HX7.out⟩
  refine ⟨_, rfl, HS7, ?_⟩
  simp only [Act.put, List.setIfInBounds_toArray, List.set_cons_zero, List.set_cons_succ]
  refine heldTake (d := some 25) (op := Go.Op.move (Go.Operand.tmp 24)) (g := none) 7 ?v7 rfl (by kernel_rfl) (by kernel_rfl) (by kernel_rfl) (by kernel_rfl) ?y7 HS7 ?_
  case y7 => intro o ho w _; simp only [execOp, ho]; go_simp; try rfl
  simp only [Act.put, List.setIfInBounds_toArray, List.set_cons_zero, List.set_cons_succ]
  refine heldTake (d := some 26) (op := Go.Op.move (Go.Operand.tmp 1)) (g := some (7, true)) 8 ?v8 rfl (by kernel_rfl) (by kernel_rfl) (by kernel_rfl) (by kernel_rfl) ?y8 HS7 ?_
  case y8 => intro o ho w _; simp only [execOp, ho]; go_simp; try rfl
  simp only [Act.put, List.setIfInBounds_toArray, List.set_cons_zero, List.set_cons_succ]
  refine heldTake (d := some 28) (op := Go.Op.move (Go.Operand.tmp 1)) (g := some (7, true)) 10 ?v10 rfl (by kernel_rfl) (by kernel_rfl) (by kernel_rfl) (by kernel_rfl) ?y10 HS7 ?_
  case y10 => intro o ho w _; simp only [execOp, ho]; go_simp; try rfl
  simp only [Act.put, List.setIfInBounds_toArray, List.set_cons_zero, List.set_cons_succ]
  refine heldCall (d := some 27) (op := Go.Op.call { callee := Go.Callee.value (Go.Operand.func 23), args := #[Go.Operand.tmp 26], argTypes := #[9] }) (g := some (7, true)) 9 23 ?a9 rfl (by kernel_rfl) (by kernel_rfl) ?y9 ?_
  case y9 => intro o ho; simp only [execOp, ho]; go_simp; try rfl
  refine (token_ex w _ name tk HTK.out HB7.out HG.out HNM.out).mono ?_
  rintro e w8 ⟨rfl, HX8, HB8⟩
  have HS8 : Below w.heap.size w w8 ∧ w8.heap[w.heap.size]? = some (.cells #[.string h.a, .string h.b, .string h.c, .slice vad h.fs.length vc] 25 (0, 0)) := ⟨HB8.out, box_below HS7.2 HX8.out⟩
  refine ⟨_, rfl, HS8, ?_⟩
  simp only [Act.put, List.setIfInBounds_toArray, List.set_cons_zero, List.set_cons_succ]
  refine heldCall (d := some 29) (op := Go.Op.call { callee := Go.Callee.value (Go.Operand.func 24), args := #[Go.Operand.tmp 28], argTypes := #[9] }) (g := some (7, true)) 11 24 ?a11 rfl (by kernel_rfl) (by kernel_rfl) ?y11 ?_
  case y11 => intro o ho; simp only [execOp, ho]; go_simp; try rfl
  refine (tokenR_ex w _ name tk HTK.out HB8.out HNM.out).mono ?_
  rintro e w9 ⟨rfl, HX9, HB9⟩
  have HS9 : Below w.heap.size w w9 ∧ w9.heap[w.heap.size]? = some (.cells #[.string h.a, .string h.b, .string h.c, .slice vad h.fs.length vc] 25 (0, 0)) := ⟨HB9.out, box_below HS8.2 HX9.out⟩
  refine ⟨_, rfl, HS9, ?_⟩
  simp only [Act.put, List.setIfInBounds_toArray, List.set_cons_zero, List.set_cons_succ]
  refine heldTake (d := some 30) (op := Go.Op.binOp Go.BinOp.eql 4 (Go.Operand.tmp 27) (Go.Operand.tmp 29) 4) (g := some (7, true)) 12 ?v12 rfl (by kernel_rfl) (by kernel_rfl) (by kernel_rfl) (by kernel_rfl) ?y12 HS9 ?_
  case y12 => intro o ho w _; simp only [execOp, ho]; go_simp; try rfl
  simp only [Act.put, List.setIfInBounds_toArray, List.set_cons_zero, List.set_cons_succ]
  refine heldTake (d := some 31) (op := Go.Op.pick (Go.Operand.tmp 25) (Go.Operand.tmp 30) (Go.Operand.const (Go.Value.bool false))) (g := none) 13 ?v13 rfl (by kernel_rfl) (by kernel_rfl) (by kernel_rfl) (by kernel_rfl) ?y13 HS9 ?_
  case y13 => intro o ho w _; simp only [execOp, ho]; go_simp; try rfl
  simp only [Act.put, List.setIfInBounds_toArray, List.set_cons_zero, List.set_cons_succ]
  refine heldTake (d := some 4) (op := Go.Op.assign (Go.Operand.tmp 31)) (g := none) 14 ?v14 rfl (by kernel_rfl) (by kernel_rfl) (by kernel_rfl) (by kernel_rfl) ?y14 HS9 ?_
  case y14 => intro o ho w _; simp only [execOp, ho]; go_simp; try rfl
  simp only [Act.put, List.setIfInBounds_toArray, List.set_cons_zero, List.set_cons_succ]
  refine wpAnyH_done (by kernel_rfl) ?_ _
  refine NoPanic.normal ?_
  go_wp2
  go_ret
  exact ⟨rfl, HB9.out⟩
end Go.Proofs.YtcohecghibndhaaDoor
