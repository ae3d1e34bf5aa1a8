/- shake: a question's steps: each closure by itself. -/
import Derived.Test.YthlagngpllahkaaGreatDoorS10
set_option maxRecDepth 100000
namespace Go.Proofs.YthlagngpllahkaaGreatDoor
open Go.RowKit HeadPlain

/-- The steps as they lie. -/
def stepCells (hb ob : Nat) : Array Value := #[.int .i64 405, .func (.func 67) #[] #[.pointer (some ⟨hb, 0, none⟩)], .int .i64 400, .func (.func 68) #[] #[.pointer (some ⟨hb, 0, none⟩)], .int .i64 400, .func (.func 70) #[] #[.pointer (some ⟨hb, 0, none⟩), .pointer (some ⟨ob, 0, none⟩)], .int .i64 426, .func (.func 71) #[] #[.pointer (some ⟨hb, 0, none⟩)], .int .i64 400, .func (.func 72) #[] #[.pointer (some ⟨hb, 0, none⟩)], .int .i64 426, .func (.func 73) #[] #[.pointer (some ⟨hb, 0, none⟩)], .int .i64 400, .func (.func 74) #[] #[.pointer (some ⟨hb, 0, none⟩), .pointer (some ⟨ob, 0, none⟩)], .int .i64 400, .func (.func 76) #[] #[.pointer (some ⟨hb, 0, none⟩), .pointer (some ⟨ob, 0, none⟩)], .int .i64 400, .func (.func 78) #[] #[.pointer (some ⟨hb, 0, none⟩), .pointer (some ⟨ob, 0, none⟩)]]
/-- Where a question stands: the head, the steps, the offer as it is so far. -/
structure QS (w0 : World) (hb ob p sb : Nat) (ks : List (Nat × Obj)) (h : HdV) (bx : Value) (a b c d : ByteArray) (v : Value) (W : World) : Prop where
  B : Below w0.heap.size w0 W
  H : W.heap[hb]? = some (.cells #[.string h.a, .string h.b, .string h.c, bx] 25 (0, 0))
  O : W.heap[ob]? = some (.cells #[.pointer (some ⟨p, 0, none⟩)] 68 (0, 0))
  P : W.heap[p]? = some (.cells #[.string a, .string b, .string c, .string d, v] 30 (0, 0))
  S : W.heap[sb]? = some (.cells (stepCells hb ob) 70 (0, 0))
  g : w0.heap.size ≤ p
  K : ∀ x ∈ ks, W.heap[x.1]? = some x.2 ∧ x.1 ≠ p
section
variable {w0 W w' : World} {hb ob p sb : Nat} {ks : List (Nat × Obj)} {h : HdV} {bx v : Value} {a b c d : ByteArray}
theorem QS.below (q : QS w0 hb ob p sb ks h bx a b c d v W) (k : Below W.heap.size W w') : QS w0 hb ob p sb ks h bx a b c d v w' where
  B := below_trans q.B k
  H := box_below q.H k
  O := box_below q.O k
  P := box_below q.P k
  S := box_below q.S k
  g := q.g
  K := fun x hx => ⟨(k.block x.1 (Array.getElem?_eq_some_iff.1 (q.K x hx).1).1).trans (q.K x hx).1, (q.K x hx).2⟩
theorem QS.set (q : QS w0 hb ob p sb ks h bx a b c d v W) (i : Nat) (x : Value) {a' b' c' d' : ByteArray} {v' : Value} (he : (#[Value.string a, .string b, .string c, .string d, v] : Array Value).setIfInBounds i x = #[.string a', .string b', .string c', .string d', v']) : QS w0 hb ob p sb ks h bx a' b' c' d' v' (W.setCell ⟨p, i, none⟩ x) where
  B := q.B.grown (grown_setCell W p i x) q.B.size (fun k hk => by have := q.g; injection hk with hk; omega)
  H := by rw [heap_setCell_other _ _ _ _ (fun e => by have e' : hb = p := e; subst e'; have h1 := q.H; rw [q.P] at h1; injection h1 with h1; injection h1 with _ h2; revert h2; decide)]; exact q.H
  O := by rw [heap_setCell_other _ _ _ _ (fun e => by have e' : ob = p := e; subst e'; have h1 := q.O; rw [q.P] at h1; injection h1 with h1; injection h1 with _ h2; revert h2; decide)]; exact q.O
  P := by rw [heap_setCell_same _ _ _ _ _ _ q.P, he]
  S := by rw [heap_setCell_other _ _ _ _ (fun e => by have e' : sb = p := e; subst e'; have h1 := q.S; rw [q.P] at h1; injection h1 with h1; injection h1 with _ h2; revert h2; decide)]; exact q.S
  g := q.g
  K := fun x hx => ⟨by rw [heap_setCell_other _ _ _ _ (q.K x hx).2]; exact (q.K x hx).1, (q.K x hx).2⟩
theorem QS.more (q : QS w0 hb ob p sb ks h bx a b c d v W) (g : Nat) (o : Obj) (hg : W.heap[g]? = some o) (hn : g ≠ p) : QS w0 hb ob p sb ((g, o) :: ks) h bx a b c d v W where
  B := q.B
  H := q.H
  O := q.O
  P := q.P
  S := q.S
  g := q.g
  K := fun x hx => by
    rcases List.mem_cons.1 hx with rfl | hx
    · exact ⟨hg, hn⟩
    · exact q.K x hx
theorem QS.less {x : Nat × Obj} (q : QS w0 hb ob p sb (x :: ks) h bx a b c d v W) : QS w0 hb ob p sb ks h bx a b c d v W where
  B := q.B
  H := q.H
  O := q.O
  P := q.P
  S := q.S
  g := q.g
  K := fun y hy => q.K y (List.mem_cons_of_mem _ hy)
theorem QS.pcells (q : QS w0 hb ob p sb ks h bx a b c d v W) : W.cell? ⟨p, 0, none⟩ = some (.string a) ∧ W.cell? ⟨p, 1, none⟩ = some (.string b) ∧ W.cell? ⟨p, 2, none⟩ = some (.string c) ∧ W.cell? ⟨p, 3, none⟩ = some (.string d) ∧ W.cell? ⟨p, 4, none⟩ = some v :=
  ⟨by rw [cell_of_row _ _ _ _ _ _ q.P]; rfl, by rw [cell_of_row _ _ _ _ _ _ q.P]; rfl, by rw [cell_of_row _ _ _ _ _ _ q.P]; rfl, by rw [cell_of_row _ _ _ _ _ _ q.P]; rfl, by rw [cell_of_row _ _ _ _ _ _ q.P]; rfl⟩
theorem QS.ocell (q : QS w0 hb ob p sb ks h bx a b c d v W) : W.cell? ⟨ob, 0, none⟩ = some (.pointer (some ⟨p, 0, none⟩)) := by rw [cell_of_row _ _ _ _ _ _ q.O]; rfl
end
theorem ob_cell {W : World} {ob p : Nat} (h : W.heap[ob]? = some (.cells #[.pointer (some ⟨p, 0, none⟩)] 68 (0, 0))) : W.cell? ⟨ob, 0, none⟩ = some (.pointer (some ⟨p, 0, none⟩)) := by rw [cell_of_row _ _ _ _ _ _ h]; rfl
theorem step1 (h : HdV) (bx : Value) (hb : Nat) (W : World) (r : Bool) (hr : (h.a.toList == bGET.toList) = r) (hH : W.heap[hb]? = some (.cells #[.string h.a, .string h.b, .string h.c, bx] 25 (0, 0))) :
    Calls Tryz.prog 67 #[.pointer (some ⟨hb, 0, none⟩)] W fun e w' => e = .returned (.bool r) ∧ W = w' := by
  have hq : (h.a.toList == [71, 69, 84]) = r := by rw [← hr, show bGET.toList = [71, 69, 84] from toList_mk _]
  clear hr
  obtain ⟨p0, p1, p2, p3⟩ := head_cells hH
  go_enter Tryz.func67, Tryz.ntmps67
  go_wp2
  go_ret
  exact ⟨by first | rfl | rw [hq], rfl⟩
theorem step2 (h : HdV) (bx : Value) (hb : Nat) (W : World) (r : Bool) (hr : ((h.c.toList == bH11.toList) && Lib.hasPrefix h.b.data.toList [47]) = r) (hH : W.heap[hb]? = some (.cells #[.string h.a, .string h.b, .string h.c, bx] 25 (0, 0))) :
    Calls Tryz.prog 68 #[.pointer (some ⟨hb, 0, none⟩)] W fun e w' => e = .returned (.bool r) ∧ W = w' := by
  have C1 : Sl (∀ V, Calls Tryz.prog 69 #[.string h.b, .string { data := #[47] }] V fun e w' => e = .returned (.bool (Lib.hasPrefix h.b.data.toList [47])) ∧ V = w') := ⟨fun V => (Tryz.strings_HasPrefix h.b { data := #[47] } V).mono fun _ _ ⟨h1, h2⟩ => ⟨h1, h2.symm⟩⟩
  rw [show bH11.toList = [72, 84, 84, 80, 47, 49, 46, 49] from toList_mk _] at hr
  obtain ⟨x, hx⟩ : ∃ x, Lib.hasPrefix h.b.data.toList [47] = x := ⟨_, rfl⟩
  rw [hx] at C1 hr
  clear hx
  obtain ⟨p0, p1, p2, p3⟩ := head_cells hH
  cases hc : (h.c.toList == [72, 84, 84, 80, 47, 49, 46, 49]) with
  | false =>
    rw [hc] at hr
    have HR := Sl.mk hr
    clear hr
    go_enter Tryz.func68, Tryz.ntmps68
    go_wp2
    go_ret
    exact ⟨ret_bool HR.out, rfl⟩
  | true =>
    rw [hc, Bool.true_and] at hr
    have HR := Sl.mk hr
    clear hr
    go_enter Tryz.func68, Tryz.ntmps68
    go_wp2_with fail
    refine (C1.out _).mono ?_
    rintro e w1 ⟨rfl, rfl⟩
    go_wp2
    go_ret
    exact ⟨ret_bool HR.out, rfl⟩
theorem step4 (h : HdV) (bx : Value) (hb : Nat) (W : World) (r : Bool) (hr : Nam.hasB bWs (getV h.fs bUp) = r) (hg : GlobA W) (hv : FieldsAt W bx h.fs) (hf : Fw h) (hH : W.heap[hb]? = some (.cells #[.string h.a, .string h.b, .string h.c, bx] 25 (0, 0))) :
    Calls Tryz.prog 71 #[.pointer (some ⟨hb, 0, none⟩)] W fun e w' => e = .returned (.bool r) ∧ Sl (Below W.heap.size W w') := by
  have C : Sl (Calls Tryz.prog 58 #[.agg #[.string h.a, .string h.b, .string h.c, bx], .string { data := #[85, 112, 103, 114, 97, 100, 101] }, .string { data := #[119, 101, 98, 115, 111, 99, 107, 101, 116] }] W fun e w' => e = .returned (.bool r) ∧ Sl (Below W.heap.size W w')) := ⟨hasT_any h bx _ _ r W hr hg hv hf (show bWs.size ≤ maxLen by decide)⟩
  clear hr hg hv hf
  obtain ⟨p0, p1, p2, p3⟩ := head_cells hH
  go_enter Tryz.func71, Tryz.ntmps71
  go_wp2_with fail
  refine C.out.mono ?_
  rintro e w1 ⟨rfl, HB⟩
  go_wp2
  go_ret
  exact ⟨rfl, HB⟩
theorem step5 (h : HdV) (bx : Value) (hb : Nat) (W : World) (r : Bool) (hr : Nam.hasB bUp (getV h.fs bConn) = r) (hg : GlobA W) (hv : FieldsAt W bx h.fs) (hf : Fw h) (hH : W.heap[hb]? = some (.cells #[.string h.a, .string h.b, .string h.c, bx] 25 (0, 0))) :
    Calls Tryz.prog 72 #[.pointer (some ⟨hb, 0, none⟩)] W fun e w' => e = .returned (.bool r) ∧ Sl (Below W.heap.size W w') := by
  have C : Sl (Calls Tryz.prog 58 #[.agg #[.string h.a, .string h.b, .string h.c, bx], .string { data := #[67, 111, 110, 110, 101, 99, 116, 105, 111, 110] }, .string { data := #[85, 112, 103, 114, 97, 100, 101] }] W fun e w' => e = .returned (.bool r) ∧ Sl (Below W.heap.size W w')) := ⟨hasT_any h bx _ _ r W hr hg hv hf (show bUp.size ≤ maxLen by decide)⟩
  clear hr hg hv hf
  obtain ⟨p0, p1, p2, p3⟩ := head_cells hH
  go_enter Tryz.func72, Tryz.ntmps72
  go_wp2_with fail
  refine C.out.mono ?_
  rintro e w1 ⟨rfl, HB⟩
  go_wp2
  go_ret
  exact ⟨rfl, HB⟩
theorem step6 (h : HdV) (bx : Value) (hb : Nat) (W : World) (r : Bool) (hr : ((oneS (getV h.fs bVer)).toList == b13.toList) = r) (hv : FieldsAt W bx h.fs) (hf : Fw h) (hH : W.heap[hb]? = some (.cells #[.string h.a, .string h.b, .string h.c, bx] 25 (0, 0))) :
    Calls Tryz.prog 73 #[.pointer (some ⟨hb, 0, none⟩)] W fun e w' => e = .returned (.bool r) ∧ Sl (Below W.heap.size W w') := by
  have C : Sl (Calls Tryz.prog 59 #[.agg #[.string h.a, .string h.b, .string h.c, bx], .string { data := #[83, 101, 99, 45, 87, 101, 98, 83, 111, 99, 107, 101, 116, 45, 86, 101, 114, 115, 105, 111, 110] }] W fun e w' => e = .returned (.string (oneS (getV h.fs bVer))) ∧ Sl (Below W.heap.size W w')) := ⟨only_any h bx _ W hv (by have := hf.n; omega)⟩
  obtain ⟨s, hs⟩ : ∃ s, oneS (getV h.fs bVer) = s := ⟨_, rfl⟩
  rw [hs] at C hr
  have hq : (s.toList == [49, 51]) = r := by rw [← hr, show b13.toList = [49, 51] from toList_mk _]
  clear hr hv hf hs
  obtain ⟨p0, p1, p2, p3⟩ := head_cells hH
  go_enter Tryz.func73, Tryz.ntmps73
  go_wp2_with fail
  refine C.out.mono ?_
  rintro e w1 ⟨rfl, HB⟩
  go_wp2
  go_ret
  exact ⟨by first | rfl | rw [hq], HB⟩
theorem oneS_mem {l : List ByteArray} (h : l.length = 1) : oneS l ∈ l := by
  match l, h with
  | [x], _ => exact List.mem_singleton.2 rfl
theorem oneS_le {h : HdV} (f : Fw h) (name : ByteArray) : (oneS (getV h.fs name)).size ≤ 100000 := by
  by_cases e : (getV h.fs name).length = 1
  · exact Nat.le_trans ((f.get name).2 _ (oneS_mem e)) (by omega)
  · unfold oneS; rw [if_neg e]; decide
set_option maxHeartbeats 1000000 in
theorem step3 (w0 : World) (hb ob p sb : Nat) (ks : List (Nat × Obj)) (h : HdV) (bx v : Value) (a b c d : ByteArray) (W : World) (r : Bool) (x : ByteArray) (hx : oneS (getV h.fs bHost) = x) (hr : (!(x.toList == [])) = r) (hv : FieldsAt w0 bx h.fs) (hf : Fw h) (q : QS w0 hb ob p sb ks h bx a b c d v W) :
    Calls Tryz.prog 70 #[.pointer (some ⟨hb, 0, none⟩), .pointer (some ⟨ob, 0, none⟩)] W fun e w' => e = .returned (.bool r) ∧ Sl (QS w0 hb ob p sb ks h bx a x c d v w') := by
  have C : Sl (∀ V, Below w0.heap.size w0 V → Calls Tryz.prog 59 #[.agg #[.string h.a, .string h.b, .string h.c, bx], .string { data := #[72, 111, 115, 116] }] V fun e w' => e = .returned (.string x) ∧ Sl (Below V.heap.size V w')) := ⟨fun V hB => by
    have := only_any h bx bHost V (hv.below hB) (by have := hf.n; omega)
    rw [hx] at this
    exact this⟩
  have HQ := Sl.mk q
  clear hx hv hf q
  go_enter Tryz.func70, Tryz.ntmps70
  go_wp2
  obtain ⟨R, hR⟩ : ∃ R, W.drew = R := ⟨_, rfl⟩
  have HQR : Sl (QS w0 hb ob p sb ks h bx a b c d v R) := ⟨by rw [← hR]; exact HQ.out.below (Below.refl _ _).drew⟩
  have HS0 : Below w0.heap.size w0 R ∧ R.heap[hb]? = some (.cells #[.string h.a, .string h.b, .string h.c, bx] 25 (0, 0)) ∧ R.heap[ob]? = some (.cells #[.pointer (some ⟨p, 0, none⟩)] 68 (0, 0)) := ⟨HQR.out.B, HQR.out.H, HQR.out.O⟩
  refine wp_region_noPanic ?_
  refine wp_region_held (S := fun V => Below w0.heap.size w0 V ∧ V.heap[hb]? = some (.cells #[.string h.a, .string h.b, .string h.c, bx] 25 (0, 0)) ∧ V.heap[ob]? = some (.cells #[.pointer (some ⟨p, 0, none⟩)] 68 (0, 0))) (by kernel_rfl) ?_
  change wpAnyH _ _ _ _ _ _ _ _ W.drew
  rw [hR]
  clear hR
  refine heldTake (d := some 3) (op := Go.Op.load 68 (Go.Operand.tmp 1)) (g := none) 0 ?v0 rfl (by kernel_rfl) (by kernel_rfl) (by kernel_rfl) (by kernel_rfl) ?y0 HS0 ?_
  case y0 => intro o ho w hS; have o0 := ob_cell hS.2.2; simp only [execOp, ho]; go_simp; try rfl
  simp only [Act.put, List.setIfInBounds_toArray, List.set_cons_zero, List.set_cons_succ]
  refine heldTake (d := some 4) (op := Go.Op.load 25 (Go.Operand.tmp 0)) (g := none) 1 ?v1 rfl (by kernel_rfl) (by kernel_rfl) (by kernel_rfl) (by kernel_rfl) ?y1 HS0 ?_
  case y1 => intro o ho w hS; obtain ⟨p0, p1, p2, p3⟩ := head_cells hS.2.1; simp only [execOp, ho]; go_simp; try rfl
  simp only [Act.put, List.setIfInBounds_toArray, List.set_cons_zero, List.set_cons_succ]
  refine heldCall (d := some 5) (op := Go.Op.call { callee := Go.Callee.value (Go.Operand.func 59), args := #[Go.Operand.tmp 4, Go.Operand.const (Go.Value.string { data := #[72, 111, 115, 116] })], argTypes := #[25, 9] }) (g := none) 2 59 ?a2 rfl (by kernel_rfl) (by kernel_rfl) ?y2 ?_
  case y2 => intro o ho; simp only [execOp, ho]; go_simp; try rfl
  refine (C.out _ HQR.out.B).mono ?_
  rintro e w1 ⟨rfl, HB⟩
  have HQ1 := Sl.mk (HQR.out.below HB.out)
  have HS1 : Below w0.heap.size w0 w1 ∧ w1.heap[hb]? = some (.cells #[.string h.a, .string h.b, .string h.c, bx] 25 (0, 0)) ∧ w1.heap[ob]? = some (.cells #[.pointer (some ⟨p, 0, none⟩)] 68 (0, 0)) := ⟨HQ1.out.B, HQ1.out.H, HQ1.out.O⟩
  refine ⟨_, rfl, HS1, ?_⟩
  simp only [Act.put, List.setIfInBounds_toArray, List.set_cons_zero, List.set_cons_succ]
  refine heldTake (d := some 6) (op := Go.Op.nilCheck (Go.Operand.tmp 3)) (g := none) 3 ?v3 rfl (by kernel_rfl) (by kernel_rfl) (by kernel_rfl) (by kernel_rfl) ?y3 HS1 ?_
  case y3 => intro o ho w _; simp only [execOp, ho]; go_simp; try rfl
  simp only [Act.put, List.setIfInBounds_toArray, List.set_cons_zero, List.set_cons_succ]
  refine heldTake (d := some 7) (op := Go.Op.fieldAddr 30 (Go.Operand.tmp 6) 1) (g := none) 4 ?v4 rfl (by kernel_rfl) (by kernel_rfl) (by kernel_rfl) (by kernel_rfl) ?y4 HS1 ?_
  case y4 => intro o ho w _; simp only [execOp, ho]; go_simp; try rfl
  simp only [Act.put, List.setIfInBounds_toArray, List.set_cons_zero, List.set_cons_succ]
  have HQ2 : Sl (QS w0 hb ob p sb ks h bx a x c d v (w1.setCell ⟨p, 1, none⟩ (.string x))) := ⟨HQ1.out.set 1 (.string x) rfl⟩
  obtain ⟨z0, z1, z2, z3, z4⟩ := HQ1.out.pcells
  have f0 : w1.frozen? ⟨p, 1, none⟩ = false := frozen_of_row _ _ _ _ _ HQ1.out.P
  refine heldStore (d := none) (op := Go.Op.store 9 (Go.Operand.tmp 7) (Go.Operand.tmp 5)) (g := none) 5 (w1.setCell ⟨p, 1, none⟩ (.string x)) rfl (by kernel_rfl) (by kernel_rfl) ?y5 ⟨HQ2.out.B, HQ2.out.H, HQ2.out.O⟩ ?_
  case y5 => intro o ho ht; simp only [execOp, ho]; go_simp; try rfl
  simp only [Act.put]
  refine wpAnyH_done (by kernel_rfl) ?_ _
  refine NoPanic.normal ?_
  obtain ⟨W2, hW2⟩ : ∃ V, w1.setCell ⟨p, 1, none⟩ (.string x) = V := ⟨_, rfl⟩
  rw [hW2] at HQ2 ⊢
  clear hW2 z0 z1 z2 z3 z4 f0 HS1 HS0 HQ1 HQR HQ
  obtain ⟨z0, z1, z2, z3, z4⟩ := HQ2.out.pcells
  have o2 := HQ2.out.ocell
  cases hxx : (x.toList == []) with
  | true =>
    rw [hxx] at hr
    have HR := Sl.mk hr
    clear hr
    go_wp2
    go_ret
    exact ⟨ret_bool HR.out, HQ2⟩
  | false =>
    rw [hxx] at hr
    have HR := Sl.mk hr
    clear hr
    go_wp2
    go_ret
    exact ⟨ret_bool HR.out, HQ2⟩
set_option maxHeartbeats 1000000 in
theorem step7 (w0 : World) (hb ob p sb : Nat) (ks : List (Nat × Obj)) (h : HdV) (bx v : Value) (a b c d : ByteArray) (W : World) (r : Bool) (x : ByteArray) (hx : oneS (getV h.fs bKey) = x) (hr : keyB (bytes x) = r) (hv : FieldsAt w0 bx h.fs) (hf : Fw h) (q : QS w0 hb ob p sb ks h bx a b c d v W) :
    Calls Tryz.prog 74 #[.pointer (some ⟨hb, 0, none⟩), .pointer (some ⟨ob, 0, none⟩)] W fun e w' => e = .returned (.bool r) ∧ Sl (QS w0 hb ob p sb ks h bx a b x d v w') := by
  have C : Sl (∀ V, Below w0.heap.size w0 V → Calls Tryz.prog 59 #[.agg #[.string h.a, .string h.b, .string h.c, bx], .string { data := #[83, 101, 99, 45, 87, 101, 98, 83, 111, 99, 107, 101, 116, 45, 75, 101, 121] }] V fun e w' => e = .returned (.string x) ∧ Sl (Below V.heap.size V w')) := ⟨fun V hB => by
    have := only_any h bx bKey V (hv.below hB) (by have := hf.n; omega)
    rw [hx] at this
    exact this⟩
  have CK : Sl (∀ V, Calls Tryz.prog 75 #[.string x] V fun e w' => e = .returned (.bool r) ∧ Sl (Below V.heap.size V w')) := ⟨fun V => by
    have := isKey_any x V (by rw [← hx]; exact oneS_le hf _)
    rw [hr] at this
    exact this⟩
  clear hr
  have HQ := Sl.mk q
  clear hx hv hf q
  go_enter Tryz.func74, Tryz.ntmps74
  go_wp2
  obtain ⟨R, hR⟩ : ∃ R, W.drew = R := ⟨_, rfl⟩
  have HQR : Sl (QS w0 hb ob p sb ks h bx a b c d v R) := ⟨by rw [← hR]; exact HQ.out.below (Below.refl _ _).drew⟩
  have HS0 : Below w0.heap.size w0 R ∧ R.heap[hb]? = some (.cells #[.string h.a, .string h.b, .string h.c, bx] 25 (0, 0)) ∧ R.heap[ob]? = some (.cells #[.pointer (some ⟨p, 0, none⟩)] 68 (0, 0)) := ⟨HQR.out.B, HQR.out.H, HQR.out.O⟩
  refine wp_region_noPanic ?_
  refine wp_region_held (S := fun V => Below w0.heap.size w0 V ∧ V.heap[hb]? = some (.cells #[.string h.a, .string h.b, .string h.c, bx] 25 (0, 0)) ∧ V.heap[ob]? = some (.cells #[.pointer (some ⟨p, 0, none⟩)] 68 (0, 0))) (by kernel_rfl) ?_
  change wpAnyH _ _ _ _ _ _ _ _ W.drew
  rw [hR]
  clear hR
  refine heldTake (d := some 3) (op := Go.Op.load 68 (Go.Operand.tmp 1)) (g := none) 0 ?v0 rfl (by kernel_rfl) (by kernel_rfl) (by kernel_rfl) (by kernel_rfl) ?y0 HS0 ?_
  case y0 => intro o ho w hS; have o0 := ob_cell hS.2.2; simp only [execOp, ho]; go_simp; try rfl
  simp only [Act.put, List.setIfInBounds_toArray, List.set_cons_zero, List.set_cons_succ]
  refine heldTake (d := some 4) (op := Go.Op.load 25 (Go.Operand.tmp 0)) (g := none) 1 ?v1 rfl (by kernel_rfl) (by kernel_rfl) (by kernel_rfl) (by kernel_rfl) ?y1 HS0 ?_
  case y1 => intro o ho w hS; obtain ⟨p0, p1, p2, p3⟩ := head_cells hS.2.1; simp only [execOp, ho]; go_simp; try rfl
  simp only [Act.put, List.setIfInBounds_toArray, List.set_cons_zero, List.set_cons_succ]
  refine heldCall (d := some 5) (op := Go.Op.call { callee := Go.Callee.value (Go.Operand.func 59), args := #[Go.Operand.tmp 4, Go.Operand.const (Go.Value.string { data := #[83, 101, 99, 45, 87, 101, 98, 83, 111, 99, 107, 101, 116, 45, 75, 101, 121] })], argTypes := #[25, 9] }) (g := none) 2 59 ?a2 rfl (by kernel_rfl) (by kernel_rfl) ?y2 ?_
  case y2 => intro o ho; simp only [execOp, ho]; go_simp; try rfl
  refine (C.out _ HQR.out.B).mono ?_
  rintro e w1 ⟨rfl, HB⟩
  have HQ1 := Sl.mk (HQR.out.below HB.out)
  have HS1 : Below w0.heap.size w0 w1 ∧ w1.heap[hb]? = some (.cells #[.string h.a, .string h.b, .string h.c, bx] 25 (0, 0)) ∧ w1.heap[ob]? = some (.cells #[.pointer (some ⟨p, 0, none⟩)] 68 (0, 0)) := ⟨HQ1.out.B, HQ1.out.H, HQ1.out.O⟩
  refine ⟨_, rfl, HS1, ?_⟩
  simp only [Act.put, List.setIfInBounds_toArray, List.set_cons_zero, List.set_cons_succ]
  refine heldTake (d := some 6) (op := Go.Op.nilCheck (Go.Operand.tmp 3)) (g := none) 3 ?v3 rfl (by kernel_rfl) (by kernel_rfl) (by kernel_rfl) (by kernel_rfl) ?y3 HS1 ?_
  case y3 => intro o ho w _; simp only [execOp, ho]; go_simp; try rfl
  simp only [Act.put, List.setIfInBounds_toArray, List.set_cons_zero, List.set_cons_succ]
  refine heldTake (d := some 7) (op := Go.Op.fieldAddr 30 (Go.Operand.tmp 6) 2) (g := none) 4 ?v4 rfl (by kernel_rfl) (by kernel_rfl) (by kernel_rfl) (by kernel_rfl) ?y4 HS1 ?_
  case y4 => intro o ho w _; simp only [execOp, ho]; go_simp; try rfl
  simp only [Act.put, List.setIfInBounds_toArray, List.set_cons_zero, List.set_cons_succ]
  have HQ2 : Sl (QS w0 hb ob p sb ks h bx a b x d v (w1.setCell ⟨p, 2, none⟩ (.string x))) := ⟨HQ1.out.set 2 (.string x) rfl⟩
  obtain ⟨z0, z1, z2, z3, z4⟩ := HQ1.out.pcells
  have f0 : w1.frozen? ⟨p, 2, none⟩ = false := frozen_of_row _ _ _ _ _ HQ1.out.P
  refine heldStore (d := none) (op := Go.Op.store 9 (Go.Operand.tmp 7) (Go.Operand.tmp 5)) (g := none) 5 (w1.setCell ⟨p, 2, none⟩ (.string x)) rfl (by kernel_rfl) (by kernel_rfl) ?y5 ⟨HQ2.out.B, HQ2.out.H, HQ2.out.O⟩ ?_
  case y5 => intro o ho ht; simp only [execOp, ho]; go_simp; try rfl
  simp only [Act.put]
  refine wpAnyH_done (by kernel_rfl) ?_ _
  refine NoPanic.normal ?_
  obtain ⟨W2, hW2⟩ : ∃ V, w1.setCell ⟨p, 2, none⟩ (.string x) = V := ⟨_, rfl⟩
  rw [hW2] at HQ2 ⊢
  clear hW2 z0 z1 z2 z3 z4 f0 HS1 HS0 HQ1 HQR HQ
  obtain ⟨z0, z1, z2, z3, z4⟩ := HQ2.out.pcells
  have o2 := HQ2.out.ocell
  go_wp2_with fail
  refine (CK.out _).mono ?_
  rintro e w3 ⟨rfl, HB3⟩
  go_wp2
  go_ret
  exact ⟨rfl, ⟨HQ2.out.below HB3.out⟩⟩
end Go.Proofs.YthlagngpllahkaaGreatDoor
