/- shake: a question's last two steps: protocols, origins. -/
import Derived.Test.YthlagngpllahkaaGreatDoorS11
set_option maxRecDepth 100000
namespace Go.Proofs.YthlagngpllahkaaGreatDoor
open Go.RowKit HeadPlain

theorem strA_slice {W : World} {v : Value} {l : List ByteArray} (h : StrA W v l) : ∃ a c, v = .slice a l.length c := by
  obtain ⟨a, cap, _, _, h, _⟩ := h
  exact ⟨a, cap, h⟩
/-- A row of strings of its own isn't where something else lies. -/
theorem ownS_kind {W : World} {base g : Nat} {v : Value} {l : List ByteArray} {cs : Array Value} {t : TypeId} (ho : OwnS W base v l) (h : W.heap[g]? = some (.cells cs t (0, 0))) (ht : t ≠ 9) : v.ownBlock ≠ some g := fun e => by
  obtain ⟨_, h2⟩ := ho
  rcases h2 with ⟨rfl, _⟩ | ⟨k, cap, cur, rfl, _, hh, _⟩
  · cases e
  · have e2 : k = g := by simpa [Value.ownBlock] using e
    subst e2
    rw [h] at hh
    injection hh with hh
    injection hh with _ h4
    exact ht h4
theorem ownS_set {W : World} {base g i : Nat} {v x : Value} {l : List ByteArray} {cs : Array Value} {t : TypeId} (ho : OwnS W base v l) (h : W.heap[g]? = some (.cells cs t (0, 0))) (ht : t ≠ 9) (_ : x = x) : OwnS (W.setCell ⟨g, i, none⟩ x) base v l :=
  ownsRow_setCell_other ho (ownS_kind ho h ht) _
set_option maxHeartbeats 1000000 in
theorem step8_yes (w0 : World) (hb ob p sb : Nat) (ks : List (Nat × Obj)) (h : HdV) (bx v : Value) (a b c d : ByteArray) (W : World) (l : List ByteArray) (hl : getV h.fs bProt = l) (ht : (Nam.tell l).all Nam.tokT = true) (hg : GlobA w0) (hv : FieldsAt w0 bx h.fs) (hf : Fw h) (q : QS w0 hb ob p sb ks h bx a b c d v W) :
    Calls Tryz.prog 76 #[.pointer (some ⟨hb, 0, none⟩), .pointer (some ⟨ob, 0, none⟩)] W fun e w' => ∃ v2 base, e = .returned (.bool (offerB (Nam.tell l))) ∧ Sl (OwnS w' base v2 (Nam.tell l)) ∧ Sl (QS w0 hb ob p sb ks h bx a b c d v2 w') := by
  have hgl := hf.get bProt
  rw [hl] at hgl
  have CG : Sl (∀ V, Below w0.heap.size w0 V → Calls Tryz.prog 36 #[.agg #[.string h.a, .string h.b, .string h.c, bx], .string { data := #[83, 101, 99, 45, 87, 101, 98, 83, 111, 99, 107, 101, 116, 45, 80, 114, 111, 116, 111, 99, 111, 108] }] V fun e w' => ∃ x y, e = .returned (.slice x l.length y) ∧ Sl (StrA w' (.slice x l.length y) l) ∧ Sl (Below V.heap.size V w')) := ⟨fun V hB => by
    have := get_ex V V h bx bProt (Below.refl _ _) (hv.below hB) (by have := hf.n; omega)
    rw [hl] at this
    exact this.mono fun _ _ ⟨a, c, h1, h2, h3, _⟩ => ⟨a, c, h1, h2, h3⟩⟩
  have CL : Sl (∀ V x y, Below w0.heap.size w0 V → StrA V (.slice x l.length y) l → Calls Tryz.prog 77 #[.slice x l.length y] V fun e w' => (∃ v2, e = .returned (.tuple #[v2, .int .i64 0]) ∧ Sl (OwnS w' V.heap.size v2 (Nam.tell l))) ∧ Sl (Below V.heap.size V w')) := ⟨fun V x y hB hS => (Nam.list_ex hB hg.h hS (by omega) hgl.2).mono fun _ _ ⟨h1, h2, _⟩ => by
    rcases h1 with ⟨_, v, h, ho⟩ | ⟨h, _⟩
    · exact ⟨⟨v, h, ⟨ho⟩⟩, h2⟩
    · rw [ht] at h; cases h⟩
  have CM : Sl (∀ V v2, Below w0.heap.size w0 V → StrA V v2 (Nam.tell l) → Calls Tryz.prog 53 #[v2] V fun e w' => e = .returned (.bool (offerB (Nam.tell l))) ∧ Sl (Below V.heap.size V w')) := ⟨fun V v2 hB hS => mayOffer_any _ v2 V _ rfl (hg.of hB).h hS (by have h1 := Nam.tell_len l 3000 hgl.2; have h2 := Nat.mul_le_mul_right 3001 hgl.1; omega) (Nam.tell_size l (fun s hs => Nat.le_trans (hgl.2 s hs) (by unfold maxLen; omega)))⟩
  obtain ⟨r, hr⟩ : ∃ r, offerB (Nam.tell l) = r := ⟨_, rfl⟩
  rw [hr] at CM ⊢
  clear hr
  obtain ⟨m, hm⟩ : ∃ m, Nam.tell l = m := ⟨_, rfl⟩
  rw [hm] at CL CM ⊢
  clear hm
  have HQ := Sl.mk q
  clear hl ht hg hv hf q hgl
  obtain ⟨n, hn⟩ : ∃ n, l.length = n := ⟨_, rfl⟩
  rw [hn] at CG CL
  clear hn
  obtain ⟨p0, p1, p2, p3⟩ := head_cells HQ.out.H
  go_enter Tryz.func76, Tryz.ntmps76
  go_wp2_with fail
  refine (CG.out _ HQ.out.B).mono ?_
  rintro e w1 ⟨x, y, rfl, HS1, HB1⟩
  have HQ1 := Sl.mk (HQ.out.below HB1.out)
  go_wp2_with fail
  refine (CL.out _ x y HQ1.out.B HS1.out).mono ?_
  rintro e w2 ⟨⟨v2, rfl, HS2⟩, HB2⟩
  obtain ⟨x2, y2, hv2⟩ := OwnS.slice HS2.out
  subst hv2
  have HQ2 := Sl.mk (HQ1.out.below HB2.out)
  obtain ⟨z0, z1, z2, z3, z4⟩ := HQ2.out.pcells
  have f4 : w2.frozen? ⟨p, 4, none⟩ = false := frozen_of_row _ _ _ _ _ HQ2.out.P
  have o2 := HQ2.out.ocell
  obtain ⟨W3, hW3⟩ : ∃ V, w2.setCell ⟨p, 4, none⟩ (.slice x2 m.length y2) = V := ⟨_, rfl⟩
  have HQ3 : Sl (QS w0 hb ob p sb ks h bx a b c d (.slice x2 m.length y2) W3) := ⟨by rw [← hW3]; exact HQ2.out.set 4 _ rfl⟩
  have HS3 : Sl (OwnS W3 w1.heap.size (.slice x2 m.length y2) m) := ⟨by rw [← hW3]; exact ownS_set HS2.out HQ2.out.P (by decide) rfl⟩
  clear p0 p1 p2 p3 HQ HQ1 HS1 HB1 HB2 HS2
  go_wp2_with fail
  clear hW3
  refine (CM.out _ _ HQ3.out.B HS3.out.strA).mono ?_
  rintro e w4 ⟨rfl, HB4⟩
  go_wp2
  go_ret
  exact ⟨_, _, rfl, ⟨HS3.out.below HB4.out⟩, ⟨HQ3.out.below HB4.out⟩⟩
set_option maxHeartbeats 1000000 in
theorem step8_no (w0 : World) (hb ob p sb : Nat) (ks : List (Nat × Obj)) (h : HdV) (bx v : Value) (a b c d : ByteArray) (W : World) (l : List ByteArray) (hl : getV h.fs bProt = l) (ht : (Nam.tell l).all Nam.tokT = false) (hg : GlobA w0) (hv : FieldsAt w0 bx h.fs) (hf : Fw h) (q : QS w0 hb ob p sb ks h bx a b c d v W) :
    Calls Tryz.prog 76 #[.pointer (some ⟨hb, 0, none⟩), .pointer (some ⟨ob, 0, none⟩)] W fun e w' => e = .returned (.bool false) ∧ Sl (QS w0 hb ob p sb ks h bx a b c d (.slice none 0 0) w') := by
  have hgl := hf.get bProt
  rw [hl] at hgl
  have CG : Sl (∀ V, Below w0.heap.size w0 V → Calls Tryz.prog 36 #[.agg #[.string h.a, .string h.b, .string h.c, bx], .string { data := #[83, 101, 99, 45, 87, 101, 98, 83, 111, 99, 107, 101, 116, 45, 80, 114, 111, 116, 111, 99, 111, 108] }] V fun e w' => ∃ x y, e = .returned (.slice x l.length y) ∧ Sl (StrA w' (.slice x l.length y) l) ∧ Sl (Below V.heap.size V w')) := ⟨fun V hB => by
    have := get_ex V V h bx bProt (Below.refl _ _) (hv.below hB) (by have := hf.n; omega)
    rw [hl] at this
    exact this.mono fun _ _ ⟨a, c, h1, h2, h3, _⟩ => ⟨a, c, h1, h2, h3⟩⟩
  have CL : Sl (∀ V x y, Below w0.heap.size w0 V → StrA V (.slice x l.length y) l → Calls Tryz.prog 77 #[.slice x l.length y] V fun e w' => e = .returned (.tuple #[.slice none 0 0, .int .i64 60]) ∧ Sl (Below V.heap.size V w')) := ⟨fun V x y hB hS => (Nam.list_no ht hB hg.h hS (by omega) hgl.2).mono fun _ _ ⟨h1, h2, _⟩ => ⟨h1, h2⟩⟩
  have HQ := Sl.mk q
  clear hl ht hg hv hf q hgl
  obtain ⟨n, hn⟩ : ∃ n, l.length = n := ⟨_, rfl⟩
  rw [hn] at CG CL
  clear hn
  obtain ⟨p0, p1, p2, p3⟩ := head_cells HQ.out.H
  go_enter Tryz.func76, Tryz.ntmps76
  go_wp2_with fail
  refine (CG.out _ HQ.out.B).mono ?_
  rintro e w1 ⟨x, y, rfl, HS1, HB1⟩
  have HQ1 := Sl.mk (HQ.out.below HB1.out)
  go_wp2_with fail
  refine (CL.out _ x y HQ1.out.B HS1.out).mono ?_
  rintro e w2 ⟨rfl, HB2⟩
  have HQ2 := Sl.mk (HQ1.out.below HB2.out)
  obtain ⟨z0, z1, z2, z3, z4⟩ := HQ2.out.pcells
  have f4 : w2.frozen? ⟨p, 4, none⟩ = false := frozen_of_row _ _ _ _ _ HQ2.out.P
  have o2 := HQ2.out.ocell
  obtain ⟨W3, hW3⟩ : ∃ V, w2.setCell ⟨p, 4, none⟩ (.slice none 0 0) = V := ⟨_, rfl⟩
  have HQ3 : Sl (QS w0 hb ob p sb ks h bx a b c d (.slice none 0 0) W3) := ⟨by rw [← hW3]; exact HQ2.out.set 4 _ rfl⟩
  clear p0 p1 p2 p3 HQ HQ1 HS1 HB1 HB2
  go_wp2
  go_ret
  exact ⟨rfl, HQ3⟩
set_option maxHeartbeats 1000000 in
theorem step9 (w0 : World) (hb ob p sb : Nat) (ks : List (Nat × Obj)) (h : HdV) (bx v : Value) (a b c d : ByteArray) (W : World) (r : Bool) (x : ByteArray) (hx : oneS (getV h.fs bOrg) = x) (hr : decide ((getV h.fs bOrg).length ≤ 1) = r) (hv : FieldsAt w0 bx h.fs) (hf : Fw h) (base : Nat) (m : List ByteArray) (ho : OwnS W base v m) (q : QS w0 hb ob p sb ks h bx a b c d v W) :
    Calls Tryz.prog 78 #[.pointer (some ⟨hb, 0, none⟩), .pointer (some ⟨ob, 0, none⟩)] W fun e w' => e = .returned (.bool r) ∧ Sl (QS w0 hb ob p sb ks h bx a b c x v w') ∧ Sl (OwnS w' base v m) := by
  obtain ⟨l, hl⟩ : ∃ l, getV h.fs bOrg = l := ⟨_, rfl⟩
  have CG : Sl (∀ V, Below w0.heap.size w0 V → Calls Tryz.prog 36 #[.agg #[.string h.a, .string h.b, .string h.c, bx], .string { data := #[79, 114, 105, 103, 105, 110] }] V fun e w' => ∃ x y, e = .returned (.slice x l.length y) ∧ Sl (StrA w' (.slice x l.length y) l) ∧ Sl (Below V.heap.size V w')) := ⟨fun V hB => by
    have := get_ex V V h bx bOrg (Below.refl _ _) (hv.below hB) (by have := hf.n; omega)
    rw [hl] at this
    exact this.mono fun _ _ ⟨a, c, h1, h2, h3, _⟩ => ⟨a, c, h1, h2, h3⟩⟩
  rw [hl] at hx hr
  have HLL : Sl (l.length ≤ 1000000) := ⟨by rw [← hl]; have := (hf.get bOrg).1; omega⟩
  have CO : Sl (∀ V y z, StrA V (.slice y l.length z) l → Calls Tryz.prog 60 #[.slice y l.length z] V fun e w' => e = .returned (.tuple #[.string x, .bool (decide (l.length = 1))]) ∧ V = w') := ⟨fun V y z hS => by
    have := one_ex l _ V hS HLL.out
    rwa [hx] at this⟩
  have HQ := Sl.mk q
  have HOW := Sl.mk ho
  obtain ⟨n, hn⟩ : ∃ n, l.length = n := ⟨_, rfl⟩
  rw [hn] at CG CO hr
  obtain ⟨g1, hg1⟩ : ∃ g, decide (n = 1) = g := ⟨_, rfl⟩
  rw [hg1] at CO
  have hle : decide ((n : Int) ≤ 1) = r := by
    rw [← hr, Bool.eq_iff_iff, decide_eq_true_iff, decide_eq_true_iff]
    omega
  have HLE := Sl.mk hle
  clear hx hv hf q hl hn hg1 hr hle ho
  obtain ⟨p0, p1, p2, p3⟩ := head_cells HQ.out.H
  go_enter Tryz.func78, Tryz.ntmps78
  go_wp2_with fail
  refine (CG.out _ HQ.out.B).mono ?_
  rintro e w1 ⟨y, z, rfl, HS1, HB1⟩
  have HQ1 := Sl.mk (HQ.out.below HB1.out)
  go_wp2
  obtain ⟨R, hR⟩ : ∃ R, w1.drew = R := ⟨_, rfl⟩
  have HQR : Sl (QS w0 hb ob p sb ks h bx a b c d v R) := ⟨by rw [← hR]; exact HQ1.out.below (Below.refl _ _).drew⟩
  have HOR : Sl (OwnS R base v m) := ⟨by rw [← hR]; exact (HOW.out.below HB1.out).below (Below.refl _ _).drew⟩
  have HSR : Sl (StrA R (.slice y n z) l) := ⟨by rw [← hR]; exact HS1.out.below (Below.refl _ _).drew⟩
  have HS0 : Below w0.heap.size w0 R ∧ R.heap[hb]? = some (.cells #[.string h.a, .string h.b, .string h.c, bx] 25 (0, 0)) ∧ R.heap[ob]? = some (.cells #[.pointer (some ⟨p, 0, none⟩)] 68 (0, 0)) := ⟨HQR.out.B, HQR.out.H, HQR.out.O⟩
  refine wp_region_noPanic ?_
  refine wp_region_held (S := fun V => Below w0.heap.size w0 V ∧ V.heap[hb]? = some (.cells #[.string h.a, .string h.b, .string h.c, bx] 25 (0, 0)) ∧ V.heap[ob]? = some (.cells #[.pointer (some ⟨p, 0, none⟩)] 68 (0, 0))) (by kernel_rfl) ?_
  change wpAnyH _ _ _ _ _ _ _ _ w1.drew
  rw [hR]
  clear hR p0 p1 p2 p3
  refine heldTake (d := some 7) (op := Go.Op.load 68 (Go.Operand.tmp 1)) (g := none) 0 ?v0 rfl (by kernel_rfl) (by kernel_rfl) (by kernel_rfl) (by kernel_rfl) ?y0 HS0 ?_
  case y0 => intro o ho w hS; have o0 := ob_cell hS.2.2; simp only [execOp, ho]; go_simp; try rfl
  simp only [Act.put, List.setIfInBounds_toArray, List.set_cons_zero, List.set_cons_succ]
  refine heldTake (d := some 8) (op := Go.Op.move (Go.Operand.tmp 3)) (g := none) 1 ?v1 rfl (by kernel_rfl) (by kernel_rfl) (by kernel_rfl) (by kernel_rfl) ?y1 HS0 ?_
  case y1 => intro o ho w _; simp only [execOp, ho]; go_simp; try rfl
  simp only [Act.put, List.setIfInBounds_toArray, List.set_cons_zero, List.set_cons_succ]
  refine heldCall (d := some 9) (op := Go.Op.call { callee := Go.Callee.value (Go.Operand.func 60), args := #[Go.Operand.tmp 8], argTypes := #[28] }) (g := none) 2 60 ?a2 rfl (by kernel_rfl) (by kernel_rfl) ?y2 ?_
  case y2 => intro o ho; simp only [execOp, ho]; go_simp; try rfl
  refine (CO.out _ y z HSR.out).mono ?_
  rintro e w2 ⟨rfl, rfl⟩
  refine ⟨_, rfl, HS0, ?_⟩
  simp only [Act.put, List.setIfInBounds_toArray, List.set_cons_zero, List.set_cons_succ]
  refine heldTake (d := some 6) (op := Go.Op.move (Go.Operand.tmp 9)) (g := none) 3 ?v3 rfl (by kernel_rfl) (by kernel_rfl) (by kernel_rfl) (by kernel_rfl) ?y3 HS0 ?_
  case y3 => intro o ho w _; simp only [execOp, ho]; go_simp; try rfl
  simp only [Act.put, List.setIfInBounds_toArray, List.set_cons_zero, List.set_cons_succ]
  refine heldTake (d := some 10) (op := Go.Op.extract (Go.Operand.tmp 6) 0) (g := none) 4 ?v4 rfl (by kernel_rfl) (by kernel_rfl) (by kernel_rfl) (by kernel_rfl) ?y4 HS0 ?_
  case y4 => intro o ho w _; simp only [execOp, ho]; go_simp; try rfl
  simp only [Act.put, List.setIfInBounds_toArray, List.set_cons_zero, List.set_cons_succ]
  refine heldTake (d := some 11) (op := Go.Op.extract (Go.Operand.tmp 6) 1) (g := none) 5 ?v5 rfl (by kernel_rfl) (by kernel_rfl) (by kernel_rfl) (by kernel_rfl) ?y5 HS0 ?_
  case y5 => intro o ho w _; simp only [execOp, ho]; go_simp; try rfl
  simp only [Act.put, List.setIfInBounds_toArray, List.set_cons_zero, List.set_cons_succ]
  refine heldTake (d := some 12) (op := Go.Op.nilCheck (Go.Operand.tmp 7)) (g := none) 6 ?v6 rfl (by kernel_rfl) (by kernel_rfl) (by kernel_rfl) (by kernel_rfl) ?y6 HS0 ?_
  case y6 => intro o ho w _; simp only [execOp, ho]; go_simp; try rfl
  simp only [Act.put, List.setIfInBounds_toArray, List.set_cons_zero, List.set_cons_succ]
  refine heldTake (d := some 13) (op := Go.Op.fieldAddr 30 (Go.Operand.tmp 12) 3) (g := none) 7 ?v7 rfl (by kernel_rfl) (by kernel_rfl) (by kernel_rfl) (by kernel_rfl) ?y7 HS0 ?_
  case y7 => intro o ho w _; simp only [execOp, ho]; go_simp; try rfl
  simp only [Act.put, List.setIfInBounds_toArray, List.set_cons_zero, List.set_cons_succ]
  have HQ2 : Sl (QS w0 hb ob p sb ks h bx a b c x v (R.setCell ⟨p, 3, none⟩ (.string x))) := ⟨HQR.out.set 3 (.string x) rfl⟩
  obtain ⟨z0, z1, z2, z3, z4⟩ := HQR.out.pcells
  have f0 : R.frozen? ⟨p, 3, none⟩ = false := frozen_of_row _ _ _ _ _ HQR.out.P
  refine heldStore (d := none) (op := Go.Op.store 9 (Go.Operand.tmp 13) (Go.Operand.tmp 10)) (g := none) 8 (R.setCell ⟨p, 3, none⟩ (.string x)) rfl (by kernel_rfl) (by kernel_rfl) ?y8 ⟨HQ2.out.B, HQ2.out.H, HQ2.out.O⟩ ?_
  case y8 => intro o ho ht; simp only [execOp, ho]; go_simp; try rfl
  simp only [Act.put]
  refine wpAnyH_done (by kernel_rfl) ?_ _
  refine NoPanic.normal ?_
  obtain ⟨W2, hW2⟩ : ∃ V, R.setCell ⟨p, 3, none⟩ (.string x) = V := ⟨_, rfl⟩
  have HO2 : Sl (OwnS W2 base v m) := ⟨by rw [← hW2]; exact ownS_set HOR.out HQR.out.P (by decide) rfl⟩
  rw [hW2] at HQ2 ⊢
  clear hW2 z0 z1 z2 z3 z4 f0 HS0 HQ1 HQR HQ
  go_wp2
  go_ret
  exact ⟨ret_bool HLE.out, HQ2, HO2⟩
end Go.Proofs.YthlagngpllahkaaGreatDoor
