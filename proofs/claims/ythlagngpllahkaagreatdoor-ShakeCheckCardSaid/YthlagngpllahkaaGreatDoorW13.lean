/- shake: the document's Check: the protocol that an answer grants. -/
import Derived.Test.YthlagngpllahkaaGreatDoorW4
set_option maxRecDepth 100000
namespace Go.Proofs.YthlagngpllahkaaGreatDoor
open Go.RowKit HeadPlain Nam

theorem oneS_one3 (x : ByteArray) : oneS [x] = x := rfl
theorem oneS_ne3 {l : List ByteArray} (h : l.length ≠ 1) : oneS l = { data := #[] } := by unfold oneS; rw [if_neg h]; rfl
theorem list_one3 {l : List ByteArray} (h : l.length = 1) : ∃ x, l = [x] := match l, h with | [x], _ => ⟨x, rfl⟩
theorem strA_one3 {V : World} {a : Option Addr} {c : Nat} {x : ByteArray} (h : StrA V (.slice a 1 c) [x]) : ∃ sa oa, a = some ⟨sa, oa, none⟩ ∧ V.cell? ⟨sa, oa, none⟩ = some (.string x) := by
  obtain ⟨ad, ca, sa, oa, heq, _, haa, hcell⟩ := h
  injection heq with h1 _ _
  exact ⟨sa, oa, by rw [h1]; exact haa (by simp), hcell 0 (by simp)⟩
def chkR (o : Option ByteArray) : Value := match o with
  | some p => .tuple #[.string p, .bool true]
  | none => .tuple #[.string { data := #[] }, .bool false]
theorem checkV_gone {h : HdV} {key : ByteArray} {l : List ByteArray} (e : grantedB h key = false) : checkV h key l = none := by unfold checkV; rw [e]; rfl
theorem checkV_of {h : HdV} {key : ByteArray} {l : List ByteArray} (e : grantedB h key = true) : checkV h key l = if (getV h.fs bProt).length = 0 then some ByteArray.empty else if (getV h.fs bProt).length = 1 then (if inB l (oneS (getV h.fs bProt)) = true then some (oneS (getV h.fs bProt)) else none) else none := by unfold checkV; rw [if_pos e]
set_option maxHeartbeats 8000000 in
theorem checkR_law (h : HdV) (bx : Value) (key : ByteArray) (v : Value) (l : List ByteArray) (w : World) (hv : FieldsAt w bx h.fs) (hf : Fw h) (hk : key.size ≤ 300) (hl : StrA w v l) (hll : l.length ≤ 1000000) :
    Calls Tryz.prog 31 #[.agg #[.string h.a, .string h.b, .string h.c, bx], .string key, v] w fun e w' => e = .returned (chkR (checkV h key l)) ∧ Sl (Below w.heap.size w w') := by
  have hfl : h.fs.length ≤ 100000 := by have := hf.n; omega
  have Ca : Sl (∀ V, Below w.heap.size w V → Calls Tryz.prog 38 #[.agg #[.string h.a, .string h.b, .string h.c, bx], .string { data := #[83, 101, 99, 45, 87, 101, 98, 83, 111, 99, 107, 101, 116, 45, 65, 99, 99, 101, 112, 116] }] V fun e w' => (∃ a c, e = .returned (.slice a (getV h.fs bAcc).length c) ∧ Sl (StrA w' (.slice a (getV h.fs bAcc).length c) (getV h.fs bAcc))) ∧ Sl (Below V.heap.size V w')) := ⟨fun V hB => (getR_any h _ bAcc V (hv.below hB) hfl).mono fun e w' ⟨v, h1, h2, h3⟩ => by
    obtain ⟨a, c, rfl⟩ := h2.out.slice
    exact ⟨⟨a, c, h1, ⟨h2.out.strA⟩⟩, h3⟩⟩
  have Cg : Sl (∀ V, Below w.heap.size w V → Calls Tryz.prog 38 #[.agg #[.string h.a, .string h.b, .string h.c, bx], .string { data := #[83, 101, 99, 45, 87, 101, 98, 83, 111, 99, 107, 101, 116, 45, 80, 114, 111, 116, 111, 99, 111, 108] }] V fun e w' => (∃ a c, e = .returned (.slice a (getV h.fs bProt).length c) ∧ Sl (StrA w' (.slice a (getV h.fs bProt).length c) (getV h.fs bProt))) ∧ Sl (Below V.heap.size V w')) := ⟨fun V hB => (getR_any h _ bProt V (hv.below hB) hfl).mono fun e w' ⟨v, h1, h2, h3⟩ => by
    obtain ⟨a, c, rfl⟩ := h2.out.slice
    exact ⟨⟨a, c, h1, ⟨h2.out.strA⟩⟩, h3⟩⟩
  have Cu : Sl (∀ V, Below w.heap.size w V → Calls Tryz.prog 38 #[.agg #[.string h.a, .string h.b, .string h.c, bx], .string { data := #[85, 112, 103, 114, 97, 100, 101] }] V fun e w' => (∃ a c, e = .returned (.slice a (getV h.fs bUp).length c) ∧ Sl (StrA w' (.slice a (getV h.fs bUp).length c) (getV h.fs bUp))) ∧ Sl (Below V.heap.size V w')) := ⟨fun V hB => (getR_any h _ bUp V (hv.below hB) hfl).mono fun e w' ⟨v, h1, h2, h3⟩ => by
    obtain ⟨a, c, rfl⟩ := h2.out.slice
    exact ⟨⟨a, c, h1, ⟨h2.out.strA⟩⟩, h3⟩⟩
  have Cc : Sl (∀ V, Below w.heap.size w V → Calls Tryz.prog 38 #[.agg #[.string h.a, .string h.b, .string h.c, bx], .string { data := #[67, 111, 110, 110, 101, 99, 116, 105, 111, 110] }] V fun e w' => (∃ a c, e = .returned (.slice a (getV h.fs bConn).length c) ∧ Sl (StrA w' (.slice a (getV h.fs bConn).length c) (getV h.fs bConn))) ∧ Sl (Below V.heap.size V w')) := ⟨fun V hB => (getR_any h _ bConn V (hv.below hB) hfl).mono fun e w' ⟨v, h1, h2, h3⟩ => by
    obtain ⟨a, c, rfl⟩ := h2.out.slice
    exact ⟨⟨a, c, h1, ⟨h2.out.strA⟩⟩, h3⟩⟩
  have Cx : Sl (∀ V, Below w.heap.size w V → Calls Tryz.prog 38 #[.agg #[.string h.a, .string h.b, .string h.c, bx], .string { data := #[83, 101, 99, 45, 87, 101, 98, 83, 111, 99, 107, 101, 116, 45, 69, 120, 116, 101, 110, 115, 105, 111, 110, 115] }] V fun e w' => (∃ a c, e = .returned (.slice a (getV h.fs bExt).length c) ∧ Sl (StrA w' (.slice a (getV h.fs bExt).length c) (getV h.fs bExt))) ∧ Sl (Below V.heap.size V w')) := ⟨fun V hB => (getR_any h _ bExt V (hv.below hB) hfl).mono fun e w' ⟨v, h1, h2, h3⟩ => by
    obtain ⟨a, c, rfl⟩ := h2.out.slice
    exact ⟨⟨a, c, h1, ⟨h2.out.strA⟩⟩, h3⟩⟩
  have Hu : Sl (∀ V v, StrA V v (getV h.fs bUp) → Calls Tryz.prog 39 #[.string { data := #[119, 101, 98, 115, 111, 99, 107, 101, 116] }, v] V fun e w' => e = .returned (.bool (hasB { data := #[119, 101, 98, 115, 111, 99, 107, 101, 116] } (getV h.fs bUp))) ∧ Sl (Below V.heap.size V w')) := ⟨fun V v hS => (hasR_ex rfl (Below.refl _ _) hS (by have := (hf.get bUp).1; omega) (hf.get bUp).2).mono fun e w' ⟨h1, h2, _⟩ => ⟨h1, h2⟩⟩
  have Hc : Sl (∀ V v, StrA V v (getV h.fs bConn) → Calls Tryz.prog 39 #[.string { data := #[85, 112, 103, 114, 97, 100, 101] }, v] V fun e w' => e = .returned (.bool (hasB { data := #[85, 112, 103, 114, 97, 100, 101] } (getV h.fs bConn))) ∧ Sl (Below V.heap.size V w')) := ⟨fun V v hS => (hasR_ex rfl (Below.refl _ _) hS (by have := (hf.get bConn).1; omega) (hf.get bConn).2).mono fun e w' ⟨h1, h2, _⟩ => ⟨h1, h2⟩⟩
  have CA : Sl (∀ V, Calls Tryz.prog 20 #[.string key] V fun e w' => e = .returned (.string (accS key)) ∧ Sl (Below V.heap.size V w')) := ⟨fun V => acceptR_any key V hk⟩
  have CI : Sl (∀ x V r, Below w.heap.size w V → inB l x = r → Calls Tryz.prog 27 #[.string x, v] V fun e w' => e = .returned (.bool r) ∧ V = w') := ⟨fun x V r hB hr => (in_any x l v V (hl.below hB) hll).mono fun e w' ⟨h1, h2⟩ => ⟨by rw [h1, ← hr, inB_eq], h2⟩⟩
  have RG : Sl (grantedB h key = ((h.a.toList == [72, 84, 84, 80, 47, 49, 46, 49]) && ((h.b.toList == [49, 48, 49]) && (hasB { data := #[119, 101, 98, 115, 111, 99, 107, 101, 116] } (getV h.fs bUp) && (hasB { data := #[85, 112, 103, 114, 97, 100, 101] } (getV h.fs bConn) && (((oneS (getV h.fs bAcc)).toList == (accS key).toList) && decide ((getV h.fs bExt).length = 0))))))) := ⟨by unfold grantedB; rw [show bH11.toList = [72, 84, 84, 80, 47, 49, 46, 49] from toList_mk _, show b101.toList = [49, 48, 49] from toList_mk _]; rfl⟩
  have RN : Sl (grantedB h key = false → chkR (checkV h key l) = .tuple #[.string { data := #[] }, .bool false]) := ⟨fun e => by rw [checkV_gone e]; rfl⟩
  have RY : Sl (grantedB h key = true → checkV h key l = if (getV h.fs bProt).length = 0 then some ByteArray.empty else if (getV h.fs bProt).length = 1 then (if inB l (oneS (getV h.fs bProt)) = true then some (oneS (getV h.fs bProt)) else none) else none) := ⟨checkV_of⟩
  have HAC0 : Sl ((([] : List UInt8) == (accS key).toList) = false) := ⟨by
    cases hh : (([] : List UInt8) == (accS key).toList) with
    | false => rfl
    | true =>
      have h1 : ([] : List UInt8) = (accS key).toList := eq_of_beq hh
      have h2 := accS_size key
      rw [ByteArray.toList_eq] at h1
      have h3 := congrArg List.length h1
      simp at h3
      have h4 : (accS key).size = 0 := by simpa using h3.symm
      omega⟩
  obtain ⟨acc, hacc⟩ : ∃ s, accS key = s := ⟨_, rfl⟩
  rw [hacc] at CA RG HAC0
  have HAC := HAC0
  obtain ⟨vd, vc, _, _, rfl, _⟩ := hl
  obtain ⟨nl, hnl⟩ : ∃ n, l.length = n := ⟨_, rfl⟩
  rw [hnl] at CI ⊢
  clear hacc hnl hll hk
  obtain ⟨la, hla⟩ : ∃ l, getV h.fs bAcc = l := ⟨_, rfl⟩
  obtain ⟨lg, hlg⟩ : ∃ l, getV h.fs bProt = l := ⟨_, rfl⟩
  obtain ⟨lu, hlu⟩ : ∃ l, getV h.fs bUp = l := ⟨_, rfl⟩
  obtain ⟨lc, hlc⟩ : ∃ l, getV h.fs bConn = l := ⟨_, rfl⟩
  obtain ⟨lx, hlx⟩ : ∃ l, getV h.fs bExt = l := ⟨_, rfl⟩
  rw [hla] at Ca RG
  rw [hlg] at Cg RY
  rw [hlu] at Cu Hu RG
  rw [hlc] at Cc Hc RG
  rw [hlx] at Cx RG
  clear hla hlg hlu hlc hlx hfl
  obtain ⟨ma, hma⟩ : ∃ m, la.length = m := ⟨_, rfl⟩
  rw [hma] at Ca
  have Ma := Sl.mk hma
  obtain ⟨mg, hmg⟩ : ∃ m, lg.length = m := ⟨_, rfl⟩
  rw [hmg] at Cg RY
  have Mg := Sl.mk hmg
  obtain ⟨mx, hmx⟩ : ∃ m, lx.length = m := ⟨_, rfl⟩
  rw [hmx] at Cx RG
  have Mx := Sl.mk hmx
  clear hma hmg hmx
  obtain ⟨bd, bc, sb, so, rfl, _⟩ := hv
  obtain ⟨nf, hnf⟩ : ∃ n, h.fs.length = n := ⟨_, rfl⟩
  rw [hnf] at Ca Cg Cu Cc Cx ⊢
  clear hnf hf
  obtain ⟨w0, hw0⟩ : ∃ V, w.alloc (.cells #[.string h.a, .string h.b, .string h.c, .slice bd nf bc] 25) = V := ⟨_, rfl⟩
  have HB0 : Sl (Below w.heap.size w w0) := ⟨by rw [← hw0]; exact (Below.refl _ _).alloc (Nat.le_refl _) _⟩
  have HX0 : Sl (w0.heap[w.heap.size]? = some (.cells #[.string h.a, .string h.b, .string h.c, .slice bd nf bc] 25 (0, 0))) := ⟨by rw [← hw0]; exact alloc_new _ _ _ rfl⟩
  obtain ⟨p0, p1, p2, p3⟩ := head_cells HX0.out
  go_enter Tryz.func31, Tryz.ntmps31
  go_wp2_with fail
  clear hw0 p0 p1 p2 p3
  refine (Ca.out _ HB0.out).mono ?_
  rintro e w1 ⟨⟨aa, ca, rfl, HSa⟩, HE⟩
  have HX1 := Sl.mk (box_below HX0.out HE.out)
  have HB1 := Sl.mk (below_trans HB0.out HE.out)
  clear HE HX0 HB0
  obtain ⟨p0, p1, p2, p3⟩ := head_cells HX1.out
  go_wp2_with fail
  clear p0 p1 p2 p3
  refine (Cg.out _ HB1.out).mono ?_
  rintro e w2 ⟨⟨ag, cg, rfl, HSg⟩, HE⟩
  have HX2 := Sl.mk (box_below HX1.out HE.out)
  have HB2 := Sl.mk (below_trans HB1.out HE.out)
  have HSa2 := Sl.mk (HSa.out.below HE.out)
  clear HE HX1 HB1 HSa Ca Cg
  cases e1 : (h.a.toList == [72, 84, 84, 80, 47, 49, 46, 49]) with
  | false =>
    obtain ⟨p0, p1, p2, p3⟩ := head_cells HX2.out
    go_wp2
    clear p0 p1 p2 p3
    obtain ⟨R, hR⟩ : ∃ R, w2.drew = R := ⟨_, rfl⟩
    have HER : Sl (Below w2.heap.size w2 R) := ⟨by rw [← hR]; exact (Below.refl _ _).drew⟩
    have HBR := Sl.mk (below_trans HB2.out HER.out)
    have HXR := Sl.mk (box_below HX2.out HER.out)
    have HSgR := Sl.mk (HSg.out.below HER.out)
    have HS0 : Below w.heap.size w R ∧ R.heap[w.heap.size]? = some (.cells #[.string h.a, .string h.b, .string h.c, .slice bd nf bc] 25 (0, 0)) := ⟨HBR.out, HXR.out⟩
    clear HER
    refine wp_region_noPanic ?_
    refine wp_region_held (S := fun V => Below w.heap.size w V ∧ V.heap[w.heap.size]? = some (.cells #[.string h.a, .string h.b, .string h.c, .slice bd nf bc] 25 (0, 0))) (by kernel_rfl) ?_
    change wpAnyH _ _ _ _ _ _ _ _ w2.drew
    rw [hR]
    clear hR
    refine heldTake (d := some 36) (op := Op.move (Operand.tmp 10)) (g := none) 0 ?v0k1 rfl (by kernel_rfl) (by kernel_rfl) (by kernel_rfl) (by kernel_rfl) ?y0k1 HS0 ?_
    case y0k1 => intro o ho w _; simp only [execOp, ho]; go_simp; try rfl
    simp only [Act.put, List.setIfInBounds_toArray, List.set_cons_zero, List.set_cons_succ]
    refine heldTake (d := some 37) (op := Op.move (Operand.tmp 36)) (g := none) 1 ?v1k1 rfl (by kernel_rfl) (by kernel_rfl) (by kernel_rfl) (by kernel_rfl) ?y1k1 HS0 ?_
    case y1k1 => intro o ho w _; simp only [execOp, ho]; go_simp; try rfl
    simp only [Act.put, List.setIfInBounds_toArray, List.set_cons_zero, List.set_cons_succ]
    refine heldSkip (d := some 38) (op := Op.move (Operand.tmp 8)) (g := some (1, true)) 2 rfl (by kernel_rfl) (by kernel_rfl) (by kernel_rfl) (by kernel_rfl) HS0 ?_
    simp only [Act.put, List.setIfInBounds_toArray, List.set_cons_zero, List.set_cons_succ]
    refine heldSkip (d := some 39) (op := Op.call { callee := Callee.builtin Builtin.len, args := #[Operand.tmp 38], argTypes := #[28] }) (g := some (1, true)) 3 rfl (by kernel_rfl) (by kernel_rfl) (by kernel_rfl) (by kernel_rfl) HS0 ?_
    simp only [Act.put, List.setIfInBounds_toArray, List.set_cons_zero, List.set_cons_succ]
    refine heldSkip (d := some 40) (op := Op.binOp BinOp.eql 3 (Operand.tmp 39) (Operand.const (Value.int IntKind.i64 1)) 3) (g := some (1, true)) 4 rfl (by kernel_rfl) (by kernel_rfl) (by kernel_rfl) (by kernel_rfl) HS0 ?_
    simp only [Act.put, List.setIfInBounds_toArray, List.set_cons_zero, List.set_cons_succ]
    refine heldTake (d := some 41) (op := Op.pick (Operand.tmp 37) (Operand.tmp 40) (Operand.const (Value.bool false))) (g := none) 5 ?v5k1 rfl (by kernel_rfl) (by kernel_rfl) (by kernel_rfl) (by kernel_rfl) ?y5k1 HS0 ?_
    case y5k1 => intro o ho w _; simp only [execOp, ho]; go_simp; try rfl
    simp only [Act.put, List.setIfInBounds_toArray, List.set_cons_zero, List.set_cons_succ]
    refine heldTake (d := some 42) (op := Op.move (Operand.tmp 41)) (g := none) 6 ?v6k1 rfl (by kernel_rfl) (by kernel_rfl) (by kernel_rfl) (by kernel_rfl) ?y6k1 HS0 ?_
    case y6k1 => intro o ho w _; simp only [execOp, ho]; go_simp; try rfl
    simp only [Act.put, List.setIfInBounds_toArray, List.set_cons_zero, List.set_cons_succ]
    refine heldSkip (d := some 43) (op := Op.move (Operand.tmp 8)) (g := some (6, true)) 7 rfl (by kernel_rfl) (by kernel_rfl) (by kernel_rfl) (by kernel_rfl) HS0 ?_
    simp only [Act.put, List.setIfInBounds_toArray, List.set_cons_zero, List.set_cons_succ]
    refine heldSkip (d := some 44) (op := Op.indexAddr 28 (Operand.tmp 43) (Operand.const (Value.int IntKind.i64 0))) (g := some (6, true)) 8 rfl (by kernel_rfl) (by kernel_rfl) (by kernel_rfl) (by kernel_rfl) HS0 ?_
    simp only [Act.put, List.setIfInBounds_toArray, List.set_cons_zero, List.set_cons_succ]
    refine heldSkip (d := some 45) (op := Op.load 9 (Operand.tmp 44)) (g := some (6, true)) 9 rfl (by kernel_rfl) (by kernel_rfl) (by kernel_rfl) (by kernel_rfl) HS0 ?_
    simp only [Act.put, List.setIfInBounds_toArray, List.set_cons_zero, List.set_cons_succ]
    refine heldSkip (d := some 46) (op := Op.move (Operand.tmp 1)) (g := some (6, true)) 10 rfl (by kernel_rfl) (by kernel_rfl) (by kernel_rfl) (by kernel_rfl) HS0 ?_
    simp only [Act.put, List.setIfInBounds_toArray, List.set_cons_zero, List.set_cons_succ]
    refine heldSkip (d := some 47) (op := Op.call { callee := Callee.value (Operand.func 20), args := #[Operand.tmp 46], argTypes := #[9] }) (g := some (6, true)) 11 rfl (by kernel_rfl) (by kernel_rfl) (by kernel_rfl) (by kernel_rfl) HS0 ?_
    simp only [Act.put, List.setIfInBounds_toArray, List.set_cons_zero, List.set_cons_succ]
    refine heldSkip (d := some 48) (op := Op.binOp BinOp.eql 9 (Operand.tmp 45) (Operand.tmp 47) 9) (g := some (6, true)) 12 rfl (by kernel_rfl) (by kernel_rfl) (by kernel_rfl) (by kernel_rfl) HS0 ?_
    simp only [Act.put, List.setIfInBounds_toArray, List.set_cons_zero, List.set_cons_succ]
    refine heldTake (d := some 49) (op := Op.pick (Operand.tmp 42) (Operand.tmp 48) (Operand.const (Value.bool false))) (g := none) 13 ?v13k1 rfl (by kernel_rfl) (by kernel_rfl) (by kernel_rfl) (by kernel_rfl) ?y13k1 HS0 ?_
    case y13k1 => intro o ho w _; simp only [execOp, ho]; go_simp; try rfl
    simp only [Act.put, List.setIfInBounds_toArray, List.set_cons_zero, List.set_cons_succ]
    refine heldTake (d := some 50) (op := Op.move (Operand.tmp 49)) (g := none) 14 ?v14k1 rfl (by kernel_rfl) (by kernel_rfl) (by kernel_rfl) (by kernel_rfl) ?y14k1 HS0 ?_
    case y14k1 => intro o ho w _; simp only [execOp, ho]; go_simp; try rfl
    simp only [Act.put, List.setIfInBounds_toArray, List.set_cons_zero, List.set_cons_succ]
    refine heldSkip (d := some 51) (op := Op.load 25 (Operand.tmp 3)) (g := some (14, true)) 15 rfl (by kernel_rfl) (by kernel_rfl) (by kernel_rfl) (by kernel_rfl) HS0 ?_
    simp only [Act.put, List.setIfInBounds_toArray, List.set_cons_zero, List.set_cons_succ]
    refine heldSkip (d := some 52) (op := Op.call { callee := Callee.value (Operand.func 38), args := #[Operand.tmp 51, Operand.const (Value.string { data := #[83, 101, 99, 45, 87, 101, 98, 83, 111, 99, 107, 101, 116, 45, 69, 120, 116, 101, 110, 115, 105, 111, 110, 115] })], argTypes := #[25, 9] }) (g := some (14, true)) 16 rfl (by kernel_rfl) (by kernel_rfl) (by kernel_rfl) (by kernel_rfl) HS0 ?_
    simp only [Act.put, List.setIfInBounds_toArray, List.set_cons_zero, List.set_cons_succ]
    refine heldSkip (d := some 53) (op := Op.call { callee := Callee.builtin Builtin.len, args := #[Operand.tmp 52], argTypes := #[28] }) (g := some (14, true)) 17 rfl (by kernel_rfl) (by kernel_rfl) (by kernel_rfl) (by kernel_rfl) HS0 ?_
    simp only [Act.put, List.setIfInBounds_toArray, List.set_cons_zero, List.set_cons_succ]
    refine heldSkip (d := some 54) (op := Op.binOp BinOp.eql 3 (Operand.tmp 53) (Operand.const (Value.int IntKind.i64 0)) 3) (g := some (14, true)) 18 rfl (by kernel_rfl) (by kernel_rfl) (by kernel_rfl) (by kernel_rfl) HS0 ?_
    simp only [Act.put, List.setIfInBounds_toArray, List.set_cons_zero, List.set_cons_succ]
    refine heldTake (d := some 55) (op := Op.pick (Operand.tmp 50) (Operand.tmp 54) (Operand.const (Value.bool false))) (g := none) 19 ?v19k1 rfl (by kernel_rfl) (by kernel_rfl) (by kernel_rfl) (by kernel_rfl) ?y19k1 HS0 ?_
    case y19k1 => intro o ho w _; simp only [execOp, ho]; go_simp; try rfl
    simp only [Act.put, List.setIfInBounds_toArray, List.set_cons_zero, List.set_cons_succ]
    refine heldTake (d := some 56) (op := Op.move (Operand.tmp 55)) (g := none) 20 ?v20k1 rfl (by kernel_rfl) (by kernel_rfl) (by kernel_rfl) (by kernel_rfl) ?y20k1 HS0 ?_
    case y20k1 => intro o ho w _; simp only [execOp, ho]; go_simp; try rfl
    simp only [Act.put, List.setIfInBounds_toArray, List.set_cons_zero, List.set_cons_succ]
    refine heldSkip (d := some 57) (op := Op.move (Operand.tmp 9)) (g := some (20, true)) 21 rfl (by kernel_rfl) (by kernel_rfl) (by kernel_rfl) (by kernel_rfl) HS0 ?_
    simp only [Act.put, List.setIfInBounds_toArray, List.set_cons_zero, List.set_cons_succ]
    refine heldSkip (d := some 58) (op := Op.call { callee := Callee.builtin Builtin.len, args := #[Operand.tmp 57], argTypes := #[28] }) (g := some (20, true)) 22 rfl (by kernel_rfl) (by kernel_rfl) (by kernel_rfl) (by kernel_rfl) HS0 ?_
    simp only [Act.put, List.setIfInBounds_toArray, List.set_cons_zero, List.set_cons_succ]
    refine heldSkip (d := some 59) (op := Op.binOp BinOp.leq 3 (Operand.tmp 58) (Operand.const (Value.int IntKind.i64 1)) 3) (g := some (20, true)) 23 rfl (by kernel_rfl) (by kernel_rfl) (by kernel_rfl) (by kernel_rfl) HS0 ?_
    simp only [Act.put, List.setIfInBounds_toArray, List.set_cons_zero, List.set_cons_succ]
    refine heldTake (d := some 60) (op := Op.pick (Operand.tmp 56) (Operand.tmp 59) (Operand.const (Value.bool false))) (g := none) 24 ?v24k1 rfl (by kernel_rfl) (by kernel_rfl) (by kernel_rfl) (by kernel_rfl) ?y24k1 HS0 ?_
    case y24k1 => intro o ho w _; simp only [execOp, ho]; go_simp; try rfl
    simp only [Act.put, List.setIfInBounds_toArray, List.set_cons_zero, List.set_cons_succ]
    refine heldTake (d := some 10) (op := Op.assign (Operand.tmp 60)) (g := none) 25 ?v25k1 rfl (by kernel_rfl) (by kernel_rfl) (by kernel_rfl) (by kernel_rfl) ?y25k1 HS0 ?_
    case y25k1 => intro o ho w _; simp only [execOp, ho]; go_simp; try rfl
    simp only [Act.put, List.setIfInBounds_toArray, List.set_cons_zero, List.set_cons_succ]
    refine wpAnyH_done (by kernel_rfl) ?_ _
    refine NoPanic.normal ?_
    go_wp2
    go_ret2
    exact ⟨by rw [RN.out (by rw [RG.out, e1]; rfl)]; rfl, HBR⟩
  | true =>
  cases e2 : (h.b.toList == [49, 48, 49]) with
  | false =>
    obtain ⟨p0, p1, p2, p3⟩ := head_cells HX2.out
    go_wp2
    clear p0 p1 p2 p3
    obtain ⟨R, hR⟩ : ∃ R, w2.drew = R := ⟨_, rfl⟩
    have HER : Sl (Below w2.heap.size w2 R) := ⟨by rw [← hR]; exact (Below.refl _ _).drew⟩
    have HBR := Sl.mk (below_trans HB2.out HER.out)
    have HXR := Sl.mk (box_below HX2.out HER.out)
    have HSgR := Sl.mk (HSg.out.below HER.out)
    have HS0 : Below w.heap.size w R ∧ R.heap[w.heap.size]? = some (.cells #[.string h.a, .string h.b, .string h.c, .slice bd nf bc] 25 (0, 0)) := ⟨HBR.out, HXR.out⟩
    clear HER
    refine wp_region_noPanic ?_
    refine wp_region_held (S := fun V => Below w.heap.size w V ∧ V.heap[w.heap.size]? = some (.cells #[.string h.a, .string h.b, .string h.c, .slice bd nf bc] 25 (0, 0))) (by kernel_rfl) ?_
    change wpAnyH _ _ _ _ _ _ _ _ w2.drew
    rw [hR]
    clear hR
    refine heldTake (d := some 36) (op := Op.move (Operand.tmp 10)) (g := none) 0 ?v0k2 rfl (by kernel_rfl) (by kernel_rfl) (by kernel_rfl) (by kernel_rfl) ?y0k2 HS0 ?_
    case y0k2 => intro o ho w _; simp only [execOp, ho]; go_simp; try rfl
    simp only [Act.put, List.setIfInBounds_toArray, List.set_cons_zero, List.set_cons_succ]
    refine heldTake (d := some 37) (op := Op.move (Operand.tmp 36)) (g := none) 1 ?v1k2 rfl (by kernel_rfl) (by kernel_rfl) (by kernel_rfl) (by kernel_rfl) ?y1k2 HS0 ?_
    case y1k2 => intro o ho w _; simp only [execOp, ho]; go_simp; try rfl
    simp only [Act.put, List.setIfInBounds_toArray, List.set_cons_zero, List.set_cons_succ]
    refine heldSkip (d := some 38) (op := Op.move (Operand.tmp 8)) (g := some (1, true)) 2 rfl (by kernel_rfl) (by kernel_rfl) (by kernel_rfl) (by kernel_rfl) HS0 ?_
    simp only [Act.put, List.setIfInBounds_toArray, List.set_cons_zero, List.set_cons_succ]
    refine heldSkip (d := some 39) (op := Op.call { callee := Callee.builtin Builtin.len, args := #[Operand.tmp 38], argTypes := #[28] }) (g := some (1, true)) 3 rfl (by kernel_rfl) (by kernel_rfl) (by kernel_rfl) (by kernel_rfl) HS0 ?_
    simp only [Act.put, List.setIfInBounds_toArray, List.set_cons_zero, List.set_cons_succ]
    refine heldSkip (d := some 40) (op := Op.binOp BinOp.eql 3 (Operand.tmp 39) (Operand.const (Value.int IntKind.i64 1)) 3) (g := some (1, true)) 4 rfl (by kernel_rfl) (by kernel_rfl) (by kernel_rfl) (by kernel_rfl) HS0 ?_
    simp only [Act.put, List.setIfInBounds_toArray, List.set_cons_zero, List.set_cons_succ]
    refine heldTake (d := some 41) (op := Op.pick (Operand.tmp 37) (Operand.tmp 40) (Operand.const (Value.bool false))) (g := none) 5 ?v5k2 rfl (by kernel_rfl) (by kernel_rfl) (by kernel_rfl) (by kernel_rfl) ?y5k2 HS0 ?_
    case y5k2 => intro o ho w _; simp only [execOp, ho]; go_simp; try rfl
    simp only [Act.put, List.setIfInBounds_toArray, List.set_cons_zero, List.set_cons_succ]
    refine heldTake (d := some 42) (op := Op.move (Operand.tmp 41)) (g := none) 6 ?v6k2 rfl (by kernel_rfl) (by kernel_rfl) (by kernel_rfl) (by kernel_rfl) ?y6k2 HS0 ?_
    case y6k2 => intro o ho w _; simp only [execOp, ho]; go_simp; try rfl
    simp only [Act.put, List.setIfInBounds_toArray, List.set_cons_zero, List.set_cons_succ]
    refine heldSkip (d := some 43) (op := Op.move (Operand.tmp 8)) (g := some (6, true)) 7 rfl (by kernel_rfl) (by kernel_rfl) (by kernel_rfl) (by kernel_rfl) HS0 ?_
    simp only [Act.put, List.setIfInBounds_toArray, List.set_cons_zero, List.set_cons_succ]
    refine heldSkip (d := some 44) (op := Op.indexAddr 28 (Operand.tmp 43) (Operand.const (Value.int IntKind.i64 0))) (g := some (6, true)) 8 rfl (by kernel_rfl) (by kernel_rfl) (by kernel_rfl) (by kernel_rfl) HS0 ?_
    simp only [Act.put, List.setIfInBounds_toArray, List.set_cons_zero, List.set_cons_succ]
    refine heldSkip (d := some 45) (op := Op.load 9 (Operand.tmp 44)) (g := some (6, true)) 9 rfl (by kernel_rfl) (by kernel_rfl) (by kernel_rfl) (by kernel_rfl) HS0 ?_
    simp only [Act.put, List.setIfInBounds_toArray, List.set_cons_zero, List.set_cons_succ]
    refine heldSkip (d := some 46) (op := Op.move (Operand.tmp 1)) (g := some (6, true)) 10 rfl (by kernel_rfl) (by kernel_rfl) (by kernel_rfl) (by kernel_rfl) HS0 ?_
    simp only [Act.put, List.setIfInBounds_toArray, List.set_cons_zero, List.set_cons_succ]
    refine heldSkip (d := some 47) (op := Op.call { callee := Callee.value (Operand.func 20), args := #[Operand.tmp 46], argTypes := #[9] }) (g := some (6, true)) 11 rfl (by kernel_rfl) (by kernel_rfl) (by kernel_rfl) (by kernel_rfl) HS0 ?_
    simp only [Act.put, List.setIfInBounds_toArray, List.set_cons_zero, List.set_cons_succ]
    refine heldSkip (d := some 48) (op := Op.binOp BinOp.eql 9 (Operand.tmp 45) (Operand.tmp 47) 9) (g := some (6, true)) 12 rfl (by kernel_rfl) (by kernel_rfl) (by kernel_rfl) (by kernel_rfl) HS0 ?_
    simp only [Act.put, List.setIfInBounds_toArray, List.set_cons_zero, List.set_cons_succ]
    refine heldTake (d := some 49) (op := Op.pick (Operand.tmp 42) (Operand.tmp 48) (Operand.const (Value.bool false))) (g := none) 13 ?v13k2 rfl (by kernel_rfl) (by kernel_rfl) (by kernel_rfl) (by kernel_rfl) ?y13k2 HS0 ?_
    case y13k2 => intro o ho w _; simp only [execOp, ho]; go_simp; try rfl
    simp only [Act.put, List.setIfInBounds_toArray, List.set_cons_zero, List.set_cons_succ]
    refine heldTake (d := some 50) (op := Op.move (Operand.tmp 49)) (g := none) 14 ?v14k2 rfl (by kernel_rfl) (by kernel_rfl) (by kernel_rfl) (by kernel_rfl) ?y14k2 HS0 ?_
    case y14k2 => intro o ho w _; simp only [execOp, ho]; go_simp; try rfl
    simp only [Act.put, List.setIfInBounds_toArray, List.set_cons_zero, List.set_cons_succ]
    refine heldSkip (d := some 51) (op := Op.load 25 (Operand.tmp 3)) (g := some (14, true)) 15 rfl (by kernel_rfl) (by kernel_rfl) (by kernel_rfl) (by kernel_rfl) HS0 ?_
    simp only [Act.put, List.setIfInBounds_toArray, List.set_cons_zero, List.set_cons_succ]
    refine heldSkip (d := some 52) (op := Op.call { callee := Callee.value (Operand.func 38), args := #[Operand.tmp 51, Operand.const (Value.string { data := #[83, 101, 99, 45, 87, 101, 98, 83, 111, 99, 107, 101, 116, 45, 69, 120, 116, 101, 110, 115, 105, 111, 110, 115] })], argTypes := #[25, 9] }) (g := some (14, true)) 16 rfl (by kernel_rfl) (by kernel_rfl) (by kernel_rfl) (by kernel_rfl) HS0 ?_
    simp only [Act.put, List.setIfInBounds_toArray, List.set_cons_zero, List.set_cons_succ]
    refine heldSkip (d := some 53) (op := Op.call { callee := Callee.builtin Builtin.len, args := #[Operand.tmp 52], argTypes := #[28] }) (g := some (14, true)) 17 rfl (by kernel_rfl) (by kernel_rfl) (by kernel_rfl) (by kernel_rfl) HS0 ?_
    simp only [Act.put, List.setIfInBounds_toArray, List.set_cons_zero, List.set_cons_succ]
    refine heldSkip (d := some 54) (op := Op.binOp BinOp.eql 3 (Operand.tmp 53) (Operand.const (Value.int IntKind.i64 0)) 3) (g := some (14, true)) 18 rfl (by kernel_rfl) (by kernel_rfl) (by kernel_rfl) (by kernel_rfl) HS0 ?_
    simp only [Act.put, List.setIfInBounds_toArray, List.set_cons_zero, List.set_cons_succ]
    refine heldTake (d := some 55) (op := Op.pick (Operand.tmp 50) (Operand.tmp 54) (Operand.const (Value.bool false))) (g := none) 19 ?v19k2 rfl (by kernel_rfl) (by kernel_rfl) (by kernel_rfl) (by kernel_rfl) ?y19k2 HS0 ?_
    case y19k2 => intro o ho w _; simp only [execOp, ho]; go_simp; try rfl
    simp only [Act.put, List.setIfInBounds_toArray, List.set_cons_zero, List.set_cons_succ]
    refine heldTake (d := some 56) (op := Op.move (Operand.tmp 55)) (g := none) 20 ?v20k2 rfl (by kernel_rfl) (by kernel_rfl) (by kernel_rfl) (by kernel_rfl) ?y20k2 HS0 ?_
    case y20k2 => intro o ho w _; simp only [execOp, ho]; go_simp; try rfl
    simp only [Act.put, List.setIfInBounds_toArray, List.set_cons_zero, List.set_cons_succ]
    refine heldSkip (d := some 57) (op := Op.move (Operand.tmp 9)) (g := some (20, true)) 21 rfl (by kernel_rfl) (by kernel_rfl) (by kernel_rfl) (by kernel_rfl) HS0 ?_
    simp only [Act.put, List.setIfInBounds_toArray, List.set_cons_zero, List.set_cons_succ]
    refine heldSkip (d := some 58) (op := Op.call { callee := Callee.builtin Builtin.len, args := #[Operand.tmp 57], argTypes := #[28] }) (g := some (20, true)) 22 rfl (by kernel_rfl) (by kernel_rfl) (by kernel_rfl) (by kernel_rfl) HS0 ?_
    simp only [Act.put, List.setIfInBounds_toArray, List.set_cons_zero, List.set_cons_succ]
    refine heldSkip (d := some 59) (op := Op.binOp BinOp.leq 3 (Operand.tmp 58) (Operand.const (Value.int IntKind.i64 1)) 3) (g := some (20, true)) 23 rfl (by kernel_rfl) (by kernel_rfl) (by kernel_rfl) (by kernel_rfl) HS0 ?_
    simp only [Act.put, List.setIfInBounds_toArray, List.set_cons_zero, List.set_cons_succ]
    refine heldTake (d := some 60) (op := Op.pick (Operand.tmp 56) (Operand.tmp 59) (Operand.const (Value.bool false))) (g := none) 24 ?v24k2 rfl (by kernel_rfl) (by kernel_rfl) (by kernel_rfl) (by kernel_rfl) ?y24k2 HS0 ?_
    case y24k2 => intro o ho w _; simp only [execOp, ho]; go_simp; try rfl
    simp only [Act.put, List.setIfInBounds_toArray, List.set_cons_zero, List.set_cons_succ]
    refine heldTake (d := some 10) (op := Op.assign (Operand.tmp 60)) (g := none) 25 ?v25k2 rfl (by kernel_rfl) (by kernel_rfl) (by kernel_rfl) (by kernel_rfl) ?y25k2 HS0 ?_
    case y25k2 => intro o ho w _; simp only [execOp, ho]; go_simp; try rfl
    simp only [Act.put, List.setIfInBounds_toArray, List.set_cons_zero, List.set_cons_succ]
    refine wpAnyH_done (by kernel_rfl) ?_ _
    refine NoPanic.normal ?_
    go_wp2
    go_ret2
    exact ⟨by rw [RN.out (by rw [RG.out, e1, e2]; rfl)]; rfl, HBR⟩
  | true =>
  obtain ⟨p0, p1, p2, p3⟩ := head_cells HX2.out
  go_wp2_with fail
  clear p0 p1 p2 p3
  refine (Cu.out _ HB2.out).mono ?_
  rintro e w3 ⟨⟨b3, d3, rfl, HS3⟩, HE⟩
  have HX3 := Sl.mk (box_below HX2.out HE.out)
  have HB3 := Sl.mk (below_trans HB2.out HE.out)
  have HSa3 := Sl.mk (HSa2.out.below HE.out)
  have HSg3 := Sl.mk (HSg.out.below HE.out)
  clear HE
  go_wp2_with fail
  refine (Hu.out _ _ HS3.out).mono ?_
  rintro e w4 ⟨rfl, HE⟩
  have HX4 := Sl.mk (box_below HX3.out HE.out)
  have HB4 := Sl.mk (below_trans HB3.out HE.out)
  have HSa4 := Sl.mk (HSa3.out.below HE.out)
  have HSg4 := Sl.mk (HSg3.out.below HE.out)
  clear HE HS3 HX3 HB3 HSa3 HSg3
  cases e3 : hasB { data := #[119, 101, 98, 115, 111, 99, 107, 101, 116] } lu with
  | false =>
    obtain ⟨p0, p1, p2, p3⟩ := head_cells HX4.out
    go_wp2
    clear p0 p1 p2 p3
    obtain ⟨R, hR⟩ : ∃ R, w4.drew = R := ⟨_, rfl⟩
    have HER : Sl (Below w4.heap.size w4 R) := ⟨by rw [← hR]; exact (Below.refl _ _).drew⟩
    have HBR := Sl.mk (below_trans HB4.out HER.out)
    have HXR := Sl.mk (box_below HX4.out HER.out)
    have HSgR := Sl.mk (HSg4.out.below HER.out)
    have HS0 : Below w.heap.size w R ∧ R.heap[w.heap.size]? = some (.cells #[.string h.a, .string h.b, .string h.c, .slice bd nf bc] 25 (0, 0)) := ⟨HBR.out, HXR.out⟩
    clear HER
    refine wp_region_noPanic ?_
    refine wp_region_held (S := fun V => Below w.heap.size w V ∧ V.heap[w.heap.size]? = some (.cells #[.string h.a, .string h.b, .string h.c, .slice bd nf bc] 25 (0, 0))) (by kernel_rfl) ?_
    change wpAnyH _ _ _ _ _ _ _ _ w4.drew
    rw [hR]
    clear hR
    refine heldTake (d := some 36) (op := Op.move (Operand.tmp 10)) (g := none) 0 ?v0k3 rfl (by kernel_rfl) (by kernel_rfl) (by kernel_rfl) (by kernel_rfl) ?y0k3 HS0 ?_
    case y0k3 => intro o ho w _; simp only [execOp, ho]; go_simp; try rfl
    simp only [Act.put, List.setIfInBounds_toArray, List.set_cons_zero, List.set_cons_succ]
    refine heldTake (d := some 37) (op := Op.move (Operand.tmp 36)) (g := none) 1 ?v1k3 rfl (by kernel_rfl) (by kernel_rfl) (by kernel_rfl) (by kernel_rfl) ?y1k3 HS0 ?_
    case y1k3 => intro o ho w _; simp only [execOp, ho]; go_simp; try rfl
    simp only [Act.put, List.setIfInBounds_toArray, List.set_cons_zero, List.set_cons_succ]
    refine heldSkip (d := some 38) (op := Op.move (Operand.tmp 8)) (g := some (1, true)) 2 rfl (by kernel_rfl) (by kernel_rfl) (by kernel_rfl) (by kernel_rfl) HS0 ?_
    simp only [Act.put, List.setIfInBounds_toArray, List.set_cons_zero, List.set_cons_succ]
    refine heldSkip (d := some 39) (op := Op.call { callee := Callee.builtin Builtin.len, args := #[Operand.tmp 38], argTypes := #[28] }) (g := some (1, true)) 3 rfl (by kernel_rfl) (by kernel_rfl) (by kernel_rfl) (by kernel_rfl) HS0 ?_
    simp only [Act.put, List.setIfInBounds_toArray, List.set_cons_zero, List.set_cons_succ]
    refine heldSkip (d := some 40) (op := Op.binOp BinOp.eql 3 (Operand.tmp 39) (Operand.const (Value.int IntKind.i64 1)) 3) (g := some (1, true)) 4 rfl (by kernel_rfl) (by kernel_rfl) (by kernel_rfl) (by kernel_rfl) HS0 ?_
    simp only [Act.put, List.setIfInBounds_toArray, List.set_cons_zero, List.set_cons_succ]
    refine heldTake (d := some 41) (op := Op.pick (Operand.tmp 37) (Operand.tmp 40) (Operand.const (Value.bool false))) (g := none) 5 ?v5k3 rfl (by kernel_rfl) (by kernel_rfl) (by kernel_rfl) (by kernel_rfl) ?y5k3 HS0 ?_
    case y5k3 => intro o ho w _; simp only [execOp, ho]; go_simp; try rfl
    simp only [Act.put, List.setIfInBounds_toArray, List.set_cons_zero, List.set_cons_succ]
    refine heldTake (d := some 42) (op := Op.move (Operand.tmp 41)) (g := none) 6 ?v6k3 rfl (by kernel_rfl) (by kernel_rfl) (by kernel_rfl) (by kernel_rfl) ?y6k3 HS0 ?_
    case y6k3 => intro o ho w _; simp only [execOp, ho]; go_simp; try rfl
    simp only [Act.put, List.setIfInBounds_toArray, List.set_cons_zero, List.set_cons_succ]
    refine heldSkip (d := some 43) (op := Op.move (Operand.tmp 8)) (g := some (6, true)) 7 rfl (by kernel_rfl) (by kernel_rfl) (by kernel_rfl) (by kernel_rfl) HS0 ?_
    simp only [Act.put, List.setIfInBounds_toArray, List.set_cons_zero, List.set_cons_succ]
    refine heldSkip (d := some 44) (op := Op.indexAddr 28 (Operand.tmp 43) (Operand.const (Value.int IntKind.i64 0))) (g := some (6, true)) 8 rfl (by kernel_rfl) (by kernel_rfl) (by kernel_rfl) (by kernel_rfl) HS0 ?_
    simp only [Act.put, List.setIfInBounds_toArray, List.set_cons_zero, List.set_cons_succ]
    refine heldSkip (d := some 45) (op := Op.load 9 (Operand.tmp 44)) (g := some (6, true)) 9 rfl (by kernel_rfl) (by kernel_rfl) (by kernel_rfl) (by kernel_rfl) HS0 ?_
    simp only [Act.put, List.setIfInBounds_toArray, List.set_cons_zero, List.set_cons_succ]
    refine heldSkip (d := some 46) (op := Op.move (Operand.tmp 1)) (g := some (6, true)) 10 rfl (by kernel_rfl) (by kernel_rfl) (by kernel_rfl) (by kernel_rfl) HS0 ?_
    simp only [Act.put, List.setIfInBounds_toArray, List.set_cons_zero, List.set_cons_succ]
    refine heldSkip (d := some 47) (op := Op.call { callee := Callee.value (Operand.func 20), args := #[Operand.tmp 46], argTypes := #[9] }) (g := some (6, true)) 11 rfl (by kernel_rfl) (by kernel_rfl) (by kernel_rfl) (by kernel_rfl) HS0 ?_
    simp only [Act.put, List.setIfInBounds_toArray, List.set_cons_zero, List.set_cons_succ]
    refine heldSkip (d := some 48) (op := Op.binOp BinOp.eql 9 (Operand.tmp 45) (Operand.tmp 47) 9) (g := some (6, true)) 12 rfl (by kernel_rfl) (by kernel_rfl) (by kernel_rfl) (by kernel_rfl) HS0 ?_
    simp only [Act.put, List.setIfInBounds_toArray, List.set_cons_zero, List.set_cons_succ]
    refine heldTake (d := some 49) (op := Op.pick (Operand.tmp 42) (Operand.tmp 48) (Operand.const (Value.bool false))) (g := none) 13 ?v13k3 rfl (by kernel_rfl) (by kernel_rfl) (by kernel_rfl) (by kernel_rfl) ?y13k3 HS0 ?_
    case y13k3 => intro o ho w _; simp only [execOp, ho]; go_simp; try rfl
    simp only [Act.put, List.setIfInBounds_toArray, List.set_cons_zero, List.set_cons_succ]
    refine heldTake (d := some 50) (op := Op.move (Operand.tmp 49)) (g := none) 14 ?v14k3 rfl (by kernel_rfl) (by kernel_rfl) (by kernel_rfl) (by kernel_rfl) ?y14k3 HS0 ?_
    case y14k3 => intro o ho w _; simp only [execOp, ho]; go_simp; try rfl
    simp only [Act.put, List.setIfInBounds_toArray, List.set_cons_zero, List.set_cons_succ]
    refine heldSkip (d := some 51) (op := Op.load 25 (Operand.tmp 3)) (g := some (14, true)) 15 rfl (by kernel_rfl) (by kernel_rfl) (by kernel_rfl) (by kernel_rfl) HS0 ?_
    simp only [Act.put, List.setIfInBounds_toArray, List.set_cons_zero, List.set_cons_succ]
    refine heldSkip (d := some 52) (op := Op.call { callee := Callee.value (Operand.func 38), args := #[Operand.tmp 51, Operand.const (Value.string { data := #[83, 101, 99, 45, 87, 101, 98, 83, 111, 99, 107, 101, 116, 45, 69, 120, 116, 101, 110, 115, 105, 111, 110, 115] })], argTypes := #[25, 9] }) (g := some (14, true)) 16 rfl (by kernel_rfl) (by kernel_rfl) (by kernel_rfl) (by kernel_rfl) HS0 ?_
    simp only [Act.put, List.setIfInBounds_toArray, List.set_cons_zero, List.set_cons_succ]
    refine heldSkip (d := some 53) (op := Op.call { callee := Callee.builtin Builtin.len, args := #[Operand.tmp 52], argTypes := #[28] }) (g := some (14, true)) 17 rfl (by kernel_rfl) (by kernel_rfl) (by kernel_rfl) (by kernel_rfl) HS0 ?_
    simp only [Act.put, List.setIfInBounds_toArray, List.set_cons_zero, List.set_cons_succ]
    refine heldSkip (d := some 54) (op := Op.binOp BinOp.eql 3 (Operand.tmp 53) (Operand.const (Value.int IntKind.i64 0)) 3) (g := some (14, true)) 18 rfl (by kernel_rfl) (by kernel_rfl) (by kernel_rfl) (by kernel_rfl) HS0 ?_
    simp only [Act.put, List.setIfInBounds_toArray, List.set_cons_zero, List.set_cons_succ]
    refine heldTake (d := some 55) (op := Op.pick (Operand.tmp 50) (Operand.tmp 54) (Operand.const (Value.bool false))) (g := none) 19 ?v19k3 rfl (by kernel_rfl) (by kernel_rfl) (by kernel_rfl) (by kernel_rfl) ?y19k3 HS0 ?_
    case y19k3 => intro o ho w _; simp only [execOp, ho]; go_simp; try rfl
    simp only [Act.put, List.setIfInBounds_toArray, List.set_cons_zero, List.set_cons_succ]
    refine heldTake (d := some 56) (op := Op.move (Operand.tmp 55)) (g := none) 20 ?v20k3 rfl (by kernel_rfl) (by kernel_rfl) (by kernel_rfl) (by kernel_rfl) ?y20k3 HS0 ?_
    case y20k3 => intro o ho w _; simp only [execOp, ho]; go_simp; try rfl
    simp only [Act.put, List.setIfInBounds_toArray, List.set_cons_zero, List.set_cons_succ]
    refine heldSkip (d := some 57) (op := Op.move (Operand.tmp 9)) (g := some (20, true)) 21 rfl (by kernel_rfl) (by kernel_rfl) (by kernel_rfl) (by kernel_rfl) HS0 ?_
    simp only [Act.put, List.setIfInBounds_toArray, List.set_cons_zero, List.set_cons_succ]
    refine heldSkip (d := some 58) (op := Op.call { callee := Callee.builtin Builtin.len, args := #[Operand.tmp 57], argTypes := #[28] }) (g := some (20, true)) 22 rfl (by kernel_rfl) (by kernel_rfl) (by kernel_rfl) (by kernel_rfl) HS0 ?_
    simp only [Act.put, List.setIfInBounds_toArray, List.set_cons_zero, List.set_cons_succ]
    refine heldSkip (d := some 59) (op := Op.binOp BinOp.leq 3 (Operand.tmp 58) (Operand.const (Value.int IntKind.i64 1)) 3) (g := some (20, true)) 23 rfl (by kernel_rfl) (by kernel_rfl) (by kernel_rfl) (by kernel_rfl) HS0 ?_
    simp only [Act.put, List.setIfInBounds_toArray, List.set_cons_zero, List.set_cons_succ]
    refine heldTake (d := some 60) (op := Op.pick (Operand.tmp 56) (Operand.tmp 59) (Operand.const (Value.bool false))) (g := none) 24 ?v24k3 rfl (by kernel_rfl) (by kernel_rfl) (by kernel_rfl) (by kernel_rfl) ?y24k3 HS0 ?_
    case y24k3 => intro o ho w _; simp only [execOp, ho]; go_simp; try rfl
    simp only [Act.put, List.setIfInBounds_toArray, List.set_cons_zero, List.set_cons_succ]
    refine heldTake (d := some 10) (op := Op.assign (Operand.tmp 60)) (g := none) 25 ?v25k3 rfl (by kernel_rfl) (by kernel_rfl) (by kernel_rfl) (by kernel_rfl) ?y25k3 HS0 ?_
    case y25k3 => intro o ho w _; simp only [execOp, ho]; go_simp; try rfl
    simp only [Act.put, List.setIfInBounds_toArray, List.set_cons_zero, List.set_cons_succ]
    refine wpAnyH_done (by kernel_rfl) ?_ _
    refine NoPanic.normal ?_
    go_wp2
    go_ret2
    exact ⟨by rw [RN.out (by rw [RG.out, e1, e2, e3]; rfl)]; rfl, HBR⟩
  | true =>
  obtain ⟨p0, p1, p2, p3⟩ := head_cells HX4.out
  go_wp2_with fail
  clear p0 p1 p2 p3
  refine (Cc.out _ HB4.out).mono ?_
  rintro e w5 ⟨⟨b5, d5, rfl, HS5⟩, HE⟩
  have HX5 := Sl.mk (box_below HX4.out HE.out)
  have HB5 := Sl.mk (below_trans HB4.out HE.out)
  have HSa5 := Sl.mk (HSa4.out.below HE.out)
  have HSg5 := Sl.mk (HSg4.out.below HE.out)
  clear HE
  go_wp2_with fail
  refine (Hc.out _ _ HS5.out).mono ?_
  rintro e w6 ⟨rfl, HE⟩
  have HX6 := Sl.mk (box_below HX5.out HE.out)
  have HB6 := Sl.mk (below_trans HB5.out HE.out)
  have HSa6 := Sl.mk (HSa5.out.below HE.out)
  have HSg6 := Sl.mk (HSg5.out.below HE.out)
  clear HE HS5 HX5 HB5 HSa5 HSg5
  cases e5 : hasB { data := #[85, 112, 103, 114, 97, 100, 101] } lc with
  | false =>
    obtain ⟨p0, p1, p2, p3⟩ := head_cells HX6.out
    go_wp2
    clear p0 p1 p2 p3
    obtain ⟨R, hR⟩ : ∃ R, w6.drew = R := ⟨_, rfl⟩
    have HER : Sl (Below w6.heap.size w6 R) := ⟨by rw [← hR]; exact (Below.refl _ _).drew⟩
    have HBR := Sl.mk (below_trans HB6.out HER.out)
    have HXR := Sl.mk (box_below HX6.out HER.out)
    have HSgR := Sl.mk (HSg6.out.below HER.out)
    have HS0 : Below w.heap.size w R ∧ R.heap[w.heap.size]? = some (.cells #[.string h.a, .string h.b, .string h.c, .slice bd nf bc] 25 (0, 0)) := ⟨HBR.out, HXR.out⟩
    clear HER
    refine wp_region_noPanic ?_
    refine wp_region_held (S := fun V => Below w.heap.size w V ∧ V.heap[w.heap.size]? = some (.cells #[.string h.a, .string h.b, .string h.c, .slice bd nf bc] 25 (0, 0))) (by kernel_rfl) ?_
    change wpAnyH _ _ _ _ _ _ _ _ w6.drew
    rw [hR]
    clear hR
    refine heldTake (d := some 36) (op := Op.move (Operand.tmp 10)) (g := none) 0 ?v0k4 rfl (by kernel_rfl) (by kernel_rfl) (by kernel_rfl) (by kernel_rfl) ?y0k4 HS0 ?_
    case y0k4 => intro o ho w _; simp only [execOp, ho]; go_simp; try rfl
    simp only [Act.put, List.setIfInBounds_toArray, List.set_cons_zero, List.set_cons_succ]
    refine heldTake (d := some 37) (op := Op.move (Operand.tmp 36)) (g := none) 1 ?v1k4 rfl (by kernel_rfl) (by kernel_rfl) (by kernel_rfl) (by kernel_rfl) ?y1k4 HS0 ?_
    case y1k4 => intro o ho w _; simp only [execOp, ho]; go_simp; try rfl
    simp only [Act.put, List.setIfInBounds_toArray, List.set_cons_zero, List.set_cons_succ]
    refine heldSkip (d := some 38) (op := Op.move (Operand.tmp 8)) (g := some (1, true)) 2 rfl (by kernel_rfl) (by kernel_rfl) (by kernel_rfl) (by kernel_rfl) HS0 ?_
    simp only [Act.put, List.setIfInBounds_toArray, List.set_cons_zero, List.set_cons_succ]
    refine heldSkip (d := some 39) (op := Op.call { callee := Callee.builtin Builtin.len, args := #[Operand.tmp 38], argTypes := #[28] }) (g := some (1, true)) 3 rfl (by kernel_rfl) (by kernel_rfl) (by kernel_rfl) (by kernel_rfl) HS0 ?_
    simp only [Act.put, List.setIfInBounds_toArray, List.set_cons_zero, List.set_cons_succ]
    refine heldSkip (d := some 40) (op := Op.binOp BinOp.eql 3 (Operand.tmp 39) (Operand.const (Value.int IntKind.i64 1)) 3) (g := some (1, true)) 4 rfl (by kernel_rfl) (by kernel_rfl) (by kernel_rfl) (by kernel_rfl) HS0 ?_
    simp only [Act.put, List.setIfInBounds_toArray, List.set_cons_zero, List.set_cons_succ]
    refine heldTake (d := some 41) (op := Op.pick (Operand.tmp 37) (Operand.tmp 40) (Operand.const (Value.bool false))) (g := none) 5 ?v5k4 rfl (by kernel_rfl) (by kernel_rfl) (by kernel_rfl) (by kernel_rfl) ?y5k4 HS0 ?_
    case y5k4 => intro o ho w _; simp only [execOp, ho]; go_simp; try rfl
    simp only [Act.put, List.setIfInBounds_toArray, List.set_cons_zero, List.set_cons_succ]
    refine heldTake (d := some 42) (op := Op.move (Operand.tmp 41)) (g := none) 6 ?v6k4 rfl (by kernel_rfl) (by kernel_rfl) (by kernel_rfl) (by kernel_rfl) ?y6k4 HS0 ?_
    case y6k4 => intro o ho w _; simp only [execOp, ho]; go_simp; try rfl
    simp only [Act.put, List.setIfInBounds_toArray, List.set_cons_zero, List.set_cons_succ]
    refine heldSkip (d := some 43) (op := Op.move (Operand.tmp 8)) (g := some (6, true)) 7 rfl (by kernel_rfl) (by kernel_rfl) (by kernel_rfl) (by kernel_rfl) HS0 ?_
    simp only [Act.put, List.setIfInBounds_toArray, List.set_cons_zero, List.set_cons_succ]
    refine heldSkip (d := some 44) (op := Op.indexAddr 28 (Operand.tmp 43) (Operand.const (Value.int IntKind.i64 0))) (g := some (6, true)) 8 rfl (by kernel_rfl) (by kernel_rfl) (by kernel_rfl) (by kernel_rfl) HS0 ?_
    simp only [Act.put, List.setIfInBounds_toArray, List.set_cons_zero, List.set_cons_succ]
    refine heldSkip (d := some 45) (op := Op.load 9 (Operand.tmp 44)) (g := some (6, true)) 9 rfl (by kernel_rfl) (by kernel_rfl) (by kernel_rfl) (by kernel_rfl) HS0 ?_
    simp only [Act.put, List.setIfInBounds_toArray, List.set_cons_zero, List.set_cons_succ]
    refine heldSkip (d := some 46) (op := Op.move (Operand.tmp 1)) (g := some (6, true)) 10 rfl (by kernel_rfl) (by kernel_rfl) (by kernel_rfl) (by kernel_rfl) HS0 ?_
    simp only [Act.put, List.setIfInBounds_toArray, List.set_cons_zero, List.set_cons_succ]
    refine heldSkip (d := some 47) (op := Op.call { callee := Callee.value (Operand.func 20), args := #[Operand.tmp 46], argTypes := #[9] }) (g := some (6, true)) 11 rfl (by kernel_rfl) (by kernel_rfl) (by kernel_rfl) (by kernel_rfl) HS0 ?_
    simp only [Act.put, List.setIfInBounds_toArray, List.set_cons_zero, List.set_cons_succ]
    refine heldSkip (d := some 48) (op := Op.binOp BinOp.eql 9 (Operand.tmp 45) (Operand.tmp 47) 9) (g := some (6, true)) 12 rfl (by kernel_rfl) (by kernel_rfl) (by kernel_rfl) (by kernel_rfl) HS0 ?_
    simp only [Act.put, List.setIfInBounds_toArray, List.set_cons_zero, List.set_cons_succ]
    refine heldTake (d := some 49) (op := Op.pick (Operand.tmp 42) (Operand.tmp 48) (Operand.const (Value.bool false))) (g := none) 13 ?v13k4 rfl (by kernel_rfl) (by kernel_rfl) (by kernel_rfl) (by kernel_rfl) ?y13k4 HS0 ?_
    case y13k4 => intro o ho w _; simp only [execOp, ho]; go_simp; try rfl
    simp only [Act.put, List.setIfInBounds_toArray, List.set_cons_zero, List.set_cons_succ]
    refine heldTake (d := some 50) (op := Op.move (Operand.tmp 49)) (g := none) 14 ?v14k4 rfl (by kernel_rfl) (by kernel_rfl) (by kernel_rfl) (by kernel_rfl) ?y14k4 HS0 ?_
    case y14k4 => intro o ho w _; simp only [execOp, ho]; go_simp; try rfl
    simp only [Act.put, List.setIfInBounds_toArray, List.set_cons_zero, List.set_cons_succ]
    refine heldSkip (d := some 51) (op := Op.load 25 (Operand.tmp 3)) (g := some (14, true)) 15 rfl (by kernel_rfl) (by kernel_rfl) (by kernel_rfl) (by kernel_rfl) HS0 ?_
    simp only [Act.put, List.setIfInBounds_toArray, List.set_cons_zero, List.set_cons_succ]
    refine heldSkip (d := some 52) (op := Op.call { callee := Callee.value (Operand.func 38), args := #[Operand.tmp 51, Operand.const (Value.string { data := #[83, 101, 99, 45, 87, 101, 98, 83, 111, 99, 107, 101, 116, 45, 69, 120, 116, 101, 110, 115, 105, 111, 110, 115] })], argTypes := #[25, 9] }) (g := some (14, true)) 16 rfl (by kernel_rfl) (by kernel_rfl) (by kernel_rfl) (by kernel_rfl) HS0 ?_
    simp only [Act.put, List.setIfInBounds_toArray, List.set_cons_zero, List.set_cons_succ]
    refine heldSkip (d := some 53) (op := Op.call { callee := Callee.builtin Builtin.len, args := #[Operand.tmp 52], argTypes := #[28] }) (g := some (14, true)) 17 rfl (by kernel_rfl) (by kernel_rfl) (by kernel_rfl) (by kernel_rfl) HS0 ?_
    simp only [Act.put, List.setIfInBounds_toArray, List.set_cons_zero, List.set_cons_succ]
    refine heldSkip (d := some 54) (op := Op.binOp BinOp.eql 3 (Operand.tmp 53) (Operand.const (Value.int IntKind.i64 0)) 3) (g := some (14, true)) 18 rfl (by kernel_rfl) (by kernel_rfl) (by kernel_rfl) (by kernel_rfl) HS0 ?_
    simp only [Act.put, List.setIfInBounds_toArray, List.set_cons_zero, List.set_cons_succ]
    refine heldTake (d := some 55) (op := Op.pick (Operand.tmp 50) (Operand.tmp 54) (Operand.const (Value.bool false))) (g := none) 19 ?v19k4 rfl (by kernel_rfl) (by kernel_rfl) (by kernel_rfl) (by kernel_rfl) ?y19k4 HS0 ?_
    case y19k4 => intro o ho w _; simp only [execOp, ho]; go_simp; try rfl
    simp only [Act.put, List.setIfInBounds_toArray, List.set_cons_zero, List.set_cons_succ]
    refine heldTake (d := some 56) (op := Op.move (Operand.tmp 55)) (g := none) 20 ?v20k4 rfl (by kernel_rfl) (by kernel_rfl) (by kernel_rfl) (by kernel_rfl) ?y20k4 HS0 ?_
    case y20k4 => intro o ho w _; simp only [execOp, ho]; go_simp; try rfl
    simp only [Act.put, List.setIfInBounds_toArray, List.set_cons_zero, List.set_cons_succ]
    refine heldSkip (d := some 57) (op := Op.move (Operand.tmp 9)) (g := some (20, true)) 21 rfl (by kernel_rfl) (by kernel_rfl) (by kernel_rfl) (by kernel_rfl) HS0 ?_
    simp only [Act.put, List.setIfInBounds_toArray, List.set_cons_zero, List.set_cons_succ]
    refine heldSkip (d := some 58) (op := Op.call { callee := Callee.builtin Builtin.len, args := #[Operand.tmp 57], argTypes := #[28] }) (g := some (20, true)) 22 rfl (by kernel_rfl) (by kernel_rfl) (by kernel_rfl) (by kernel_rfl) HS0 ?_
    simp only [Act.put, List.setIfInBounds_toArray, List.set_cons_zero, List.set_cons_succ]
    refine heldSkip (d := some 59) (op := Op.binOp BinOp.leq 3 (Operand.tmp 58) (Operand.const (Value.int IntKind.i64 1)) 3) (g := some (20, true)) 23 rfl (by kernel_rfl) (by kernel_rfl) (by kernel_rfl) (by kernel_rfl) HS0 ?_
    simp only [Act.put, List.setIfInBounds_toArray, List.set_cons_zero, List.set_cons_succ]
    refine heldTake (d := some 60) (op := Op.pick (Operand.tmp 56) (Operand.tmp 59) (Operand.const (Value.bool false))) (g := none) 24 ?v24k4 rfl (by kernel_rfl) (by kernel_rfl) (by kernel_rfl) (by kernel_rfl) ?y24k4 HS0 ?_
    case y24k4 => intro o ho w _; simp only [execOp, ho]; go_simp; try rfl
    simp only [Act.put, List.setIfInBounds_toArray, List.set_cons_zero, List.set_cons_succ]
    refine heldTake (d := some 10) (op := Op.assign (Operand.tmp 60)) (g := none) 25 ?v25k4 rfl (by kernel_rfl) (by kernel_rfl) (by kernel_rfl) (by kernel_rfl) ?y25k4 HS0 ?_
    case y25k4 => intro o ho w _; simp only [execOp, ho]; go_simp; try rfl
    simp only [Act.put, List.setIfInBounds_toArray, List.set_cons_zero, List.set_cons_succ]
    refine wpAnyH_done (by kernel_rfl) ?_ _
    refine NoPanic.normal ?_
    go_wp2
    go_ret2
    exact ⟨by rw [RN.out (by rw [RG.out, e1, e2, e3, e5]; rfl)]; rfl, HBR⟩
  | true =>
  clear Cu Hu Cc Hc
  go_wp2
  have HNO : Sl (ma ≠ 1 → grantedB h key = false) := ⟨fun hm => by
    rw [RG.out, oneS_ne3 (by rw [Ma.out]; exact hm), e1, e2, e3, e5]
    have : ((ByteArray.mk #[]).toList == acc.toList) = false := by
      rw [show (ByteArray.mk #[]).toList = [] from toList_mk []]
      exact HAC.out
    rw [this]; rfl⟩
  have HYE : Sl (ma = 1 → ∀ xa, la = [xa] → grantedB h key = ((xa.toList == acc.toList) && decide (mx = 0))) := ⟨fun _ xa e => by rw [RG.out, e, oneS_one3, e1, e2, e3, e5]; rfl⟩
  clear RG e1 e2 e3 e5
  by_cases hm : ma = 1
  rotate_left
  · have hm1 : ((ma : Int) == 1) = false := by simp; omega
    obtain ⟨R, hR⟩ : ∃ R, w6.drew = R := ⟨_, rfl⟩
    have HER : Sl (Below w6.heap.size w6 R) := ⟨by rw [← hR]; exact (Below.refl _ _).drew⟩
    have HBR := Sl.mk (below_trans HB6.out HER.out)
    have HXR := Sl.mk (box_below HX6.out HER.out)
    have HSgR := Sl.mk (HSg6.out.below HER.out)
    have HS0 : Below w.heap.size w R ∧ R.heap[w.heap.size]? = some (.cells #[.string h.a, .string h.b, .string h.c, .slice bd nf bc] 25 (0, 0)) := ⟨HBR.out, HXR.out⟩
    clear HER
    refine wp_region_noPanic ?_
    refine wp_region_held (S := fun V => Below w.heap.size w V ∧ V.heap[w.heap.size]? = some (.cells #[.string h.a, .string h.b, .string h.c, .slice bd nf bc] 25 (0, 0))) (by kernel_rfl) ?_
    change wpAnyH _ _ _ _ _ _ _ _ w6.drew
    rw [hR]
    clear hR
    refine heldTake (d := some 36) (op := Op.move (Operand.tmp 10)) (g := none) 0 ?v0k5 rfl (by kernel_rfl) (by kernel_rfl) (by kernel_rfl) (by kernel_rfl) ?y0k5 HS0 ?_
    case y0k5 => intro o ho w _; simp only [execOp, ho]; go_simp; try rfl
    simp only [Act.put, List.setIfInBounds_toArray, List.set_cons_zero, List.set_cons_succ]
    refine heldTake (d := some 37) (op := Op.move (Operand.tmp 36)) (g := none) 1 ?v1k5 rfl (by kernel_rfl) (by kernel_rfl) (by kernel_rfl) (by kernel_rfl) ?y1k5 HS0 ?_
    case y1k5 => intro o ho w _; simp only [execOp, ho]; go_simp; try rfl
    simp only [Act.put, List.setIfInBounds_toArray, List.set_cons_zero, List.set_cons_succ]
    refine heldTake (d := some 38) (op := Op.move (Operand.tmp 8)) (g := some (1, true)) 2 ?v2k5 rfl (by kernel_rfl) (by kernel_rfl) (by kernel_rfl) (by kernel_rfl) ?y2k5 HS0 ?_
    case y2k5 => intro o ho w _; simp only [execOp, ho]; go_simp; try rfl
    simp only [Act.put, List.setIfInBounds_toArray, List.set_cons_zero, List.set_cons_succ]
    refine heldTake (d := some 39) (op := Op.call { callee := Callee.builtin Builtin.len, args := #[Operand.tmp 38], argTypes := #[28] }) (g := some (1, true)) 3 ?v3k5 rfl (by kernel_rfl) (by kernel_rfl) (by kernel_rfl) (by kernel_rfl) ?y3k5 HS0 ?_
    case y3k5 => intro o ho w _; simp only [execOp, ho]; go_simp; try rfl
    simp only [Act.put, List.setIfInBounds_toArray, List.set_cons_zero, List.set_cons_succ]
    refine heldTake (d := some 40) (op := Op.binOp BinOp.eql 3 (Operand.tmp 39) (Operand.const (Value.int IntKind.i64 1)) 3) (g := some (1, true)) 4 ?v4k5 rfl (by kernel_rfl) (by kernel_rfl) (by kernel_rfl) (by kernel_rfl) ?y4k5 HS0 ?_
    case y4k5 => intro o ho w _; simp only [execOp, ho]; go_simp; try rfl
    simp only [Act.put, List.setIfInBounds_toArray, List.set_cons_zero, List.set_cons_succ]
    refine heldTake (d := some 41) (op := Op.pick (Operand.tmp 37) (Operand.tmp 40) (Operand.const (Value.bool false))) (g := none) 5 ?v5k5 rfl (by kernel_rfl) (by kernel_rfl) (by kernel_rfl) (by kernel_rfl) ?y5k5 HS0 ?_
    case y5k5 => intro o ho w _; simp only [execOp, ho]; go_simp; try rfl
    simp only [Act.put, List.setIfInBounds_toArray, List.set_cons_zero, List.set_cons_succ]
    refine heldTake (d := some 42) (op := Op.move (Operand.tmp 41)) (g := none) 6 ?v6k5 rfl (by kernel_rfl) (by kernel_rfl) (by kernel_rfl) (by kernel_rfl) ?y6k5 HS0 ?_
    case y6k5 => intro o ho w _; simp only [execOp, ho]; go_simp; try rfl
    simp only [Act.put, List.setIfInBounds_toArray, List.set_cons_zero, List.set_cons_succ]
    refine heldSkip (d := some 43) (op := Op.move (Operand.tmp 8)) (g := some (6, true)) 7 rfl (by kernel_rfl) (by kernel_rfl) (by kernel_rfl) (by kernel_rfl) HS0 ?_
    simp only [Act.put, List.setIfInBounds_toArray, List.set_cons_zero, List.set_cons_succ]
    refine heldSkip (d := some 44) (op := Op.indexAddr 28 (Operand.tmp 43) (Operand.const (Value.int IntKind.i64 0))) (g := some (6, true)) 8 rfl (by kernel_rfl) (by kernel_rfl) (by kernel_rfl) (by kernel_rfl) HS0 ?_
    simp only [Act.put, List.setIfInBounds_toArray, List.set_cons_zero, List.set_cons_succ]
    refine heldSkip (d := some 45) (op := Op.load 9 (Operand.tmp 44)) (g := some (6, true)) 9 rfl (by kernel_rfl) (by kernel_rfl) (by kernel_rfl) (by kernel_rfl) HS0 ?_
    simp only [Act.put, List.setIfInBounds_toArray, List.set_cons_zero, List.set_cons_succ]
    refine heldSkip (d := some 46) (op := Op.move (Operand.tmp 1)) (g := some (6, true)) 10 rfl (by kernel_rfl) (by kernel_rfl) (by kernel_rfl) (by kernel_rfl) HS0 ?_
    simp only [Act.put, List.setIfInBounds_toArray, List.set_cons_zero, List.set_cons_succ]
    refine heldSkip (d := some 47) (op := Op.call { callee := Callee.value (Operand.func 20), args := #[Operand.tmp 46], argTypes := #[9] }) (g := some (6, true)) 11 rfl (by kernel_rfl) (by kernel_rfl) (by kernel_rfl) (by kernel_rfl) HS0 ?_
    simp only [Act.put, List.setIfInBounds_toArray, List.set_cons_zero, List.set_cons_succ]
    refine heldSkip (d := some 48) (op := Op.binOp BinOp.eql 9 (Operand.tmp 45) (Operand.tmp 47) 9) (g := some (6, true)) 12 rfl (by kernel_rfl) (by kernel_rfl) (by kernel_rfl) (by kernel_rfl) HS0 ?_
    simp only [Act.put, List.setIfInBounds_toArray, List.set_cons_zero, List.set_cons_succ]
    refine heldTake (d := some 49) (op := Op.pick (Operand.tmp 42) (Operand.tmp 48) (Operand.const (Value.bool false))) (g := none) 13 ?v13k5 rfl (by kernel_rfl) (by kernel_rfl) (by kernel_rfl) (by kernel_rfl) ?y13k5 HS0 ?_
    case y13k5 => intro o ho w _; simp only [execOp, ho]; go_simp; try rfl
    simp only [Act.put, List.setIfInBounds_toArray, List.set_cons_zero, List.set_cons_succ]
    refine heldTake (d := some 50) (op := Op.move (Operand.tmp 49)) (g := none) 14 ?v14k5 rfl (by kernel_rfl) (by kernel_rfl) (by kernel_rfl) (by kernel_rfl) ?y14k5 HS0 ?_
    case y14k5 => intro o ho w _; simp only [execOp, ho]; go_simp; try rfl
    simp only [Act.put, List.setIfInBounds_toArray, List.set_cons_zero, List.set_cons_succ]
    refine heldSkip (d := some 51) (op := Op.load 25 (Operand.tmp 3)) (g := some (14, true)) 15 rfl (by kernel_rfl) (by kernel_rfl) (by kernel_rfl) (by kernel_rfl) HS0 ?_
    simp only [Act.put, List.setIfInBounds_toArray, List.set_cons_zero, List.set_cons_succ]
    refine heldSkip (d := some 52) (op := Op.call { callee := Callee.value (Operand.func 38), args := #[Operand.tmp 51, Operand.const (Value.string { data := #[83, 101, 99, 45, 87, 101, 98, 83, 111, 99, 107, 101, 116, 45, 69, 120, 116, 101, 110, 115, 105, 111, 110, 115] })], argTypes := #[25, 9] }) (g := some (14, true)) 16 rfl (by kernel_rfl) (by kernel_rfl) (by kernel_rfl) (by kernel_rfl) HS0 ?_
    simp only [Act.put, List.setIfInBounds_toArray, List.set_cons_zero, List.set_cons_succ]
    refine heldSkip (d := some 53) (op := Op.call { callee := Callee.builtin Builtin.len, args := #[Operand.tmp 52], argTypes := #[28] }) (g := some (14, true)) 17 rfl (by kernel_rfl) (by kernel_rfl) (by kernel_rfl) (by kernel_rfl) HS0 ?_
    simp only [Act.put, List.setIfInBounds_toArray, List.set_cons_zero, List.set_cons_succ]
    refine heldSkip (d := some 54) (op := Op.binOp BinOp.eql 3 (Operand.tmp 53) (Operand.const (Value.int IntKind.i64 0)) 3) (g := some (14, true)) 18 rfl (by kernel_rfl) (by kernel_rfl) (by kernel_rfl) (by kernel_rfl) HS0 ?_
    simp only [Act.put, List.setIfInBounds_toArray, List.set_cons_zero, List.set_cons_succ]
    refine heldTake (d := some 55) (op := Op.pick (Operand.tmp 50) (Operand.tmp 54) (Operand.const (Value.bool false))) (g := none) 19 ?v19k5 rfl (by kernel_rfl) (by kernel_rfl) (by kernel_rfl) (by kernel_rfl) ?y19k5 HS0 ?_
    case y19k5 => intro o ho w _; simp only [execOp, ho]; go_simp; try rfl
    simp only [Act.put, List.setIfInBounds_toArray, List.set_cons_zero, List.set_cons_succ]
    refine heldTake (d := some 56) (op := Op.move (Operand.tmp 55)) (g := none) 20 ?v20k5 rfl (by kernel_rfl) (by kernel_rfl) (by kernel_rfl) (by kernel_rfl) ?y20k5 HS0 ?_
    case y20k5 => intro o ho w _; simp only [execOp, ho]; go_simp; try rfl
    simp only [Act.put, List.setIfInBounds_toArray, List.set_cons_zero, List.set_cons_succ]
    refine heldSkip (d := some 57) (op := Op.move (Operand.tmp 9)) (g := some (20, true)) 21 rfl (by kernel_rfl) (by kernel_rfl) (by kernel_rfl) (by kernel_rfl) HS0 ?_
    simp only [Act.put, List.setIfInBounds_toArray, List.set_cons_zero, List.set_cons_succ]
    refine heldSkip (d := some 58) (op := Op.call { callee := Callee.builtin Builtin.len, args := #[Operand.tmp 57], argTypes := #[28] }) (g := some (20, true)) 22 rfl (by kernel_rfl) (by kernel_rfl) (by kernel_rfl) (by kernel_rfl) HS0 ?_
    simp only [Act.put, List.setIfInBounds_toArray, List.set_cons_zero, List.set_cons_succ]
    refine heldSkip (d := some 59) (op := Op.binOp BinOp.leq 3 (Operand.tmp 58) (Operand.const (Value.int IntKind.i64 1)) 3) (g := some (20, true)) 23 rfl (by kernel_rfl) (by kernel_rfl) (by kernel_rfl) (by kernel_rfl) HS0 ?_
    simp only [Act.put, List.setIfInBounds_toArray, List.set_cons_zero, List.set_cons_succ]
    refine heldTake (d := some 60) (op := Op.pick (Operand.tmp 56) (Operand.tmp 59) (Operand.const (Value.bool false))) (g := none) 24 ?v24k5 rfl (by kernel_rfl) (by kernel_rfl) (by kernel_rfl) (by kernel_rfl) ?y24k5 HS0 ?_
    case y24k5 => intro o ho w _; simp only [execOp, ho]; go_simp; try rfl
    simp only [Act.put, List.setIfInBounds_toArray, List.set_cons_zero, List.set_cons_succ]
    refine heldTake (d := some 10) (op := Op.assign (Operand.tmp 60)) (g := none) 25 ?v25k5 rfl (by kernel_rfl) (by kernel_rfl) (by kernel_rfl) (by kernel_rfl) ?y25k5 HS0 ?_
    case y25k5 => intro o ho w _; simp only [execOp, ho]; go_simp; try rfl
    simp only [Act.put, List.setIfInBounds_toArray, List.set_cons_zero, List.set_cons_succ]
    refine wpAnyH_done (by kernel_rfl) ?_ _
    refine NoPanic.normal ?_
    go_wp2
    go_ret2
    exact ⟨by rw [RN.out (by exact HNO.out hm)]; rfl, HBR⟩
  have hm1 : ((1 : Int) == 1) = true := by simp
  have HYE2 := Sl.mk (HYE.out hm)
  clear HNO HYE
  subst hm
  obtain ⟨xa, rfl⟩ := list_one3 Ma.out
  have HYE3 := Sl.mk (HYE2.out xa rfl)
  clear HYE2
  obtain ⟨sa, oa, rfl, ca0⟩ := strA_one3 HSa6.out
  clear ca0
  cases ec : (xa.toList == acc.toList) with
  | false =>
    obtain ⟨R, hR⟩ : ∃ R, w6.drew = R := ⟨_, rfl⟩
    have HER : Sl (Below w6.heap.size w6 R) := ⟨by rw [← hR]; exact (Below.refl _ _).drew⟩
    have HBR := Sl.mk (below_trans HB6.out HER.out)
    have HXR := Sl.mk (box_below HX6.out HER.out)
    have HSgR := Sl.mk (HSg6.out.below HER.out)
    obtain ⟨_, _, ea, ca0⟩ := strA_one3 (HSa6.out.below HER.out)
    injection ea with ea
    injection ea with ea1 ea2 ea3
    subst ea1 ea2
    clear ea3
    have HS0 : Below w.heap.size w R ∧ R.heap[w.heap.size]? = some (.cells #[.string h.a, .string h.b, .string h.c, .slice bd nf bc] 25 (0, 0)) ∧ R.cell? ⟨sa, oa, none⟩ = some (.string xa) := ⟨HBR.out, HXR.out, ca0⟩
    clear ca0
    clear HER
    refine wp_region_noPanic ?_
    refine wp_region_held (S := fun V => Below w.heap.size w V ∧ V.heap[w.heap.size]? = some (.cells #[.string h.a, .string h.b, .string h.c, .slice bd nf bc] 25 (0, 0)) ∧ V.cell? ⟨sa, oa, none⟩ = some (.string xa)) (by kernel_rfl) ?_
    change wpAnyH _ _ _ _ _ _ _ _ w6.drew
    rw [hR]
    clear hR
    refine heldTake (d := some 36) (op := Op.move (Operand.tmp 10)) (g := none) 0 ?v0k6 rfl (by kernel_rfl) (by kernel_rfl) (by kernel_rfl) (by kernel_rfl) ?y0k6 HS0 ?_
    case y0k6 => intro o ho w _; simp only [execOp, ho]; go_simp; try rfl
    simp only [Act.put, List.setIfInBounds_toArray, List.set_cons_zero, List.set_cons_succ]
    refine heldTake (d := some 37) (op := Op.move (Operand.tmp 36)) (g := none) 1 ?v1k6 rfl (by kernel_rfl) (by kernel_rfl) (by kernel_rfl) (by kernel_rfl) ?y1k6 HS0 ?_
    case y1k6 => intro o ho w _; simp only [execOp, ho]; go_simp; try rfl
    simp only [Act.put, List.setIfInBounds_toArray, List.set_cons_zero, List.set_cons_succ]
    refine heldTake (d := some 38) (op := Op.move (Operand.tmp 8)) (g := some (1, true)) 2 ?v2k6 rfl (by kernel_rfl) (by kernel_rfl) (by kernel_rfl) (by kernel_rfl) ?y2k6 HS0 ?_
    case y2k6 => intro o ho w _; simp only [execOp, ho]; go_simp; try rfl
    simp only [Act.put, List.setIfInBounds_toArray, List.set_cons_zero, List.set_cons_succ]
    refine heldTake (d := some 39) (op := Op.call { callee := Callee.builtin Builtin.len, args := #[Operand.tmp 38], argTypes := #[28] }) (g := some (1, true)) 3 ?v3k6 rfl (by kernel_rfl) (by kernel_rfl) (by kernel_rfl) (by kernel_rfl) ?y3k6 HS0 ?_
    case y3k6 => intro o ho w _; simp only [execOp, ho]; go_simp; try rfl
    simp only [Act.put, List.setIfInBounds_toArray, List.set_cons_zero, List.set_cons_succ]
    refine heldTake (d := some 40) (op := Op.binOp BinOp.eql 3 (Operand.tmp 39) (Operand.const (Value.int IntKind.i64 1)) 3) (g := some (1, true)) 4 ?v4k6 rfl (by kernel_rfl) (by kernel_rfl) (by kernel_rfl) (by kernel_rfl) ?y4k6 HS0 ?_
    case y4k6 => intro o ho w _; simp only [execOp, ho]; go_simp; try rfl
    simp only [Act.put, List.setIfInBounds_toArray, List.set_cons_zero, List.set_cons_succ]
    refine heldTake (d := some 41) (op := Op.pick (Operand.tmp 37) (Operand.tmp 40) (Operand.const (Value.bool false))) (g := none) 5 ?v5k6 rfl (by kernel_rfl) (by kernel_rfl) (by kernel_rfl) (by kernel_rfl) ?y5k6 HS0 ?_
    case y5k6 => intro o ho w _; simp only [execOp, ho]; go_simp; try rfl
    simp only [Act.put, List.setIfInBounds_toArray, List.set_cons_zero, List.set_cons_succ]
    refine heldTake (d := some 42) (op := Op.move (Operand.tmp 41)) (g := none) 6 ?v6k6 rfl (by kernel_rfl) (by kernel_rfl) (by kernel_rfl) (by kernel_rfl) ?y6k6 HS0 ?_
    case y6k6 => intro o ho w _; simp only [execOp, ho]; go_simp; try rfl
    simp only [Act.put, List.setIfInBounds_toArray, List.set_cons_zero, List.set_cons_succ]
    refine heldTake (d := some 43) (op := Op.move (Operand.tmp 8)) (g := some (6, true)) 7 ?v7k6 rfl (by kernel_rfl) (by kernel_rfl) (by kernel_rfl) (by kernel_rfl) ?y7k6 HS0 ?_
    case y7k6 => intro o ho w _; simp only [execOp, ho]; go_simp; try rfl
    simp only [Act.put, List.setIfInBounds_toArray, List.set_cons_zero, List.set_cons_succ]
    refine heldTake (d := some 44) (op := Op.indexAddr 28 (Operand.tmp 43) (Operand.const (Value.int IntKind.i64 0))) (g := some (6, true)) 8 ?v8k6 rfl (by kernel_rfl) (by kernel_rfl) (by kernel_rfl) (by kernel_rfl) ?y8k6 HS0 ?_
    case y8k6 => intro o ho w _; simp only [execOp, ho]; go_simp; try rfl
    simp only [Act.put, List.setIfInBounds_toArray, List.set_cons_zero, List.set_cons_succ]
    refine heldTake (d := some 45) (op := Op.load 9 (Operand.tmp 44)) (g := some (6, true)) 9 ?v9k6 rfl (by kernel_rfl) (by kernel_rfl) (by kernel_rfl) (by kernel_rfl) ?y9k6 HS0 ?_
    case y9k6 => intro o ho w hS; have c0 := hS.2.2; simp only [execOp, ho]; go_simp; try rfl
    simp only [Act.put, List.setIfInBounds_toArray, List.set_cons_zero, List.set_cons_succ]
    refine heldTake (d := some 46) (op := Op.move (Operand.tmp 1)) (g := some (6, true)) 10 ?v10k6 rfl (by kernel_rfl) (by kernel_rfl) (by kernel_rfl) (by kernel_rfl) ?y10k6 HS0 ?_
    case y10k6 => intro o ho w _; simp only [execOp, ho]; go_simp; try rfl
    simp only [Act.put, List.setIfInBounds_toArray, List.set_cons_zero, List.set_cons_succ]
    refine heldCall (d := some 47) (op := Op.call { callee := Callee.value (Operand.func 20), args := #[Operand.tmp 46], argTypes := #[9] }) (g := some (6, true)) 11 20 ?a11k6 rfl (by kernel_rfl) (by kernel_rfl) ?y11k6 ?_
    case y11k6 => intro o ho; simp only [execOp, ho]; go_simp; try rfl
    refine (CA.out _).mono ?_
    rintro e R2 ⟨rfl, HE2⟩
    have HB2' := Sl.mk (below_trans HBR.out HE2.out)
    have HSg2' := Sl.mk (HSgR.out.below HE2.out)
    have HS2 : Below w.heap.size w R2 ∧ R2.heap[w.heap.size]? = some (.cells #[.string h.a, .string h.b, .string h.c, .slice bd nf bc] 25 (0, 0)) ∧ R2.cell? ⟨sa, oa, none⟩ = some (.string xa) := ⟨HB2'.out, box_below HS0.2.1 HE2.out, by rw [HE2.out.cell (p := ⟨sa, oa, none⟩) (block_lt_of_cell HS0.2.2)]; exact HS0.2.2⟩
    refine ⟨_, rfl, HS2, ?_⟩
    clear HE2
    simp only [Act.put, List.setIfInBounds_toArray, List.set_cons_zero, List.set_cons_succ]
    refine heldTake (d := some 48) (op := Op.binOp BinOp.eql 9 (Operand.tmp 45) (Operand.tmp 47) 9) (g := some (6, true)) 12 ?v12k6 rfl (by kernel_rfl) (by kernel_rfl) (by kernel_rfl) (by kernel_rfl) ?y12k6 HS2 ?_
    case y12k6 => intro o ho w _; simp only [execOp, ho]; go_simp; try rfl
    simp only [Act.put, List.setIfInBounds_toArray, List.set_cons_zero, List.set_cons_succ]
    refine heldTake (d := some 49) (op := Op.pick (Operand.tmp 42) (Operand.tmp 48) (Operand.const (Value.bool false))) (g := none) 13 ?v13k6 rfl (by kernel_rfl) (by kernel_rfl) (by kernel_rfl) (by kernel_rfl) ?y13k6 HS2 ?_
    case y13k6 => intro o ho w _; simp only [execOp, ho]; go_simp; try rfl
    simp only [Act.put, List.setIfInBounds_toArray, List.set_cons_zero, List.set_cons_succ]
    refine heldTake (d := some 50) (op := Op.move (Operand.tmp 49)) (g := none) 14 ?v14k6 rfl (by kernel_rfl) (by kernel_rfl) (by kernel_rfl) (by kernel_rfl) ?y14k6 HS2 ?_
    case y14k6 => intro o ho w _; simp only [execOp, ho]; go_simp; try rfl
    simp only [Act.put, List.setIfInBounds_toArray, List.set_cons_zero, List.set_cons_succ]
    refine heldSkip (d := some 51) (op := Op.load 25 (Operand.tmp 3)) (g := some (14, true)) 15 rfl (by kernel_rfl) (by kernel_rfl) (by kernel_rfl) (by kernel_rfl) HS2 ?_
    simp only [Act.put, List.setIfInBounds_toArray, List.set_cons_zero, List.set_cons_succ]
    refine heldSkip (d := some 52) (op := Op.call { callee := Callee.value (Operand.func 38), args := #[Operand.tmp 51, Operand.const (Value.string { data := #[83, 101, 99, 45, 87, 101, 98, 83, 111, 99, 107, 101, 116, 45, 69, 120, 116, 101, 110, 115, 105, 111, 110, 115] })], argTypes := #[25, 9] }) (g := some (14, true)) 16 rfl (by kernel_rfl) (by kernel_rfl) (by kernel_rfl) (by kernel_rfl) HS2 ?_
    simp only [Act.put, List.setIfInBounds_toArray, List.set_cons_zero, List.set_cons_succ]
    refine heldSkip (d := some 53) (op := Op.call { callee := Callee.builtin Builtin.len, args := #[Operand.tmp 52], argTypes := #[28] }) (g := some (14, true)) 17 rfl (by kernel_rfl) (by kernel_rfl) (by kernel_rfl) (by kernel_rfl) HS2 ?_
    simp only [Act.put, List.setIfInBounds_toArray, List.set_cons_zero, List.set_cons_succ]
    refine heldSkip (d := some 54) (op := Op.binOp BinOp.eql 3 (Operand.tmp 53) (Operand.const (Value.int IntKind.i64 0)) 3) (g := some (14, true)) 18 rfl (by kernel_rfl) (by kernel_rfl) (by kernel_rfl) (by kernel_rfl) HS2 ?_
    simp only [Act.put, List.setIfInBounds_toArray, List.set_cons_zero, List.set_cons_succ]
    refine heldTake (d := some 55) (op := Op.pick (Operand.tmp 50) (Operand.tmp 54) (Operand.const (Value.bool false))) (g := none) 19 ?v19k6 rfl (by kernel_rfl) (by kernel_rfl) (by kernel_rfl) (by kernel_rfl) ?y19k6 HS2 ?_
    case y19k6 => intro o ho w _; simp only [execOp, ho]; go_simp; try rfl
    simp only [Act.put, List.setIfInBounds_toArray, List.set_cons_zero, List.set_cons_succ]
    refine heldTake (d := some 56) (op := Op.move (Operand.tmp 55)) (g := none) 20 ?v20k6 rfl (by kernel_rfl) (by kernel_rfl) (by kernel_rfl) (by kernel_rfl) ?y20k6 HS2 ?_
    case y20k6 => intro o ho w _; simp only [execOp, ho]; go_simp; try rfl
    simp only [Act.put, List.setIfInBounds_toArray, List.set_cons_zero, List.set_cons_succ]
    refine heldSkip (d := some 57) (op := Op.move (Operand.tmp 9)) (g := some (20, true)) 21 rfl (by kernel_rfl) (by kernel_rfl) (by kernel_rfl) (by kernel_rfl) HS2 ?_
    simp only [Act.put, List.setIfInBounds_toArray, List.set_cons_zero, List.set_cons_succ]
    refine heldSkip (d := some 58) (op := Op.call { callee := Callee.builtin Builtin.len, args := #[Operand.tmp 57], argTypes := #[28] }) (g := some (20, true)) 22 rfl (by kernel_rfl) (by kernel_rfl) (by kernel_rfl) (by kernel_rfl) HS2 ?_
    simp only [Act.put, List.setIfInBounds_toArray, List.set_cons_zero, List.set_cons_succ]
    refine heldSkip (d := some 59) (op := Op.binOp BinOp.leq 3 (Operand.tmp 58) (Operand.const (Value.int IntKind.i64 1)) 3) (g := some (20, true)) 23 rfl (by kernel_rfl) (by kernel_rfl) (by kernel_rfl) (by kernel_rfl) HS2 ?_
    simp only [Act.put, List.setIfInBounds_toArray, List.set_cons_zero, List.set_cons_succ]
    refine heldTake (d := some 60) (op := Op.pick (Operand.tmp 56) (Operand.tmp 59) (Operand.const (Value.bool false))) (g := none) 24 ?v24k6 rfl (by kernel_rfl) (by kernel_rfl) (by kernel_rfl) (by kernel_rfl) ?y24k6 HS2 ?_
    case y24k6 => intro o ho w _; simp only [execOp, ho]; go_simp; try rfl
    simp only [Act.put, List.setIfInBounds_toArray, List.set_cons_zero, List.set_cons_succ]
    refine heldTake (d := some 10) (op := Op.assign (Operand.tmp 60)) (g := none) 25 ?v25k6 rfl (by kernel_rfl) (by kernel_rfl) (by kernel_rfl) (by kernel_rfl) ?y25k6 HS2 ?_
    case y25k6 => intro o ho w _; simp only [execOp, ho]; go_simp; try rfl
    simp only [Act.put, List.setIfInBounds_toArray, List.set_cons_zero, List.set_cons_succ]
    refine wpAnyH_done (by kernel_rfl) ?_ _
    refine NoPanic.normal ?_
    go_wp2
    go_ret2
    exact ⟨by rw [RN.out (by rw [HYE3.out, ec]; rfl)]; rfl, HB2'⟩
  | true =>
  by_cases hx : mx = 0
  rotate_left
  · have hx1 : ((mx : Int) == 0) = false := by simp; omega
    obtain ⟨R, hR⟩ : ∃ R, w6.drew = R := ⟨_, rfl⟩
    have HER : Sl (Below w6.heap.size w6 R) := ⟨by rw [← hR]; exact (Below.refl _ _).drew⟩
    have HBR := Sl.mk (below_trans HB6.out HER.out)
    have HXR := Sl.mk (box_below HX6.out HER.out)
    have HSgR := Sl.mk (HSg6.out.below HER.out)
    obtain ⟨_, _, ea, ca0⟩ := strA_one3 (HSa6.out.below HER.out)
    injection ea with ea
    injection ea with ea1 ea2 ea3
    subst ea1 ea2
    clear ea3
    have HS0 : Below w.heap.size w R ∧ R.heap[w.heap.size]? = some (.cells #[.string h.a, .string h.b, .string h.c, .slice bd nf bc] 25 (0, 0)) ∧ R.cell? ⟨sa, oa, none⟩ = some (.string xa) := ⟨HBR.out, HXR.out, ca0⟩
    clear ca0
    clear HER
    refine wp_region_noPanic ?_
    refine wp_region_held (S := fun V => Below w.heap.size w V ∧ V.heap[w.heap.size]? = some (.cells #[.string h.a, .string h.b, .string h.c, .slice bd nf bc] 25 (0, 0)) ∧ V.cell? ⟨sa, oa, none⟩ = some (.string xa)) (by kernel_rfl) ?_
    change wpAnyH _ _ _ _ _ _ _ _ w6.drew
    rw [hR]
    clear hR
    refine heldTake (d := some 36) (op := Op.move (Operand.tmp 10)) (g := none) 0 ?v0k7 rfl (by kernel_rfl) (by kernel_rfl) (by kernel_rfl) (by kernel_rfl) ?y0k7 HS0 ?_
    case y0k7 => intro o ho w _; simp only [execOp, ho]; go_simp; try rfl
    simp only [Act.put, List.setIfInBounds_toArray, List.set_cons_zero, List.set_cons_succ]
    refine heldTake (d := some 37) (op := Op.move (Operand.tmp 36)) (g := none) 1 ?v1k7 rfl (by kernel_rfl) (by kernel_rfl) (by kernel_rfl) (by kernel_rfl) ?y1k7 HS0 ?_
    case y1k7 => intro o ho w _; simp only [execOp, ho]; go_simp; try rfl
    simp only [Act.put, List.setIfInBounds_toArray, List.set_cons_zero, List.set_cons_succ]
    refine heldTake (d := some 38) (op := Op.move (Operand.tmp 8)) (g := some (1, true)) 2 ?v2k7 rfl (by kernel_rfl) (by kernel_rfl) (by kernel_rfl) (by kernel_rfl) ?y2k7 HS0 ?_
    case y2k7 => intro o ho w _; simp only [execOp, ho]; go_simp; try rfl
    simp only [Act.put, List.setIfInBounds_toArray, List.set_cons_zero, List.set_cons_succ]
    refine heldTake (d := some 39) (op := Op.call { callee := Callee.builtin Builtin.len, args := #[Operand.tmp 38], argTypes := #[28] }) (g := some (1, true)) 3 ?v3k7 rfl (by kernel_rfl) (by kernel_rfl) (by kernel_rfl) (by kernel_rfl) ?y3k7 HS0 ?_
    case y3k7 => intro o ho w _; simp only [execOp, ho]; go_simp; try rfl
    simp only [Act.put, List.setIfInBounds_toArray, List.set_cons_zero, List.set_cons_succ]
    refine heldTake (d := some 40) (op := Op.binOp BinOp.eql 3 (Operand.tmp 39) (Operand.const (Value.int IntKind.i64 1)) 3) (g := some (1, true)) 4 ?v4k7 rfl (by kernel_rfl) (by kernel_rfl) (by kernel_rfl) (by kernel_rfl) ?y4k7 HS0 ?_
    case y4k7 => intro o ho w _; simp only [execOp, ho]; go_simp; try rfl
    simp only [Act.put, List.setIfInBounds_toArray, List.set_cons_zero, List.set_cons_succ]
    refine heldTake (d := some 41) (op := Op.pick (Operand.tmp 37) (Operand.tmp 40) (Operand.const (Value.bool false))) (g := none) 5 ?v5k7 rfl (by kernel_rfl) (by kernel_rfl) (by kernel_rfl) (by kernel_rfl) ?y5k7 HS0 ?_
    case y5k7 => intro o ho w _; simp only [execOp, ho]; go_simp; try rfl
    simp only [Act.put, List.setIfInBounds_toArray, List.set_cons_zero, List.set_cons_succ]
    refine heldTake (d := some 42) (op := Op.move (Operand.tmp 41)) (g := none) 6 ?v6k7 rfl (by kernel_rfl) (by kernel_rfl) (by kernel_rfl) (by kernel_rfl) ?y6k7 HS0 ?_
    case y6k7 => intro o ho w _; simp only [execOp, ho]; go_simp; try rfl
    simp only [Act.put, List.setIfInBounds_toArray, List.set_cons_zero, List.set_cons_succ]
    refine heldTake (d := some 43) (op := Op.move (Operand.tmp 8)) (g := some (6, true)) 7 ?v7k7 rfl (by kernel_rfl) (by kernel_rfl) (by kernel_rfl) (by kernel_rfl) ?y7k7 HS0 ?_
    case y7k7 => intro o ho w _; simp only [execOp, ho]; go_simp; try rfl
    simp only [Act.put, List.setIfInBounds_toArray, List.set_cons_zero, List.set_cons_succ]
    refine heldTake (d := some 44) (op := Op.indexAddr 28 (Operand.tmp 43) (Operand.const (Value.int IntKind.i64 0))) (g := some (6, true)) 8 ?v8k7 rfl (by kernel_rfl) (by kernel_rfl) (by kernel_rfl) (by kernel_rfl) ?y8k7 HS0 ?_
    case y8k7 => intro o ho w _; simp only [execOp, ho]; go_simp; try rfl
    simp only [Act.put, List.setIfInBounds_toArray, List.set_cons_zero, List.set_cons_succ]
    refine heldTake (d := some 45) (op := Op.load 9 (Operand.tmp 44)) (g := some (6, true)) 9 ?v9k7 rfl (by kernel_rfl) (by kernel_rfl) (by kernel_rfl) (by kernel_rfl) ?y9k7 HS0 ?_
    case y9k7 => intro o ho w hS; have c0 := hS.2.2; simp only [execOp, ho]; go_simp; try rfl
    simp only [Act.put, List.setIfInBounds_toArray, List.set_cons_zero, List.set_cons_succ]
    refine heldTake (d := some 46) (op := Op.move (Operand.tmp 1)) (g := some (6, true)) 10 ?v10k7 rfl (by kernel_rfl) (by kernel_rfl) (by kernel_rfl) (by kernel_rfl) ?y10k7 HS0 ?_
    case y10k7 => intro o ho w _; simp only [execOp, ho]; go_simp; try rfl
    simp only [Act.put, List.setIfInBounds_toArray, List.set_cons_zero, List.set_cons_succ]
    refine heldCall (d := some 47) (op := Op.call { callee := Callee.value (Operand.func 20), args := #[Operand.tmp 46], argTypes := #[9] }) (g := some (6, true)) 11 20 ?a11k7 rfl (by kernel_rfl) (by kernel_rfl) ?y11k7 ?_
    case y11k7 => intro o ho; simp only [execOp, ho]; go_simp; try rfl
    refine (CA.out _).mono ?_
    rintro e R2 ⟨rfl, HE2⟩
    have HB2' := Sl.mk (below_trans HBR.out HE2.out)
    have HSg2' := Sl.mk (HSgR.out.below HE2.out)
    have HS2 : Below w.heap.size w R2 ∧ R2.heap[w.heap.size]? = some (.cells #[.string h.a, .string h.b, .string h.c, .slice bd nf bc] 25 (0, 0)) ∧ R2.cell? ⟨sa, oa, none⟩ = some (.string xa) := ⟨HB2'.out, box_below HS0.2.1 HE2.out, by rw [HE2.out.cell (p := ⟨sa, oa, none⟩) (block_lt_of_cell HS0.2.2)]; exact HS0.2.2⟩
    refine ⟨_, rfl, HS2, ?_⟩
    clear HE2
    simp only [Act.put, List.setIfInBounds_toArray, List.set_cons_zero, List.set_cons_succ]
    refine heldTake (d := some 48) (op := Op.binOp BinOp.eql 9 (Operand.tmp 45) (Operand.tmp 47) 9) (g := some (6, true)) 12 ?v12k7 rfl (by kernel_rfl) (by kernel_rfl) (by kernel_rfl) (by kernel_rfl) ?y12k7 HS2 ?_
    case y12k7 => intro o ho w _; simp only [execOp, ho]; go_simp; try rfl
    simp only [Act.put, List.setIfInBounds_toArray, List.set_cons_zero, List.set_cons_succ]
    refine heldTake (d := some 49) (op := Op.pick (Operand.tmp 42) (Operand.tmp 48) (Operand.const (Value.bool false))) (g := none) 13 ?v13k7 rfl (by kernel_rfl) (by kernel_rfl) (by kernel_rfl) (by kernel_rfl) ?y13k7 HS2 ?_
    case y13k7 => intro o ho w _; simp only [execOp, ho]; go_simp; try rfl
    simp only [Act.put, List.setIfInBounds_toArray, List.set_cons_zero, List.set_cons_succ]
    refine heldTake (d := some 50) (op := Op.move (Operand.tmp 49)) (g := none) 14 ?v14k7 rfl (by kernel_rfl) (by kernel_rfl) (by kernel_rfl) (by kernel_rfl) ?y14k7 HS2 ?_
    case y14k7 => intro o ho w _; simp only [execOp, ho]; go_simp; try rfl
    simp only [Act.put, List.setIfInBounds_toArray, List.set_cons_zero, List.set_cons_succ]
    refine heldTake (d := some 51) (op := Op.load 25 (Operand.tmp 3)) (g := some (14, true)) 15 ?v15k7 rfl (by kernel_rfl) (by kernel_rfl) (by kernel_rfl) (by kernel_rfl) ?y15k7 HS2 ?_
    case y15k7 => intro o ho w hS; obtain ⟨p0, p1, p2, p3⟩ := head_cells hS.2.1; simp only [execOp, ho]; go_simp; try rfl
    simp only [Act.put, List.setIfInBounds_toArray, List.set_cons_zero, List.set_cons_succ]
    refine heldCall (d := some 52) (op := Op.call { callee := Callee.value (Operand.func 38), args := #[Operand.tmp 51, Operand.const (Value.string { data := #[83, 101, 99, 45, 87, 101, 98, 83, 111, 99, 107, 101, 116, 45, 69, 120, 116, 101, 110, 115, 105, 111, 110, 115] })], argTypes := #[25, 9] }) (g := some (14, true)) 16 38 ?a16k7 rfl (by kernel_rfl) (by kernel_rfl) ?y16k7 ?_
    case y16k7 => intro o ho; simp only [execOp, ho]; go_simp; try rfl
    refine (Cx.out _ HB2'.out).mono ?_
    rintro e R3 ⟨⟨a3, c3, rfl, _⟩, HE3⟩
    have HB3' := Sl.mk (below_trans HB2'.out HE3.out)
    have HSg3' := Sl.mk (HSg2'.out.below HE3.out)
    have HS3 : Below w.heap.size w R3 ∧ R3.heap[w.heap.size]? = some (.cells #[.string h.a, .string h.b, .string h.c, .slice bd nf bc] 25 (0, 0)) ∧ R3.cell? ⟨sa, oa, none⟩ = some (.string xa) := ⟨HB3'.out, box_below HS2.2.1 HE3.out, by rw [HE3.out.cell (p := ⟨sa, oa, none⟩) (block_lt_of_cell HS2.2.2)]; exact HS2.2.2⟩
    refine ⟨_, rfl, HS3, ?_⟩
    clear HE3
    simp only [Act.put, List.setIfInBounds_toArray, List.set_cons_zero, List.set_cons_succ]
    refine heldTake (d := some 53) (op := Op.call { callee := Callee.builtin Builtin.len, args := #[Operand.tmp 52], argTypes := #[28] }) (g := some (14, true)) 17 ?v17k7 rfl (by kernel_rfl) (by kernel_rfl) (by kernel_rfl) (by kernel_rfl) ?y17k7 HS3 ?_
    case y17k7 => intro o ho w _; simp only [execOp, ho]; go_simp; try rfl
    simp only [Act.put, List.setIfInBounds_toArray, List.set_cons_zero, List.set_cons_succ]
    refine heldTake (d := some 54) (op := Op.binOp BinOp.eql 3 (Operand.tmp 53) (Operand.const (Value.int IntKind.i64 0)) 3) (g := some (14, true)) 18 ?v18k7 rfl (by kernel_rfl) (by kernel_rfl) (by kernel_rfl) (by kernel_rfl) ?y18k7 HS3 ?_
    case y18k7 => intro o ho w _; simp only [execOp, ho]; go_simp; try rfl
    simp only [Act.put, List.setIfInBounds_toArray, List.set_cons_zero, List.set_cons_succ]
    refine heldTake (d := some 55) (op := Op.pick (Operand.tmp 50) (Operand.tmp 54) (Operand.const (Value.bool false))) (g := none) 19 ?v19k7 rfl (by kernel_rfl) (by kernel_rfl) (by kernel_rfl) (by kernel_rfl) ?y19k7 HS3 ?_
    case y19k7 => intro o ho w _; simp only [execOp, ho]; go_simp; try rfl
    simp only [Act.put, List.setIfInBounds_toArray, List.set_cons_zero, List.set_cons_succ]
    refine heldTake (d := some 56) (op := Op.move (Operand.tmp 55)) (g := none) 20 ?v20k7 rfl (by kernel_rfl) (by kernel_rfl) (by kernel_rfl) (by kernel_rfl) ?y20k7 HS3 ?_
    case y20k7 => intro o ho w _; simp only [execOp, ho]; go_simp; try rfl
    simp only [Act.put, List.setIfInBounds_toArray, List.set_cons_zero, List.set_cons_succ]
    refine heldSkip (d := some 57) (op := Op.move (Operand.tmp 9)) (g := some (20, true)) 21 rfl (by kernel_rfl) (by kernel_rfl) (by kernel_rfl) (by kernel_rfl) HS3 ?_
    simp only [Act.put, List.setIfInBounds_toArray, List.set_cons_zero, List.set_cons_succ]
    refine heldSkip (d := some 58) (op := Op.call { callee := Callee.builtin Builtin.len, args := #[Operand.tmp 57], argTypes := #[28] }) (g := some (20, true)) 22 rfl (by kernel_rfl) (by kernel_rfl) (by kernel_rfl) (by kernel_rfl) HS3 ?_
    simp only [Act.put, List.setIfInBounds_toArray, List.set_cons_zero, List.set_cons_succ]
    refine heldSkip (d := some 59) (op := Op.binOp BinOp.leq 3 (Operand.tmp 58) (Operand.const (Value.int IntKind.i64 1)) 3) (g := some (20, true)) 23 rfl (by kernel_rfl) (by kernel_rfl) (by kernel_rfl) (by kernel_rfl) HS3 ?_
    simp only [Act.put, List.setIfInBounds_toArray, List.set_cons_zero, List.set_cons_succ]
    refine heldTake (d := some 60) (op := Op.pick (Operand.tmp 56) (Operand.tmp 59) (Operand.const (Value.bool false))) (g := none) 24 ?v24k7 rfl (by kernel_rfl) (by kernel_rfl) (by kernel_rfl) (by kernel_rfl) ?y24k7 HS3 ?_
    case y24k7 => intro o ho w _; simp only [execOp, ho]; go_simp; try rfl
    simp only [Act.put, List.setIfInBounds_toArray, List.set_cons_zero, List.set_cons_succ]
    refine heldTake (d := some 10) (op := Op.assign (Operand.tmp 60)) (g := none) 25 ?v25k7 rfl (by kernel_rfl) (by kernel_rfl) (by kernel_rfl) (by kernel_rfl) ?y25k7 HS3 ?_
    case y25k7 => intro o ho w _; simp only [execOp, ho]; go_simp; try rfl
    simp only [Act.put, List.setIfInBounds_toArray, List.set_cons_zero, List.set_cons_succ]
    refine wpAnyH_done (by kernel_rfl) ?_ _
    refine NoPanic.normal ?_
    go_wp2
    go_ret2
    exact ⟨by rw [RN.out (by rw [HYE3.out, decide_eq_false hx, Bool.and_false])]; rfl, HB3'⟩
  have HGR : Sl (grantedB h key = true) := ⟨by rw [HYE3.out, ec, decide_eq_true hx]; rfl⟩
  have HV := Sl.mk (RY.out HGR.out)
  have hx1 : ((mx : Int) == 0) = true := by simp [hx]
  clear hx RN RY HYE3 HGR
  by_cases hg2 : mg ≤ 1
  rotate_left
  · have hg3 : ((mg : Int) ≤ 1) = False := eq_false (by omega)
    have HV2 : Sl (checkV h key l = none) := ⟨by rw [HV.out, if_neg (by omega), if_neg (by omega)]⟩
    obtain ⟨R, hR⟩ : ∃ R, w6.drew = R := ⟨_, rfl⟩
    have HER : Sl (Below w6.heap.size w6 R) := ⟨by rw [← hR]; exact (Below.refl _ _).drew⟩
    have HBR := Sl.mk (below_trans HB6.out HER.out)
    have HXR := Sl.mk (box_below HX6.out HER.out)
    have HSgR := Sl.mk (HSg6.out.below HER.out)
    obtain ⟨_, _, ea, ca0⟩ := strA_one3 (HSa6.out.below HER.out)
    injection ea with ea
    injection ea with ea1 ea2 ea3
    subst ea1 ea2
    clear ea3
    have HS0 : Below w.heap.size w R ∧ R.heap[w.heap.size]? = some (.cells #[.string h.a, .string h.b, .string h.c, .slice bd nf bc] 25 (0, 0)) ∧ R.cell? ⟨sa, oa, none⟩ = some (.string xa) := ⟨HBR.out, HXR.out, ca0⟩
    clear ca0
    clear HER
    refine wp_region_noPanic ?_
    refine wp_region_held (S := fun V => Below w.heap.size w V ∧ V.heap[w.heap.size]? = some (.cells #[.string h.a, .string h.b, .string h.c, .slice bd nf bc] 25 (0, 0)) ∧ V.cell? ⟨sa, oa, none⟩ = some (.string xa)) (by kernel_rfl) ?_
    change wpAnyH _ _ _ _ _ _ _ _ w6.drew
    rw [hR]
    clear hR
    refine heldTake (d := some 36) (op := Op.move (Operand.tmp 10)) (g := none) 0 ?v0k8 rfl (by kernel_rfl) (by kernel_rfl) (by kernel_rfl) (by kernel_rfl) ?y0k8 HS0 ?_
    case y0k8 => intro o ho w _; simp only [execOp, ho]; go_simp; try rfl
    simp only [Act.put, List.setIfInBounds_toArray, List.set_cons_zero, List.set_cons_succ]
    refine heldTake (d := some 37) (op := Op.move (Operand.tmp 36)) (g := none) 1 ?v1k8 rfl (by kernel_rfl) (by kernel_rfl) (by kernel_rfl) (by kernel_rfl) ?y1k8 HS0 ?_
    case y1k8 => intro o ho w _; simp only [execOp, ho]; go_simp; try rfl
    simp only [Act.put, List.setIfInBounds_toArray, List.set_cons_zero, List.set_cons_succ]
    refine heldTake (d := some 38) (op := Op.move (Operand.tmp 8)) (g := some (1, true)) 2 ?v2k8 rfl (by kernel_rfl) (by kernel_rfl) (by kernel_rfl) (by kernel_rfl) ?y2k8 HS0 ?_
    case y2k8 => intro o ho w _; simp only [execOp, ho]; go_simp; try rfl
    simp only [Act.put, List.setIfInBounds_toArray, List.set_cons_zero, List.set_cons_succ]
    refine heldTake (d := some 39) (op := Op.call { callee := Callee.builtin Builtin.len, args := #[Operand.tmp 38], argTypes := #[28] }) (g := some (1, true)) 3 ?v3k8 rfl (by kernel_rfl) (by kernel_rfl) (by kernel_rfl) (by kernel_rfl) ?y3k8 HS0 ?_
    case y3k8 => intro o ho w _; simp only [execOp, ho]; go_simp; try rfl
    simp only [Act.put, List.setIfInBounds_toArray, List.set_cons_zero, List.set_cons_succ]
    refine heldTake (d := some 40) (op := Op.binOp BinOp.eql 3 (Operand.tmp 39) (Operand.const (Value.int IntKind.i64 1)) 3) (g := some (1, true)) 4 ?v4k8 rfl (by kernel_rfl) (by kernel_rfl) (by kernel_rfl) (by kernel_rfl) ?y4k8 HS0 ?_
    case y4k8 => intro o ho w _; simp only [execOp, ho]; go_simp; try rfl
    simp only [Act.put, List.setIfInBounds_toArray, List.set_cons_zero, List.set_cons_succ]
    refine heldTake (d := some 41) (op := Op.pick (Operand.tmp 37) (Operand.tmp 40) (Operand.const (Value.bool false))) (g := none) 5 ?v5k8 rfl (by kernel_rfl) (by kernel_rfl) (by kernel_rfl) (by kernel_rfl) ?y5k8 HS0 ?_
    case y5k8 => intro o ho w _; simp only [execOp, ho]; go_simp; try rfl
    simp only [Act.put, List.setIfInBounds_toArray, List.set_cons_zero, List.set_cons_succ]
    refine heldTake (d := some 42) (op := Op.move (Operand.tmp 41)) (g := none) 6 ?v6k8 rfl (by kernel_rfl) (by kernel_rfl) (by kernel_rfl) (by kernel_rfl) ?y6k8 HS0 ?_
    case y6k8 => intro o ho w _; simp only [execOp, ho]; go_simp; try rfl
    simp only [Act.put, List.setIfInBounds_toArray, List.set_cons_zero, List.set_cons_succ]
    refine heldTake (d := some 43) (op := Op.move (Operand.tmp 8)) (g := some (6, true)) 7 ?v7k8 rfl (by kernel_rfl) (by kernel_rfl) (by kernel_rfl) (by kernel_rfl) ?y7k8 HS0 ?_
    case y7k8 => intro o ho w _; simp only [execOp, ho]; go_simp; try rfl
    simp only [Act.put, List.setIfInBounds_toArray, List.set_cons_zero, List.set_cons_succ]
    refine heldTake (d := some 44) (op := Op.indexAddr 28 (Operand.tmp 43) (Operand.const (Value.int IntKind.i64 0))) (g := some (6, true)) 8 ?v8k8 rfl (by kernel_rfl) (by kernel_rfl) (by kernel_rfl) (by kernel_rfl) ?y8k8 HS0 ?_
    case y8k8 => intro o ho w _; simp only [execOp, ho]; go_simp; try rfl
    simp only [Act.put, List.setIfInBounds_toArray, List.set_cons_zero, List.set_cons_succ]
    refine heldTake (d := some 45) (op := Op.load 9 (Operand.tmp 44)) (g := some (6, true)) 9 ?v9k8 rfl (by kernel_rfl) (by kernel_rfl) (by kernel_rfl) (by kernel_rfl) ?y9k8 HS0 ?_
    case y9k8 => intro o ho w hS; have c0 := hS.2.2; simp only [execOp, ho]; go_simp; try rfl
    simp only [Act.put, List.setIfInBounds_toArray, List.set_cons_zero, List.set_cons_succ]
    refine heldTake (d := some 46) (op := Op.move (Operand.tmp 1)) (g := some (6, true)) 10 ?v10k8 rfl (by kernel_rfl) (by kernel_rfl) (by kernel_rfl) (by kernel_rfl) ?y10k8 HS0 ?_
    case y10k8 => intro o ho w _; simp only [execOp, ho]; go_simp; try rfl
    simp only [Act.put, List.setIfInBounds_toArray, List.set_cons_zero, List.set_cons_succ]
    refine heldCall (d := some 47) (op := Op.call { callee := Callee.value (Operand.func 20), args := #[Operand.tmp 46], argTypes := #[9] }) (g := some (6, true)) 11 20 ?a11k8 rfl (by kernel_rfl) (by kernel_rfl) ?y11k8 ?_
    case y11k8 => intro o ho; simp only [execOp, ho]; go_simp; try rfl
    refine (CA.out _).mono ?_
    rintro e R2 ⟨rfl, HE2⟩
    have HB2' := Sl.mk (below_trans HBR.out HE2.out)
    have HSg2' := Sl.mk (HSgR.out.below HE2.out)
    have HS2 : Below w.heap.size w R2 ∧ R2.heap[w.heap.size]? = some (.cells #[.string h.a, .string h.b, .string h.c, .slice bd nf bc] 25 (0, 0)) ∧ R2.cell? ⟨sa, oa, none⟩ = some (.string xa) := ⟨HB2'.out, box_below HS0.2.1 HE2.out, by rw [HE2.out.cell (p := ⟨sa, oa, none⟩) (block_lt_of_cell HS0.2.2)]; exact HS0.2.2⟩
    refine ⟨_, rfl, HS2, ?_⟩
    clear HE2
    simp only [Act.put, List.setIfInBounds_toArray, List.set_cons_zero, List.set_cons_succ]
    refine heldTake (d := some 48) (op := Op.binOp BinOp.eql 9 (Operand.tmp 45) (Operand.tmp 47) 9) (g := some (6, true)) 12 ?v12k8 rfl (by kernel_rfl) (by kernel_rfl) (by kernel_rfl) (by kernel_rfl) ?y12k8 HS2 ?_
    case y12k8 => intro o ho w _; simp only [execOp, ho]; go_simp; try rfl
    simp only [Act.put, List.setIfInBounds_toArray, List.set_cons_zero, List.set_cons_succ]
    refine heldTake (d := some 49) (op := Op.pick (Operand.tmp 42) (Operand.tmp 48) (Operand.const (Value.bool false))) (g := none) 13 ?v13k8 rfl (by kernel_rfl) (by kernel_rfl) (by kernel_rfl) (by kernel_rfl) ?y13k8 HS2 ?_
    case y13k8 => intro o ho w _; simp only [execOp, ho]; go_simp; try rfl
    simp only [Act.put, List.setIfInBounds_toArray, List.set_cons_zero, List.set_cons_succ]
    refine heldTake (d := some 50) (op := Op.move (Operand.tmp 49)) (g := none) 14 ?v14k8 rfl (by kernel_rfl) (by kernel_rfl) (by kernel_rfl) (by kernel_rfl) ?y14k8 HS2 ?_
    case y14k8 => intro o ho w _; simp only [execOp, ho]; go_simp; try rfl
    simp only [Act.put, List.setIfInBounds_toArray, List.set_cons_zero, List.set_cons_succ]
    refine heldTake (d := some 51) (op := Op.load 25 (Operand.tmp 3)) (g := some (14, true)) 15 ?v15k8 rfl (by kernel_rfl) (by kernel_rfl) (by kernel_rfl) (by kernel_rfl) ?y15k8 HS2 ?_
    case y15k8 => intro o ho w hS; obtain ⟨p0, p1, p2, p3⟩ := head_cells hS.2.1; simp only [execOp, ho]; go_simp; try rfl
    simp only [Act.put, List.setIfInBounds_toArray, List.set_cons_zero, List.set_cons_succ]
    refine heldCall (d := some 52) (op := Op.call { callee := Callee.value (Operand.func 38), args := #[Operand.tmp 51, Operand.const (Value.string { data := #[83, 101, 99, 45, 87, 101, 98, 83, 111, 99, 107, 101, 116, 45, 69, 120, 116, 101, 110, 115, 105, 111, 110, 115] })], argTypes := #[25, 9] }) (g := some (14, true)) 16 38 ?a16k8 rfl (by kernel_rfl) (by kernel_rfl) ?y16k8 ?_
    case y16k8 => intro o ho; simp only [execOp, ho]; go_simp; try rfl
    refine (Cx.out _ HB2'.out).mono ?_
    rintro e R3 ⟨⟨a3, c3, rfl, _⟩, HE3⟩
    have HB3' := Sl.mk (below_trans HB2'.out HE3.out)
    have HSg3' := Sl.mk (HSg2'.out.below HE3.out)
    have HS3 : Below w.heap.size w R3 ∧ R3.heap[w.heap.size]? = some (.cells #[.string h.a, .string h.b, .string h.c, .slice bd nf bc] 25 (0, 0)) ∧ R3.cell? ⟨sa, oa, none⟩ = some (.string xa) := ⟨HB3'.out, box_below HS2.2.1 HE3.out, by rw [HE3.out.cell (p := ⟨sa, oa, none⟩) (block_lt_of_cell HS2.2.2)]; exact HS2.2.2⟩
    refine ⟨_, rfl, HS3, ?_⟩
    clear HE3
    simp only [Act.put, List.setIfInBounds_toArray, List.set_cons_zero, List.set_cons_succ]
    refine heldTake (d := some 53) (op := Op.call { callee := Callee.builtin Builtin.len, args := #[Operand.tmp 52], argTypes := #[28] }) (g := some (14, true)) 17 ?v17k8 rfl (by kernel_rfl) (by kernel_rfl) (by kernel_rfl) (by kernel_rfl) ?y17k8 HS3 ?_
    case y17k8 => intro o ho w _; simp only [execOp, ho]; go_simp; try rfl
    simp only [Act.put, List.setIfInBounds_toArray, List.set_cons_zero, List.set_cons_succ]
    refine heldTake (d := some 54) (op := Op.binOp BinOp.eql 3 (Operand.tmp 53) (Operand.const (Value.int IntKind.i64 0)) 3) (g := some (14, true)) 18 ?v18k8 rfl (by kernel_rfl) (by kernel_rfl) (by kernel_rfl) (by kernel_rfl) ?y18k8 HS3 ?_
    case y18k8 => intro o ho w _; simp only [execOp, ho]; go_simp; try rfl
    simp only [Act.put, List.setIfInBounds_toArray, List.set_cons_zero, List.set_cons_succ]
    refine heldTake (d := some 55) (op := Op.pick (Operand.tmp 50) (Operand.tmp 54) (Operand.const (Value.bool false))) (g := none) 19 ?v19k8 rfl (by kernel_rfl) (by kernel_rfl) (by kernel_rfl) (by kernel_rfl) ?y19k8 HS3 ?_
    case y19k8 => intro o ho w _; simp only [execOp, ho]; go_simp; try rfl
    simp only [Act.put, List.setIfInBounds_toArray, List.set_cons_zero, List.set_cons_succ]
    refine heldTake (d := some 56) (op := Op.move (Operand.tmp 55)) (g := none) 20 ?v20k8 rfl (by kernel_rfl) (by kernel_rfl) (by kernel_rfl) (by kernel_rfl) ?y20k8 HS3 ?_
    case y20k8 => intro o ho w _; simp only [execOp, ho]; go_simp; try rfl
    simp only [Act.put, List.setIfInBounds_toArray, List.set_cons_zero, List.set_cons_succ]
    refine heldTake (d := some 57) (op := Op.move (Operand.tmp 9)) (g := some (20, true)) 21 ?v21k8 rfl (by kernel_rfl) (by kernel_rfl) (by kernel_rfl) (by kernel_rfl) ?y21k8 HS3 ?_
    case y21k8 => intro o ho w _; simp only [execOp, ho]; go_simp; try rfl
    simp only [Act.put, List.setIfInBounds_toArray, List.set_cons_zero, List.set_cons_succ]
    refine heldTake (d := some 58) (op := Op.call { callee := Callee.builtin Builtin.len, args := #[Operand.tmp 57], argTypes := #[28] }) (g := some (20, true)) 22 ?v22k8 rfl (by kernel_rfl) (by kernel_rfl) (by kernel_rfl) (by kernel_rfl) ?y22k8 HS3 ?_
    case y22k8 => intro o ho w _; simp only [execOp, ho]; go_simp; try rfl
    simp only [Act.put, List.setIfInBounds_toArray, List.set_cons_zero, List.set_cons_succ]
    refine heldTake (d := some 59) (op := Op.binOp BinOp.leq 3 (Operand.tmp 58) (Operand.const (Value.int IntKind.i64 1)) 3) (g := some (20, true)) 23 ?v23k8 rfl (by kernel_rfl) (by kernel_rfl) (by kernel_rfl) (by kernel_rfl) ?y23k8 HS3 ?_
    case y23k8 => intro o ho w _; simp only [execOp, ho]; go_simp; try rfl
    simp only [Act.put, List.setIfInBounds_toArray, List.set_cons_zero, List.set_cons_succ]
    refine heldTake (d := some 60) (op := Op.pick (Operand.tmp 56) (Operand.tmp 59) (Operand.const (Value.bool false))) (g := none) 24 ?v24k8 rfl (by kernel_rfl) (by kernel_rfl) (by kernel_rfl) (by kernel_rfl) ?y24k8 HS3 ?_
    case y24k8 => intro o ho w _; simp only [execOp, ho]; go_simp; try rfl
    simp only [Act.put, List.setIfInBounds_toArray, List.set_cons_zero, List.set_cons_succ]
    refine heldTake (d := some 10) (op := Op.assign (Operand.tmp 60)) (g := none) 25 ?v25k8 rfl (by kernel_rfl) (by kernel_rfl) (by kernel_rfl) (by kernel_rfl) ?y25k8 HS3 ?_
    case y25k8 => intro o ho w _; simp only [execOp, ho]; go_simp; try rfl
    simp only [Act.put, List.setIfInBounds_toArray, List.set_cons_zero, List.set_cons_succ]
    refine wpAnyH_done (by kernel_rfl) ?_ _
    refine NoPanic.normal ?_
    go_wp2
    go_ret2
    exact ⟨by rw [HV2.out]; rfl, HB3'⟩
  have hg3 : ((mg : Int) ≤ 1) = True := eq_true (by omega)
  obtain ⟨R, hR⟩ : ∃ R, w6.drew = R := ⟨_, rfl⟩
  have HER : Sl (Below w6.heap.size w6 R) := ⟨by rw [← hR]; exact (Below.refl _ _).drew⟩
  have HBR := Sl.mk (below_trans HB6.out HER.out)
  have HXR := Sl.mk (box_below HX6.out HER.out)
  have HSgR := Sl.mk (HSg6.out.below HER.out)
  obtain ⟨_, _, ea, ca0⟩ := strA_one3 (HSa6.out.below HER.out)
  injection ea with ea
  injection ea with ea1 ea2 ea3
  subst ea1 ea2
  clear ea3
  have HS0 : Below w.heap.size w R ∧ R.heap[w.heap.size]? = some (.cells #[.string h.a, .string h.b, .string h.c, .slice bd nf bc] 25 (0, 0)) ∧ R.cell? ⟨sa, oa, none⟩ = some (.string xa) := ⟨HBR.out, HXR.out, ca0⟩
  clear ca0
  clear HER
  refine wp_region_noPanic ?_
  refine wp_region_held (S := fun V => Below w.heap.size w V ∧ V.heap[w.heap.size]? = some (.cells #[.string h.a, .string h.b, .string h.c, .slice bd nf bc] 25 (0, 0)) ∧ V.cell? ⟨sa, oa, none⟩ = some (.string xa)) (by kernel_rfl) ?_
  change wpAnyH _ _ _ _ _ _ _ _ w6.drew
  rw [hR]
  clear hR
  refine heldTake (d := some 36) (op := Op.move (Operand.tmp 10)) (g := none) 0 ?v0k9 rfl (by kernel_rfl) (by kernel_rfl) (by kernel_rfl) (by kernel_rfl) ?y0k9 HS0 ?_
  case y0k9 => intro o ho w _; simp only [execOp, ho]; go_simp; try rfl
  simp only [Act.put, List.setIfInBounds_toArray, List.set_cons_zero, List.set_cons_succ]
  refine heldTake (d := some 37) (op := Op.move (Operand.tmp 36)) (g := none) 1 ?v1k9 rfl (by kernel_rfl) (by kernel_rfl) (by kernel_rfl) (by kernel_rfl) ?y1k9 HS0 ?_
  case y1k9 => intro o ho w _; simp only [execOp, ho]; go_simp; try rfl
  simp only [Act.put, List.setIfInBounds_toArray, List.set_cons_zero, List.set_cons_succ]
  refine heldTake (d := some 38) (op := Op.move (Operand.tmp 8)) (g := some (1, true)) 2 ?v2k9 rfl (by kernel_rfl) (by kernel_rfl) (by kernel_rfl) (by kernel_rfl) ?y2k9 HS0 ?_
  case y2k9 => intro o ho w _; simp only [execOp, ho]; go_simp; try rfl
  simp only [Act.put, List.setIfInBounds_toArray, List.set_cons_zero, List.set_cons_succ]
  refine heldTake (d := some 39) (op := Op.call { callee := Callee.builtin Builtin.len, args := #[Operand.tmp 38], argTypes := #[28] }) (g := some (1, true)) 3 ?v3k9 rfl (by kernel_rfl) (by kernel_rfl) (by kernel_rfl) (by kernel_rfl) ?y3k9 HS0 ?_
  case y3k9 => intro o ho w _; simp only [execOp, ho]; go_simp; try rfl
  simp only [Act.put, List.setIfInBounds_toArray, List.set_cons_zero, List.set_cons_succ]
  refine heldTake (d := some 40) (op := Op.binOp BinOp.eql 3 (Operand.tmp 39) (Operand.const (Value.int IntKind.i64 1)) 3) (g := some (1, true)) 4 ?v4k9 rfl (by kernel_rfl) (by kernel_rfl) (by kernel_rfl) (by kernel_rfl) ?y4k9 HS0 ?_
  case y4k9 => intro o ho w _; simp only [execOp, ho]; go_simp; try rfl
  simp only [Act.put, List.setIfInBounds_toArray, List.set_cons_zero, List.set_cons_succ]
  refine heldTake (d := some 41) (op := Op.pick (Operand.tmp 37) (Operand.tmp 40) (Operand.const (Value.bool false))) (g := none) 5 ?v5k9 rfl (by kernel_rfl) (by kernel_rfl) (by kernel_rfl) (by kernel_rfl) ?y5k9 HS0 ?_
  case y5k9 => intro o ho w _; simp only [execOp, ho]; go_simp; try rfl
  simp only [Act.put, List.setIfInBounds_toArray, List.set_cons_zero, List.set_cons_succ]
  refine heldTake (d := some 42) (op := Op.move (Operand.tmp 41)) (g := none) 6 ?v6k9 rfl (by kernel_rfl) (by kernel_rfl) (by kernel_rfl) (by kernel_rfl) ?y6k9 HS0 ?_
  case y6k9 => intro o ho w _; simp only [execOp, ho]; go_simp; try rfl
  simp only [Act.put, List.setIfInBounds_toArray, List.set_cons_zero, List.set_cons_succ]
  refine heldTake (d := some 43) (op := Op.move (Operand.tmp 8)) (g := some (6, true)) 7 ?v7k9 rfl (by kernel_rfl) (by kernel_rfl) (by kernel_rfl) (by kernel_rfl) ?y7k9 HS0 ?_
  case y7k9 => intro o ho w _; simp only [execOp, ho]; go_simp; try rfl
  simp only [Act.put, List.setIfInBounds_toArray, List.set_cons_zero, List.set_cons_succ]
  refine heldTake (d := some 44) (op := Op.indexAddr 28 (Operand.tmp 43) (Operand.const (Value.int IntKind.i64 0))) (g := some (6, true)) 8 ?v8k9 rfl (by kernel_rfl) (by kernel_rfl) (by kernel_rfl) (by kernel_rfl) ?y8k9 HS0 ?_
  case y8k9 => intro o ho w _; simp only [execOp, ho]; go_simp; try rfl
  simp only [Act.put, List.setIfInBounds_toArray, List.set_cons_zero, List.set_cons_succ]
  refine heldTake (d := some 45) (op := Op.load 9 (Operand.tmp 44)) (g := some (6, true)) 9 ?v9k9 rfl (by kernel_rfl) (by kernel_rfl) (by kernel_rfl) (by kernel_rfl) ?y9k9 HS0 ?_
  case y9k9 => intro o ho w hS; have c0 := hS.2.2; simp only [execOp, ho]; go_simp; try rfl
  simp only [Act.put, List.setIfInBounds_toArray, List.set_cons_zero, List.set_cons_succ]
  refine heldTake (d := some 46) (op := Op.move (Operand.tmp 1)) (g := some (6, true)) 10 ?v10k9 rfl (by kernel_rfl) (by kernel_rfl) (by kernel_rfl) (by kernel_rfl) ?y10k9 HS0 ?_
  case y10k9 => intro o ho w _; simp only [execOp, ho]; go_simp; try rfl
  simp only [Act.put, List.setIfInBounds_toArray, List.set_cons_zero, List.set_cons_succ]
  refine heldCall (d := some 47) (op := Op.call { callee := Callee.value (Operand.func 20), args := #[Operand.tmp 46], argTypes := #[9] }) (g := some (6, true)) 11 20 ?a11k9 rfl (by kernel_rfl) (by kernel_rfl) ?y11k9 ?_
  case y11k9 => intro o ho; simp only [execOp, ho]; go_simp; try rfl
  refine (CA.out _).mono ?_
  rintro e R2 ⟨rfl, HE2⟩
  have HB2' := Sl.mk (below_trans HBR.out HE2.out)
  have HSg2' := Sl.mk (HSgR.out.below HE2.out)
  have HS2 : Below w.heap.size w R2 ∧ R2.heap[w.heap.size]? = some (.cells #[.string h.a, .string h.b, .string h.c, .slice bd nf bc] 25 (0, 0)) ∧ R2.cell? ⟨sa, oa, none⟩ = some (.string xa) := ⟨HB2'.out, box_below HS0.2.1 HE2.out, by rw [HE2.out.cell (p := ⟨sa, oa, none⟩) (block_lt_of_cell HS0.2.2)]; exact HS0.2.2⟩
  refine ⟨_, rfl, HS2, ?_⟩
  clear HE2
  simp only [Act.put, List.setIfInBounds_toArray, List.set_cons_zero, List.set_cons_succ]
  refine heldTake (d := some 48) (op := Op.binOp BinOp.eql 9 (Operand.tmp 45) (Operand.tmp 47) 9) (g := some (6, true)) 12 ?v12k9 rfl (by kernel_rfl) (by kernel_rfl) (by kernel_rfl) (by kernel_rfl) ?y12k9 HS2 ?_
  case y12k9 => intro o ho w _; simp only [execOp, ho]; go_simp; try rfl
  simp only [Act.put, List.setIfInBounds_toArray, List.set_cons_zero, List.set_cons_succ]
  refine heldTake (d := some 49) (op := Op.pick (Operand.tmp 42) (Operand.tmp 48) (Operand.const (Value.bool false))) (g := none) 13 ?v13k9 rfl (by kernel_rfl) (by kernel_rfl) (by kernel_rfl) (by kernel_rfl) ?y13k9 HS2 ?_
  case y13k9 => intro o ho w _; simp only [execOp, ho]; go_simp; try rfl
  simp only [Act.put, List.setIfInBounds_toArray, List.set_cons_zero, List.set_cons_succ]
  refine heldTake (d := some 50) (op := Op.move (Operand.tmp 49)) (g := none) 14 ?v14k9 rfl (by kernel_rfl) (by kernel_rfl) (by kernel_rfl) (by kernel_rfl) ?y14k9 HS2 ?_
  case y14k9 => intro o ho w _; simp only [execOp, ho]; go_simp; try rfl
  simp only [Act.put, List.setIfInBounds_toArray, List.set_cons_zero, List.set_cons_succ]
  refine heldTake (d := some 51) (op := Op.load 25 (Operand.tmp 3)) (g := some (14, true)) 15 ?v15k9 rfl (by kernel_rfl) (by kernel_rfl) (by kernel_rfl) (by kernel_rfl) ?y15k9 HS2 ?_
  case y15k9 => intro o ho w hS; obtain ⟨p0, p1, p2, p3⟩ := head_cells hS.2.1; simp only [execOp, ho]; go_simp; try rfl
  simp only [Act.put, List.setIfInBounds_toArray, List.set_cons_zero, List.set_cons_succ]
  refine heldCall (d := some 52) (op := Op.call { callee := Callee.value (Operand.func 38), args := #[Operand.tmp 51, Operand.const (Value.string { data := #[83, 101, 99, 45, 87, 101, 98, 83, 111, 99, 107, 101, 116, 45, 69, 120, 116, 101, 110, 115, 105, 111, 110, 115] })], argTypes := #[25, 9] }) (g := some (14, true)) 16 38 ?a16k9 rfl (by kernel_rfl) (by kernel_rfl) ?y16k9 ?_
  case y16k9 => intro o ho; simp only [execOp, ho]; go_simp; try rfl
  refine (Cx.out _ HB2'.out).mono ?_
  rintro e R3 ⟨⟨a3, c3, rfl, _⟩, HE3⟩
  have HB3' := Sl.mk (below_trans HB2'.out HE3.out)
  have HSg3' := Sl.mk (HSg2'.out.below HE3.out)
  have HS3 : Below w.heap.size w R3 ∧ R3.heap[w.heap.size]? = some (.cells #[.string h.a, .string h.b, .string h.c, .slice bd nf bc] 25 (0, 0)) ∧ R3.cell? ⟨sa, oa, none⟩ = some (.string xa) := ⟨HB3'.out, box_below HS2.2.1 HE3.out, by rw [HE3.out.cell (p := ⟨sa, oa, none⟩) (block_lt_of_cell HS2.2.2)]; exact HS2.2.2⟩
  refine ⟨_, rfl, HS3, ?_⟩
  clear HE3
  simp only [Act.put, List.setIfInBounds_toArray, List.set_cons_zero, List.set_cons_succ]
  refine heldTake (d := some 53) (op := Op.call { callee := Callee.builtin Builtin.len, args := #[Operand.tmp 52], argTypes := #[28] }) (g := some (14, true)) 17 ?v17k9 rfl (by kernel_rfl) (by kernel_rfl) (by kernel_rfl) (by kernel_rfl) ?y17k9 HS3 ?_
  case y17k9 => intro o ho w _; simp only [execOp, ho]; go_simp; try rfl
  simp only [Act.put, List.setIfInBounds_toArray, List.set_cons_zero, List.set_cons_succ]
  refine heldTake (d := some 54) (op := Op.binOp BinOp.eql 3 (Operand.tmp 53) (Operand.const (Value.int IntKind.i64 0)) 3) (g := some (14, true)) 18 ?v18k9 rfl (by kernel_rfl) (by kernel_rfl) (by kernel_rfl) (by kernel_rfl) ?y18k9 HS3 ?_
  case y18k9 => intro o ho w _; simp only [execOp, ho]; go_simp; try rfl
  simp only [Act.put, List.setIfInBounds_toArray, List.set_cons_zero, List.set_cons_succ]
  refine heldTake (d := some 55) (op := Op.pick (Operand.tmp 50) (Operand.tmp 54) (Operand.const (Value.bool false))) (g := none) 19 ?v19k9 rfl (by kernel_rfl) (by kernel_rfl) (by kernel_rfl) (by kernel_rfl) ?y19k9 HS3 ?_
  case y19k9 => intro o ho w _; simp only [execOp, ho]; go_simp; try rfl
  simp only [Act.put, List.setIfInBounds_toArray, List.set_cons_zero, List.set_cons_succ]
  refine heldTake (d := some 56) (op := Op.move (Operand.tmp 55)) (g := none) 20 ?v20k9 rfl (by kernel_rfl) (by kernel_rfl) (by kernel_rfl) (by kernel_rfl) ?y20k9 HS3 ?_
  case y20k9 => intro o ho w _; simp only [execOp, ho]; go_simp; try rfl
  simp only [Act.put, List.setIfInBounds_toArray, List.set_cons_zero, List.set_cons_succ]
  refine heldTake (d := some 57) (op := Op.move (Operand.tmp 9)) (g := some (20, true)) 21 ?v21k9 rfl (by kernel_rfl) (by kernel_rfl) (by kernel_rfl) (by kernel_rfl) ?y21k9 HS3 ?_
  case y21k9 => intro o ho w _; simp only [execOp, ho]; go_simp; try rfl
  simp only [Act.put, List.setIfInBounds_toArray, List.set_cons_zero, List.set_cons_succ]
  refine heldTake (d := some 58) (op := Op.call { callee := Callee.builtin Builtin.len, args := #[Operand.tmp 57], argTypes := #[28] }) (g := some (20, true)) 22 ?v22k9 rfl (by kernel_rfl) (by kernel_rfl) (by kernel_rfl) (by kernel_rfl) ?y22k9 HS3 ?_
  case y22k9 => intro o ho w _; simp only [execOp, ho]; go_simp; try rfl
  simp only [Act.put, List.setIfInBounds_toArray, List.set_cons_zero, List.set_cons_succ]
  refine heldTake (d := some 59) (op := Op.binOp BinOp.leq 3 (Operand.tmp 58) (Operand.const (Value.int IntKind.i64 1)) 3) (g := some (20, true)) 23 ?v23k9 rfl (by kernel_rfl) (by kernel_rfl) (by kernel_rfl) (by kernel_rfl) ?y23k9 HS3 ?_
  case y23k9 => intro o ho w _; simp only [execOp, ho]; go_simp; try rfl
  simp only [Act.put, List.setIfInBounds_toArray, List.set_cons_zero, List.set_cons_succ]
  refine heldTake (d := some 60) (op := Op.pick (Operand.tmp 56) (Operand.tmp 59) (Operand.const (Value.bool false))) (g := none) 24 ?v24k9 rfl (by kernel_rfl) (by kernel_rfl) (by kernel_rfl) (by kernel_rfl) ?y24k9 HS3 ?_
  case y24k9 => intro o ho w _; simp only [execOp, ho]; go_simp; try rfl
  simp only [Act.put, List.setIfInBounds_toArray, List.set_cons_zero, List.set_cons_succ]
  refine heldTake (d := some 10) (op := Op.assign (Operand.tmp 60)) (g := none) 25 ?v25k9 rfl (by kernel_rfl) (by kernel_rfl) (by kernel_rfl) (by kernel_rfl) ?y25k9 HS3 ?_
  case y25k9 => intro o ho w _; simp only [execOp, ho]; go_simp; try rfl
  simp only [Act.put, List.setIfInBounds_toArray, List.set_cons_zero, List.set_cons_succ]
  refine wpAnyH_done (by kernel_rfl) ?_ _
  refine NoPanic.normal ?_
  by_cases hg1 : mg = 1
  rotate_left
  · have hg4 : ((mg : Int) == 1) = false := by simp; omega
    have HV2 : Sl (checkV h key l = some { data := #[] }) := ⟨by rw [HV.out, if_pos (by omega)]; rfl⟩
    go_wp2
    go_ret2
    exact ⟨by rw [HV2.out]; rfl, HB3'⟩
  subst hg1
  obtain ⟨xg, rfl⟩ := list_one3 Mg.out
  obtain ⟨sg, og, rfl, cg0⟩ := strA_one3 HSg3'.out
  have hg4 : ((1 : Int) == 1) = true := by simp
  cases ei : inB l xg with
  | false =>
    have HV2 : Sl (checkV h key l = none) := ⟨by rw [HV.out, oneS_one3, ei]; rfl⟩
    go_wp2_with fail
    refine (CI.out xg _ false HB3'.out ei).mono ?_
    rintro e wz ⟨rfl, rfl⟩
    go_wp2
    go_ret2
    exact ⟨by rw [HV2.out]; rfl, HB3'⟩
  | true =>
    have HV2 : Sl (checkV h key l = some xg) := ⟨by rw [HV.out, oneS_one3, ei]; rfl⟩
    go_wp2_with fail
    refine (CI.out xg _ true HB3'.out ei).mono ?_
    rintro e wz ⟨rfl, rfl⟩
    go_wp2
    go_ret2
    exact ⟨by rw [HV2.out]; rfl, HB3'⟩
end Go.Proofs.YthlagngpllahkaaGreatDoor
