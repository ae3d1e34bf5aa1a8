/- HeadShows, the walk: whatever head and string come in, the law's Go text returns true, and nothing that was in memory changes. -/
import Derived.Test.YtcohecghibndhaaDoorGets0
namespace Go.Proofs.YtcohecghibndhaaDoor
open Go.RowKit HeadPlain

theorem textR_ex (w0 W : World) (h : HdV) (v : Value) (hB : Below w0.heap.size w0 W) (hv : FieldsAt W v h.fs) (hL : (text h.hd).length ≤ 1000000) :
    Calls Tryd.prog 17 #[.agg #[.string h.a, .string h.b, .string h.c, v]] W fun e w' => ∃ t : ByteArray, e = .returned (.string t) ∧ Sl (bytes t = text h.hd) ∧ Sl (Below W.heap.size W w') ∧ Sl (Below w0.heap.size w0 w') :=
  (textR_any h v W hv hL).mono fun _ _ ⟨t, h1, h2, h3⟩ => ⟨t, h1, h2, h3, ⟨below_trans hB h3.out⟩⟩
theorem checkR_ex (w0 W : World) (h : HdV) (v : Value) (c : Nat) (hc : chk h = c) (hB : Below w0.heap.size w0 W) (hv : FieldsAt W v h.fs) (hf : h.Fit) (hL : (text h.hd).length ≤ 1000000) :
    Calls Tryd.prog 14 #[.agg #[.string h.a, .string h.b, .string h.c, v]] W fun e w' => e = .returned (.int .i64 (c : Nat)) ∧ Sl (Below W.heap.size W w') ∧ Sl (Below w0.heap.size w0 w') := by
  subst hc
  exact (checkR_any h v W hv hf hL).mono fun _ _ ⟨h1, h2⟩ => ⟨h1, h2, ⟨below_trans hB h2.out⟩⟩
theorem few_text {h : HdV} (hF : Few h) : (text h.hd).length ≤ 1000000 := by
  have key : ∀ k, k ≤ h.fs.length → (told h k).length ≤ 9100 + k * 6100 := by
    intro k
    induction k with
    | zero =>
      intro _
      rw [told_zero]
      have := hF.a; have := hF.b; have := hF.c
      simp only [List.length_append, List.length_cons, List.length_nil, bytes_length]
      omega
    | succ k ih =>
      intro hk
      have := ih (by omega)
      have := hF.f k (by omega)
      rw [told_succ h k (by omega)]
      simp only [List.length_append, List.length_cons, List.length_nil, bytes_length]
      omega
  have := key h.fs.length (Nat.le_refl _)
  have := hF.n
  rw [← told_all, List.length_append]
  simp only [List.length_cons, List.length_nil]
  omega

set_option maxHeartbeats 4000000 in
set_option maxRecDepth 100000 in
theorem shows_walk (h : HdV) (bx : Value) (more : ByteArray) (w : World) (hg : Globs w) (hf : h.Fit) (hv : FieldsAt w bx h.fs) (hn : more.size ≤ maxLen) :
    Calls Tryd.prog 3 #[.agg #[.string h.a, .string h.b, .string h.c, bx], .string more] w fun e w' => e = .returned (.bool true) ∧ Below w.heap.size w w' := by
  obtain ⟨vad, vn, vc, hvv, hvn⟩ : ∃ a n c, bx = .slice a n c ∧ n = h.fs.length := by obtain ⟨a, cap, _, _, h1, _⟩ := hv; exact ⟨_, _, _, h1, rfl⟩
  subst hvv
  subst hvn
  have HG := Sl.mk hg
  have HV := Sl.mk hv
  have HF := Sl.mk hf
  unfold maxLen at hn
  clear hg hv hf
  obtain ⟨w1, hw1⟩ : ∃ w1, w.alloc (.cells #[.string h.a, .string h.b, .string h.c, .slice vad h.fs.length vc] 25) = w1 := ⟨_, rfl⟩
  have HB1 : Sl (Below w.heap.size w w1) := ⟨by rw [← hw1]; exact (Below.refl _ _).alloc (Nat.le_refl _) _⟩
  have HX1 : Sl (w1.heap[w.heap.size]? = some (.cells #[.string h.a, .string h.b, .string h.c, .slice vad h.fs.length vc] 25 (0, 0))) := ⟨by rw [← hw1]; exact alloc_new _ _ _ rfl⟩
  go_enter Tryd.func3, Tryd.ntmps3
  go_wp2_with fail
  refine (awake_ex w _ HB1.out HG.out).mono ?_
  rintro e w2 ⟨rfl, HX2, HB2⟩
  have HC2 := Sl.mk (box_below HX1.out HX2.out)
  have HFD2 := Sl.mk (HV.out.below HB2.out)
  clear HX1 HX2 HB1 hw1
  obtain ⟨p0, p1, p2, p3⟩ := head_cells HC2.out
  go_wp2_with fail
  refine (few_ex w _ h _ HB2.out HFD2.out HF.out).mono ?_
  rintro e w3 ⟨HR3, HX3, HB3⟩
  have HC3 := Sl.mk (box_below HC2.out HX3.out)
  have HFD3 := Sl.mk (HV.out.below HB3.out)
  clear HX3 HC2 HFD2 HB2 p0 p1 p2 p3
  rcases HR3.out with ⟨rfl, hF⟩ | ⟨rfl, hN⟩
  case inr =>
    clear HR3 hN
    go_wp2_with fail
    refine (awake_ex w _ HB3.out HG.out).mono ?_
    rintro e w4 ⟨rfl, HX4, HB4⟩
    go_wp2
    go_ret
    exact ⟨rfl, HB4.out⟩
  by_cases h1 : 300 < more.size
  · have h1' : (more.size : Int) > 300 := by omega
    clear HR3 hF
    go_wp2_with fail
    refine (awake_ex w _ HB3.out HG.out).mono ?_
    rintro e w4 ⟨rfl, HX4, HB4⟩
    go_wp2
    go_ret
    exact ⟨rfl, HB4.out⟩
  have h1' : ((more.size : Int) > 300) = False := eq_false (by omega)
  have HTL := Sl.mk (few_text hF)
  obtain ⟨c, hc⟩ : ∃ c, chk h = c := ⟨_, rfl⟩
  have HCK := Sl.mk hc
  have qz : ((c : Int) != (c : Int)) = false := by simp
  have qy : ((c : Int) == (c : Int)) = true := by simp
  clear HR3 hF hc
  obtain ⟨p0, p1, p2, p3⟩ := head_cells HC3.out
  go_wp2_with fail
  refine (show_ex w _ h _ HB3.out HG.out HFD3.out HF.out HTL.out).mono ?_
  rintro e w4 ⟨HR4, HX4, HB4⟩
  have HC4 := Sl.mk (box_below HC3.out HX4.out)
  have HFD4 := Sl.mk (HV.out.below HB4.out)
  clear HC3 HFD3 HB3 p0 p1 p2 p3 HX4
  obtain ⟨p0, p1, p2, p3⟩ := head_cells HC4.out
  by_cases hc0 : c = 0
  case neg =>
    have he : e = .returned (.tuple #[.slice none 0 0, .int .i64 (c : Nat)]) := by
      rcases HR4.out with ⟨_, h⟩ | ⟨h, _⟩
      · rw [h, HCK.out]
      · rw [HCK.out] at h; exact absurd h hc0
    subst he
    have qx : ((c : Int) == 0) = false := by simp; omega
    clear HR4
    go_wp2_with fail
    refine (checkR_ex w _ h _ c HCK.out HB4.out HFD4.out HF.out HTL.out).mono ?_
    rintro e w5 ⟨rfl, HX5, HB5⟩
    have HC5 := Sl.mk (box_below HC4.out HX5.out)
    have HFD5 := Sl.mk (HV.out.below HB5.out)
    clear HC4 HFD4 HB4 p0 p1 p2 p3
    obtain ⟨p0, p1, p2, p3⟩ := head_cells HC5.out
    go_wp2_with fail
    refine (check_ex w _ h _ c HCK.out HB5.out HG.out HFD5.out HF.out HTL.out).mono ?_
    rintro e w6 ⟨rfl, HX6, HB6⟩
    clear p0 p1 p2 p3
    go_wp2
    go_ret
    exact ⟨rfl, HB6.out⟩
  subst hc0
  obtain ⟨a4, c4, rfl, hsrc⟩ := showR_ok HR4.out HCK.out
  have hle := text_le h HCK.out
  obtain ⟨L, hL⟩ : ∃ L, (text h.hd).length = L := ⟨_, rfl⟩
  have HL := Sl.mk hL
  have HRD : Sl (rd (text h.hd ++ bytes more) = .ok h.hd L) := ⟨by rw [← hL]; exact rd_text h.hd ((formB_iff _).1 hle.1) (bytes more) (by have : h.hd.fs.length = h.fs.length := List.length_map _; rw [this]; exact hle.2.1) hle.2.2⟩
  have hL2 : L ≤ 2048 := by rw [← hL]; exact hle.2.2
  rw [hL] at hsrc
  have HSR := Sl.mk hsrc
  rw [hL]
  clear HR4 hsrc hle hL
  go_wp2_with fail
  refine (checkR_ex w _ h _ 0 HCK.out HB4.out HFD4.out HF.out HTL.out).mono ?_
  rintro e w5 ⟨rfl, HX5, HB5⟩
  have HC5 := Sl.mk (box_below HC4.out HX5.out)
  have HFD5 := Sl.mk (HV.out.below HB5.out)
  have HSR5 := Sl.mk (HSR.out.below HX5.out)
  clear HC4 HFD4 HB4 p0 p1 p2 p3 HSR HX5
  obtain ⟨p0, p1, p2, p3⟩ := head_cells HC5.out
  go_wp2_with fail
  refine (check_ex w _ h _ 0 HCK.out HB5.out HG.out HFD5.out HF.out HTL.out).mono ?_
  rintro e w6 ⟨rfl, HX6, HB6⟩
  have HC6 := Sl.mk (box_below HC5.out HX6.out)
  have HFD6 := Sl.mk (HV.out.below HB6.out)
  have HSR6 := Sl.mk (HSR5.out.below HX6.out)
  clear HC5 HFD5 HB5 p0 p1 p2 p3 HSR5 HX6
  obtain ⟨tx, htx⟩ : ∃ tx, strOf (text h.hd) = tx := ⟨_, rfl⟩
  have HTX := Sl.mk htx
  have HBX : Sl (bytes tx = text h.hd) := ⟨by rw [← htx]; exact bytes_strOf _ (text_small h)⟩
  have htz : tx.size = L := by rw [← bytes_length, HBX.out, HL.out]
  have hcv := HSR6.out.str
  rw [htx] at hcv
  have hzt : tx.size ≤ 2048 := by omega
  have hzm : more.size ≤ 300 := by omega
  obtain ⟨t, ht⟩ : ∃ t, tx ++ more = t := ⟨_, rfl⟩
  have HT : Sl (bytes t = text h.hd ++ bytes more) := ⟨by rw [← ht, bytes_append, HBX.out]⟩
  have HTS : Sl (t.size ≤ 2500) := ⟨by rw [← ht, ByteArray.size_append]; omega⟩
  obtain ⟨c7, w7, hc7, HS7, HX7⟩ := conv_str t w6
  have HB7 : Sl (Below w.heap.size w w7) := ⟨below_trans HB6.out HX7.out⟩
  have HSM : Sl (Small 256 (bytes t)) := ⟨bytes_small t⟩
  have HLN : Sl ((bytes t).length = t.size) := ⟨bytes_length t⟩
  clear htx
  go_wp2_with fail
  refine (read_ex w _ (bytes t) _ HB7.out HG.out HS7.out.srcS HSM.out (by rw [HLN.out]; have := HTS.out; omega)).mono ?_
  rintro e w8 ⟨HR8, HX8, HB8⟩
  have HRT : Sl (rd (bytes t) = .ok h.hd L) := ⟨by rw [HT.out, HRD.out]⟩
  obtain ⟨g, a8, c8, hgh, rfl, _, hfd8⟩ := readR_ok HR8.out HRT.out
  have HAL := Sl.mk (alike_iff.2 hgh)
  have HX68 : Sl (Below w6.heap.size w6 w8) := ⟨below_trans HX7.out HX8.out⟩
  obtain ⟨w9, hw9⟩ : ∃ w9, w8.alloc (.cells #[.string g.a, .string g.b, .string g.c, .slice a8 g.fs.length c8] 25) = w9 := ⟨_, rfl⟩
  have HBA : Sl (Below w8.heap.size w8 w9) := ⟨by rw [← hw9]; exact (Below.refl _ _).alloc (Nat.le_refl _) _⟩
  have HX69 : Sl (Below w6.heap.size w6 w9) := ⟨below_trans HX68.out HBA.out⟩
  have HB9 : Sl (Below w.heap.size w w9) := ⟨below_trans HB8.out HBA.out⟩
  have HY9 : Sl (w9.heap[w8.heap.size]? = some (.cells #[.string g.a, .string g.b, .string g.c, .slice a8 g.fs.length c8] 25 (0, 0))) := ⟨by rw [← hw9]; exact alloc_new _ _ _ rfl⟩
  have HC9 := Sl.mk (box_below HC6.out HX69.out)
  have HFD9 := Sl.mk (HV.out.below HB9.out)
  have HFG9 := Sl.mk (hfd8.below HBA.out)
  have HSR9 := Sl.mk (HSR6.out.below HX69.out)
  have hLL : ((L : Int) == (L : Int)) = true := by simp
  clear HR8 hgh hfd8 HC6 HFD6 HX7 HX8 HB6 HB7 HSR6 hcv hc7 HS7 ht
  go_wp2
  have HS0 : Below w.heap.size w w9.drew ∧ w9.drew.heap[w.heap.size]? = some (.cells #[.string h.a, .string h.b, .string h.c, .slice vad h.fs.length vc] 25 (0, 0)) ∧ w9.drew.heap[w8.heap.size]? = some (.cells #[.string g.a, .string g.b, .string g.c, .slice a8 g.fs.length c8] 25 (0, 0)) ∧ SrcS w9.drew (.slice a4 L c4) (text h.hd) := ⟨HB9.out.drew, HC9.out, HY9.out, HSR9.out.below (Below.refl _ _).drew⟩
  have HFD : Sl (FieldsAt w9.drew (.slice vad h.fs.length vc) h.fs) := ⟨HFD9.out.below (Below.refl _ _).drew⟩
  have HFG : Sl (FieldsAt w9.drew (.slice a8 g.fs.length c8) g.fs) := ⟨HFG9.out.below (Below.refl _ _).drew⟩
  have HBD : Sl (Below w.heap.size w w9.drew) := ⟨HB9.out.drew⟩
  refine wp_region_noPanic ?_
  refine wp_region_held (S := fun W => Below w.heap.size w W ∧ W.heap[w.heap.size]? = some (.cells #[.string h.a, .string h.b, .string h.c, .slice vad h.fs.length vc] 25 (0, 0)) ∧ W.heap[w8.heap.size]? = some (.cells #[.string g.a, .string g.b, .string g.c, .slice a8 g.fs.length c8] 25 (0, 0)) ∧ SrcS W (.slice a4 L c4) (text h.hd)) (by kernel_rfl) ?_
  change wpAnyH _ _ _ _ _ _ _ _ w9.drew
  refine heldTake (d := some 55) (op := Go.Op.move (Go.Operand.tmp 5)) (g := none) 0 ?v0 rfl (by kernel_rfl) (by kernel_rfl) (by kernel_rfl) (by kernel_rfl) ?y0 HS0 ?_
  case y0 => intro o ho w _; simp only [execOp, ho]; go_simp; try rfl
  simp only [Act.put, List.setIfInBounds_toArray, List.set_cons_zero, List.set_cons_succ]
  refine heldTake (d := some 56) (op := Go.Op.convert 28 9 (Go.Operand.tmp 55)) (g := none) 1 ?v1 rfl (by kernel_rfl) (by kernel_rfl) (by kernel_rfl) (by kernel_rfl) ?y1 HS0 ?_
  case y1 => intro o ho w hS; have hcv := hS.2.2.2.str; rw [HTX.out] at hcv; simp only [execOp, ho]; go_simp; try rfl
  simp only [Act.put, List.setIfInBounds_toArray, List.set_cons_zero, List.set_cons_succ]
  refine heldTake (d := some 57) (op := Go.Op.load 25 (Go.Operand.tmp 2)) (g := none) 2 ?v2 rfl (by kernel_rfl) (by kernel_rfl) (by kernel_rfl) (by kernel_rfl) ?y2 HS0 ?_
  case y2 => intro o ho w hS; obtain ⟨p0, p1, p2, p3⟩ := head_cells hS.2.1; simp only [execOp, ho]; go_simp; try rfl
  simp only [Act.put, List.setIfInBounds_toArray, List.set_cons_zero, List.set_cons_succ]
  refine heldCall (d := some 58) (op := Go.Op.call { callee := Go.Callee.value (Go.Operand.func 17), args := #[Go.Operand.tmp 57], argTypes := #[25] }) (g := none) 3 17 ?a3 rfl (by kernel_rfl) (by kernel_rfl) ?y3 ?_
  case y3 => intro o ho; simp only [execOp, ho]; go_simp; try rfl
  refine (textR_ex w _ h _ HBD.out HFD.out HTL.out).mono ?_
  rintro e w10 ⟨tt, rfl, HTT, HX10, HB10⟩
  have HS10 : Below w.heap.size w w10 ∧ w10.heap[w.heap.size]? = some (.cells #[.string h.a, .string h.b, .string h.c, .slice vad h.fs.length vc] 25 (0, 0)) ∧ w10.heap[w8.heap.size]? = some (.cells #[.string g.a, .string g.b, .string g.c, .slice a8 g.fs.length c8] 25 (0, 0)) ∧ SrcS w10 (.slice a4 L c4) (text h.hd) := ⟨HB10.out, box_below HS0.2.1 HX10.out, box_below HS0.2.2.1 HX10.out, HS0.2.2.2.below HX10.out⟩
  have HFD10 := Sl.mk (HFD.out.below HX10.out)
  have HFG10 := Sl.mk (HFG.out.below HX10.out)
  have qtt : (tx.toList == tt.toList) = true := by rw [beq_bytes2, HTT.out, HBX.out]; exact decide_eq_true rfl
  refine ⟨_, rfl, HS10, ?_⟩
  simp only [Act.put, List.setIfInBounds_toArray, List.set_cons_zero, List.set_cons_succ]
  refine heldTake (d := some 59) (op := Go.Op.binOp Go.BinOp.eql 9 (Go.Operand.tmp 56) (Go.Operand.tmp 58) 9) (g := none) 4 ?v4 rfl (by kernel_rfl) (by kernel_rfl) (by kernel_rfl) (by kernel_rfl) ?y4 HS10 ?_
  case y4 => intro o ho w _; simp only [execOp, ho]; go_simp; try rfl
  simp only [Act.put, List.setIfInBounds_toArray, List.set_cons_zero, List.set_cons_succ]
  refine heldTake (d := some 60) (op := Go.Op.move (Go.Operand.tmp 59)) (g := none) 5 ?v5 rfl (by kernel_rfl) (by kernel_rfl) (by kernel_rfl) (by kernel_rfl) ?y5 HS10 ?_
  case y5 => intro o ho w _; simp only [execOp, ho]; go_simp; try rfl
  simp only [Act.put, List.setIfInBounds_toArray, List.set_cons_zero, List.set_cons_succ]
  refine heldTake (d := some 61) (op := Go.Op.move (Go.Operand.tmp 6)) (g := some (5, true)) 6 ?v6 rfl (by kernel_rfl) (by kernel_rfl) (by kernel_rfl) (by kernel_rfl) ?y6 HS10 ?_
  case y6 => intro o ho w _; simp only [execOp, ho]; go_simp; try rfl
  simp only [Act.put, List.setIfInBounds_toArray, List.set_cons_zero, List.set_cons_succ]
  refine heldTake (d := some 62) (op := Go.Op.binOp Go.BinOp.eql 29 (Go.Operand.tmp 61) (Go.Operand.const (Go.Value.int Go.IntKind.i64 0)) 29) (g := some (5, true)) 7 ?v7 rfl (by kernel_rfl) (by kernel_rfl) (by kernel_rfl) (by kernel_rfl) ?y7 HS10 ?_
  case y7 => intro o ho w _; simp only [execOp, ho]; go_simp; try rfl
  simp only [Act.put, List.setIfInBounds_toArray, List.set_cons_zero, List.set_cons_succ]
  refine heldTake (d := some 63) (op := Go.Op.pick (Go.Operand.tmp 60) (Go.Operand.tmp 62) (Go.Operand.const (Go.Value.bool false))) (g := none) 8 ?v8 rfl (by kernel_rfl) (by kernel_rfl) (by kernel_rfl) (by kernel_rfl) ?y8 HS10 ?_
  case y8 => intro o ho w _; simp only [execOp, ho]; go_simp; try rfl
  simp only [Act.put, List.setIfInBounds_toArray, List.set_cons_zero, List.set_cons_succ]
  refine heldTake (d := some 64) (op := Go.Op.move (Go.Operand.tmp 63)) (g := none) 9 ?v9 rfl (by kernel_rfl) (by kernel_rfl) (by kernel_rfl) (by kernel_rfl) ?y9 HS10 ?_
  case y9 => intro o ho w _; simp only [execOp, ho]; go_simp; try rfl
  simp only [Act.put, List.setIfInBounds_toArray, List.set_cons_zero, List.set_cons_succ]
  refine heldTake (d := some 65) (op := Go.Op.load 25 (Go.Operand.tmp 8)) (g := some (9, true)) 10 ?v10 rfl (by kernel_rfl) (by kernel_rfl) (by kernel_rfl) (by kernel_rfl) ?y10 HS10 ?_
  case y10 => intro o ho w hS; obtain ⟨q0, q1, q2, q3⟩ := head_cells hS.2.2.1; simp only [execOp, ho]; go_simp; try rfl
  simp only [Act.put, List.setIfInBounds_toArray, List.set_cons_zero, List.set_cons_succ]
  refine heldTake (d := some 66) (op := Go.Op.load 25 (Go.Operand.tmp 2)) (g := some (9, true)) 11 ?v11 rfl (by kernel_rfl) (by kernel_rfl) (by kernel_rfl) (by kernel_rfl) ?y11 HS10 ?_
  case y11 => intro o ho w hS; obtain ⟨p0, p1, p2, p3⟩ := head_cells hS.2.1; simp only [execOp, ho]; go_simp; try rfl
  simp only [Act.put, List.setIfInBounds_toArray, List.set_cons_zero, List.set_cons_succ]
  refine heldCall (d := some 67) (op := Go.Op.call { callee := Go.Callee.value (Go.Operand.func 18), args := #[Go.Operand.tmp 65, Go.Operand.tmp 66], argTypes := #[25, 25] }) (g := some (9, true)) 12 18 ?a12 rfl (by kernel_rfl) (by kernel_rfl) ?y12 ?_
  case y12 => intro o ho; simp only [execOp, ho]; go_simp; try rfl
  refine (alike_ex w _ g h _ _ true HAL.out HB10.out HFG10.out HFD10.out).mono ?_
  rintro e w11 ⟨rfl, HX11, HB11⟩
  have HS11 : Below w.heap.size w w11 ∧ w11.heap[w.heap.size]? = some (.cells #[.string h.a, .string h.b, .string h.c, .slice vad h.fs.length vc] 25 (0, 0)) ∧ w11.heap[w8.heap.size]? = some (.cells #[.string g.a, .string g.b, .string g.c, .slice a8 g.fs.length c8] 25 (0, 0)) ∧ SrcS w11 (.slice a4 L c4) (text h.hd) := ⟨HB11.out, box_below HS10.2.1 HX11.out, box_below HS10.2.2.1 HX11.out, HS10.2.2.2.below HX11.out⟩
  refine ⟨_, rfl, HS11, ?_⟩
  simp only [Act.put, List.setIfInBounds_toArray, List.set_cons_zero, List.set_cons_succ]
  refine heldTake (d := some 68) (op := Go.Op.pick (Go.Operand.tmp 64) (Go.Operand.tmp 67) (Go.Operand.const (Go.Value.bool false))) (g := none) 13 ?v13 rfl (by kernel_rfl) (by kernel_rfl) (by kernel_rfl) (by kernel_rfl) ?y13 HS11 ?_
  case y13 => intro o ho w _; simp only [execOp, ho]; go_simp; try rfl
  simp only [Act.put, List.setIfInBounds_toArray, List.set_cons_zero, List.set_cons_succ]
  refine heldTake (d := some 69) (op := Go.Op.move (Go.Operand.tmp 68)) (g := none) 14 ?v14 rfl (by kernel_rfl) (by kernel_rfl) (by kernel_rfl) (by kernel_rfl) ?y14 HS11 ?_
  case y14 => intro o ho w _; simp only [execOp, ho]; go_simp; try rfl
  simp only [Act.put, List.setIfInBounds_toArray, List.set_cons_zero, List.set_cons_succ]
  refine heldTake (d := some 70) (op := Go.Op.move (Go.Operand.tmp 9)) (g := some (14, true)) 15 ?v15 rfl (by kernel_rfl) (by kernel_rfl) (by kernel_rfl) (by kernel_rfl) ?y15 HS11 ?_
  case y15 => intro o ho w _; simp only [execOp, ho]; go_simp; try rfl
  simp only [Act.put, List.setIfInBounds_toArray, List.set_cons_zero, List.set_cons_succ]
  refine heldTake (d := some 71) (op := Go.Op.move (Go.Operand.tmp 5)) (g := some (14, true)) 16 ?v16 rfl (by kernel_rfl) (by kernel_rfl) (by kernel_rfl) (by kernel_rfl) ?y16 HS11 ?_
  case y16 => intro o ho w _; simp only [execOp, ho]; go_simp; try rfl
  simp only [Act.put, List.setIfInBounds_toArray, List.set_cons_zero, List.set_cons_succ]
  refine heldTake (d := some 72) (op := Go.Op.call { callee := Go.Callee.builtin Go.Builtin.len, args := #[Go.Operand.tmp 71], argTypes := #[28] }) (g := some (14, true)) 17 ?v17 rfl (by kernel_rfl) (by kernel_rfl) (by kernel_rfl) (by kernel_rfl) ?y17 HS11 ?_
  case y17 => intro o ho w _; simp only [execOp, ho]; go_simp; try rfl
  simp only [Act.put, List.setIfInBounds_toArray, List.set_cons_zero, List.set_cons_succ]
  refine heldTake (d := some 73) (op := Go.Op.binOp Go.BinOp.eql 3 (Go.Operand.tmp 70) (Go.Operand.tmp 72) 3) (g := some (14, true)) 18 ?v18 rfl (by kernel_rfl) (by kernel_rfl) (by kernel_rfl) (by kernel_rfl) ?y18 HS11 ?_
  case y18 => intro o ho w _; simp only [execOp, ho]; go_simp; try rfl
  simp only [Act.put, List.setIfInBounds_toArray, List.set_cons_zero, List.set_cons_succ]
  refine heldTake (d := some 74) (op := Go.Op.pick (Go.Operand.tmp 69) (Go.Operand.tmp 73) (Go.Operand.const (Go.Value.bool false))) (g := none) 19 ?v19 rfl (by kernel_rfl) (by kernel_rfl) (by kernel_rfl) (by kernel_rfl) ?y19 HS11 ?_
  case y19 => intro o ho w _; simp only [execOp, ho]; go_simp; try rfl
  simp only [Act.put, List.setIfInBounds_toArray, List.set_cons_zero, List.set_cons_succ]
  refine heldTake (d := some 75) (op := Go.Op.move (Go.Operand.tmp 74)) (g := none) 20 ?v20 rfl (by kernel_rfl) (by kernel_rfl) (by kernel_rfl) (by kernel_rfl) ?y20 HS11 ?_
  case y20 => intro o ho w _; simp only [execOp, ho]; go_simp; try rfl
  simp only [Act.put, List.setIfInBounds_toArray, List.set_cons_zero, List.set_cons_succ]
  refine heldTake (d := some 76) (op := Go.Op.move (Go.Operand.tmp 10)) (g := some (20, true)) 21 ?v21 rfl (by kernel_rfl) (by kernel_rfl) (by kernel_rfl) (by kernel_rfl) ?y21 HS11 ?_
  case y21 => intro o ho w _; simp only [execOp, ho]; go_simp; try rfl
  simp only [Act.put, List.setIfInBounds_toArray, List.set_cons_zero, List.set_cons_succ]
  refine heldTake (d := some 77) (op := Go.Op.binOp Go.BinOp.eql 29 (Go.Operand.tmp 76) (Go.Operand.const (Go.Value.int Go.IntKind.i64 0)) 29) (g := some (20, true)) 22 ?v22 rfl (by kernel_rfl) (by kernel_rfl) (by kernel_rfl) (by kernel_rfl) ?y22 HS11 ?_
  case y22 => intro o ho w _; simp only [execOp, ho]; go_simp; try rfl
  simp only [Act.put, List.setIfInBounds_toArray, List.set_cons_zero, List.set_cons_succ]
  refine heldTake (d := some 78) (op := Go.Op.pick (Go.Operand.tmp 75) (Go.Operand.tmp 77) (Go.Operand.const (Go.Value.bool false))) (g := none) 23 ?v23 rfl (by kernel_rfl) (by kernel_rfl) (by kernel_rfl) (by kernel_rfl) ?y23 HS11 ?_
  case y23 => intro o ho w _; simp only [execOp, ho]; go_simp; try rfl
  simp only [Act.put, List.setIfInBounds_toArray, List.set_cons_zero, List.set_cons_succ]
  refine heldTake (d := some 4) (op := Go.Op.assign (Go.Operand.tmp 78)) (g := none) 24 ?v24 rfl (by kernel_rfl) (by kernel_rfl) (by kernel_rfl) (by kernel_rfl) ?y24 HS11 ?_
  case y24 => intro o ho w _; simp only [execOp, ho]; go_simp; try rfl
  simp only [Act.put, List.setIfInBounds_toArray, List.set_cons_zero, List.set_cons_succ]
  refine wpAnyH_done (by kernel_rfl) ?_ _
  refine NoPanic.normal ?_
  go_wp2
  go_ret
  exact ⟨rfl, HB11.out⟩
end Go.Proofs.YtcohecghibndhaaDoor
