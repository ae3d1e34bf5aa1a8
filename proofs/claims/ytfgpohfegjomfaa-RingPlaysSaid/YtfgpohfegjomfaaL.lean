/- RingPeek, the walk: whatever two strings and two bytes are handed over, the law's Go text returns true, and nothing that was in memory changes. Conditions: the bytes are numbers of their kind; the strings fit in memory. -/
import Derived.Test.YtfgpohfegjomfaaK
namespace Go.Proofs.Ytfgpohfegjomfaa
open Go.RowKit

section
variable {P : Program} {md : Region.Mode} {ops : Array Oper} {Q : Exit → Act → World → Prop} {S : World → Prop}
/-- What every operation keeps may become more on the way. -/
theorem heldMore {S' : World → Prop} (hs : ∀ W, S' W → S W) : ∀ (fuel : Nat) (listed : Array Bool) (a : Act) (w : World), wpAnyH P md ops Q S' fuel listed a w → wpAnyH P md ops Q S fuel listed a w
  | 0, _, _, _, h => h
  | fuel + 1, listed, _, _, h => ⟨h.1, fun i hi => wpOp_mono (fun a w k => ⟨hs _ k.1, heldMore hs fuel (listed.setIfInBounds i true) a w k.2⟩) (h.2 i hi)⟩
end
/-- The string of a row of bytes, in every world that has it. -/
theorem RowB.strs {g k : Nat} {bs : List Nat} (hk : bs.length = k) (W : World) (h : RowB W g bs) : (convert 33 9 (.slice (some ⟨g, 0, none⟩) k k)).run Try.prog W = .ok (.string (strOf bs)) W := h.str hk

set_option maxHeartbeats 400000 in
theorem peek_long (a b : ByteArray) (n m : Nat) (w : World) (h : 500 < a.size ∨ 500 < b.size) (ha : a.size ≤ maxLen) (hb : b.size ≤ maxLen) :
    Calls Try.prog 8 #[.string a, .string b, .int .u8 n, .int .u8 m] w fun e w' => e = .returned (.bool true) ∧ Below w.heap.size w w' := by
  unfold maxLen at ha hb
  by_cases h1 : 500 < a.size
  · clear h
    go_enter Try.func8, Try.ntmps8
    go_wp2_with fail
    refine (new_ex w _ 64 (by omega) (by omega) (Below.refl _ _)).mono ?_
    rintro e w1 ⟨rfl, HR1, HX1, HB1⟩
    go_wp2_with fail
    refine (awake_ex w _ HB1.out).mono ?_
    rintro e w2 ⟨rfl, HX2, HB2⟩
    go_wp2_with fail
    refine (awake_ex w _ HB2.out).mono ?_
    rintro e w3 ⟨rfl, HX3, HB3⟩
    go_wp2
    go_ret
    exact ⟨rfl, HB3.out⟩
  · have h2 : 500 < b.size := by omega
    clear h
    go_enter Try.func8, Try.ntmps8
    go_wp2_with fail
    refine (new_ex w _ 64 (by omega) (by omega) (Below.refl _ _)).mono ?_
    rintro e w1 ⟨rfl, HR1, HX1, HB1⟩
    go_wp2_with fail
    refine (awake_ex w _ HB1.out).mono ?_
    rintro e w2 ⟨rfl, HX2, HB2⟩
    go_wp2_with fail
    refine (awake_ex w _ HB2.out).mono ?_
    rintro e w3 ⟨rfl, HX3, HB3⟩
    go_wp2
    go_ret
    exact ⟨rfl, HB3.out⟩

set_option maxHeartbeats 2000000 in
set_option maxRecDepth 100000 in
theorem peek_mn (n m : Nat) (a b : ByteArray) (w : World) (hn : n < 256) (hm : m < 256) (h1 : a.size ≤ 500) (h2 : b.size ≤ 500) (c1 : (m : Int) < (n : Int)) :
    Calls Try.prog 8 #[.string a, .string b, .int .u8 n, .int .u8 m] w fun e w' => e = .returned (.bool true) ∧ Below w.heap.size w w' := by
  obtain ⟨pa, hpa⟩ : ∃ pa, pa = min a.size 64 := ⟨_, rfl⟩
  obtain ⟨hs1, hh1⟩ : ∃ hs1, hs1 = [] ++ (bytes a).take pa := ⟨_, rfl⟩
  obtain ⟨o1, ho1⟩ : ∃ o1, hs1.take ((n : Int) / 2).toNat = o1 := ⟨_, rfl⟩
  obtain ⟨k1, hk1⟩ : ∃ k1, o1.length = k1 := ⟨_, rfl⟩
  obtain ⟨hs2, hh2⟩ : ∃ hs2, hs1.drop ((n : Int) / 2).toNat = hs2 := ⟨_, rfl⟩
  obtain ⟨pb, hpb⟩ : ∃ pb, min (bytes b).length (64 - hs2.length) = pb := ⟨_, rfl⟩
  obtain ⟨hs3, hh3⟩ : ∃ hs3, hs3 = hs2 ++ (bytes b).take pb := ⟨_, rfl⟩
  obtain ⟨sx, hsx⟩ : ∃ sx, hs3.take ((m : Int)).toNat = sx := ⟨_, rfl⟩
  obtain ⟨sy, hsy⟩ : ∃ sy, hs3.take ((n : Int)).toNat = sy := ⟨_, rfl⟩
  obtain ⟨rs, hrs⟩ : ∃ rs, hs3.drop ((n : Int)).toNat = rs := ⟨_, rfl⟩
  obtain ⟨lx, hlx⟩ : ∃ lx, sx.length = lx := ⟨_, rfl⟩
  obtain ⟨ly, hly⟩ : ∃ ly, sy.length = ly := ⟨_, rfl⟩
  obtain ⟨lr, hlr⟩ : ∃ lr, rs.length = lr := ⟨_, rfl⟩
  obtain ⟨l3, hl3⟩ : ∃ l3, hs3.length = l3 := ⟨_, rfl⟩
  obtain ⟨x, hx⟩ : ∃ x, strOf sx = x := ⟨_, rfl⟩
  obtain ⟨y, hy⟩ : ∃ y, strOf sy = y := ⟨_, rfl⟩
  have HPA : Sl (min (bytes a).length (64 - ([] : List Nat).length) = pa) := ⟨by rw [bytes_length, hpa]; rfl⟩
  have sm1 : Small 256 hs1 := by rw [hh1]; exact (bytes_small a).take _
  have sm3 : Small 256 hs3 := by rw [hh3, ← hh2]; exact (sm1.drop _).append ((bytes_small b).take _)
  have smx : Small 256 sx := by rw [← hsx]; exact sm3.take _
  have smy : Small 256 sy := by rw [← hsy]; exact sm3.take _
  have zx : x.size = lx := by rw [← hx, strOf_size, hlx]
  have zy : y.size = ly := by rw [← hy, strOf_size, hly]
  have elx : lx = min m l3 := by rw [← hlx, ← hsx, List.length_take, ← hl3]; simp
  have ely : ly = min n l3 := by rw [← hly, ← hsy, List.length_take, ← hl3]; simp
  have elr : lr = l3 - n := by rw [← hlr, ← hrs, List.length_drop, ← hl3]; simp
  have q1 : ¬ (y.size : Int) < (x.size : Int) := by omega
  have q2 : ((y.extract 0 x.size).toList == x.toList) = true := by
    rw [beq_bytes2, bytes_extract, ← hx, ← hy, bytes_strOf _ smx, bytes_strOf _ smy, strOf_size, List.drop_zero, decide_eq_true_eq, ← hsx, ← hsy, List.take_take, List.length_take]
    rw [List.take_eq_take_iff]
    simp only [Int.toNat_natCast]
    omega
  have q3 : ((lr : Int) == (l3 : Int) - (y.size : Int)) = true := by simp; omega
  have q4 : (y.toList == y.toList) = true := by simp
  have b1 : pa ≤ 64 := by omega
  have b2 : x.size ≤ y.size := by omega
  have b3 : l3 ≤ 1000 := by
    rw [← hl3, hh3, ← hh2, hh1, List.length_append, List.length_drop, List.nil_append, List.length_take, List.length_take, bytes_length]; omega
  have b4 : y.size ≤ 1000 := by omega
  have Q1 : Sl (decide (y.size < x.size) = false) := ⟨by simp; omega⟩
  have Q2 := Sl.mk q2
  have Q3 := Sl.mk q3
  clear q1 q2 q3
  have HH1 := Sl.mk hh1
  have HO1 := Sl.mk ho1
  have HK1 := Sl.mk hk1
  have HH2 := Sl.mk hh2
  have HPB := Sl.mk hpb
  have HH3 := Sl.mk hh3
  have SX := Sl.mk hsx
  have SY := Sl.mk hsy
  have RS := Sl.mk hrs
  have LX := Sl.mk hlx
  have LY := Sl.mk hly
  have LR := Sl.mk hlr
  have L3 := Sl.mk hl3
  have XX := Sl.mk hx
  have YY := Sl.mk hy
  have HL : Sl ((bytes a).length ≤ 100000 ∧ (bytes b).length ≤ 100000) := ⟨by rw [bytes_length, bytes_length]; omega⟩
  clear hpa hh1 ho1 hk1 hh2 hpb hh3 hsx hsy hrs hlx hly hlr hl3 hx hy sm1 sm3 smx smy zx zy elx ely elr
  go_enter Try.func8, Try.ntmps8
  go_wp2_with fail
  refine (new_ex w _ 64 (by omega) (by omega) (Below.refl _ _)).mono ?_
  rintro e w1 ⟨rfl, HR1, HX1, HB1⟩
  go_wp2_with fail
  refine (awake_ex w _ HB1.out).mono ?_
  rintro e w2 ⟨rfl, HX2, HB2⟩
  have HR2 := Sl.mk (HR1.out.below HX2.out)
  obtain ⟨c3, w3, hc3, HV3, HX3⟩ := conv_str a w2
  have HB3 : Sl (Below w.heap.size w w3) := ⟨HB2.out.trans (HX3.out.mono HB2.out.size)⟩
  have HR3 := Sl.mk (HR2.out.below HX3.out)
  go_wp2_with fail
  refine (put_ex w _ (w.heap.size + 1) w.heap.size 64 pa [] (bytes a) _ HB3.out (by omega) (by omega) HR3.out (HV3.out.offs HR2.out.plt) (bytes_small a) HL.out.1 HPA.out).mono ?_
  rw [← HH1.out]
  rintro e w4 ⟨rfl, HR4, HX4, HB4⟩
  clear hc3
  go_wp2_with fail
  refine (take_ex w _ (w.heap.size + 1) w.heap.size 64 k1 hs1 o1 hs2 _ HB4.out (by omega) (by omega) HR4.out HO1.out HK1.out HH2.out).mono ?_
  rintro e w5 ⟨rfl, HO5, HR5, HX5, HB5⟩
  obtain ⟨c6, w6, hc6, HV6, HX6⟩ := conv_str b w5
  have HB6 : Sl (Below w.heap.size w w6) := ⟨HB5.out.trans (HX6.out.mono HB5.out.size)⟩
  have HR6 := Sl.mk (HR5.out.below HX6.out)
  go_wp2_with fail
  refine (put_ex w _ (w.heap.size + 1) w.heap.size 64 pb hs2 (bytes b) _ HB6.out (by omega) (by omega) HR6.out (HV6.out.offs HR5.out.plt) (bytes_small b) HL.out.2 HPB.out).mono ?_
  rw [← HH3.out]
  rintro e w7 ⟨rfl, HR7, HX7, HB7⟩
  clear hc6
  go_wp2
  have hb8 : Below w.heap.size w w7.drew := HB7.out.drew
  have HR8 : Sl (RingH w7.drew (w.heap.size + 1) w.heap.size 64 hs3) := ⟨HR7.out.below (Below.refl _ _).drew⟩
  have c2f : ((n : Int) < (m : Int)) = False := eq_false (by omega)
  have u1 : w.heap.size ≤ w.heap.size + 1 := by omega
  have u2 : w.heap.size ≤ w.heap.size := by omega
  have y0 := IntWalk.i64_in (n : Int) (by omega)
  have y1 := IntWalk.i64_in (m : Int) (by omega)
  have z0 : IntKind.i64.wrap (n : Int) = (n : Int) := y0
  have z1 : IntKind.i64.wrap (m : Int) = (m : Int) := y1
  clear y0 y1
  refine wp_region_noPanic ?_
  refine wp_region_held (S := fun W => Below w.heap.size w W) (by kernel_rfl) ?_
  change wpAnyH _ _ _ _ _ _ _ _ w7.drew
  refine heldTake (d := some 52) (op := Go.Op.move (Go.Operand.tmp 9)) (g := none) 0 ?v0 rfl (by kernel_rfl) (by kernel_rfl) (by kernel_rfl) (by kernel_rfl) ?y0 hb8 ?_
  case y0 => intro o ho w _; simp only [execOp, ho]; go_simp; try rfl
  simp only [Act.put, List.setIfInBounds_toArray, List.set_cons_zero, List.set_cons_succ]
  refine heldTake (d := some 53) (op := Go.Op.move (Go.Operand.tmp 2)) (g := none) 1 ?v1 rfl (by kernel_rfl) (by kernel_rfl) (by kernel_rfl) (by kernel_rfl) ?y1 hb8 ?_
  case y1 => intro o ho w _; simp only [execOp, ho]; go_simp; try rfl
  simp only [Act.put, List.setIfInBounds_toArray, List.set_cons_zero, List.set_cons_succ]
  refine heldTake (d := some 54) (op := Go.Op.move (Go.Operand.tmp 3)) (g := none) 2 ?v2 rfl (by kernel_rfl) (by kernel_rfl) (by kernel_rfl) (by kernel_rfl) ?y2 hb8 ?_
  case y2 => intro o ho w _; simp only [execOp, ho]; go_simp; try rfl
  simp only [Act.put, List.setIfInBounds_toArray, List.set_cons_zero, List.set_cons_succ]
  refine heldTake (d := some 55) (op := Go.Op.call { callee := Go.Callee.builtin Go.Builtin.min, args := #[Go.Operand.tmp 53, Go.Operand.tmp 54], argTypes := #[5, 5] }) (g := none) 3 ?v3 rfl (by kernel_rfl) (by kernel_rfl) (by kernel_rfl) (by kernel_rfl) ?y3 hb8 ?_
  case y3 => intro o ho w _; simp only [execOp, ho]; go_simp; try rfl
  simp only [Act.put, List.setIfInBounds_toArray, List.set_cons_zero, List.set_cons_succ]
  refine heldTake (d := some 56) (op := Go.Op.convert 5 3 (Go.Operand.tmp 55)) (g := none) 4 ?v4 rfl (by kernel_rfl) (by kernel_rfl) (by kernel_rfl) (by kernel_rfl) ?y4 hb8 ?_
  case y4 => intro o ho w _; simp only [execOp, ho]; go_simp; try rfl
  simp only [Act.put, List.setIfInBounds_toArray, List.set_cons_zero, List.set_cons_succ]
  refine heldTake (d := some 59) (op := Go.Op.move (Go.Operand.tmp 9)) (g := none) 7 ?v7 rfl (by kernel_rfl) (by kernel_rfl) (by kernel_rfl) (by kernel_rfl) ?y7 hb8 ?_
  case y7 => intro o ho w _; simp only [execOp, ho]; go_simp; try rfl
  simp only [Act.put, List.setIfInBounds_toArray, List.set_cons_zero, List.set_cons_succ]
  refine heldTake (d := some 60) (op := Go.Op.move (Go.Operand.tmp 2)) (g := none) 8 ?v8 rfl (by kernel_rfl) (by kernel_rfl) (by kernel_rfl) (by kernel_rfl) ?y8 hb8 ?_
  case y8 => intro o ho w _; simp only [execOp, ho]; go_simp; try rfl
  simp only [Act.put, List.setIfInBounds_toArray, List.set_cons_zero, List.set_cons_succ]
  refine heldTake (d := some 61) (op := Go.Op.move (Go.Operand.tmp 3)) (g := none) 9 ?v9 rfl (by kernel_rfl) (by kernel_rfl) (by kernel_rfl) (by kernel_rfl) ?y9 hb8 ?_
  case y9 => intro o ho w _; simp only [execOp, ho]; go_simp; try rfl
  simp only [Act.put, List.setIfInBounds_toArray, List.set_cons_zero, List.set_cons_succ]
  refine heldTake (d := some 62) (op := Go.Op.call { callee := Go.Callee.builtin Go.Builtin.max, args := #[Go.Operand.tmp 60, Go.Operand.tmp 61], argTypes := #[5, 5] }) (g := none) 10 ?v10 rfl (by kernel_rfl) (by kernel_rfl) (by kernel_rfl) (by kernel_rfl) ?y10 hb8 ?_
  case y10 => intro o ho w _; simp only [execOp, ho]; go_simp; try rfl
  simp only [Act.put, List.setIfInBounds_toArray, List.set_cons_zero, List.set_cons_succ]
  refine heldTake (d := some 63) (op := Go.Op.convert 5 3 (Go.Operand.tmp 62)) (g := none) 11 ?v11 rfl (by kernel_rfl) (by kernel_rfl) (by kernel_rfl) (by kernel_rfl) ?y11 hb8 ?_
  case y11 => intro o ho w _; simp only [execOp, ho]; go_simp; try rfl
  simp only [Act.put, List.setIfInBounds_toArray, List.set_cons_zero, List.set_cons_succ]
  refine heldCall (d := some 57) (op := Go.Op.call { callee := Go.Callee.value (Go.Operand.func 13), args := #[Go.Operand.tmp 52, Go.Operand.tmp 56], argTypes := #[23, 3] }) (g := none) 5 13 ?a5 rfl (by kernel_rfl) (by kernel_rfl) ?y5 ?_
  case y5 => intro o ho; simp only [execOp, ho]; go_simp; try rfl
  refine (peek_ex w _ (w.heap.size + 1) w.heap.size 64 lx hs3 sx _ hb8 HR8.out SX.out LX.out).mono ?_
  rintro e w9 ⟨rfl, HO9, HR9, HX9, HB9⟩
  have HS9 : Below w.heap.size w w9 ∧ RowB w9 w7.heap.size sx := ⟨HB9.out, HO9.out⟩
  refine ⟨_, rfl, HS9.1, ?_⟩
  refine heldMore (S' := fun W => Below w.heap.size w W ∧ RowB W w7.heap.size sx) (fun _ h => h.1) _ _ _ _ ?_
  simp only [Act.put, List.setIfInBounds_toArray, List.set_cons_zero, List.set_cons_succ]
  refine heldTake (d := some 58) (op := Go.Op.convert 33 9 (Go.Operand.tmp 57)) (g := none) 6 ?v6 rfl (by kernel_rfl) (by kernel_rfl) (by kernel_rfl) (by kernel_rfl) ?y6 HS9 ?_
  case y6 => intro o ho w hS; have hcv : (convert 33 9 (.slice (some ⟨w7.heap.size, 0, none⟩) lx lx)).run Try.prog w = .ok (.string x) w := (RowB.strs LX.out w hS.2).trans (by rw [XX.out]); simp only [execOp, ho]; go_simp; try rfl
  simp only [Act.put, List.setIfInBounds_toArray, List.set_cons_zero, List.set_cons_succ]
  refine heldCall (d := some 64) (op := Go.Op.call { callee := Go.Callee.value (Go.Operand.func 13), args := #[Go.Operand.tmp 59, Go.Operand.tmp 63], argTypes := #[23, 3] }) (g := none) 12 13 ?a12 rfl (by kernel_rfl) (by kernel_rfl) ?y12 ?_
  case y12 => intro o ho; simp only [execOp, ho]; go_simp; try rfl
  refine (peek_ex w _ (w.heap.size + 1) w.heap.size 64 ly hs3 sy _ HB9.out HR9.out SY.out LY.out).mono ?_
  rintro e w10 ⟨rfl, HO10, HR10, HX10, HB10⟩
  have HS10 : Below w.heap.size w w10 ∧ RowB w10 w7.heap.size sx := ⟨HB10.out, HS9.2.below HX10.out⟩
  have HSY : (Below w.heap.size w w10 ∧ RowB w10 w7.heap.size sx) ∧ RowB w10 w9.heap.size sy := ⟨HS10, HO10.out⟩
  refine ⟨_, rfl, HS10, ?_⟩
  refine heldMore (S' := fun W => (Below w.heap.size w W ∧ RowB W w7.heap.size sx) ∧ RowB W w9.heap.size sy) (fun _ h => h.1) _ _ _ _ ?_
  simp only [Act.put, List.setIfInBounds_toArray, List.set_cons_zero, List.set_cons_succ]
  refine heldTake (d := some 65) (op := Go.Op.convert 33 9 (Go.Operand.tmp 64)) (g := none) 13 ?v13 rfl (by kernel_rfl) (by kernel_rfl) (by kernel_rfl) (by kernel_rfl) ?y13 HSY ?_
  case y13 => intro o ho w hS; have hcv : (convert 33 9 (.slice (some ⟨w9.heap.size, 0, none⟩) ly ly)).run Try.prog w = .ok (.string y) w := (RowB.strs LY.out w hS.2).trans (by rw [YY.out]); simp only [execOp, ho]; go_simp; try rfl
  simp only [Act.put, List.setIfInBounds_toArray, List.set_cons_zero, List.set_cons_succ]
  refine heldTake (d := some 11) (op := Go.Op.assign (Go.Operand.tmp 58)) (g := none) 14 ?v14 rfl (by kernel_rfl) (by kernel_rfl) (by kernel_rfl) (by kernel_rfl) ?y14 HSY ?_
  case y14 => intro o ho w _; simp only [execOp, ho]; go_simp; try rfl
  simp only [Act.put, List.setIfInBounds_toArray, List.set_cons_zero, List.set_cons_succ]
  refine heldTake (d := some 12) (op := Go.Op.assign (Go.Operand.tmp 65)) (g := none) 15 ?v15 rfl (by kernel_rfl) (by kernel_rfl) (by kernel_rfl) (by kernel_rfl) ?y15 HSY ?_
  case y15 => intro o ho w _; simp only [execOp, ho]; go_simp; try rfl
  simp only [Act.put, List.setIfInBounds_toArray, List.set_cons_zero, List.set_cons_succ]
  refine wpAnyH_done (by kernel_rfl) ?_ _
  refine NoPanic.normal ?_
  clear z0 z1
  have q1 := Q1.out
  have q2 := Q2.out
  have q3 := Q3.out
  go_wp2_with fail
  refine (len_ex _ (w.heap.size + 1) w.heap.size 64 l3 hs3 HR10.out L3.out).mono ?_
  rintro e w10' ⟨rfl, rfl⟩
  go_wp2_with fail
  refine (take_ex w _ (w.heap.size + 1) w.heap.size 64 ly hs3 sy rs _ HB10.out u1 u2 HR10.out SY.out LY.out RS.out).mono ?_
  rintro e w11 ⟨rfl, HO11, HR11, HX11, HB11⟩
  have hcv := HO11.out.str LY.out
  rw [YY.out] at hcv
  go_wp2_with fail
  refine (len_ex _ (w.heap.size + 1) w.heap.size 64 lr rs HR11.out LR.out).mono ?_
  rintro e w11' ⟨rfl, rfl⟩
  go_wp2
  go_ret
  exact ⟨rfl, HB11.out⟩

set_option maxHeartbeats 2000000 in
set_option maxRecDepth 100000 in
theorem peek_nm (n m : Nat) (a b : ByteArray) (w : World) (hn : n < 256) (hm : m < 256) (h1 : a.size ≤ 500) (h2 : b.size ≤ 500) (c2 : (n : Int) < (m : Int)) :
    Calls Try.prog 8 #[.string a, .string b, .int .u8 n, .int .u8 m] w fun e w' => e = .returned (.bool true) ∧ Below w.heap.size w w' := by
  obtain ⟨pa, hpa⟩ : ∃ pa, pa = min a.size 64 := ⟨_, rfl⟩
  obtain ⟨hs1, hh1⟩ : ∃ hs1, hs1 = [] ++ (bytes a).take pa := ⟨_, rfl⟩
  obtain ⟨o1, ho1⟩ : ∃ o1, hs1.take ((n : Int) / 2).toNat = o1 := ⟨_, rfl⟩
  obtain ⟨k1, hk1⟩ : ∃ k1, o1.length = k1 := ⟨_, rfl⟩
  obtain ⟨hs2, hh2⟩ : ∃ hs2, hs1.drop ((n : Int) / 2).toNat = hs2 := ⟨_, rfl⟩
  obtain ⟨pb, hpb⟩ : ∃ pb, min (bytes b).length (64 - hs2.length) = pb := ⟨_, rfl⟩
  obtain ⟨hs3, hh3⟩ : ∃ hs3, hs3 = hs2 ++ (bytes b).take pb := ⟨_, rfl⟩
  obtain ⟨sx, hsx⟩ : ∃ sx, hs3.take ((n : Int)).toNat = sx := ⟨_, rfl⟩
  obtain ⟨sy, hsy⟩ : ∃ sy, hs3.take ((m : Int)).toNat = sy := ⟨_, rfl⟩
  obtain ⟨rs, hrs⟩ : ∃ rs, hs3.drop ((m : Int)).toNat = rs := ⟨_, rfl⟩
  obtain ⟨lx, hlx⟩ : ∃ lx, sx.length = lx := ⟨_, rfl⟩
  obtain ⟨ly, hly⟩ : ∃ ly, sy.length = ly := ⟨_, rfl⟩
  obtain ⟨lr, hlr⟩ : ∃ lr, rs.length = lr := ⟨_, rfl⟩
  obtain ⟨l3, hl3⟩ : ∃ l3, hs3.length = l3 := ⟨_, rfl⟩
  obtain ⟨x, hx⟩ : ∃ x, strOf sx = x := ⟨_, rfl⟩
  obtain ⟨y, hy⟩ : ∃ y, strOf sy = y := ⟨_, rfl⟩
  have HPA : Sl (min (bytes a).length (64 - ([] : List Nat).length) = pa) := ⟨by rw [bytes_length, hpa]; rfl⟩
  have sm1 : Small 256 hs1 := by rw [hh1]; exact (bytes_small a).take _
  have sm3 : Small 256 hs3 := by rw [hh3, ← hh2]; exact (sm1.drop _).append ((bytes_small b).take _)
  have smx : Small 256 sx := by rw [← hsx]; exact sm3.take _
  have smy : Small 256 sy := by rw [← hsy]; exact sm3.take _
  have zx : x.size = lx := by rw [← hx, strOf_size, hlx]
  have zy : y.size = ly := by rw [← hy, strOf_size, hly]
  have elx : lx = min n l3 := by rw [← hlx, ← hsx, List.length_take, ← hl3]; simp
  have ely : ly = min m l3 := by rw [← hly, ← hsy, List.length_take, ← hl3]; simp
  have elr : lr = l3 - m := by rw [← hlr, ← hrs, List.length_drop, ← hl3]; simp
  have q1 : ¬ (y.size : Int) < (x.size : Int) := by omega
  have q2 : ((y.extract 0 x.size).toList == x.toList) = true := by
    rw [beq_bytes2, bytes_extract, ← hx, ← hy, bytes_strOf _ smx, bytes_strOf _ smy, strOf_size, List.drop_zero, decide_eq_true_eq, ← hsx, ← hsy, List.take_take, List.length_take]
    rw [List.take_eq_take_iff]
    simp only [Int.toNat_natCast]
    omega
  have q3 : ((lr : Int) == (l3 : Int) - (y.size : Int)) = true := by simp; omega
  have q4 : (y.toList == y.toList) = true := by simp
  have b1 : pa ≤ 64 := by omega
  have b2 : x.size ≤ y.size := by omega
  have b3 : l3 ≤ 1000 := by
    rw [← hl3, hh3, ← hh2, hh1, List.length_append, List.length_drop, List.nil_append, List.length_take, List.length_take, bytes_length]; omega
  have b4 : y.size ≤ 1000 := by omega
  have Q1 : Sl (decide (y.size < x.size) = false) := ⟨by simp; omega⟩
  have Q2 := Sl.mk q2
  have Q3 := Sl.mk q3
  clear q1 q2 q3
  have HH1 := Sl.mk hh1
  have HO1 := Sl.mk ho1
  have HK1 := Sl.mk hk1
  have HH2 := Sl.mk hh2
  have HPB := Sl.mk hpb
  have HH3 := Sl.mk hh3
  have SX := Sl.mk hsx
  have SY := Sl.mk hsy
  have RS := Sl.mk hrs
  have LX := Sl.mk hlx
  have LY := Sl.mk hly
  have LR := Sl.mk hlr
  have L3 := Sl.mk hl3
  have XX := Sl.mk hx
  have YY := Sl.mk hy
  have HL : Sl ((bytes a).length ≤ 100000 ∧ (bytes b).length ≤ 100000) := ⟨by rw [bytes_length, bytes_length]; omega⟩
  clear hpa hh1 ho1 hk1 hh2 hpb hh3 hsx hsy hrs hlx hly hlr hl3 hx hy sm1 sm3 smx smy zx zy elx ely elr
  go_enter Try.func8, Try.ntmps8
  go_wp2_with fail
  refine (new_ex w _ 64 (by omega) (by omega) (Below.refl _ _)).mono ?_
  rintro e w1 ⟨rfl, HR1, HX1, HB1⟩
  go_wp2_with fail
  refine (awake_ex w _ HB1.out).mono ?_
  rintro e w2 ⟨rfl, HX2, HB2⟩
  have HR2 := Sl.mk (HR1.out.below HX2.out)
  obtain ⟨c3, w3, hc3, HV3, HX3⟩ := conv_str a w2
  have HB3 : Sl (Below w.heap.size w w3) := ⟨HB2.out.trans (HX3.out.mono HB2.out.size)⟩
  have HR3 := Sl.mk (HR2.out.below HX3.out)
  go_wp2_with fail
  refine (put_ex w _ (w.heap.size + 1) w.heap.size 64 pa [] (bytes a) _ HB3.out (by omega) (by omega) HR3.out (HV3.out.offs HR2.out.plt) (bytes_small a) HL.out.1 HPA.out).mono ?_
  rw [← HH1.out]
  rintro e w4 ⟨rfl, HR4, HX4, HB4⟩
  clear hc3
  go_wp2_with fail
  refine (take_ex w _ (w.heap.size + 1) w.heap.size 64 k1 hs1 o1 hs2 _ HB4.out (by omega) (by omega) HR4.out HO1.out HK1.out HH2.out).mono ?_
  rintro e w5 ⟨rfl, HO5, HR5, HX5, HB5⟩
  obtain ⟨c6, w6, hc6, HV6, HX6⟩ := conv_str b w5
  have HB6 : Sl (Below w.heap.size w w6) := ⟨HB5.out.trans (HX6.out.mono HB5.out.size)⟩
  have HR6 := Sl.mk (HR5.out.below HX6.out)
  go_wp2_with fail
  refine (put_ex w _ (w.heap.size + 1) w.heap.size 64 pb hs2 (bytes b) _ HB6.out (by omega) (by omega) HR6.out (HV6.out.offs HR5.out.plt) (bytes_small b) HL.out.2 HPB.out).mono ?_
  rw [← HH3.out]
  rintro e w7 ⟨rfl, HR7, HX7, HB7⟩
  clear hc6
  go_wp2
  have hb8 : Below w.heap.size w w7.drew := HB7.out.drew
  have HR8 : Sl (RingH w7.drew (w.heap.size + 1) w.heap.size 64 hs3) := ⟨HR7.out.below (Below.refl _ _).drew⟩
  have c1f : ((m : Int) < (n : Int)) = False := eq_false (by omega)
  have u1 : w.heap.size ≤ w.heap.size + 1 := by omega
  have u2 : w.heap.size ≤ w.heap.size := by omega
  have y0 := IntWalk.i64_in (n : Int) (by omega)
  have y1 := IntWalk.i64_in (m : Int) (by omega)
  have z0 : IntKind.i64.wrap (n : Int) = (n : Int) := y0
  have z1 : IntKind.i64.wrap (m : Int) = (m : Int) := y1
  clear y0 y1
  refine wp_region_noPanic ?_
  refine wp_region_held (S := fun W => Below w.heap.size w W) (by kernel_rfl) ?_
  change wpAnyH _ _ _ _ _ _ _ _ w7.drew
  refine heldTake (d := some 52) (op := Go.Op.move (Go.Operand.tmp 9)) (g := none) 0 ?v0 rfl (by kernel_rfl) (by kernel_rfl) (by kernel_rfl) (by kernel_rfl) ?y0 hb8 ?_
  case y0 => intro o ho w _; simp only [execOp, ho]; go_simp; try rfl
  simp only [Act.put, List.setIfInBounds_toArray, List.set_cons_zero, List.set_cons_succ]
  refine heldTake (d := some 53) (op := Go.Op.move (Go.Operand.tmp 2)) (g := none) 1 ?v1 rfl (by kernel_rfl) (by kernel_rfl) (by kernel_rfl) (by kernel_rfl) ?y1 hb8 ?_
  case y1 => intro o ho w _; simp only [execOp, ho]; go_simp; try rfl
  simp only [Act.put, List.setIfInBounds_toArray, List.set_cons_zero, List.set_cons_succ]
  refine heldTake (d := some 54) (op := Go.Op.move (Go.Operand.tmp 3)) (g := none) 2 ?v2 rfl (by kernel_rfl) (by kernel_rfl) (by kernel_rfl) (by kernel_rfl) ?y2 hb8 ?_
  case y2 => intro o ho w _; simp only [execOp, ho]; go_simp; try rfl
  simp only [Act.put, List.setIfInBounds_toArray, List.set_cons_zero, List.set_cons_succ]
  refine heldTake (d := some 55) (op := Go.Op.call { callee := Go.Callee.builtin Go.Builtin.min, args := #[Go.Operand.tmp 53, Go.Operand.tmp 54], argTypes := #[5, 5] }) (g := none) 3 ?v3 rfl (by kernel_rfl) (by kernel_rfl) (by kernel_rfl) (by kernel_rfl) ?y3 hb8 ?_
  case y3 => intro o ho w _; simp only [execOp, ho]; go_simp; try rfl
  simp only [Act.put, List.setIfInBounds_toArray, List.set_cons_zero, List.set_cons_succ]
  refine heldTake (d := some 56) (op := Go.Op.convert 5 3 (Go.Operand.tmp 55)) (g := none) 4 ?v4 rfl (by kernel_rfl) (by kernel_rfl) (by kernel_rfl) (by kernel_rfl) ?y4 hb8 ?_
  case y4 => intro o ho w _; simp only [execOp, ho]; go_simp; try rfl
  simp only [Act.put, List.setIfInBounds_toArray, List.set_cons_zero, List.set_cons_succ]
  refine heldTake (d := some 59) (op := Go.Op.move (Go.Operand.tmp 9)) (g := none) 7 ?v7 rfl (by kernel_rfl) (by kernel_rfl) (by kernel_rfl) (by kernel_rfl) ?y7 hb8 ?_
  case y7 => intro o ho w _; simp only [execOp, ho]; go_simp; try rfl
  simp only [Act.put, List.setIfInBounds_toArray, List.set_cons_zero, List.set_cons_succ]
  refine heldTake (d := some 60) (op := Go.Op.move (Go.Operand.tmp 2)) (g := none) 8 ?v8 rfl (by kernel_rfl) (by kernel_rfl) (by kernel_rfl) (by kernel_rfl) ?y8 hb8 ?_
  case y8 => intro o ho w _; simp only [execOp, ho]; go_simp; try rfl
  simp only [Act.put, List.setIfInBounds_toArray, List.set_cons_zero, List.set_cons_succ]
  refine heldTake (d := some 61) (op := Go.Op.move (Go.Operand.tmp 3)) (g := none) 9 ?v9 rfl (by kernel_rfl) (by kernel_rfl) (by kernel_rfl) (by kernel_rfl) ?y9 hb8 ?_
  case y9 => intro o ho w _; simp only [execOp, ho]; go_simp; try rfl
  simp only [Act.put, List.setIfInBounds_toArray, List.set_cons_zero, List.set_cons_succ]
  refine heldTake (d := some 62) (op := Go.Op.call { callee := Go.Callee.builtin Go.Builtin.max, args := #[Go.Operand.tmp 60, Go.Operand.tmp 61], argTypes := #[5, 5] }) (g := none) 10 ?v10 rfl (by kernel_rfl) (by kernel_rfl) (by kernel_rfl) (by kernel_rfl) ?y10 hb8 ?_
  case y10 => intro o ho w _; simp only [execOp, ho]; go_simp; try rfl
  simp only [Act.put, List.setIfInBounds_toArray, List.set_cons_zero, List.set_cons_succ]
  refine heldTake (d := some 63) (op := Go.Op.convert 5 3 (Go.Operand.tmp 62)) (g := none) 11 ?v11 rfl (by kernel_rfl) (by kernel_rfl) (by kernel_rfl) (by kernel_rfl) ?y11 hb8 ?_
  case y11 => intro o ho w _; simp only [execOp, ho]; go_simp; try rfl
  simp only [Act.put, List.setIfInBounds_toArray, List.set_cons_zero, List.set_cons_succ]
  refine heldCall (d := some 57) (op := Go.Op.call { callee := Go.Callee.value (Go.Operand.func 13), args := #[Go.Operand.tmp 52, Go.Operand.tmp 56], argTypes := #[23, 3] }) (g := none) 5 13 ?a5 rfl (by kernel_rfl) (by kernel_rfl) ?y5 ?_
  case y5 => intro o ho; simp only [execOp, ho]; go_simp; try rfl
  refine (peek_ex w _ (w.heap.size + 1) w.heap.size 64 lx hs3 sx _ hb8 HR8.out SX.out LX.out).mono ?_
  rintro e w9 ⟨rfl, HO9, HR9, HX9, HB9⟩
  have HS9 : Below w.heap.size w w9 ∧ RowB w9 w7.heap.size sx := ⟨HB9.out, HO9.out⟩
  refine ⟨_, rfl, HS9.1, ?_⟩
  refine heldMore (S' := fun W => Below w.heap.size w W ∧ RowB W w7.heap.size sx) (fun _ h => h.1) _ _ _ _ ?_
  simp only [Act.put, List.setIfInBounds_toArray, List.set_cons_zero, List.set_cons_succ]
  refine heldTake (d := some 58) (op := Go.Op.convert 33 9 (Go.Operand.tmp 57)) (g := none) 6 ?v6 rfl (by kernel_rfl) (by kernel_rfl) (by kernel_rfl) (by kernel_rfl) ?y6 HS9 ?_
  case y6 => intro o ho w hS; have hcv : (convert 33 9 (.slice (some ⟨w7.heap.size, 0, none⟩) lx lx)).run Try.prog w = .ok (.string x) w := (RowB.strs LX.out w hS.2).trans (by rw [XX.out]); simp only [execOp, ho]; go_simp; try rfl
  simp only [Act.put, List.setIfInBounds_toArray, List.set_cons_zero, List.set_cons_succ]
  refine heldCall (d := some 64) (op := Go.Op.call { callee := Go.Callee.value (Go.Operand.func 13), args := #[Go.Operand.tmp 59, Go.Operand.tmp 63], argTypes := #[23, 3] }) (g := none) 12 13 ?a12 rfl (by kernel_rfl) (by kernel_rfl) ?y12 ?_
  case y12 => intro o ho; simp only [execOp, ho]; go_simp; try rfl
  refine (peek_ex w _ (w.heap.size + 1) w.heap.size 64 ly hs3 sy _ HB9.out HR9.out SY.out LY.out).mono ?_
  rintro e w10 ⟨rfl, HO10, HR10, HX10, HB10⟩
  have HS10 : Below w.heap.size w w10 ∧ RowB w10 w7.heap.size sx := ⟨HB10.out, HS9.2.below HX10.out⟩
  have HSY : (Below w.heap.size w w10 ∧ RowB w10 w7.heap.size sx) ∧ RowB w10 w9.heap.size sy := ⟨HS10, HO10.out⟩
  refine ⟨_, rfl, HS10, ?_⟩
  refine heldMore (S' := fun W => (Below w.heap.size w W ∧ RowB W w7.heap.size sx) ∧ RowB W w9.heap.size sy) (fun _ h => h.1) _ _ _ _ ?_
  simp only [Act.put, List.setIfInBounds_toArray, List.set_cons_zero, List.set_cons_succ]
  refine heldTake (d := some 65) (op := Go.Op.convert 33 9 (Go.Operand.tmp 64)) (g := none) 13 ?v13 rfl (by kernel_rfl) (by kernel_rfl) (by kernel_rfl) (by kernel_rfl) ?y13 HSY ?_
  case y13 => intro o ho w hS; have hcv : (convert 33 9 (.slice (some ⟨w9.heap.size, 0, none⟩) ly ly)).run Try.prog w = .ok (.string y) w := (RowB.strs LY.out w hS.2).trans (by rw [YY.out]); simp only [execOp, ho]; go_simp; try rfl
  simp only [Act.put, List.setIfInBounds_toArray, List.set_cons_zero, List.set_cons_succ]
  refine heldTake (d := some 11) (op := Go.Op.assign (Go.Operand.tmp 58)) (g := none) 14 ?v14 rfl (by kernel_rfl) (by kernel_rfl) (by kernel_rfl) (by kernel_rfl) ?y14 HSY ?_
  case y14 => intro o ho w _; simp only [execOp, ho]; go_simp; try rfl
  simp only [Act.put, List.setIfInBounds_toArray, List.set_cons_zero, List.set_cons_succ]
  refine heldTake (d := some 12) (op := Go.Op.assign (Go.Operand.tmp 65)) (g := none) 15 ?v15 rfl (by kernel_rfl) (by kernel_rfl) (by kernel_rfl) (by kernel_rfl) ?y15 HSY ?_
  case y15 => intro o ho w _; simp only [execOp, ho]; go_simp; try rfl
  simp only [Act.put, List.setIfInBounds_toArray, List.set_cons_zero, List.set_cons_succ]
  refine wpAnyH_done (by kernel_rfl) ?_ _
  refine NoPanic.normal ?_
  clear z0 z1
  have q1 := Q1.out
  have q2 := Q2.out
  have q3 := Q3.out
  go_wp2_with fail
  refine (len_ex _ (w.heap.size + 1) w.heap.size 64 l3 hs3 HR10.out L3.out).mono ?_
  rintro e w10' ⟨rfl, rfl⟩
  go_wp2_with fail
  refine (take_ex w _ (w.heap.size + 1) w.heap.size 64 ly hs3 sy rs _ HB10.out u1 u2 HR10.out SY.out LY.out RS.out).mono ?_
  rintro e w11 ⟨rfl, HO11, HR11, HX11, HB11⟩
  have hcv := HO11.out.str LY.out
  rw [YY.out] at hcv
  go_wp2_with fail
  refine (len_ex _ (w.heap.size + 1) w.heap.size 64 lr rs HR11.out LR.out).mono ?_
  rintro e w11' ⟨rfl, rfl⟩
  go_wp2
  go_ret
  exact ⟨rfl, HB11.out⟩

set_option maxHeartbeats 2000000 in
set_option maxRecDepth 100000 in
theorem peek_nn (n m : Nat) (a b : ByteArray) (w : World) (hn : n < 256) (_hm : m < 256) (h1 : a.size ≤ 500) (h2 : b.size ≤ 500) (c1 : ¬ (m : Int) < (n : Int)) (c2 : ¬ (n : Int) < (m : Int)) :
    Calls Try.prog 8 #[.string a, .string b, .int .u8 n, .int .u8 m] w fun e w' => e = .returned (.bool true) ∧ Below w.heap.size w w' := by
  obtain ⟨pa, hpa⟩ : ∃ pa, pa = min a.size 64 := ⟨_, rfl⟩
  obtain ⟨hs1, hh1⟩ : ∃ hs1, hs1 = [] ++ (bytes a).take pa := ⟨_, rfl⟩
  obtain ⟨o1, ho1⟩ : ∃ o1, hs1.take ((n : Int) / 2).toNat = o1 := ⟨_, rfl⟩
  obtain ⟨k1, hk1⟩ : ∃ k1, o1.length = k1 := ⟨_, rfl⟩
  obtain ⟨hs2, hh2⟩ : ∃ hs2, hs1.drop ((n : Int) / 2).toNat = hs2 := ⟨_, rfl⟩
  obtain ⟨pb, hpb⟩ : ∃ pb, min (bytes b).length (64 - hs2.length) = pb := ⟨_, rfl⟩
  obtain ⟨hs3, hh3⟩ : ∃ hs3, hs3 = hs2 ++ (bytes b).take pb := ⟨_, rfl⟩
  obtain ⟨sx, hsx⟩ : ∃ sx, hs3.take ((n : Int)).toNat = sx := ⟨_, rfl⟩
  obtain ⟨sy, hsy⟩ : ∃ sy, hs3.take ((n : Int)).toNat = sy := ⟨_, rfl⟩
  obtain ⟨rs, hrs⟩ : ∃ rs, hs3.drop ((n : Int)).toNat = rs := ⟨_, rfl⟩
  obtain ⟨lx, hlx⟩ : ∃ lx, sx.length = lx := ⟨_, rfl⟩
  obtain ⟨ly, hly⟩ : ∃ ly, sy.length = ly := ⟨_, rfl⟩
  obtain ⟨lr, hlr⟩ : ∃ lr, rs.length = lr := ⟨_, rfl⟩
  obtain ⟨l3, hl3⟩ : ∃ l3, hs3.length = l3 := ⟨_, rfl⟩
  obtain ⟨x, hx⟩ : ∃ x, strOf sx = x := ⟨_, rfl⟩
  obtain ⟨y, hy⟩ : ∃ y, strOf sy = y := ⟨_, rfl⟩
  have HPA : Sl (min (bytes a).length (64 - ([] : List Nat).length) = pa) := ⟨by rw [bytes_length, hpa]; rfl⟩
  have sm1 : Small 256 hs1 := by rw [hh1]; exact (bytes_small a).take _
  have sm3 : Small 256 hs3 := by rw [hh3, ← hh2]; exact (sm1.drop _).append ((bytes_small b).take _)
  have smx : Small 256 sx := by rw [← hsx]; exact sm3.take _
  have smy : Small 256 sy := by rw [← hsy]; exact sm3.take _
  have zx : x.size = lx := by rw [← hx, strOf_size, hlx]
  have zy : y.size = ly := by rw [← hy, strOf_size, hly]
  have elx : lx = min n l3 := by rw [← hlx, ← hsx, List.length_take, ← hl3]; simp
  have ely : ly = min n l3 := by rw [← hly, ← hsy, List.length_take, ← hl3]; simp
  have elr : lr = l3 - n := by rw [← hlr, ← hrs, List.length_drop, ← hl3]; simp
  have q1 : ¬ (y.size : Int) < (x.size : Int) := by omega
  have q2 : ((y.extract 0 x.size).toList == x.toList) = true := by
    rw [beq_bytes2, bytes_extract, ← hx, ← hy, bytes_strOf _ smx, bytes_strOf _ smy, strOf_size, List.drop_zero, decide_eq_true_eq, ← hsx, ← hsy, List.take_take, List.length_take]
    rw [List.take_eq_take_iff]
    simp only [Int.toNat_natCast]
    omega
  have q3 : ((lr : Int) == (l3 : Int) - (y.size : Int)) = true := by simp; omega
  have q4 : (y.toList == y.toList) = true := by simp
  have b1 : pa ≤ 64 := by omega
  have b2 : x.size ≤ y.size := by omega
  have b3 : l3 ≤ 1000 := by
    rw [← hl3, hh3, ← hh2, hh1, List.length_append, List.length_drop, List.nil_append, List.length_take, List.length_take, bytes_length]; omega
  have b4 : y.size ≤ 1000 := by omega
  have Q1 : Sl (decide (y.size < x.size) = false) := ⟨by simp; omega⟩
  have Q2 := Sl.mk q2
  have Q3 := Sl.mk q3
  clear q1 q2 q3
  have HH1 := Sl.mk hh1
  have HO1 := Sl.mk ho1
  have HK1 := Sl.mk hk1
  have HH2 := Sl.mk hh2
  have HPB := Sl.mk hpb
  have HH3 := Sl.mk hh3
  have SX := Sl.mk hsx
  have SY := Sl.mk hsy
  have RS := Sl.mk hrs
  have LX := Sl.mk hlx
  have LY := Sl.mk hly
  have LR := Sl.mk hlr
  have L3 := Sl.mk hl3
  have XX := Sl.mk hx
  have YY := Sl.mk hy
  have HL : Sl ((bytes a).length ≤ 100000 ∧ (bytes b).length ≤ 100000) := ⟨by rw [bytes_length, bytes_length]; omega⟩
  clear hpa hh1 ho1 hk1 hh2 hpb hh3 hsx hsy hrs hlx hly hlr hl3 hx hy sm1 sm3 smx smy zx zy elx ely elr
  go_enter Try.func8, Try.ntmps8
  go_wp2_with fail
  refine (new_ex w _ 64 (by omega) (by omega) (Below.refl _ _)).mono ?_
  rintro e w1 ⟨rfl, HR1, HX1, HB1⟩
  go_wp2_with fail
  refine (awake_ex w _ HB1.out).mono ?_
  rintro e w2 ⟨rfl, HX2, HB2⟩
  have HR2 := Sl.mk (HR1.out.below HX2.out)
  obtain ⟨c3, w3, hc3, HV3, HX3⟩ := conv_str a w2
  have HB3 : Sl (Below w.heap.size w w3) := ⟨HB2.out.trans (HX3.out.mono HB2.out.size)⟩
  have HR3 := Sl.mk (HR2.out.below HX3.out)
  go_wp2_with fail
  refine (put_ex w _ (w.heap.size + 1) w.heap.size 64 pa [] (bytes a) _ HB3.out (by omega) (by omega) HR3.out (HV3.out.offs HR2.out.plt) (bytes_small a) HL.out.1 HPA.out).mono ?_
  rw [← HH1.out]
  rintro e w4 ⟨rfl, HR4, HX4, HB4⟩
  clear hc3
  go_wp2_with fail
  refine (take_ex w _ (w.heap.size + 1) w.heap.size 64 k1 hs1 o1 hs2 _ HB4.out (by omega) (by omega) HR4.out HO1.out HK1.out HH2.out).mono ?_
  rintro e w5 ⟨rfl, HO5, HR5, HX5, HB5⟩
  obtain ⟨c6, w6, hc6, HV6, HX6⟩ := conv_str b w5
  have HB6 : Sl (Below w.heap.size w w6) := ⟨HB5.out.trans (HX6.out.mono HB5.out.size)⟩
  have HR6 := Sl.mk (HR5.out.below HX6.out)
  go_wp2_with fail
  refine (put_ex w _ (w.heap.size + 1) w.heap.size 64 pb hs2 (bytes b) _ HB6.out (by omega) (by omega) HR6.out (HV6.out.offs HR5.out.plt) (bytes_small b) HL.out.2 HPB.out).mono ?_
  rw [← HH3.out]
  rintro e w7 ⟨rfl, HR7, HX7, HB7⟩
  clear hc6
  go_wp2
  have hb8 : Below w.heap.size w w7.drew := HB7.out.drew
  have HR8 : Sl (RingH w7.drew (w.heap.size + 1) w.heap.size 64 hs3) := ⟨HR7.out.below (Below.refl _ _).drew⟩
  have c1f : ((m : Int) < (n : Int)) = False := eq_false (by omega)
  have c2f : ((n : Int) < (m : Int)) = False := eq_false (by omega)
  have u1 : w.heap.size ≤ w.heap.size + 1 := by omega
  have u2 : w.heap.size ≤ w.heap.size := by omega
  have y0 := IntWalk.i64_in (n : Int) (by omega)
  have y1 := IntWalk.i64_in (m : Int) (by omega)
  have z0 : IntKind.i64.wrap (n : Int) = (n : Int) := y0
  have z1 : IntKind.i64.wrap (m : Int) = (m : Int) := y1
  clear y0 y1
  refine wp_region_noPanic ?_
  refine wp_region_held (S := fun W => Below w.heap.size w W) (by kernel_rfl) ?_
  change wpAnyH _ _ _ _ _ _ _ _ w7.drew
  refine heldTake (d := some 52) (op := Go.Op.move (Go.Operand.tmp 9)) (g := none) 0 ?v0 rfl (by kernel_rfl) (by kernel_rfl) (by kernel_rfl) (by kernel_rfl) ?y0 hb8 ?_
  case y0 => intro o ho w _; simp only [execOp, ho]; go_simp; try rfl
  simp only [Act.put, List.setIfInBounds_toArray, List.set_cons_zero, List.set_cons_succ]
  refine heldTake (d := some 53) (op := Go.Op.move (Go.Operand.tmp 2)) (g := none) 1 ?v1 rfl (by kernel_rfl) (by kernel_rfl) (by kernel_rfl) (by kernel_rfl) ?y1 hb8 ?_
  case y1 => intro o ho w _; simp only [execOp, ho]; go_simp; try rfl
  simp only [Act.put, List.setIfInBounds_toArray, List.set_cons_zero, List.set_cons_succ]
  refine heldTake (d := some 54) (op := Go.Op.move (Go.Operand.tmp 3)) (g := none) 2 ?v2 rfl (by kernel_rfl) (by kernel_rfl) (by kernel_rfl) (by kernel_rfl) ?y2 hb8 ?_
  case y2 => intro o ho w _; simp only [execOp, ho]; go_simp; try rfl
  simp only [Act.put, List.setIfInBounds_toArray, List.set_cons_zero, List.set_cons_succ]
  refine heldTake (d := some 55) (op := Go.Op.call { callee := Go.Callee.builtin Go.Builtin.min, args := #[Go.Operand.tmp 53, Go.Operand.tmp 54], argTypes := #[5, 5] }) (g := none) 3 ?v3 rfl (by kernel_rfl) (by kernel_rfl) (by kernel_rfl) (by kernel_rfl) ?y3 hb8 ?_
  case y3 => intro o ho w _; simp only [execOp, ho]; go_simp; try rfl
  simp only [Act.put, List.setIfInBounds_toArray, List.set_cons_zero, List.set_cons_succ]
  refine heldTake (d := some 56) (op := Go.Op.convert 5 3 (Go.Operand.tmp 55)) (g := none) 4 ?v4 rfl (by kernel_rfl) (by kernel_rfl) (by kernel_rfl) (by kernel_rfl) ?y4 hb8 ?_
  case y4 => intro o ho w _; simp only [execOp, ho]; go_simp; try rfl
  simp only [Act.put, List.setIfInBounds_toArray, List.set_cons_zero, List.set_cons_succ]
  refine heldTake (d := some 59) (op := Go.Op.move (Go.Operand.tmp 9)) (g := none) 7 ?v7 rfl (by kernel_rfl) (by kernel_rfl) (by kernel_rfl) (by kernel_rfl) ?y7 hb8 ?_
  case y7 => intro o ho w _; simp only [execOp, ho]; go_simp; try rfl
  simp only [Act.put, List.setIfInBounds_toArray, List.set_cons_zero, List.set_cons_succ]
  refine heldTake (d := some 60) (op := Go.Op.move (Go.Operand.tmp 2)) (g := none) 8 ?v8 rfl (by kernel_rfl) (by kernel_rfl) (by kernel_rfl) (by kernel_rfl) ?y8 hb8 ?_
  case y8 => intro o ho w _; simp only [execOp, ho]; go_simp; try rfl
  simp only [Act.put, List.setIfInBounds_toArray, List.set_cons_zero, List.set_cons_succ]
  refine heldTake (d := some 61) (op := Go.Op.move (Go.Operand.tmp 3)) (g := none) 9 ?v9 rfl (by kernel_rfl) (by kernel_rfl) (by kernel_rfl) (by kernel_rfl) ?y9 hb8 ?_
  case y9 => intro o ho w _; simp only [execOp, ho]; go_simp; try rfl
  simp only [Act.put, List.setIfInBounds_toArray, List.set_cons_zero, List.set_cons_succ]
  refine heldTake (d := some 62) (op := Go.Op.call { callee := Go.Callee.builtin Go.Builtin.max, args := #[Go.Operand.tmp 60, Go.Operand.tmp 61], argTypes := #[5, 5] }) (g := none) 10 ?v10 rfl (by kernel_rfl) (by kernel_rfl) (by kernel_rfl) (by kernel_rfl) ?y10 hb8 ?_
  case y10 => intro o ho w _; simp only [execOp, ho]; go_simp; try rfl
  simp only [Act.put, List.setIfInBounds_toArray, List.set_cons_zero, List.set_cons_succ]
  refine heldTake (d := some 63) (op := Go.Op.convert 5 3 (Go.Operand.tmp 62)) (g := none) 11 ?v11 rfl (by kernel_rfl) (by kernel_rfl) (by kernel_rfl) (by kernel_rfl) ?y11 hb8 ?_
  case y11 => intro o ho w _; simp only [execOp, ho]; go_simp; try rfl
  simp only [Act.put, List.setIfInBounds_toArray, List.set_cons_zero, List.set_cons_succ]
  refine heldCall (d := some 57) (op := Go.Op.call { callee := Go.Callee.value (Go.Operand.func 13), args := #[Go.Operand.tmp 52, Go.Operand.tmp 56], argTypes := #[23, 3] }) (g := none) 5 13 ?a5 rfl (by kernel_rfl) (by kernel_rfl) ?y5 ?_
  case y5 => intro o ho; simp only [execOp, ho]; go_simp; try rfl
  refine (peek_ex w _ (w.heap.size + 1) w.heap.size 64 lx hs3 sx _ hb8 HR8.out SX.out LX.out).mono ?_
  rintro e w9 ⟨rfl, HO9, HR9, HX9, HB9⟩
  have HS9 : Below w.heap.size w w9 ∧ RowB w9 w7.heap.size sx := ⟨HB9.out, HO9.out⟩
  refine ⟨_, rfl, HS9.1, ?_⟩
  refine heldMore (S' := fun W => Below w.heap.size w W ∧ RowB W w7.heap.size sx) (fun _ h => h.1) _ _ _ _ ?_
  simp only [Act.put, List.setIfInBounds_toArray, List.set_cons_zero, List.set_cons_succ]
  refine heldTake (d := some 58) (op := Go.Op.convert 33 9 (Go.Operand.tmp 57)) (g := none) 6 ?v6 rfl (by kernel_rfl) (by kernel_rfl) (by kernel_rfl) (by kernel_rfl) ?y6 HS9 ?_
  case y6 => intro o ho w hS; have hcv : (convert 33 9 (.slice (some ⟨w7.heap.size, 0, none⟩) lx lx)).run Try.prog w = .ok (.string x) w := (RowB.strs LX.out w hS.2).trans (by rw [XX.out]); simp only [execOp, ho]; go_simp; try rfl
  simp only [Act.put, List.setIfInBounds_toArray, List.set_cons_zero, List.set_cons_succ]
  refine heldCall (d := some 64) (op := Go.Op.call { callee := Go.Callee.value (Go.Operand.func 13), args := #[Go.Operand.tmp 59, Go.Operand.tmp 63], argTypes := #[23, 3] }) (g := none) 12 13 ?a12 rfl (by kernel_rfl) (by kernel_rfl) ?y12 ?_
  case y12 => intro o ho; simp only [execOp, ho]; go_simp; try rfl
  refine (peek_ex w _ (w.heap.size + 1) w.heap.size 64 ly hs3 sy _ HB9.out HR9.out SY.out LY.out).mono ?_
  rintro e w10 ⟨rfl, HO10, HR10, HX10, HB10⟩
  have HS10 : Below w.heap.size w w10 ∧ RowB w10 w7.heap.size sx := ⟨HB10.out, HS9.2.below HX10.out⟩
  have HSY : (Below w.heap.size w w10 ∧ RowB w10 w7.heap.size sx) ∧ RowB w10 w9.heap.size sy := ⟨HS10, HO10.out⟩
  refine ⟨_, rfl, HS10, ?_⟩
  refine heldMore (S' := fun W => (Below w.heap.size w W ∧ RowB W w7.heap.size sx) ∧ RowB W w9.heap.size sy) (fun _ h => h.1) _ _ _ _ ?_
  simp only [Act.put, List.setIfInBounds_toArray, List.set_cons_zero, List.set_cons_succ]
  refine heldTake (d := some 65) (op := Go.Op.convert 33 9 (Go.Operand.tmp 64)) (g := none) 13 ?v13 rfl (by kernel_rfl) (by kernel_rfl) (by kernel_rfl) (by kernel_rfl) ?y13 HSY ?_
  case y13 => intro o ho w hS; have hcv : (convert 33 9 (.slice (some ⟨w9.heap.size, 0, none⟩) ly ly)).run Try.prog w = .ok (.string y) w := (RowB.strs LY.out w hS.2).trans (by rw [YY.out]); simp only [execOp, ho]; go_simp; try rfl
  simp only [Act.put, List.setIfInBounds_toArray, List.set_cons_zero, List.set_cons_succ]
  refine heldTake (d := some 11) (op := Go.Op.assign (Go.Operand.tmp 58)) (g := none) 14 ?v14 rfl (by kernel_rfl) (by kernel_rfl) (by kernel_rfl) (by kernel_rfl) ?y14 HSY ?_
  case y14 => intro o ho w _; simp only [execOp, ho]; go_simp; try rfl
  simp only [Act.put, List.setIfInBounds_toArray, List.set_cons_zero, List.set_cons_succ]
  refine heldTake (d := some 12) (op := Go.Op.assign (Go.Operand.tmp 65)) (g := none) 15 ?v15 rfl (by kernel_rfl) (by kernel_rfl) (by kernel_rfl) (by kernel_rfl) ?y15 HSY ?_
  case y15 => intro o ho w _; simp only [execOp, ho]; go_simp; try rfl
  simp only [Act.put, List.setIfInBounds_toArray, List.set_cons_zero, List.set_cons_succ]
  refine wpAnyH_done (by kernel_rfl) ?_ _
  refine NoPanic.normal ?_
  clear z0 z1
  have q1 := Q1.out
  have q2 := Q2.out
  have q3 := Q3.out
  go_wp2_with fail
  refine (len_ex _ (w.heap.size + 1) w.heap.size 64 l3 hs3 HR10.out L3.out).mono ?_
  rintro e w10' ⟨rfl, rfl⟩
  go_wp2_with fail
  refine (take_ex w _ (w.heap.size + 1) w.heap.size 64 ly hs3 sy rs _ HB10.out u1 u2 HR10.out SY.out LY.out RS.out).mono ?_
  rintro e w11 ⟨rfl, HO11, HR11, HX11, HB11⟩
  have hcv := HO11.out.str LY.out
  rw [YY.out] at hcv
  go_wp2_with fail
  refine (len_ex _ (w.heap.size + 1) w.heap.size 64 lr rs HR11.out LR.out).mono ?_
  rintro e w11' ⟨rfl, rfl⟩
  go_wp2
  go_ret
  exact ⟨rfl, HB11.out⟩

theorem peek_walk (a b : ByteArray) (n m : Nat) (w : World) (ha : a.size ≤ maxLen) (hb : b.size ≤ maxLen) (hn : n < 256) (hm : m < 256) :
    Calls Try.prog 8 #[.string a, .string b, .int .u8 n, .int .u8 m] w fun e w' => e = .returned (.bool true) ∧ Below w.heap.size w w' := by
  by_cases h : 500 < a.size ∨ 500 < b.size
  · exact peek_long a b n m w h ha hb
  · by_cases c1 : (m : Int) < (n : Int)
    · exact peek_mn n m a b w hn hm (by omega) (by omega) c1
    · by_cases c2 : (n : Int) < (m : Int)
      · exact peek_nm n m a b w hn hm (by omega) (by omega) c2
      · exact peek_nn n m a b w hn hm (by omega) (by omega) c1 c2
end Go.Proofs.Ytfgpohfegjomfaa
