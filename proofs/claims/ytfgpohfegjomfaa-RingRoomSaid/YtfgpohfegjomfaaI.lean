/- RingRoom, the walk: whatever byte and two strings are handed over, the law's Go text returns true, and nothing that was in memory changes. Conditions: the byte is a number of its kind; the strings fit in memory. -/
import Derived.Test.YtfgpohfegjomfaaK
namespace Go.Proofs.Ytfgpohfegjomfaa
open Go.RowKit

theorem new_exi (w0 W : World) (z : Int) (L : Nat) (hz : z = L) (h1 : 1 ≤ L) (h2 : L ≤ 65536) (hB : Below w0.heap.size w0 W) :
    Calls Try.prog 9 #[.int .i64 z] W fun e w' => e = .returned (.tuple #[.pointer (some ⟨W.heap.size + 1, 0, none⟩), .int .i64 0]) ∧ Sl (RingH w' (W.heap.size + 1) W.heap.size L []) ∧ Sl (Below W.heap.size W w') ∧ Sl (Below w0.heap.size w0 w') := by
  subst hz; exact new_ex w0 W L h1 h2 hB

set_option maxHeartbeats 400000 in
theorem room_long (mo : Nat) (a b : ByteArray) (w : World) (hmo : mo < 256) (h : 500 < a.size ∨ 500 < b.size) (ha : a.size ≤ maxLen) (hb : b.size ≤ maxLen) :
    Calls Try.prog 7 #[.int .u8 mo, .string a, .string b] w fun e w' => e = .returned (.bool true) ∧ Below w.heap.size w w' := by
  unfold maxLen at ha hb
  by_cases h1 : 500 < a.size
  · clear h
    go_enter Try.func7, Try.ntmps7
    go_wp2_with fail
    refine (new_exi w _ _ (1 + mo) (by omega) (by omega) (by omega) (Below.refl _ _)).mono ?_
    rintro e w1 ⟨rfl, HR1, HX1, HB1⟩
    go_wp2_with fail
    refine (awake_ex w _ HB1.out).mono ?_
    rintro e w2 ⟨rfl, HX2, HB2⟩
    go_wp2_with fail
    refine (awake_ex w _ HB2.out).mono ?_
    rintro e w3 ⟨rfl, HX3, HB3⟩
    go_wp2
    go_ret
    exact ⟨rfl, HB3.out⟩
  · have h2 : 500 < b.size := by omega
    clear h
    go_enter Try.func7, Try.ntmps7
    go_wp2_with fail
    refine (new_exi w _ _ (1 + mo) (by omega) (by omega) (by omega) (Below.refl _ _)).mono ?_
    rintro e w1 ⟨rfl, HR1, HX1, HB1⟩
    go_wp2_with fail
    refine (awake_ex w _ HB1.out).mono ?_
    rintro e w2 ⟨rfl, HX2, HB2⟩
    go_wp2_with fail
    refine (awake_ex w _ HB2.out).mono ?_
    rintro e w3 ⟨rfl, HX3, HB3⟩
    go_wp2
    go_ret
    exact ⟨rfl, HB3.out⟩

set_option maxHeartbeats 2000000 in
set_option maxRecDepth 100000 in
theorem room_ll (mo n m r : Nat) (a b : ByteArray) (w : World) (hmo : mo < 256) (h1 : a.size ≤ 500) (h2 : b.size ≤ 500) (hn : n = min a.size (1 + mo)) (hm : m = min b.size (1 + mo - n)) (hr : r = 1 + mo - n) (c1 : 1 + (mo : Int) < (a.size : Int)) (q1 : ((n : Int) != 1 + (mo : Int)) = false) (c2 : 1 + (mo : Int) - (n : Int) < (b.size : Int)) (q3 : ((m : Int) == 1 + (mo : Int) - (n : Int)) = true) :
    Calls Try.prog 7 #[.int .u8 mo, .string a, .string b] w fun e w' => e = .returned (.bool true) ∧ Below w.heap.size w w' := by
  have bn : n ≤ 256 := by omega
  have bna : n ≤ a.size := by omega
  have bm : m ≤ 256 := by omega
  have bmb : m ≤ b.size := by omega
  have HN : Sl (min (bytes a).length (1 + mo - ([] : List Nat).length) = n) := ⟨by rw [bytes_length]; simp; omega⟩
  have ln : ((bytes a).take n).length = n := by rw [List.length_take, bytes_length]; omega
  have HM : Sl (min (bytes b).length (1 + mo - ([] ++ (bytes a).take n).length) = m) := ⟨by rw [bytes_length, List.nil_append, ln]; omega⟩
  have HR : Sl (1 + mo - ([] ++ (bytes a).take n).length = r) := ⟨by rw [List.nil_append, ln]; omega⟩
  have ln2 : (([] ++ (bytes a).take n) ++ (bytes b).take m).length = n + m := by rw [List.length_append, List.nil_append, ln, List.length_take, bytes_length]; omega
  obtain ⟨out, ho⟩ : ∃ out, out = ([] ++ (bytes a).take n) ++ (bytes b).take m := ⟨_, rfl⟩
  have HO := Sl.mk ho
  have HL : Sl (out.length = n + m) := ⟨by rw [ho]; exact ln2⟩
  have so : Small 256 out := by rw [ho]; exact (((bytes_small a).take n)).append ((bytes_small b).take m)
  have q5 : ((strOf out).toList == (a.extract 0 n ++ b.extract 0 m).toList) = true := by
    rw [beq_bytes2, bytes_strOf out so, bytes_append, bytes_extract, bytes_extract, ho]
    simp
  have q2 : ((r : Int) != 1 + (mo : Int) - (n : Int)) = false := by simp; omega
  have HT : Sl (out.take (1000 : Int).toNat = out ∧ out.drop (1000 : Int).toNat = []) := ⟨by
    have h : out.length ≤ (1000 : Int).toNat := by rw [HL.out]; show n + m ≤ 1000; omega
    exact ⟨List.take_of_length_le h, List.drop_eq_nil_of_le h⟩⟩
  have q4 : (((n + m : Nat) : Int) == (n : Int) + (m : Int)) = true := by simp
  have q6 : (((1 + mo : Nat) : Int) == 1 + (mo : Int)) = true := by simp
  obtain ⟨L, hL⟩ : ∃ L, L = 1 + mo := ⟨_, rfl⟩
  obtain ⟨s, hs⟩ : ∃ s, s = n + m := ⟨_, rfl⟩
  rw [← hL] at q6 HN HM HR
  rw [← hs] at q4 HL
  have HLL := Sl.mk hL
  clear so ho ln ln2 hL hs
  have HA : Sl ((bytes a).length ≤ 100000 ∧ (bytes b).length ≤ 100000) := ⟨by rw [bytes_length, bytes_length]; omega⟩
  clear hn hm hr
  go_enter Try.func7, Try.ntmps7
  go_wp2_with fail
  refine (new_exi w _ _ L (by rw [HLL.out]; omega) (by rw [HLL.out]; omega) (by rw [HLL.out]; omega) (Below.refl _ _)).mono ?_
  rintro e w1 ⟨rfl, HR1, HX1, HB1⟩
  go_wp2_with fail
  refine (awake_ex w _ HB1.out).mono ?_
  rintro e w2 ⟨rfl, HX2, HB2⟩
  have HR2 := Sl.mk (HR1.out.below HX2.out)
  obtain ⟨k3, w3, hc3, HV3, HX3⟩ := conv_str a w2
  have HB3 : Sl (Below w.heap.size w w3) := ⟨HB2.out.trans (HX3.out.mono HB2.out.size)⟩
  have HR3 := Sl.mk (HR2.out.below HX3.out)
  go_wp2_with fail
  refine (put_ex w _ (w.heap.size + 1) w.heap.size L n [] (bytes a) _ HB3.out (by omega) (by omega) HR3.out (HV3.out.offs HR2.out.plt) (bytes_small a) HA.out.1 HN.out).mono ?_
  rintro e w4 ⟨rfl, HR4, HX4, HB4⟩
  clear hc3
  go_wp2_with fail
  refine (room_ex w _ (w.heap.size + 1) w.heap.size L r _ HB4.out HR4.out HR.out).mono ?_
  rintro e w5 ⟨rfl, HR5, HX5, HB5⟩
  obtain ⟨k6, w6, hc6, HV6, HX6⟩ := conv_str b w5
  have HB6 : Sl (Below w.heap.size w w6) := ⟨HB5.out.trans (HX6.out.mono HB5.out.size)⟩
  have HR6 := Sl.mk (HR5.out.below HX6.out)
  go_wp2_with fail
  refine (put_ex w _ (w.heap.size + 1) w.heap.size L m _ (bytes b) _ HB6.out (by omega) (by omega) HR6.out (HV6.out.offs HR5.out.plt) (bytes_small b) HA.out.2 HM.out).mono ?_
  rw [← HO.out]
  rintro e w7 ⟨rfl, HR7, HX7, HB7⟩
  clear hc6
  have hb7 := HB7.out.drew
  have HR7d := Sl.mk (HR7.out.below (Below.refl _ _).drew)
  go_wp2
  have hadd := fun (W : World) => run_string_add_sum (P := Try.prog) W (a.extract 0 n) (b.extract 0 m) (by rw [ByteArray.size_extract, ByteArray.size_extract]; omega)
  have y0 := IntWalk.i64_in (mo : Int) (by omega)
  have y1 := IntWalk.i64_in (1 + (mo : Int)) (by omega)
  have y2 := IntWalk.i64_in (1 + (mo : Int) - (n : Int)) (by omega)
  have y3 := IntWalk.i64_in ((n : Int) + (m : Int)) (by omega)
  have z0 : IntKind.i64.wrap (mo : Int) = (mo : Int) := y0
  have z1 : IntKind.i64.wrap (1 + (mo : Int)) = 1 + (mo : Int) := y1
  have z2 : IntKind.i64.wrap (1 + (mo : Int) - (n : Int)) = 1 + (mo : Int) - (n : Int) := y2
  have z3 : IntKind.i64.wrap ((n : Int) + (m : Int)) = (n : Int) + (m : Int) := y3
  clear y0 y1 y2 y3
  refine wp_region_noPanic ?_
  refine wp_region_held (S := fun W => Below w.heap.size w W) (by kernel_rfl) ?_
  change wpAnyH _ _ _ _ _ _ _ _ w7.drew
  refine heldTake (d := some 65) (op := Go.Op.move (Go.Operand.tmp 10)) (g := none) 0 ?v0 rfl (by kernel_rfl) (by kernel_rfl) (by kernel_rfl) (by kernel_rfl) ?y0 hb7 ?_
  case y0 => intro o ho w _; simp only [execOp, ho]; go_simp; try rfl
  simp only [Act.put, List.setIfInBounds_toArray, List.set_cons_zero, List.set_cons_succ]
  refine heldTake (d := some 66) (op := Go.Op.move (Go.Operand.tmp 2)) (g := none) 1 ?v1 rfl (by kernel_rfl) (by kernel_rfl) (by kernel_rfl) (by kernel_rfl) ?y1 hb7 ?_
  case y1 => intro o ho w _; simp only [execOp, ho]; go_simp; try rfl
  simp only [Act.put, List.setIfInBounds_toArray, List.set_cons_zero, List.set_cons_succ]
  refine heldTake (d := some 67) (op := Go.Op.call { callee := Go.Callee.builtin Go.Builtin.len, args := #[Go.Operand.tmp 66], argTypes := #[9] }) (g := none) 2 ?v2 rfl (by kernel_rfl) (by kernel_rfl) (by kernel_rfl) (by kernel_rfl) ?y2 hb7 ?_
  case y2 => intro o ho w _; simp only [execOp, ho]; go_simp; try rfl
  simp only [Act.put, List.setIfInBounds_toArray, List.set_cons_zero, List.set_cons_succ]
  refine heldTake (d := some 68) (op := Go.Op.move (Go.Operand.tmp 0)) (g := none) 3 ?v3 rfl (by kernel_rfl) (by kernel_rfl) (by kernel_rfl) (by kernel_rfl) ?y3 hb7 ?_
  case y3 => intro o ho w _; simp only [execOp, ho]; go_simp; try rfl
  simp only [Act.put, List.setIfInBounds_toArray, List.set_cons_zero, List.set_cons_succ]
  refine heldTake (d := some 69) (op := Go.Op.convert 5 3 (Go.Operand.tmp 68)) (g := none) 4 ?v4 rfl (by kernel_rfl) (by kernel_rfl) (by kernel_rfl) (by kernel_rfl) ?y4 hb7 ?_
  case y4 => intro o ho w _; simp only [execOp, ho]; go_simp; try rfl
  simp only [Act.put, List.setIfInBounds_toArray, List.set_cons_zero, List.set_cons_succ]
  refine heldTake (d := some 70) (op := Go.Op.binOp Go.BinOp.add 3 (Go.Operand.const (Go.Value.int Go.IntKind.i64 1)) (Go.Operand.tmp 69) 3) (g := none) 5 ?v5 rfl (by kernel_rfl) (by kernel_rfl) (by kernel_rfl) (by kernel_rfl) ?y5 hb7 ?_
  case y5 => intro o ho w _; simp only [execOp, ho]; go_simp; try rfl
  simp only [Act.put, List.setIfInBounds_toArray, List.set_cons_zero, List.set_cons_succ]
  refine heldTake (d := some 71) (op := Go.Op.move (Go.Operand.tmp 9)) (g := none) 6 ?v6 rfl (by kernel_rfl) (by kernel_rfl) (by kernel_rfl) (by kernel_rfl) ?y6 hb7 ?_
  case y6 => intro o ho w _; simp only [execOp, ho]; go_simp; try rfl
  simp only [Act.put, List.setIfInBounds_toArray, List.set_cons_zero, List.set_cons_succ]
  refine heldTake (d := some 72) (op := Go.Op.binOp Go.BinOp.sub 3 (Go.Operand.tmp 70) (Go.Operand.tmp 71) 3) (g := none) 7 ?v7 rfl (by kernel_rfl) (by kernel_rfl) (by kernel_rfl) (by kernel_rfl) ?y7 hb7 ?_
  case y7 => intro o ho w _; simp only [execOp, ho]; go_simp; try rfl
  simp only [Act.put, List.setIfInBounds_toArray, List.set_cons_zero, List.set_cons_succ]
  refine heldTake (d := some 73) (op := Go.Op.call { callee := Go.Callee.builtin Go.Builtin.min, args := #[Go.Operand.tmp 67, Go.Operand.tmp 72], argTypes := #[3, 3] }) (g := none) 8 ?v8 rfl (by kernel_rfl) (by kernel_rfl) (by kernel_rfl) (by kernel_rfl) ?y8 hb7 ?_
  case y8 => intro o ho w _; simp only [execOp, ho]; go_simp; try rfl
  simp only [Act.put, List.setIfInBounds_toArray, List.set_cons_zero, List.set_cons_succ]
  refine heldTake (d := some 74) (op := Go.Op.binOp Go.BinOp.eql 3 (Go.Operand.tmp 65) (Go.Operand.tmp 73) 3) (g := none) 9 ?v9 rfl (by kernel_rfl) (by kernel_rfl) (by kernel_rfl) (by kernel_rfl) ?y9 hb7 ?_
  case y9 => intro o ho w _; simp only [execOp, ho]; go_simp; try rfl
  simp only [Act.put, List.setIfInBounds_toArray, List.set_cons_zero, List.set_cons_succ]
  refine heldTake (d := some 75) (op := Go.Op.move (Go.Operand.tmp 74)) (g := none) 10 ?v10 rfl (by kernel_rfl) (by kernel_rfl) (by kernel_rfl) (by kernel_rfl) ?y10 hb7 ?_
  case y10 => intro o ho w _; simp only [execOp, ho]; go_simp; try rfl
  simp only [Act.put, List.setIfInBounds_toArray, List.set_cons_zero, List.set_cons_succ]
  refine heldTake (d := some 76) (op := Go.Op.move (Go.Operand.tmp 7)) (g := some (10, true)) 11 ?v11 rfl (by kernel_rfl) (by kernel_rfl) (by kernel_rfl) (by kernel_rfl) ?y11 hb7 ?_
  case y11 => intro o ho w _; simp only [execOp, ho]; go_simp; try rfl
  simp only [Act.put, List.setIfInBounds_toArray, List.set_cons_zero, List.set_cons_succ]
  refine heldTake (d := some 78) (op := Go.Op.move (Go.Operand.tmp 9)) (g := some (10, true)) 13 ?v13 rfl (by kernel_rfl) (by kernel_rfl) (by kernel_rfl) (by kernel_rfl) ?y13 hb7 ?_
  case y13 => intro o ho w _; simp only [execOp, ho]; go_simp; try rfl
  simp only [Act.put, List.setIfInBounds_toArray, List.set_cons_zero, List.set_cons_succ]
  refine heldTake (d := some 79) (op := Go.Op.move (Go.Operand.tmp 10)) (g := some (10, true)) 14 ?v14 rfl (by kernel_rfl) (by kernel_rfl) (by kernel_rfl) (by kernel_rfl) ?y14 hb7 ?_
  case y14 => intro o ho w _; simp only [execOp, ho]; go_simp; try rfl
  simp only [Act.put, List.setIfInBounds_toArray, List.set_cons_zero, List.set_cons_succ]
  refine heldTake (d := some 80) (op := Go.Op.binOp Go.BinOp.add 3 (Go.Operand.tmp 78) (Go.Operand.tmp 79) 3) (g := some (10, true)) 15 ?v15 rfl (by kernel_rfl) (by kernel_rfl) (by kernel_rfl) (by kernel_rfl) ?y15 hb7 ?_
  case y15 => intro o ho w _; simp only [execOp, ho]; go_simp; try rfl
  simp only [Act.put, List.setIfInBounds_toArray, List.set_cons_zero, List.set_cons_succ]
  refine heldCall (d := some 77) (op := Go.Op.call { callee := Go.Callee.value (Go.Operand.func 17), args := #[Go.Operand.tmp 76], argTypes := #[23] }) (g := some (10, true)) 12 17 ?a12 rfl (by kernel_rfl) (by kernel_rfl) ?y12 ?_
  case y12 => intro o ho; simp only [execOp, ho]; go_simp; try rfl
  refine (len_ex _ (w.heap.size + 1) w.heap.size L s out HR7d.out HL.out).mono ?_
  rintro e w8 ⟨rfl, rfl⟩
  refine ⟨_, rfl, hb7, ?_⟩
  simp only [Act.put, List.setIfInBounds_toArray, List.set_cons_zero, List.set_cons_succ]
  refine heldTake (d := some 81) (op := Go.Op.binOp Go.BinOp.eql 3 (Go.Operand.tmp 77) (Go.Operand.tmp 80) 3) (g := some (10, true)) 16 ?v16 rfl (by kernel_rfl) (by kernel_rfl) (by kernel_rfl) (by kernel_rfl) ?y16 hb7 ?_
  case y16 => intro o ho w _; simp only [execOp, ho]; go_simp; try rfl
  simp only [Act.put, List.setIfInBounds_toArray, List.set_cons_zero, List.set_cons_succ]
  refine heldTake (d := some 82) (op := Go.Op.pick (Go.Operand.tmp 75) (Go.Operand.tmp 81) (Go.Operand.const (Go.Value.bool false))) (g := none) 17 ?v17 rfl (by kernel_rfl) (by kernel_rfl) (by kernel_rfl) (by kernel_rfl) ?y17 hb7 ?_
  case y17 => intro o ho w _; simp only [execOp, ho]; go_simp; try rfl
  simp only [Act.put, List.setIfInBounds_toArray, List.set_cons_zero, List.set_cons_succ]
  refine heldTake (d := some 83) (op := Go.Op.move (Go.Operand.tmp 82)) (g := none) 18 ?v18 rfl (by kernel_rfl) (by kernel_rfl) (by kernel_rfl) (by kernel_rfl) ?y18 hb7 ?_
  case y18 => intro o ho w _; simp only [execOp, ho]; go_simp; try rfl
  simp only [Act.put, List.setIfInBounds_toArray, List.set_cons_zero, List.set_cons_succ]
  refine heldTake (d := some 84) (op := Go.Op.move (Go.Operand.tmp 7)) (g := some (18, true)) 19 ?v19 rfl (by kernel_rfl) (by kernel_rfl) (by kernel_rfl) (by kernel_rfl) ?y19 hb7 ?_
  case y19 => intro o ho w _; simp only [execOp, ho]; go_simp; try rfl
  simp only [Act.put, List.setIfInBounds_toArray, List.set_cons_zero, List.set_cons_succ]
  refine heldTake (d := some 87) (op := Go.Op.move (Go.Operand.tmp 1)) (g := some (18, true)) 22 ?v22 rfl (by kernel_rfl) (by kernel_rfl) (by kernel_rfl) (by kernel_rfl) ?y22 hb7 ?_
  case y22 => intro o ho w _; simp only [execOp, ho]; go_simp; try rfl
  simp only [Act.put, List.setIfInBounds_toArray, List.set_cons_zero, List.set_cons_succ]
  refine heldTake (d := some 88) (op := Go.Op.move (Go.Operand.tmp 9)) (g := some (18, true)) 23 ?v23 rfl (by kernel_rfl) (by kernel_rfl) (by kernel_rfl) (by kernel_rfl) ?y23 hb7 ?_
  case y23 => intro o ho w _; simp only [execOp, ho]; go_simp; try rfl
  simp only [Act.put, List.setIfInBounds_toArray, List.set_cons_zero, List.set_cons_succ]
  refine heldTake (d := some 89) (op := Go.Op.slice 9 (Go.Operand.tmp 87) none (some (Go.Operand.tmp 88)) none) (g := some (18, true)) 24 ?v24 rfl (by kernel_rfl) (by kernel_rfl) (by kernel_rfl) (by kernel_rfl) ?y24 hb7 ?_
  case y24 => intro o ho w _; simp only [execOp, ho]; go_simp; try rfl
  simp only [Act.put, List.setIfInBounds_toArray, List.set_cons_zero, List.set_cons_succ]
  refine heldTake (d := some 90) (op := Go.Op.move (Go.Operand.tmp 2)) (g := some (18, true)) 25 ?v25 rfl (by kernel_rfl) (by kernel_rfl) (by kernel_rfl) (by kernel_rfl) ?y25 hb7 ?_
  case y25 => intro o ho w _; simp only [execOp, ho]; go_simp; try rfl
  simp only [Act.put, List.setIfInBounds_toArray, List.set_cons_zero, List.set_cons_succ]
  refine heldTake (d := some 91) (op := Go.Op.move (Go.Operand.tmp 10)) (g := some (18, true)) 26 ?v26 rfl (by kernel_rfl) (by kernel_rfl) (by kernel_rfl) (by kernel_rfl) ?y26 hb7 ?_
  case y26 => intro o ho w _; simp only [execOp, ho]; go_simp; try rfl
  simp only [Act.put, List.setIfInBounds_toArray, List.set_cons_zero, List.set_cons_succ]
  refine heldTake (d := some 92) (op := Go.Op.slice 9 (Go.Operand.tmp 90) none (some (Go.Operand.tmp 91)) none) (g := some (18, true)) 27 ?v27 rfl (by kernel_rfl) (by kernel_rfl) (by kernel_rfl) (by kernel_rfl) ?y27 hb7 ?_
  case y27 => intro o ho w _; simp only [execOp, ho]; go_simp; try rfl
  simp only [Act.put, List.setIfInBounds_toArray, List.set_cons_zero, List.set_cons_succ]
  refine heldTake (d := some 93) (op := Go.Op.binOp Go.BinOp.add 9 (Go.Operand.tmp 89) (Go.Operand.tmp 92) 9) (g := some (18, true)) 28 ?v28 rfl (by kernel_rfl) (by kernel_rfl) (by kernel_rfl) (by kernel_rfl) ?y28 hb7 ?_
  case y28 => intro o ho w _; simp only [execOp, ho]; go_simp; try rfl
  simp only [Act.put, List.setIfInBounds_toArray, List.set_cons_zero, List.set_cons_succ]
  refine heldCall (d := some 85) (op := Go.Op.call { callee := Go.Callee.value (Go.Operand.func 16), args := #[Go.Operand.tmp 84, Go.Operand.const (Go.Value.int Go.IntKind.i64 1000)], argTypes := #[23, 3] }) (g := some (18, true)) 20 16 ?a20 rfl (by kernel_rfl) (by kernel_rfl) ?y20 ?_
  case y20 => intro o ho; simp only [execOp, ho]; go_simp; try rfl
  refine (take_ex w _ (w.heap.size + 1) w.heap.size L s out out [] 1000 hb7 (Nat.le_succ _) (Nat.le_refl _) HR7d.out HT.out.1 HL.out HT.out.2).mono ?_
  rintro e w8 ⟨rfl, HO8, HR8, HX8, HB8⟩
  have hb8 := HB8.out
  have hcv : (convert 33 9 (.slice (some ⟨w7.heap.size, 0, none⟩) s s)).run Try.prog w8 = .ok (.string (strOf out)) w8 := HO8.out.str HL.out
  refine ⟨_, rfl, hb8, ?_⟩
  simp only [Act.put, List.setIfInBounds_toArray, List.set_cons_zero, List.set_cons_succ]
  refine heldRun (d := some 86) (op := Go.Op.convert 33 9 (Go.Operand.tmp 85)) (g := some (18, true)) 21 (.string (strOf out)) (w8) rfl (by kernel_rfl) (by kernel_rfl) ?y21 hb8 ?_
  case y21 => intro o ho; simp only [execOp, ho]; go_simp; try rfl
  simp only [Act.put, List.setIfInBounds_toArray, List.set_cons_zero, List.set_cons_succ]
  refine heldTake (d := some 94) (op := Go.Op.binOp Go.BinOp.eql 9 (Go.Operand.tmp 86) (Go.Operand.tmp 93) 9) (g := some (18, true)) 29 ?v29 rfl (by kernel_rfl) (by kernel_rfl) (by kernel_rfl) (by kernel_rfl) ?y29 hb8 ?_
  case y29 => intro o ho w _; simp only [execOp, ho]; go_simp; try rfl
  simp only [Act.put, List.setIfInBounds_toArray, List.set_cons_zero, List.set_cons_succ]
  refine heldTake (d := some 95) (op := Go.Op.pick (Go.Operand.tmp 83) (Go.Operand.tmp 94) (Go.Operand.const (Go.Value.bool false))) (g := none) 30 ?v30 rfl (by kernel_rfl) (by kernel_rfl) (by kernel_rfl) (by kernel_rfl) ?y30 hb8 ?_
  case y30 => intro o ho w _; simp only [execOp, ho]; go_simp; try rfl
  simp only [Act.put, List.setIfInBounds_toArray, List.set_cons_zero, List.set_cons_succ]
  refine heldTake (d := some 96) (op := Go.Op.move (Go.Operand.tmp 95)) (g := none) 31 ?v31 rfl (by kernel_rfl) (by kernel_rfl) (by kernel_rfl) (by kernel_rfl) ?y31 hb8 ?_
  case y31 => intro o ho w _; simp only [execOp, ho]; go_simp; try rfl
  simp only [Act.put, List.setIfInBounds_toArray, List.set_cons_zero, List.set_cons_succ]
  refine heldTake (d := some 97) (op := Go.Op.move (Go.Operand.tmp 7)) (g := some (31, true)) 32 ?v32 rfl (by kernel_rfl) (by kernel_rfl) (by kernel_rfl) (by kernel_rfl) ?y32 hb8 ?_
  case y32 => intro o ho w _; simp only [execOp, ho]; go_simp; try rfl
  simp only [Act.put, List.setIfInBounds_toArray, List.set_cons_zero, List.set_cons_succ]
  refine heldTake (d := some 99) (op := Go.Op.move (Go.Operand.tmp 0)) (g := some (31, true)) 34 ?v34 rfl (by kernel_rfl) (by kernel_rfl) (by kernel_rfl) (by kernel_rfl) ?y34 hb8 ?_
  case y34 => intro o ho w _; simp only [execOp, ho]; go_simp; try rfl
  simp only [Act.put, List.setIfInBounds_toArray, List.set_cons_zero, List.set_cons_succ]
  refine heldTake (d := some 100) (op := Go.Op.convert 5 3 (Go.Operand.tmp 99)) (g := some (31, true)) 35 ?v35 rfl (by kernel_rfl) (by kernel_rfl) (by kernel_rfl) (by kernel_rfl) ?y35 hb8 ?_
  case y35 => intro o ho w _; simp only [execOp, ho]; go_simp; try rfl
  simp only [Act.put, List.setIfInBounds_toArray, List.set_cons_zero, List.set_cons_succ]
  refine heldTake (d := some 101) (op := Go.Op.binOp Go.BinOp.add 3 (Go.Operand.const (Go.Value.int Go.IntKind.i64 1)) (Go.Operand.tmp 100) 3) (g := some (31, true)) 36 ?v36 rfl (by kernel_rfl) (by kernel_rfl) (by kernel_rfl) (by kernel_rfl) ?y36 hb8 ?_
  case y36 => intro o ho w _; simp only [execOp, ho]; go_simp; try rfl
  simp only [Act.put, List.setIfInBounds_toArray, List.set_cons_zero, List.set_cons_succ]
  refine heldCall (d := some 98) (op := Go.Op.call { callee := Go.Callee.value (Go.Operand.func 18), args := #[Go.Operand.tmp 97], argTypes := #[23] }) (g := some (31, true)) 33 18 ?a33 rfl (by kernel_rfl) (by kernel_rfl) ?y33 ?_
  case y33 => intro o ho; simp only [execOp, ho]; go_simp; try rfl
  refine (room_ex w _ (w.heap.size + 1) w.heap.size L L [] hb8 HR8.out rfl).mono ?_
  rintro e w9 ⟨rfl, HR9, HX9, HB9⟩
  have hb9 := HB9.out
  refine ⟨_, rfl, hb9, ?_⟩
  simp only [Act.put, List.setIfInBounds_toArray, List.set_cons_zero, List.set_cons_succ]
  refine heldTake (d := some 102) (op := Go.Op.binOp Go.BinOp.eql 3 (Go.Operand.tmp 98) (Go.Operand.tmp 101) 3) (g := some (31, true)) 37 ?v37 rfl (by kernel_rfl) (by kernel_rfl) (by kernel_rfl) (by kernel_rfl) ?y37 hb9 ?_
  case y37 => intro o ho w _; simp only [execOp, ho]; go_simp; try rfl
  simp only [Act.put, List.setIfInBounds_toArray, List.set_cons_zero, List.set_cons_succ]
  refine heldTake (d := some 103) (op := Go.Op.pick (Go.Operand.tmp 96) (Go.Operand.tmp 102) (Go.Operand.const (Go.Value.bool false))) (g := none) 38 ?v38 rfl (by kernel_rfl) (by kernel_rfl) (by kernel_rfl) (by kernel_rfl) ?y38 hb9 ?_
  case y38 => intro o ho w _; simp only [execOp, ho]; go_simp; try rfl
  simp only [Act.put, List.setIfInBounds_toArray, List.set_cons_zero, List.set_cons_succ]
  refine heldTake (d := some 6) (op := Go.Op.assign (Go.Operand.tmp 103)) (g := none) 39 ?v39 rfl (by kernel_rfl) (by kernel_rfl) (by kernel_rfl) (by kernel_rfl) ?y39 hb9 ?_
  case y39 => intro o ho w _; simp only [execOp, ho]; go_simp; try rfl
  simp only [Act.put, List.setIfInBounds_toArray, List.set_cons_zero, List.set_cons_succ]
  refine wpAnyH_done (by kernel_rfl) ?_ _
  refine NoPanic.normal ?_
  go_wp2
  go_ret
  exact ⟨rfl, hb9⟩

set_option maxHeartbeats 2000000 in
set_option maxRecDepth 100000 in
theorem room_lg (mo n m r : Nat) (a b : ByteArray) (w : World) (hmo : mo < 256) (h1 : a.size ≤ 500) (h2 : b.size ≤ 500) (hn : n = min a.size (1 + mo)) (hm : m = min b.size (1 + mo - n)) (hr : r = 1 + mo - n) (c1 : 1 + (mo : Int) < (a.size : Int)) (q1 : ((n : Int) != 1 + (mo : Int)) = false) (c2 : ¬ 1 + (mo : Int) - (n : Int) < (b.size : Int)) (q3 : ((m : Int) == (b.size : Int)) = true) :
    Calls Try.prog 7 #[.int .u8 mo, .string a, .string b] w fun e w' => e = .returned (.bool true) ∧ Below w.heap.size w w' := by
  have bn : n ≤ 256 := by omega
  have bna : n ≤ a.size := by omega
  have bm : m ≤ 256 := by omega
  have bmb : m ≤ b.size := by omega
  have HN : Sl (min (bytes a).length (1 + mo - ([] : List Nat).length) = n) := ⟨by rw [bytes_length]; simp; omega⟩
  have ln : ((bytes a).take n).length = n := by rw [List.length_take, bytes_length]; omega
  have HM : Sl (min (bytes b).length (1 + mo - ([] ++ (bytes a).take n).length) = m) := ⟨by rw [bytes_length, List.nil_append, ln]; omega⟩
  have HR : Sl (1 + mo - ([] ++ (bytes a).take n).length = r) := ⟨by rw [List.nil_append, ln]; omega⟩
  have ln2 : (([] ++ (bytes a).take n) ++ (bytes b).take m).length = n + m := by rw [List.length_append, List.nil_append, ln, List.length_take, bytes_length]; omega
  obtain ⟨out, ho⟩ : ∃ out, out = ([] ++ (bytes a).take n) ++ (bytes b).take m := ⟨_, rfl⟩
  have HO := Sl.mk ho
  have HL : Sl (out.length = n + m) := ⟨by rw [ho]; exact ln2⟩
  have so : Small 256 out := by rw [ho]; exact (((bytes_small a).take n)).append ((bytes_small b).take m)
  have q5 : ((strOf out).toList == (a.extract 0 n ++ b.extract 0 m).toList) = true := by
    rw [beq_bytes2, bytes_strOf out so, bytes_append, bytes_extract, bytes_extract, ho]
    simp
  have q2 : ((r : Int) != 1 + (mo : Int) - (n : Int)) = false := by simp; omega
  have HT : Sl (out.take (1000 : Int).toNat = out ∧ out.drop (1000 : Int).toNat = []) := ⟨by
    have h : out.length ≤ (1000 : Int).toNat := by rw [HL.out]; show n + m ≤ 1000; omega
    exact ⟨List.take_of_length_le h, List.drop_eq_nil_of_le h⟩⟩
  have q4 : (((n + m : Nat) : Int) == (n : Int) + (m : Int)) = true := by simp
  have q6 : (((1 + mo : Nat) : Int) == 1 + (mo : Int)) = true := by simp
  obtain ⟨L, hL⟩ : ∃ L, L = 1 + mo := ⟨_, rfl⟩
  obtain ⟨s, hs⟩ : ∃ s, s = n + m := ⟨_, rfl⟩
  rw [← hL] at q6 HN HM HR
  rw [← hs] at q4 HL
  have HLL := Sl.mk hL
  clear so ho ln ln2 hL hs
  have HA : Sl ((bytes a).length ≤ 100000 ∧ (bytes b).length ≤ 100000) := ⟨by rw [bytes_length, bytes_length]; omega⟩
  clear hn hm hr
  go_enter Try.func7, Try.ntmps7
  go_wp2_with fail
  refine (new_exi w _ _ L (by rw [HLL.out]; omega) (by rw [HLL.out]; omega) (by rw [HLL.out]; omega) (Below.refl _ _)).mono ?_
  rintro e w1 ⟨rfl, HR1, HX1, HB1⟩
  go_wp2_with fail
  refine (awake_ex w _ HB1.out).mono ?_
  rintro e w2 ⟨rfl, HX2, HB2⟩
  have HR2 := Sl.mk (HR1.out.below HX2.out)
  obtain ⟨k3, w3, hc3, HV3, HX3⟩ := conv_str a w2
  have HB3 : Sl (Below w.heap.size w w3) := ⟨HB2.out.trans (HX3.out.mono HB2.out.size)⟩
  have HR3 := Sl.mk (HR2.out.below HX3.out)
  go_wp2_with fail
  refine (put_ex w _ (w.heap.size + 1) w.heap.size L n [] (bytes a) _ HB3.out (by omega) (by omega) HR3.out (HV3.out.offs HR2.out.plt) (bytes_small a) HA.out.1 HN.out).mono ?_
  rintro e w4 ⟨rfl, HR4, HX4, HB4⟩
  clear hc3
  go_wp2_with fail
  refine (room_ex w _ (w.heap.size + 1) w.heap.size L r _ HB4.out HR4.out HR.out).mono ?_
  rintro e w5 ⟨rfl, HR5, HX5, HB5⟩
  obtain ⟨k6, w6, hc6, HV6, HX6⟩ := conv_str b w5
  have HB6 : Sl (Below w.heap.size w w6) := ⟨HB5.out.trans (HX6.out.mono HB5.out.size)⟩
  have HR6 := Sl.mk (HR5.out.below HX6.out)
  go_wp2_with fail
  refine (put_ex w _ (w.heap.size + 1) w.heap.size L m _ (bytes b) _ HB6.out (by omega) (by omega) HR6.out (HV6.out.offs HR5.out.plt) (bytes_small b) HA.out.2 HM.out).mono ?_
  rw [← HO.out]
  rintro e w7 ⟨rfl, HR7, HX7, HB7⟩
  clear hc6
  have hb7 := HB7.out.drew
  have HR7d := Sl.mk (HR7.out.below (Below.refl _ _).drew)
  go_wp2
  have c2f : (1 + (mo : Int) - (n : Int) < (b.size : Int)) = False := eq_false (by omega)
  have hadd := fun (W : World) => run_string_add_sum (P := Try.prog) W (a.extract 0 n) (b.extract 0 m) (by rw [ByteArray.size_extract, ByteArray.size_extract]; omega)
  have y0 := IntWalk.i64_in (mo : Int) (by omega)
  have y1 := IntWalk.i64_in (1 + (mo : Int)) (by omega)
  have y2 := IntWalk.i64_in (1 + (mo : Int) - (n : Int)) (by omega)
  have y3 := IntWalk.i64_in ((n : Int) + (m : Int)) (by omega)
  have z0 : IntKind.i64.wrap (mo : Int) = (mo : Int) := y0
  have z1 : IntKind.i64.wrap (1 + (mo : Int)) = 1 + (mo : Int) := y1
  have z2 : IntKind.i64.wrap (1 + (mo : Int) - (n : Int)) = 1 + (mo : Int) - (n : Int) := y2
  have z3 : IntKind.i64.wrap ((n : Int) + (m : Int)) = (n : Int) + (m : Int) := y3
  clear y0 y1 y2 y3
  refine wp_region_noPanic ?_
  refine wp_region_held (S := fun W => Below w.heap.size w W) (by kernel_rfl) ?_
  change wpAnyH _ _ _ _ _ _ _ _ w7.drew
  refine heldTake (d := some 65) (op := Go.Op.move (Go.Operand.tmp 10)) (g := none) 0 ?v0 rfl (by kernel_rfl) (by kernel_rfl) (by kernel_rfl) (by kernel_rfl) ?y0 hb7 ?_
  case y0 => intro o ho w _; simp only [execOp, ho]; go_simp; try rfl
  simp only [Act.put, List.setIfInBounds_toArray, List.set_cons_zero, List.set_cons_succ]
  refine heldTake (d := some 66) (op := Go.Op.move (Go.Operand.tmp 2)) (g := none) 1 ?v1 rfl (by kernel_rfl) (by kernel_rfl) (by kernel_rfl) (by kernel_rfl) ?y1 hb7 ?_
  case y1 => intro o ho w _; simp only [execOp, ho]; go_simp; try rfl
  simp only [Act.put, List.setIfInBounds_toArray, List.set_cons_zero, List.set_cons_succ]
  refine heldTake (d := some 67) (op := Go.Op.call { callee := Go.Callee.builtin Go.Builtin.len, args := #[Go.Operand.tmp 66], argTypes := #[9] }) (g := none) 2 ?v2 rfl (by kernel_rfl) (by kernel_rfl) (by kernel_rfl) (by kernel_rfl) ?y2 hb7 ?_
  case y2 => intro o ho w _; simp only [execOp, ho]; go_simp; try rfl
  simp only [Act.put, List.setIfInBounds_toArray, List.set_cons_zero, List.set_cons_succ]
  refine heldTake (d := some 68) (op := Go.Op.move (Go.Operand.tmp 0)) (g := none) 3 ?v3 rfl (by kernel_rfl) (by kernel_rfl) (by kernel_rfl) (by kernel_rfl) ?y3 hb7 ?_
  case y3 => intro o ho w _; simp only [execOp, ho]; go_simp; try rfl
  simp only [Act.put, List.setIfInBounds_toArray, List.set_cons_zero, List.set_cons_succ]
  refine heldTake (d := some 69) (op := Go.Op.convert 5 3 (Go.Operand.tmp 68)) (g := none) 4 ?v4 rfl (by kernel_rfl) (by kernel_rfl) (by kernel_rfl) (by kernel_rfl) ?y4 hb7 ?_
  case y4 => intro o ho w _; simp only [execOp, ho]; go_simp; try rfl
  simp only [Act.put, List.setIfInBounds_toArray, List.set_cons_zero, List.set_cons_succ]
  refine heldTake (d := some 70) (op := Go.Op.binOp Go.BinOp.add 3 (Go.Operand.const (Go.Value.int Go.IntKind.i64 1)) (Go.Operand.tmp 69) 3) (g := none) 5 ?v5 rfl (by kernel_rfl) (by kernel_rfl) (by kernel_rfl) (by kernel_rfl) ?y5 hb7 ?_
  case y5 => intro o ho w _; simp only [execOp, ho]; go_simp; try rfl
  simp only [Act.put, List.setIfInBounds_toArray, List.set_cons_zero, List.set_cons_succ]
  refine heldTake (d := some 71) (op := Go.Op.move (Go.Operand.tmp 9)) (g := none) 6 ?v6 rfl (by kernel_rfl) (by kernel_rfl) (by kernel_rfl) (by kernel_rfl) ?y6 hb7 ?_
  case y6 => intro o ho w _; simp only [execOp, ho]; go_simp; try rfl
  simp only [Act.put, List.setIfInBounds_toArray, List.set_cons_zero, List.set_cons_succ]
  refine heldTake (d := some 72) (op := Go.Op.binOp Go.BinOp.sub 3 (Go.Operand.tmp 70) (Go.Operand.tmp 71) 3) (g := none) 7 ?v7 rfl (by kernel_rfl) (by kernel_rfl) (by kernel_rfl) (by kernel_rfl) ?y7 hb7 ?_
  case y7 => intro o ho w _; simp only [execOp, ho]; go_simp; try rfl
  simp only [Act.put, List.setIfInBounds_toArray, List.set_cons_zero, List.set_cons_succ]
  refine heldTake (d := some 73) (op := Go.Op.call { callee := Go.Callee.builtin Go.Builtin.min, args := #[Go.Operand.tmp 67, Go.Operand.tmp 72], argTypes := #[3, 3] }) (g := none) 8 ?v8 rfl (by kernel_rfl) (by kernel_rfl) (by kernel_rfl) (by kernel_rfl) ?y8 hb7 ?_
  case y8 => intro o ho w _; simp only [execOp, ho]; go_simp; try rfl
  simp only [Act.put, List.setIfInBounds_toArray, List.set_cons_zero, List.set_cons_succ]
  refine heldTake (d := some 74) (op := Go.Op.binOp Go.BinOp.eql 3 (Go.Operand.tmp 65) (Go.Operand.tmp 73) 3) (g := none) 9 ?v9 rfl (by kernel_rfl) (by kernel_rfl) (by kernel_rfl) (by kernel_rfl) ?y9 hb7 ?_
  case y9 => intro o ho w _; simp only [execOp, ho]; go_simp; try rfl
  simp only [Act.put, List.setIfInBounds_toArray, List.set_cons_zero, List.set_cons_succ]
  refine heldTake (d := some 75) (op := Go.Op.move (Go.Operand.tmp 74)) (g := none) 10 ?v10 rfl (by kernel_rfl) (by kernel_rfl) (by kernel_rfl) (by kernel_rfl) ?y10 hb7 ?_
  case y10 => intro o ho w _; simp only [execOp, ho]; go_simp; try rfl
  simp only [Act.put, List.setIfInBounds_toArray, List.set_cons_zero, List.set_cons_succ]
  refine heldTake (d := some 76) (op := Go.Op.move (Go.Operand.tmp 7)) (g := some (10, true)) 11 ?v11 rfl (by kernel_rfl) (by kernel_rfl) (by kernel_rfl) (by kernel_rfl) ?y11 hb7 ?_
  case y11 => intro o ho w _; simp only [execOp, ho]; go_simp; try rfl
  simp only [Act.put, List.setIfInBounds_toArray, List.set_cons_zero, List.set_cons_succ]
  refine heldTake (d := some 78) (op := Go.Op.move (Go.Operand.tmp 9)) (g := some (10, true)) 13 ?v13 rfl (by kernel_rfl) (by kernel_rfl) (by kernel_rfl) (by kernel_rfl) ?y13 hb7 ?_
  case y13 => intro o ho w _; simp only [execOp, ho]; go_simp; try rfl
  simp only [Act.put, List.setIfInBounds_toArray, List.set_cons_zero, List.set_cons_succ]
  refine heldTake (d := some 79) (op := Go.Op.move (Go.Operand.tmp 10)) (g := some (10, true)) 14 ?v14 rfl (by kernel_rfl) (by kernel_rfl) (by kernel_rfl) (by kernel_rfl) ?y14 hb7 ?_
  case y14 => intro o ho w _; simp only [execOp, ho]; go_simp; try rfl
  simp only [Act.put, List.setIfInBounds_toArray, List.set_cons_zero, List.set_cons_succ]
  refine heldTake (d := some 80) (op := Go.Op.binOp Go.BinOp.add 3 (Go.Operand.tmp 78) (Go.Operand.tmp 79) 3) (g := some (10, true)) 15 ?v15 rfl (by kernel_rfl) (by kernel_rfl) (by kernel_rfl) (by kernel_rfl) ?y15 hb7 ?_
  case y15 => intro o ho w _; simp only [execOp, ho]; go_simp; try rfl
  simp only [Act.put, List.setIfInBounds_toArray, List.set_cons_zero, List.set_cons_succ]
  refine heldCall (d := some 77) (op := Go.Op.call { callee := Go.Callee.value (Go.Operand.func 17), args := #[Go.Operand.tmp 76], argTypes := #[23] }) (g := some (10, true)) 12 17 ?a12 rfl (by kernel_rfl) (by kernel_rfl) ?y12 ?_
  case y12 => intro o ho; simp only [execOp, ho]; go_simp; try rfl
  refine (len_ex _ (w.heap.size + 1) w.heap.size L s out HR7d.out HL.out).mono ?_
  rintro e w8 ⟨rfl, rfl⟩
  refine ⟨_, rfl, hb7, ?_⟩
  simp only [Act.put, List.setIfInBounds_toArray, List.set_cons_zero, List.set_cons_succ]
  refine heldTake (d := some 81) (op := Go.Op.binOp Go.BinOp.eql 3 (Go.Operand.tmp 77) (Go.Operand.tmp 80) 3) (g := some (10, true)) 16 ?v16 rfl (by kernel_rfl) (by kernel_rfl) (by kernel_rfl) (by kernel_rfl) ?y16 hb7 ?_
  case y16 => intro o ho w _; simp only [execOp, ho]; go_simp; try rfl
  simp only [Act.put, List.setIfInBounds_toArray, List.set_cons_zero, List.set_cons_succ]
  refine heldTake (d := some 82) (op := Go.Op.pick (Go.Operand.tmp 75) (Go.Operand.tmp 81) (Go.Operand.const (Go.Value.bool false))) (g := none) 17 ?v17 rfl (by kernel_rfl) (by kernel_rfl) (by kernel_rfl) (by kernel_rfl) ?y17 hb7 ?_
  case y17 => intro o ho w _; simp only [execOp, ho]; go_simp; try rfl
  simp only [Act.put, List.setIfInBounds_toArray, List.set_cons_zero, List.set_cons_succ]
  refine heldTake (d := some 83) (op := Go.Op.move (Go.Operand.tmp 82)) (g := none) 18 ?v18 rfl (by kernel_rfl) (by kernel_rfl) (by kernel_rfl) (by kernel_rfl) ?y18 hb7 ?_
  case y18 => intro o ho w _; simp only [execOp, ho]; go_simp; try rfl
  simp only [Act.put, List.setIfInBounds_toArray, List.set_cons_zero, List.set_cons_succ]
  refine heldTake (d := some 84) (op := Go.Op.move (Go.Operand.tmp 7)) (g := some (18, true)) 19 ?v19 rfl (by kernel_rfl) (by kernel_rfl) (by kernel_rfl) (by kernel_rfl) ?y19 hb7 ?_
  case y19 => intro o ho w _; simp only [execOp, ho]; go_simp; try rfl
  simp only [Act.put, List.setIfInBounds_toArray, List.set_cons_zero, List.set_cons_succ]
  refine heldTake (d := some 87) (op := Go.Op.move (Go.Operand.tmp 1)) (g := some (18, true)) 22 ?v22 rfl (by kernel_rfl) (by kernel_rfl) (by kernel_rfl) (by kernel_rfl) ?y22 hb7 ?_
  case y22 => intro o ho w _; simp only [execOp, ho]; go_simp; try rfl
  simp only [Act.put, List.setIfInBounds_toArray, List.set_cons_zero, List.set_cons_succ]
  refine heldTake (d := some 88) (op := Go.Op.move (Go.Operand.tmp 9)) (g := some (18, true)) 23 ?v23 rfl (by kernel_rfl) (by kernel_rfl) (by kernel_rfl) (by kernel_rfl) ?y23 hb7 ?_
  case y23 => intro o ho w _; simp only [execOp, ho]; go_simp; try rfl
  simp only [Act.put, List.setIfInBounds_toArray, List.set_cons_zero, List.set_cons_succ]
  refine heldTake (d := some 89) (op := Go.Op.slice 9 (Go.Operand.tmp 87) none (some (Go.Operand.tmp 88)) none) (g := some (18, true)) 24 ?v24 rfl (by kernel_rfl) (by kernel_rfl) (by kernel_rfl) (by kernel_rfl) ?y24 hb7 ?_
  case y24 => intro o ho w _; simp only [execOp, ho]; go_simp; try rfl
  simp only [Act.put, List.setIfInBounds_toArray, List.set_cons_zero, List.set_cons_succ]
  refine heldTake (d := some 90) (op := Go.Op.move (Go.Operand.tmp 2)) (g := some (18, true)) 25 ?v25 rfl (by kernel_rfl) (by kernel_rfl) (by kernel_rfl) (by kernel_rfl) ?y25 hb7 ?_
  case y25 => intro o ho w _; simp only [execOp, ho]; go_simp; try rfl
  simp only [Act.put, List.setIfInBounds_toArray, List.set_cons_zero, List.set_cons_succ]
  refine heldTake (d := some 91) (op := Go.Op.move (Go.Operand.tmp 10)) (g := some (18, true)) 26 ?v26 rfl (by kernel_rfl) (by kernel_rfl) (by kernel_rfl) (by kernel_rfl) ?y26 hb7 ?_
  case y26 => intro o ho w _; simp only [execOp, ho]; go_simp; try rfl
  simp only [Act.put, List.setIfInBounds_toArray, List.set_cons_zero, List.set_cons_succ]
  refine heldTake (d := some 92) (op := Go.Op.slice 9 (Go.Operand.tmp 90) none (some (Go.Operand.tmp 91)) none) (g := some (18, true)) 27 ?v27 rfl (by kernel_rfl) (by kernel_rfl) (by kernel_rfl) (by kernel_rfl) ?y27 hb7 ?_
  case y27 => intro o ho w _; simp only [execOp, ho]; go_simp; try rfl
  simp only [Act.put, List.setIfInBounds_toArray, List.set_cons_zero, List.set_cons_succ]
  refine heldTake (d := some 93) (op := Go.Op.binOp Go.BinOp.add 9 (Go.Operand.tmp 89) (Go.Operand.tmp 92) 9) (g := some (18, true)) 28 ?v28 rfl (by kernel_rfl) (by kernel_rfl) (by kernel_rfl) (by kernel_rfl) ?y28 hb7 ?_
  case y28 => intro o ho w _; simp only [execOp, ho]; go_simp; try rfl
  simp only [Act.put, List.setIfInBounds_toArray, List.set_cons_zero, List.set_cons_succ]
  refine heldCall (d := some 85) (op := Go.Op.call { callee := Go.Callee.value (Go.Operand.func 16), args := #[Go.Operand.tmp 84, Go.Operand.const (Go.Value.int Go.IntKind.i64 1000)], argTypes := #[23, 3] }) (g := some (18, true)) 20 16 ?a20 rfl (by kernel_rfl) (by kernel_rfl) ?y20 ?_
  case y20 => intro o ho; simp only [execOp, ho]; go_simp; try rfl
  refine (take_ex w _ (w.heap.size + 1) w.heap.size L s out out [] 1000 hb7 (Nat.le_succ _) (Nat.le_refl _) HR7d.out HT.out.1 HL.out HT.out.2).mono ?_
  rintro e w8 ⟨rfl, HO8, HR8, HX8, HB8⟩
  have hb8 := HB8.out
  have hcv : (convert 33 9 (.slice (some ⟨w7.heap.size, 0, none⟩) s s)).run Try.prog w8 = .ok (.string (strOf out)) w8 := HO8.out.str HL.out
  refine ⟨_, rfl, hb8, ?_⟩
  simp only [Act.put, List.setIfInBounds_toArray, List.set_cons_zero, List.set_cons_succ]
  refine heldRun (d := some 86) (op := Go.Op.convert 33 9 (Go.Operand.tmp 85)) (g := some (18, true)) 21 (.string (strOf out)) (w8) rfl (by kernel_rfl) (by kernel_rfl) ?y21 hb8 ?_
  case y21 => intro o ho; simp only [execOp, ho]; go_simp; try rfl
  simp only [Act.put, List.setIfInBounds_toArray, List.set_cons_zero, List.set_cons_succ]
  refine heldTake (d := some 94) (op := Go.Op.binOp Go.BinOp.eql 9 (Go.Operand.tmp 86) (Go.Operand.tmp 93) 9) (g := some (18, true)) 29 ?v29 rfl (by kernel_rfl) (by kernel_rfl) (by kernel_rfl) (by kernel_rfl) ?y29 hb8 ?_
  case y29 => intro o ho w _; simp only [execOp, ho]; go_simp; try rfl
  simp only [Act.put, List.setIfInBounds_toArray, List.set_cons_zero, List.set_cons_succ]
  refine heldTake (d := some 95) (op := Go.Op.pick (Go.Operand.tmp 83) (Go.Operand.tmp 94) (Go.Operand.const (Go.Value.bool false))) (g := none) 30 ?v30 rfl (by kernel_rfl) (by kernel_rfl) (by kernel_rfl) (by kernel_rfl) ?y30 hb8 ?_
  case y30 => intro o ho w _; simp only [execOp, ho]; go_simp; try rfl
  simp only [Act.put, List.setIfInBounds_toArray, List.set_cons_zero, List.set_cons_succ]
  refine heldTake (d := some 96) (op := Go.Op.move (Go.Operand.tmp 95)) (g := none) 31 ?v31 rfl (by kernel_rfl) (by kernel_rfl) (by kernel_rfl) (by kernel_rfl) ?y31 hb8 ?_
  case y31 => intro o ho w _; simp only [execOp, ho]; go_simp; try rfl
  simp only [Act.put, List.setIfInBounds_toArray, List.set_cons_zero, List.set_cons_succ]
  refine heldTake (d := some 97) (op := Go.Op.move (Go.Operand.tmp 7)) (g := some (31, true)) 32 ?v32 rfl (by kernel_rfl) (by kernel_rfl) (by kernel_rfl) (by kernel_rfl) ?y32 hb8 ?_
  case y32 => intro o ho w _; simp only [execOp, ho]; go_simp; try rfl
  simp only [Act.put, List.setIfInBounds_toArray, List.set_cons_zero, List.set_cons_succ]
  refine heldTake (d := some 99) (op := Go.Op.move (Go.Operand.tmp 0)) (g := some (31, true)) 34 ?v34 rfl (by kernel_rfl) (by kernel_rfl) (by kernel_rfl) (by kernel_rfl) ?y34 hb8 ?_
  case y34 => intro o ho w _; simp only [execOp, ho]; go_simp; try rfl
  simp only [Act.put, List.setIfInBounds_toArray, List.set_cons_zero, List.set_cons_succ]
  refine heldTake (d := some 100) (op := Go.Op.convert 5 3 (Go.Operand.tmp 99)) (g := some (31, true)) 35 ?v35 rfl (by kernel_rfl) (by kernel_rfl) (by kernel_rfl) (by kernel_rfl) ?y35 hb8 ?_
  case y35 => intro o ho w _; simp only [execOp, ho]; go_simp; try rfl
  simp only [Act.put, List.setIfInBounds_toArray, List.set_cons_zero, List.set_cons_succ]
  refine heldTake (d := some 101) (op := Go.Op.binOp Go.BinOp.add 3 (Go.Operand.const (Go.Value.int Go.IntKind.i64 1)) (Go.Operand.tmp 100) 3) (g := some (31, true)) 36 ?v36 rfl (by kernel_rfl) (by kernel_rfl) (by kernel_rfl) (by kernel_rfl) ?y36 hb8 ?_
  case y36 => intro o ho w _; simp only [execOp, ho]; go_simp; try rfl
  simp only [Act.put, List.setIfInBounds_toArray, List.set_cons_zero, List.set_cons_succ]
  refine heldCall (d := some 98) (op := Go.Op.call { callee := Go.Callee.value (Go.Operand.func 18), args := #[Go.Operand.tmp 97], argTypes := #[23] }) (g := some (31, true)) 33 18 ?a33 rfl (by kernel_rfl) (by kernel_rfl) ?y33 ?_
  case y33 => intro o ho; simp only [execOp, ho]; go_simp; try rfl
  refine (room_ex w _ (w.heap.size + 1) w.heap.size L L [] hb8 HR8.out rfl).mono ?_
  rintro e w9 ⟨rfl, HR9, HX9, HB9⟩
  have hb9 := HB9.out
  refine ⟨_, rfl, hb9, ?_⟩
  simp only [Act.put, List.setIfInBounds_toArray, List.set_cons_zero, List.set_cons_succ]
  refine heldTake (d := some 102) (op := Go.Op.binOp Go.BinOp.eql 3 (Go.Operand.tmp 98) (Go.Operand.tmp 101) 3) (g := some (31, true)) 37 ?v37 rfl (by kernel_rfl) (by kernel_rfl) (by kernel_rfl) (by kernel_rfl) ?y37 hb9 ?_
  case y37 => intro o ho w _; simp only [execOp, ho]; go_simp; try rfl
  simp only [Act.put, List.setIfInBounds_toArray, List.set_cons_zero, List.set_cons_succ]
  refine heldTake (d := some 103) (op := Go.Op.pick (Go.Operand.tmp 96) (Go.Operand.tmp 102) (Go.Operand.const (Go.Value.bool false))) (g := none) 38 ?v38 rfl (by kernel_rfl) (by kernel_rfl) (by kernel_rfl) (by kernel_rfl) ?y38 hb9 ?_
  case y38 => intro o ho w _; simp only [execOp, ho]; go_simp; try rfl
  simp only [Act.put, List.setIfInBounds_toArray, List.set_cons_zero, List.set_cons_succ]
  refine heldTake (d := some 6) (op := Go.Op.assign (Go.Operand.tmp 103)) (g := none) 39 ?v39 rfl (by kernel_rfl) (by kernel_rfl) (by kernel_rfl) (by kernel_rfl) ?y39 hb9 ?_
  case y39 => intro o ho w _; simp only [execOp, ho]; go_simp; try rfl
  simp only [Act.put, List.setIfInBounds_toArray, List.set_cons_zero, List.set_cons_succ]
  refine wpAnyH_done (by kernel_rfl) ?_ _
  refine NoPanic.normal ?_
  go_wp2
  go_ret
  exact ⟨rfl, hb9⟩

set_option maxHeartbeats 2000000 in
set_option maxRecDepth 100000 in
theorem room_gl (mo m r : Nat) (a b : ByteArray) (w : World) (hmo : mo < 256) (h1 : a.size ≤ 500) (h2 : b.size ≤ 500) (hm : m = min b.size (1 + mo - a.size)) (hr : r = 1 + mo - a.size) (c1 : ¬ 1 + (mo : Int) < (a.size : Int))  (c2 : 1 + (mo : Int) - (a.size : Int) < (b.size : Int)) (q3 : ((m : Int) == 1 + (mo : Int) - (a.size : Int)) = true) :
    Calls Try.prog 7 #[.int .u8 mo, .string a, .string b] w fun e w' => e = .returned (.bool true) ∧ Below w.heap.size w w' := by
  have bn : a.size ≤ 256 := by omega
  have bm : m ≤ 256 := by omega
  have bmb : m ≤ b.size := by omega
  have HN : Sl (min (bytes a).length (1 + mo - ([] : List Nat).length) = a.size) := ⟨by rw [bytes_length]; simp; omega⟩
  have ln : ((bytes a).take a.size).length = a.size := by rw [List.length_take, bytes_length]; omega
  have HM : Sl (min (bytes b).length (1 + mo - ([] ++ (bytes a).take a.size).length) = m) := ⟨by rw [bytes_length, List.nil_append, ln]; omega⟩
  have HR : Sl (1 + mo - ([] ++ (bytes a).take a.size).length = r) := ⟨by rw [List.nil_append, ln]; omega⟩
  have ln2 : (([] ++ (bytes a).take a.size) ++ (bytes b).take m).length = a.size + m := by rw [List.length_append, List.nil_append, ln, List.length_take, bytes_length]; omega
  obtain ⟨out, ho⟩ : ∃ out, out = ([] ++ (bytes a).take a.size) ++ (bytes b).take m := ⟨_, rfl⟩
  have HO := Sl.mk ho
  have HL : Sl (out.length = a.size + m) := ⟨by rw [ho]; exact ln2⟩
  have so : Small 256 out := by rw [ho]; exact (((bytes_small a).take a.size)).append ((bytes_small b).take m)
  have q5 : ((strOf out).toList == (a ++ b.extract 0 m).toList) = true := by
    rw [beq_bytes2, bytes_strOf out so, bytes_append, bytes_extract, ho, List.take_of_length_le (by rw [bytes_length]; exact Nat.le_refl _)]
    simp
  have q2 : ((r : Int) != 1 + (mo : Int) - (a.size : Int)) = false := by simp; omega
  have HT : Sl (out.take (1000 : Int).toNat = out ∧ out.drop (1000 : Int).toNat = []) := ⟨by
    have h : out.length ≤ (1000 : Int).toNat := by rw [HL.out]; show a.size + m ≤ 1000; omega
    exact ⟨List.take_of_length_le h, List.drop_eq_nil_of_le h⟩⟩
  have q4 : (((a.size + m : Nat) : Int) == (a.size : Int) + (m : Int)) = true := by simp
  have q6 : (((1 + mo : Nat) : Int) == 1 + (mo : Int)) = true := by simp
  obtain ⟨L, hL⟩ : ∃ L, L = 1 + mo := ⟨_, rfl⟩
  obtain ⟨s, hs⟩ : ∃ s, s = a.size + m := ⟨_, rfl⟩
  rw [← hL] at q6 HN HM HR
  rw [← hs] at q4 HL
  have HLL := Sl.mk hL
  clear so ho ln ln2 hL hs
  have HA : Sl ((bytes a).length ≤ 100000 ∧ (bytes b).length ≤ 100000) := ⟨by rw [bytes_length, bytes_length]; omega⟩
  clear hm hr
  go_enter Try.func7, Try.ntmps7
  go_wp2_with fail
  refine (new_exi w _ _ L (by rw [HLL.out]; omega) (by rw [HLL.out]; omega) (by rw [HLL.out]; omega) (Below.refl _ _)).mono ?_
  rintro e w1 ⟨rfl, HR1, HX1, HB1⟩
  go_wp2_with fail
  refine (awake_ex w _ HB1.out).mono ?_
  rintro e w2 ⟨rfl, HX2, HB2⟩
  have HR2 := Sl.mk (HR1.out.below HX2.out)
  obtain ⟨k3, w3, hc3, HV3, HX3⟩ := conv_str a w2
  have HB3 : Sl (Below w.heap.size w w3) := ⟨HB2.out.trans (HX3.out.mono HB2.out.size)⟩
  have HR3 := Sl.mk (HR2.out.below HX3.out)
  go_wp2_with fail
  refine (put_ex w _ (w.heap.size + 1) w.heap.size L a.size [] (bytes a) _ HB3.out (by omega) (by omega) HR3.out (HV3.out.offs HR2.out.plt) (bytes_small a) HA.out.1 HN.out).mono ?_
  rintro e w4 ⟨rfl, HR4, HX4, HB4⟩
  clear hc3
  go_wp2_with fail
  refine (room_ex w _ (w.heap.size + 1) w.heap.size L r _ HB4.out HR4.out HR.out).mono ?_
  rintro e w5 ⟨rfl, HR5, HX5, HB5⟩
  obtain ⟨k6, w6, hc6, HV6, HX6⟩ := conv_str b w5
  have HB6 : Sl (Below w.heap.size w w6) := ⟨HB5.out.trans (HX6.out.mono HB5.out.size)⟩
  have HR6 := Sl.mk (HR5.out.below HX6.out)
  go_wp2_with fail
  refine (put_ex w _ (w.heap.size + 1) w.heap.size L m _ (bytes b) _ HB6.out (by omega) (by omega) HR6.out (HV6.out.offs HR5.out.plt) (bytes_small b) HA.out.2 HM.out).mono ?_
  rw [← HO.out]
  rintro e w7 ⟨rfl, HR7, HX7, HB7⟩
  clear hc6
  have hb7 := HB7.out.drew
  have HR7d := Sl.mk (HR7.out.below (Below.refl _ _).drew)
  go_wp2
  have hadd := fun (W : World) => run_string_add_sum (P := Try.prog) W a (b.extract 0 m) (by rw [ByteArray.size_extract]; omega)
  have y0 := IntWalk.i64_in (mo : Int) (by omega)
  have y1 := IntWalk.i64_in (1 + (mo : Int)) (by omega)
  have y2 := IntWalk.i64_in (1 + (mo : Int) - (a.size : Int)) (by omega)
  have y3 := IntWalk.i64_in ((a.size : Int) + (m : Int)) (by omega)
  have z0 : IntKind.i64.wrap (mo : Int) = (mo : Int) := y0
  have z1 : IntKind.i64.wrap (1 + (mo : Int)) = 1 + (mo : Int) := y1
  have z2 : IntKind.i64.wrap (1 + (mo : Int) - (a.size : Int)) = 1 + (mo : Int) - (a.size : Int) := y2
  have z3 : IntKind.i64.wrap ((a.size : Int) + (m : Int)) = (a.size : Int) + (m : Int) := y3
  clear y0 y1 y2 y3
  refine wp_region_noPanic ?_
  refine wp_region_held (S := fun W => Below w.heap.size w W) (by kernel_rfl) ?_
  change wpAnyH _ _ _ _ _ _ _ _ w7.drew
  refine heldTake (d := some 65) (op := Go.Op.move (Go.Operand.tmp 10)) (g := none) 0 ?v0 rfl (by kernel_rfl) (by kernel_rfl) (by kernel_rfl) (by kernel_rfl) ?y0 hb7 ?_
  case y0 => intro o ho w _; simp only [execOp, ho]; go_simp; try rfl
  simp only [Act.put, List.setIfInBounds_toArray, List.set_cons_zero, List.set_cons_succ]
  refine heldTake (d := some 66) (op := Go.Op.move (Go.Operand.tmp 2)) (g := none) 1 ?v1 rfl (by kernel_rfl) (by kernel_rfl) (by kernel_rfl) (by kernel_rfl) ?y1 hb7 ?_
  case y1 => intro o ho w _; simp only [execOp, ho]; go_simp; try rfl
  simp only [Act.put, List.setIfInBounds_toArray, List.set_cons_zero, List.set_cons_succ]
  refine heldTake (d := some 67) (op := Go.Op.call { callee := Go.Callee.builtin Go.Builtin.len, args := #[Go.Operand.tmp 66], argTypes := #[9] }) (g := none) 2 ?v2 rfl (by kernel_rfl) (by kernel_rfl) (by kernel_rfl) (by kernel_rfl) ?y2 hb7 ?_
  case y2 => intro o ho w _; simp only [execOp, ho]; go_simp; try rfl
  simp only [Act.put, List.setIfInBounds_toArray, List.set_cons_zero, List.set_cons_succ]
  refine heldTake (d := some 68) (op := Go.Op.move (Go.Operand.tmp 0)) (g := none) 3 ?v3 rfl (by kernel_rfl) (by kernel_rfl) (by kernel_rfl) (by kernel_rfl) ?y3 hb7 ?_
  case y3 => intro o ho w _; simp only [execOp, ho]; go_simp; try rfl
  simp only [Act.put, List.setIfInBounds_toArray, List.set_cons_zero, List.set_cons_succ]
  refine heldTake (d := some 69) (op := Go.Op.convert 5 3 (Go.Operand.tmp 68)) (g := none) 4 ?v4 rfl (by kernel_rfl) (by kernel_rfl) (by kernel_rfl) (by kernel_rfl) ?y4 hb7 ?_
  case y4 => intro o ho w _; simp only [execOp, ho]; go_simp; try rfl
  simp only [Act.put, List.setIfInBounds_toArray, List.set_cons_zero, List.set_cons_succ]
  refine heldTake (d := some 70) (op := Go.Op.binOp Go.BinOp.add 3 (Go.Operand.const (Go.Value.int Go.IntKind.i64 1)) (Go.Operand.tmp 69) 3) (g := none) 5 ?v5 rfl (by kernel_rfl) (by kernel_rfl) (by kernel_rfl) (by kernel_rfl) ?y5 hb7 ?_
  case y5 => intro o ho w _; simp only [execOp, ho]; go_simp; try rfl
  simp only [Act.put, List.setIfInBounds_toArray, List.set_cons_zero, List.set_cons_succ]
  refine heldTake (d := some 71) (op := Go.Op.move (Go.Operand.tmp 9)) (g := none) 6 ?v6 rfl (by kernel_rfl) (by kernel_rfl) (by kernel_rfl) (by kernel_rfl) ?y6 hb7 ?_
  case y6 => intro o ho w _; simp only [execOp, ho]; go_simp; try rfl
  simp only [Act.put, List.setIfInBounds_toArray, List.set_cons_zero, List.set_cons_succ]
  refine heldTake (d := some 72) (op := Go.Op.binOp Go.BinOp.sub 3 (Go.Operand.tmp 70) (Go.Operand.tmp 71) 3) (g := none) 7 ?v7 rfl (by kernel_rfl) (by kernel_rfl) (by kernel_rfl) (by kernel_rfl) ?y7 hb7 ?_
  case y7 => intro o ho w _; simp only [execOp, ho]; go_simp; try rfl
  simp only [Act.put, List.setIfInBounds_toArray, List.set_cons_zero, List.set_cons_succ]
  refine heldTake (d := some 73) (op := Go.Op.call { callee := Go.Callee.builtin Go.Builtin.min, args := #[Go.Operand.tmp 67, Go.Operand.tmp 72], argTypes := #[3, 3] }) (g := none) 8 ?v8 rfl (by kernel_rfl) (by kernel_rfl) (by kernel_rfl) (by kernel_rfl) ?y8 hb7 ?_
  case y8 => intro o ho w _; simp only [execOp, ho]; go_simp; try rfl
  simp only [Act.put, List.setIfInBounds_toArray, List.set_cons_zero, List.set_cons_succ]
  refine heldTake (d := some 74) (op := Go.Op.binOp Go.BinOp.eql 3 (Go.Operand.tmp 65) (Go.Operand.tmp 73) 3) (g := none) 9 ?v9 rfl (by kernel_rfl) (by kernel_rfl) (by kernel_rfl) (by kernel_rfl) ?y9 hb7 ?_
  case y9 => intro o ho w _; simp only [execOp, ho]; go_simp; try rfl
  simp only [Act.put, List.setIfInBounds_toArray, List.set_cons_zero, List.set_cons_succ]
  refine heldTake (d := some 75) (op := Go.Op.move (Go.Operand.tmp 74)) (g := none) 10 ?v10 rfl (by kernel_rfl) (by kernel_rfl) (by kernel_rfl) (by kernel_rfl) ?y10 hb7 ?_
  case y10 => intro o ho w _; simp only [execOp, ho]; go_simp; try rfl
  simp only [Act.put, List.setIfInBounds_toArray, List.set_cons_zero, List.set_cons_succ]
  refine heldTake (d := some 76) (op := Go.Op.move (Go.Operand.tmp 7)) (g := some (10, true)) 11 ?v11 rfl (by kernel_rfl) (by kernel_rfl) (by kernel_rfl) (by kernel_rfl) ?y11 hb7 ?_
  case y11 => intro o ho w _; simp only [execOp, ho]; go_simp; try rfl
  simp only [Act.put, List.setIfInBounds_toArray, List.set_cons_zero, List.set_cons_succ]
  refine heldTake (d := some 78) (op := Go.Op.move (Go.Operand.tmp 9)) (g := some (10, true)) 13 ?v13 rfl (by kernel_rfl) (by kernel_rfl) (by kernel_rfl) (by kernel_rfl) ?y13 hb7 ?_
  case y13 => intro o ho w _; simp only [execOp, ho]; go_simp; try rfl
  simp only [Act.put, List.setIfInBounds_toArray, List.set_cons_zero, List.set_cons_succ]
  refine heldTake (d := some 79) (op := Go.Op.move (Go.Operand.tmp 10)) (g := some (10, true)) 14 ?v14 rfl (by kernel_rfl) (by kernel_rfl) (by kernel_rfl) (by kernel_rfl) ?y14 hb7 ?_
  case y14 => intro o ho w _; simp only [execOp, ho]; go_simp; try rfl
  simp only [Act.put, List.setIfInBounds_toArray, List.set_cons_zero, List.set_cons_succ]
  refine heldTake (d := some 80) (op := Go.Op.binOp Go.BinOp.add 3 (Go.Operand.tmp 78) (Go.Operand.tmp 79) 3) (g := some (10, true)) 15 ?v15 rfl (by kernel_rfl) (by kernel_rfl) (by kernel_rfl) (by kernel_rfl) ?y15 hb7 ?_
  case y15 => intro o ho w _; simp only [execOp, ho]; go_simp; try rfl
  simp only [Act.put, List.setIfInBounds_toArray, List.set_cons_zero, List.set_cons_succ]
  refine heldCall (d := some 77) (op := Go.Op.call { callee := Go.Callee.value (Go.Operand.func 17), args := #[Go.Operand.tmp 76], argTypes := #[23] }) (g := some (10, true)) 12 17 ?a12 rfl (by kernel_rfl) (by kernel_rfl) ?y12 ?_
  case y12 => intro o ho; simp only [execOp, ho]; go_simp; try rfl
  refine (len_ex _ (w.heap.size + 1) w.heap.size L s out HR7d.out HL.out).mono ?_
  rintro e w8 ⟨rfl, rfl⟩
  refine ⟨_, rfl, hb7, ?_⟩
  simp only [Act.put, List.setIfInBounds_toArray, List.set_cons_zero, List.set_cons_succ]
  refine heldTake (d := some 81) (op := Go.Op.binOp Go.BinOp.eql 3 (Go.Operand.tmp 77) (Go.Operand.tmp 80) 3) (g := some (10, true)) 16 ?v16 rfl (by kernel_rfl) (by kernel_rfl) (by kernel_rfl) (by kernel_rfl) ?y16 hb7 ?_
  case y16 => intro o ho w _; simp only [execOp, ho]; go_simp; try rfl
  simp only [Act.put, List.setIfInBounds_toArray, List.set_cons_zero, List.set_cons_succ]
  refine heldTake (d := some 82) (op := Go.Op.pick (Go.Operand.tmp 75) (Go.Operand.tmp 81) (Go.Operand.const (Go.Value.bool false))) (g := none) 17 ?v17 rfl (by kernel_rfl) (by kernel_rfl) (by kernel_rfl) (by kernel_rfl) ?y17 hb7 ?_
  case y17 => intro o ho w _; simp only [execOp, ho]; go_simp; try rfl
  simp only [Act.put, List.setIfInBounds_toArray, List.set_cons_zero, List.set_cons_succ]
  refine heldTake (d := some 83) (op := Go.Op.move (Go.Operand.tmp 82)) (g := none) 18 ?v18 rfl (by kernel_rfl) (by kernel_rfl) (by kernel_rfl) (by kernel_rfl) ?y18 hb7 ?_
  case y18 => intro o ho w _; simp only [execOp, ho]; go_simp; try rfl
  simp only [Act.put, List.setIfInBounds_toArray, List.set_cons_zero, List.set_cons_succ]
  refine heldTake (d := some 84) (op := Go.Op.move (Go.Operand.tmp 7)) (g := some (18, true)) 19 ?v19 rfl (by kernel_rfl) (by kernel_rfl) (by kernel_rfl) (by kernel_rfl) ?y19 hb7 ?_
  case y19 => intro o ho w _; simp only [execOp, ho]; go_simp; try rfl
  simp only [Act.put, List.setIfInBounds_toArray, List.set_cons_zero, List.set_cons_succ]
  refine heldTake (d := some 87) (op := Go.Op.move (Go.Operand.tmp 1)) (g := some (18, true)) 22 ?v22 rfl (by kernel_rfl) (by kernel_rfl) (by kernel_rfl) (by kernel_rfl) ?y22 hb7 ?_
  case y22 => intro o ho w _; simp only [execOp, ho]; go_simp; try rfl
  simp only [Act.put, List.setIfInBounds_toArray, List.set_cons_zero, List.set_cons_succ]
  refine heldTake (d := some 88) (op := Go.Op.move (Go.Operand.tmp 9)) (g := some (18, true)) 23 ?v23 rfl (by kernel_rfl) (by kernel_rfl) (by kernel_rfl) (by kernel_rfl) ?y23 hb7 ?_
  case y23 => intro o ho w _; simp only [execOp, ho]; go_simp; try rfl
  simp only [Act.put, List.setIfInBounds_toArray, List.set_cons_zero, List.set_cons_succ]
  refine heldTake (d := some 89) (op := Go.Op.slice 9 (Go.Operand.tmp 87) none (some (Go.Operand.tmp 88)) none) (g := some (18, true)) 24 ?v24 rfl (by kernel_rfl) (by kernel_rfl) (by kernel_rfl) (by kernel_rfl) ?y24 hb7 ?_
  case y24 => intro o ho w _; simp only [execOp, ho]; go_simp; try rfl
  simp only [Act.put, List.setIfInBounds_toArray, List.set_cons_zero, List.set_cons_succ]
  refine heldTake (d := some 90) (op := Go.Op.move (Go.Operand.tmp 2)) (g := some (18, true)) 25 ?v25 rfl (by kernel_rfl) (by kernel_rfl) (by kernel_rfl) (by kernel_rfl) ?y25 hb7 ?_
  case y25 => intro o ho w _; simp only [execOp, ho]; go_simp; try rfl
  simp only [Act.put, List.setIfInBounds_toArray, List.set_cons_zero, List.set_cons_succ]
  refine heldTake (d := some 91) (op := Go.Op.move (Go.Operand.tmp 10)) (g := some (18, true)) 26 ?v26 rfl (by kernel_rfl) (by kernel_rfl) (by kernel_rfl) (by kernel_rfl) ?y26 hb7 ?_
  case y26 => intro o ho w _; simp only [execOp, ho]; go_simp; try rfl
  simp only [Act.put, List.setIfInBounds_toArray, List.set_cons_zero, List.set_cons_succ]
  refine heldTake (d := some 92) (op := Go.Op.slice 9 (Go.Operand.tmp 90) none (some (Go.Operand.tmp 91)) none) (g := some (18, true)) 27 ?v27 rfl (by kernel_rfl) (by kernel_rfl) (by kernel_rfl) (by kernel_rfl) ?y27 hb7 ?_
  case y27 => intro o ho w _; simp only [execOp, ho]; go_simp; try rfl
  simp only [Act.put, List.setIfInBounds_toArray, List.set_cons_zero, List.set_cons_succ]
  refine heldTake (d := some 93) (op := Go.Op.binOp Go.BinOp.add 9 (Go.Operand.tmp 89) (Go.Operand.tmp 92) 9) (g := some (18, true)) 28 ?v28 rfl (by kernel_rfl) (by kernel_rfl) (by kernel_rfl) (by kernel_rfl) ?y28 hb7 ?_
  case y28 => intro o ho w _; simp only [execOp, ho]; go_simp; try rfl
  simp only [Act.put, List.setIfInBounds_toArray, List.set_cons_zero, List.set_cons_succ]
  refine heldCall (d := some 85) (op := Go.Op.call { callee := Go.Callee.value (Go.Operand.func 16), args := #[Go.Operand.tmp 84, Go.Operand.const (Go.Value.int Go.IntKind.i64 1000)], argTypes := #[23, 3] }) (g := some (18, true)) 20 16 ?a20 rfl (by kernel_rfl) (by kernel_rfl) ?y20 ?_
  case y20 => intro o ho; simp only [execOp, ho]; go_simp; try rfl
  refine (take_ex w _ (w.heap.size + 1) w.heap.size L s out out [] 1000 hb7 (Nat.le_succ _) (Nat.le_refl _) HR7d.out HT.out.1 HL.out HT.out.2).mono ?_
  rintro e w8 ⟨rfl, HO8, HR8, HX8, HB8⟩
  have hb8 := HB8.out
  have hcv : (convert 33 9 (.slice (some ⟨w7.heap.size, 0, none⟩) s s)).run Try.prog w8 = .ok (.string (strOf out)) w8 := HO8.out.str HL.out
  refine ⟨_, rfl, hb8, ?_⟩
  simp only [Act.put, List.setIfInBounds_toArray, List.set_cons_zero, List.set_cons_succ]
  refine heldRun (d := some 86) (op := Go.Op.convert 33 9 (Go.Operand.tmp 85)) (g := some (18, true)) 21 (.string (strOf out)) (w8) rfl (by kernel_rfl) (by kernel_rfl) ?y21 hb8 ?_
  case y21 => intro o ho; simp only [execOp, ho]; go_simp; try rfl
  simp only [Act.put, List.setIfInBounds_toArray, List.set_cons_zero, List.set_cons_succ]
  refine heldTake (d := some 94) (op := Go.Op.binOp Go.BinOp.eql 9 (Go.Operand.tmp 86) (Go.Operand.tmp 93) 9) (g := some (18, true)) 29 ?v29 rfl (by kernel_rfl) (by kernel_rfl) (by kernel_rfl) (by kernel_rfl) ?y29 hb8 ?_
  case y29 => intro o ho w _; simp only [execOp, ho]; go_simp; try rfl
  simp only [Act.put, List.setIfInBounds_toArray, List.set_cons_zero, List.set_cons_succ]
  refine heldTake (d := some 95) (op := Go.Op.pick (Go.Operand.tmp 83) (Go.Operand.tmp 94) (Go.Operand.const (Go.Value.bool false))) (g := none) 30 ?v30 rfl (by kernel_rfl) (by kernel_rfl) (by kernel_rfl) (by kernel_rfl) ?y30 hb8 ?_
  case y30 => intro o ho w _; simp only [execOp, ho]; go_simp; try rfl
  simp only [Act.put, List.setIfInBounds_toArray, List.set_cons_zero, List.set_cons_succ]
  refine heldTake (d := some 96) (op := Go.Op.move (Go.Operand.tmp 95)) (g := none) 31 ?v31 rfl (by kernel_rfl) (by kernel_rfl) (by kernel_rfl) (by kernel_rfl) ?y31 hb8 ?_
  case y31 => intro o ho w _; simp only [execOp, ho]; go_simp; try rfl
  simp only [Act.put, List.setIfInBounds_toArray, List.set_cons_zero, List.set_cons_succ]
  refine heldTake (d := some 97) (op := Go.Op.move (Go.Operand.tmp 7)) (g := some (31, true)) 32 ?v32 rfl (by kernel_rfl) (by kernel_rfl) (by kernel_rfl) (by kernel_rfl) ?y32 hb8 ?_
  case y32 => intro o ho w _; simp only [execOp, ho]; go_simp; try rfl
  simp only [Act.put, List.setIfInBounds_toArray, List.set_cons_zero, List.set_cons_succ]
  refine heldTake (d := some 99) (op := Go.Op.move (Go.Operand.tmp 0)) (g := some (31, true)) 34 ?v34 rfl (by kernel_rfl) (by kernel_rfl) (by kernel_rfl) (by kernel_rfl) ?y34 hb8 ?_
  case y34 => intro o ho w _; simp only [execOp, ho]; go_simp; try rfl
  simp only [Act.put, List.setIfInBounds_toArray, List.set_cons_zero, List.set_cons_succ]
  refine heldTake (d := some 100) (op := Go.Op.convert 5 3 (Go.Operand.tmp 99)) (g := some (31, true)) 35 ?v35 rfl (by kernel_rfl) (by kernel_rfl) (by kernel_rfl) (by kernel_rfl) ?y35 hb8 ?_
  case y35 => intro o ho w _; simp only [execOp, ho]; go_simp; try rfl
  simp only [Act.put, List.setIfInBounds_toArray, List.set_cons_zero, List.set_cons_succ]
  refine heldTake (d := some 101) (op := Go.Op.binOp Go.BinOp.add 3 (Go.Operand.const (Go.Value.int Go.IntKind.i64 1)) (Go.Operand.tmp 100) 3) (g := some (31, true)) 36 ?v36 rfl (by kernel_rfl) (by kernel_rfl) (by kernel_rfl) (by kernel_rfl) ?y36 hb8 ?_
  case y36 => intro o ho w _; simp only [execOp, ho]; go_simp; try rfl
  simp only [Act.put, List.setIfInBounds_toArray, List.set_cons_zero, List.set_cons_succ]
  refine heldCall (d := some 98) (op := Go.Op.call { callee := Go.Callee.value (Go.Operand.func 18), args := #[Go.Operand.tmp 97], argTypes := #[23] }) (g := some (31, true)) 33 18 ?a33 rfl (by kernel_rfl) (by kernel_rfl) ?y33 ?_
  case y33 => intro o ho; simp only [execOp, ho]; go_simp; try rfl
  refine (room_ex w _ (w.heap.size + 1) w.heap.size L L [] hb8 HR8.out rfl).mono ?_
  rintro e w9 ⟨rfl, HR9, HX9, HB9⟩
  have hb9 := HB9.out
  refine ⟨_, rfl, hb9, ?_⟩
  simp only [Act.put, List.setIfInBounds_toArray, List.set_cons_zero, List.set_cons_succ]
  refine heldTake (d := some 102) (op := Go.Op.binOp Go.BinOp.eql 3 (Go.Operand.tmp 98) (Go.Operand.tmp 101) 3) (g := some (31, true)) 37 ?v37 rfl (by kernel_rfl) (by kernel_rfl) (by kernel_rfl) (by kernel_rfl) ?y37 hb9 ?_
  case y37 => intro o ho w _; simp only [execOp, ho]; go_simp; try rfl
  simp only [Act.put, List.setIfInBounds_toArray, List.set_cons_zero, List.set_cons_succ]
  refine heldTake (d := some 103) (op := Go.Op.pick (Go.Operand.tmp 96) (Go.Operand.tmp 102) (Go.Operand.const (Go.Value.bool false))) (g := none) 38 ?v38 rfl (by kernel_rfl) (by kernel_rfl) (by kernel_rfl) (by kernel_rfl) ?y38 hb9 ?_
  case y38 => intro o ho w _; simp only [execOp, ho]; go_simp; try rfl
  simp only [Act.put, List.setIfInBounds_toArray, List.set_cons_zero, List.set_cons_succ]
  refine heldTake (d := some 6) (op := Go.Op.assign (Go.Operand.tmp 103)) (g := none) 39 ?v39 rfl (by kernel_rfl) (by kernel_rfl) (by kernel_rfl) (by kernel_rfl) ?y39 hb9 ?_
  case y39 => intro o ho w _; simp only [execOp, ho]; go_simp; try rfl
  simp only [Act.put, List.setIfInBounds_toArray, List.set_cons_zero, List.set_cons_succ]
  refine wpAnyH_done (by kernel_rfl) ?_ _
  refine NoPanic.normal ?_
  go_wp2
  go_ret
  exact ⟨rfl, hb9⟩

set_option maxHeartbeats 2000000 in
set_option maxRecDepth 100000 in
theorem room_gg (mo m r : Nat) (a b : ByteArray) (w : World) (hmo : mo < 256) (h1 : a.size ≤ 500) (h2 : b.size ≤ 500) (hm : m = min b.size (1 + mo - a.size)) (hr : r = 1 + mo - a.size) (c1 : ¬ 1 + (mo : Int) < (a.size : Int))  (c2 : ¬ 1 + (mo : Int) - (a.size : Int) < (b.size : Int)) (q3 : ((m : Int) == (b.size : Int)) = true) :
    Calls Try.prog 7 #[.int .u8 mo, .string a, .string b] w fun e w' => e = .returned (.bool true) ∧ Below w.heap.size w w' := by
  have bn : a.size ≤ 256 := by omega
  have bm : m ≤ 256 := by omega
  have bmb : m ≤ b.size := by omega
  have HN : Sl (min (bytes a).length (1 + mo - ([] : List Nat).length) = a.size) := ⟨by rw [bytes_length]; simp; omega⟩
  have ln : ((bytes a).take a.size).length = a.size := by rw [List.length_take, bytes_length]; omega
  have HM : Sl (min (bytes b).length (1 + mo - ([] ++ (bytes a).take a.size).length) = m) := ⟨by rw [bytes_length, List.nil_append, ln]; omega⟩
  have HR : Sl (1 + mo - ([] ++ (bytes a).take a.size).length = r) := ⟨by rw [List.nil_append, ln]; omega⟩
  have ln2 : (([] ++ (bytes a).take a.size) ++ (bytes b).take m).length = a.size + m := by rw [List.length_append, List.nil_append, ln, List.length_take, bytes_length]; omega
  obtain ⟨out, ho⟩ : ∃ out, out = ([] ++ (bytes a).take a.size) ++ (bytes b).take m := ⟨_, rfl⟩
  have HO := Sl.mk ho
  have HL : Sl (out.length = a.size + m) := ⟨by rw [ho]; exact ln2⟩
  have so : Small 256 out := by rw [ho]; exact (((bytes_small a).take a.size)).append ((bytes_small b).take m)
  have q5 : ((strOf out).toList == (a ++ b.extract 0 m).toList) = true := by
    rw [beq_bytes2, bytes_strOf out so, bytes_append, bytes_extract, ho, List.take_of_length_le (by rw [bytes_length]; exact Nat.le_refl _)]
    simp
  have q2 : ((r : Int) != 1 + (mo : Int) - (a.size : Int)) = false := by simp; omega
  have HT : Sl (out.take (1000 : Int).toNat = out ∧ out.drop (1000 : Int).toNat = []) := ⟨by
    have h : out.length ≤ (1000 : Int).toNat := by rw [HL.out]; show a.size + m ≤ 1000; omega
    exact ⟨List.take_of_length_le h, List.drop_eq_nil_of_le h⟩⟩
  have q4 : (((a.size + m : Nat) : Int) == (a.size : Int) + (m : Int)) = true := by simp
  have q6 : (((1 + mo : Nat) : Int) == 1 + (mo : Int)) = true := by simp
  obtain ⟨L, hL⟩ : ∃ L, L = 1 + mo := ⟨_, rfl⟩
  obtain ⟨s, hs⟩ : ∃ s, s = a.size + m := ⟨_, rfl⟩
  rw [← hL] at q6 HN HM HR
  rw [← hs] at q4 HL
  have HLL := Sl.mk hL
  clear so ho ln ln2 hL hs
  have HA : Sl ((bytes a).length ≤ 100000 ∧ (bytes b).length ≤ 100000) := ⟨by rw [bytes_length, bytes_length]; omega⟩
  clear hm hr
  go_enter Try.func7, Try.ntmps7
  go_wp2_with fail
  refine (new_exi w _ _ L (by rw [HLL.out]; omega) (by rw [HLL.out]; omega) (by rw [HLL.out]; omega) (Below.refl _ _)).mono ?_
  rintro e w1 ⟨rfl, HR1, HX1, HB1⟩
  go_wp2_with fail
  refine (awake_ex w _ HB1.out).mono ?_
  rintro e w2 ⟨rfl, HX2, HB2⟩
  have HR2 := Sl.mk (HR1.out.below HX2.out)
  obtain ⟨k3, w3, hc3, HV3, HX3⟩ := conv_str a w2
  have HB3 : Sl (Below w.heap.size w w3) := ⟨HB2.out.trans (HX3.out.mono HB2.out.size)⟩
  have HR3 := Sl.mk (HR2.out.below HX3.out)
  go_wp2_with fail
  refine (put_ex w _ (w.heap.size + 1) w.heap.size L a.size [] (bytes a) _ HB3.out (by omega) (by omega) HR3.out (HV3.out.offs HR2.out.plt) (bytes_small a) HA.out.1 HN.out).mono ?_
  rintro e w4 ⟨rfl, HR4, HX4, HB4⟩
  clear hc3
  go_wp2_with fail
  refine (room_ex w _ (w.heap.size + 1) w.heap.size L r _ HB4.out HR4.out HR.out).mono ?_
  rintro e w5 ⟨rfl, HR5, HX5, HB5⟩
  obtain ⟨k6, w6, hc6, HV6, HX6⟩ := conv_str b w5
  have HB6 : Sl (Below w.heap.size w w6) := ⟨HB5.out.trans (HX6.out.mono HB5.out.size)⟩
  have HR6 := Sl.mk (HR5.out.below HX6.out)
  go_wp2_with fail
  refine (put_ex w _ (w.heap.size + 1) w.heap.size L m _ (bytes b) _ HB6.out (by omega) (by omega) HR6.out (HV6.out.offs HR5.out.plt) (bytes_small b) HA.out.2 HM.out).mono ?_
  rw [← HO.out]
  rintro e w7 ⟨rfl, HR7, HX7, HB7⟩
  clear hc6
  have hb7 := HB7.out.drew
  have HR7d := Sl.mk (HR7.out.below (Below.refl _ _).drew)
  go_wp2
  have c2f : (1 + (mo : Int) - (a.size : Int) < (b.size : Int)) = False := eq_false (by omega)
  have hadd := fun (W : World) => run_string_add_sum (P := Try.prog) W a (b.extract 0 m) (by rw [ByteArray.size_extract]; omega)
  have y0 := IntWalk.i64_in (mo : Int) (by omega)
  have y1 := IntWalk.i64_in (1 + (mo : Int)) (by omega)
  have y2 := IntWalk.i64_in (1 + (mo : Int) - (a.size : Int)) (by omega)
  have y3 := IntWalk.i64_in ((a.size : Int) + (m : Int)) (by omega)
  have z0 : IntKind.i64.wrap (mo : Int) = (mo : Int) := y0
  have z1 : IntKind.i64.wrap (1 + (mo : Int)) = 1 + (mo : Int) := y1
  have z2 : IntKind.i64.wrap (1 + (mo : Int) - (a.size : Int)) = 1 + (mo : Int) - (a.size : Int) := y2
  have z3 : IntKind.i64.wrap ((a.size : Int) + (m : Int)) = (a.size : Int) + (m : Int) := y3
  clear y0 y1 y2 y3
  refine wp_region_noPanic ?_
  refine wp_region_held (S := fun W => Below w.heap.size w W) (by kernel_rfl) ?_
  change wpAnyH _ _ _ _ _ _ _ _ w7.drew
  refine heldTake (d := some 65) (op := Go.Op.move (Go.Operand.tmp 10)) (g := none) 0 ?v0 rfl (by kernel_rfl) (by kernel_rfl) (by kernel_rfl) (by kernel_rfl) ?y0 hb7 ?_
  case y0 => intro o ho w _; simp only [execOp, ho]; go_simp; try rfl
  simp only [Act.put, List.setIfInBounds_toArray, List.set_cons_zero, List.set_cons_succ]
  refine heldTake (d := some 66) (op := Go.Op.move (Go.Operand.tmp 2)) (g := none) 1 ?v1 rfl (by kernel_rfl) (by kernel_rfl) (by kernel_rfl) (by kernel_rfl) ?y1 hb7 ?_
  case y1 => intro o ho w _; simp only [execOp, ho]; go_simp; try rfl
  simp only [Act.put, List.setIfInBounds_toArray, List.set_cons_zero, List.set_cons_succ]
  refine heldTake (d := some 67) (op := Go.Op.call { callee := Go.Callee.builtin Go.Builtin.len, args := #[Go.Operand.tmp 66], argTypes := #[9] }) (g := none) 2 ?v2 rfl (by kernel_rfl) (by kernel_rfl) (by kernel_rfl) (by kernel_rfl) ?y2 hb7 ?_
  case y2 => intro o ho w _; simp only [execOp, ho]; go_simp; try rfl
  simp only [Act.put, List.setIfInBounds_toArray, List.set_cons_zero, List.set_cons_succ]
  refine heldTake (d := some 68) (op := Go.Op.move (Go.Operand.tmp 0)) (g := none) 3 ?v3 rfl (by kernel_rfl) (by kernel_rfl) (by kernel_rfl) (by kernel_rfl) ?y3 hb7 ?_
  case y3 => intro o ho w _; simp only [execOp, ho]; go_simp; try rfl
  simp only [Act.put, List.setIfInBounds_toArray, List.set_cons_zero, List.set_cons_succ]
  refine heldTake (d := some 69) (op := Go.Op.convert 5 3 (Go.Operand.tmp 68)) (g := none) 4 ?v4 rfl (by kernel_rfl) (by kernel_rfl) (by kernel_rfl) (by kernel_rfl) ?y4 hb7 ?_
  case y4 => intro o ho w _; simp only [execOp, ho]; go_simp; try rfl
  simp only [Act.put, List.setIfInBounds_toArray, List.set_cons_zero, List.set_cons_succ]
  refine heldTake (d := some 70) (op := Go.Op.binOp Go.BinOp.add 3 (Go.Operand.const (Go.Value.int Go.IntKind.i64 1)) (Go.Operand.tmp 69) 3) (g := none) 5 ?v5 rfl (by kernel_rfl) (by kernel_rfl) (by kernel_rfl) (by kernel_rfl) ?y5 hb7 ?_
  case y5 => intro o ho w _; simp only [execOp, ho]; go_simp; try rfl
  simp only [Act.put, List.setIfInBounds_toArray, List.set_cons_zero, List.set_cons_succ]
  refine heldTake (d := some 71) (op := Go.Op.move (Go.Operand.tmp 9)) (g := none) 6 ?v6 rfl (by kernel_rfl) (by kernel_rfl) (by kernel_rfl) (by kernel_rfl) ?y6 hb7 ?_
  case y6 => intro o ho w _; simp only [execOp, ho]; go_simp; try rfl
  simp only [Act.put, List.setIfInBounds_toArray, List.set_cons_zero, List.set_cons_succ]
  refine heldTake (d := some 72) (op := Go.Op.binOp Go.BinOp.sub 3 (Go.Operand.tmp 70) (Go.Operand.tmp 71) 3) (g := none) 7 ?v7 rfl (by kernel_rfl) (by kernel_rfl) (by kernel_rfl) (by kernel_rfl) ?y7 hb7 ?_
  case y7 => intro o ho w _; simp only [execOp, ho]; go_simp; try rfl
  simp only [Act.put, List.setIfInBounds_toArray, List.set_cons_zero, List.set_cons_succ]
  refine heldTake (d := some 73) (op := Go.Op.call { callee := Go.Callee.builtin Go.Builtin.min, args := #[Go.Operand.tmp 67, Go.Operand.tmp 72], argTypes := #[3, 3] }) (g := none) 8 ?v8 rfl (by kernel_rfl) (by kernel_rfl) (by kernel_rfl) (by kernel_rfl) ?y8 hb7 ?_
  case y8 => intro o ho w _; simp only [execOp, ho]; go_simp; try rfl
  simp only [Act.put, List.setIfInBounds_toArray, List.set_cons_zero, List.set_cons_succ]
  refine heldTake (d := some 74) (op := Go.Op.binOp Go.BinOp.eql 3 (Go.Operand.tmp 65) (Go.Operand.tmp 73) 3) (g := none) 9 ?v9 rfl (by kernel_rfl) (by kernel_rfl) (by kernel_rfl) (by kernel_rfl) ?y9 hb7 ?_
  case y9 => intro o ho w _; simp only [execOp, ho]; go_simp; try rfl
  simp only [Act.put, List.setIfInBounds_toArray, List.set_cons_zero, List.set_cons_succ]
  refine heldTake (d := some 75) (op := Go.Op.move (Go.Operand.tmp 74)) (g := none) 10 ?v10 rfl (by kernel_rfl) (by kernel_rfl) (by kernel_rfl) (by kernel_rfl) ?y10 hb7 ?_
  case y10 => intro o ho w _; simp only [execOp, ho]; go_simp; try rfl
  simp only [Act.put, List.setIfInBounds_toArray, List.set_cons_zero, List.set_cons_succ]
  refine heldTake (d := some 76) (op := Go.Op.move (Go.Operand.tmp 7)) (g := some (10, true)) 11 ?v11 rfl (by kernel_rfl) (by kernel_rfl) (by kernel_rfl) (by kernel_rfl) ?y11 hb7 ?_
  case y11 => intro o ho w _; simp only [execOp, ho]; go_simp; try rfl
  simp only [Act.put, List.setIfInBounds_toArray, List.set_cons_zero, List.set_cons_succ]
  refine heldTake (d := some 78) (op := Go.Op.move (Go.Operand.tmp 9)) (g := some (10, true)) 13 ?v13 rfl (by kernel_rfl) (by kernel_rfl) (by kernel_rfl) (by kernel_rfl) ?y13 hb7 ?_
  case y13 => intro o ho w _; simp only [execOp, ho]; go_simp; try rfl
  simp only [Act.put, List.setIfInBounds_toArray, List.set_cons_zero, List.set_cons_succ]
  refine heldTake (d := some 79) (op := Go.Op.move (Go.Operand.tmp 10)) (g := some (10, true)) 14 ?v14 rfl (by kernel_rfl) (by kernel_rfl) (by kernel_rfl) (by kernel_rfl) ?y14 hb7 ?_
  case y14 => intro o ho w _; simp only [execOp, ho]; go_simp; try rfl
  simp only [Act.put, List.setIfInBounds_toArray, List.set_cons_zero, List.set_cons_succ]
  refine heldTake (d := some 80) (op := Go.Op.binOp Go.BinOp.add 3 (Go.Operand.tmp 78) (Go.Operand.tmp 79) 3) (g := some (10, true)) 15 ?v15 rfl (by kernel_rfl) (by kernel_rfl) (by kernel_rfl) (by kernel_rfl) ?y15 hb7 ?_
  case y15 => intro o ho w _; simp only [execOp, ho]; go_simp; try rfl
  simp only [Act.put, List.setIfInBounds_toArray, List.set_cons_zero, List.set_cons_succ]
  refine heldCall (d := some 77) (op := Go.Op.call { callee := Go.Callee.value (Go.Operand.func 17), args := #[Go.Operand.tmp 76], argTypes := #[23] }) (g := some (10, true)) 12 17 ?a12 rfl (by kernel_rfl) (by kernel_rfl) ?y12 ?_
  case y12 => intro o ho; simp only [execOp, ho]; go_simp; try rfl
  refine (len_ex _ (w.heap.size + 1) w.heap.size L s out HR7d.out HL.out).mono ?_
  rintro e w8 ⟨rfl, rfl⟩
  refine ⟨_, rfl, hb7, ?_⟩
  simp only [Act.put, List.setIfInBounds_toArray, List.set_cons_zero, List.set_cons_succ]
  refine heldTake (d := some 81) (op := Go.Op.binOp Go.BinOp.eql 3 (Go.Operand.tmp 77) (Go.Operand.tmp 80) 3) (g := some (10, true)) 16 ?v16 rfl (by kernel_rfl) (by kernel_rfl) (by kernel_rfl) (by kernel_rfl) ?y16 hb7 ?_
  case y16 => intro o ho w _; simp only [execOp, ho]; go_simp; try rfl
  simp only [Act.put, List.setIfInBounds_toArray, List.set_cons_zero, List.set_cons_succ]
  refine heldTake (d := some 82) (op := Go.Op.pick (Go.Operand.tmp 75) (Go.Operand.tmp 81) (Go.Operand.const (Go.Value.bool false))) (g := none) 17 ?v17 rfl (by kernel_rfl) (by kernel_rfl) (by kernel_rfl) (by kernel_rfl) ?y17 hb7 ?_
  case y17 => intro o ho w _; simp only [execOp, ho]; go_simp; try rfl
  simp only [Act.put, List.setIfInBounds_toArray, List.set_cons_zero, List.set_cons_succ]
  refine heldTake (d := some 83) (op := Go.Op.move (Go.Operand.tmp 82)) (g := none) 18 ?v18 rfl (by kernel_rfl) (by kernel_rfl) (by kernel_rfl) (by kernel_rfl) ?y18 hb7 ?_
  case y18 => intro o ho w _; simp only [execOp, ho]; go_simp; try rfl
  simp only [Act.put, List.setIfInBounds_toArray, List.set_cons_zero, List.set_cons_succ]
  refine heldTake (d := some 84) (op := Go.Op.move (Go.Operand.tmp 7)) (g := some (18, true)) 19 ?v19 rfl (by kernel_rfl) (by kernel_rfl) (by kernel_rfl) (by kernel_rfl) ?y19 hb7 ?_
  case y19 => intro o ho w _; simp only [execOp, ho]; go_simp; try rfl
  simp only [Act.put, List.setIfInBounds_toArray, List.set_cons_zero, List.set_cons_succ]
  refine heldTake (d := some 87) (op := Go.Op.move (Go.Operand.tmp 1)) (g := some (18, true)) 22 ?v22 rfl (by kernel_rfl) (by kernel_rfl) (by kernel_rfl) (by kernel_rfl) ?y22 hb7 ?_
  case y22 => intro o ho w _; simp only [execOp, ho]; go_simp; try rfl
  simp only [Act.put, List.setIfInBounds_toArray, List.set_cons_zero, List.set_cons_succ]
  refine heldTake (d := some 88) (op := Go.Op.move (Go.Operand.tmp 9)) (g := some (18, true)) 23 ?v23 rfl (by kernel_rfl) (by kernel_rfl) (by kernel_rfl) (by kernel_rfl) ?y23 hb7 ?_
  case y23 => intro o ho w _; simp only [execOp, ho]; go_simp; try rfl
  simp only [Act.put, List.setIfInBounds_toArray, List.set_cons_zero, List.set_cons_succ]
  refine heldTake (d := some 89) (op := Go.Op.slice 9 (Go.Operand.tmp 87) none (some (Go.Operand.tmp 88)) none) (g := some (18, true)) 24 ?v24 rfl (by kernel_rfl) (by kernel_rfl) (by kernel_rfl) (by kernel_rfl) ?y24 hb7 ?_
  case y24 => intro o ho w _; simp only [execOp, ho]; go_simp; try rfl
  simp only [Act.put, List.setIfInBounds_toArray, List.set_cons_zero, List.set_cons_succ]
  refine heldTake (d := some 90) (op := Go.Op.move (Go.Operand.tmp 2)) (g := some (18, true)) 25 ?v25 rfl (by kernel_rfl) (by kernel_rfl) (by kernel_rfl) (by kernel_rfl) ?y25 hb7 ?_
  case y25 => intro o ho w _; simp only [execOp, ho]; go_simp; try rfl
  simp only [Act.put, List.setIfInBounds_toArray, List.set_cons_zero, List.set_cons_succ]
  refine heldTake (d := some 91) (op := Go.Op.move (Go.Operand.tmp 10)) (g := some (18, true)) 26 ?v26 rfl (by kernel_rfl) (by kernel_rfl) (by kernel_rfl) (by kernel_rfl) ?y26 hb7 ?_
  case y26 => intro o ho w _; simp only [execOp, ho]; go_simp; try rfl
  simp only [Act.put, List.setIfInBounds_toArray, List.set_cons_zero, List.set_cons_succ]
  refine heldTake (d := some 92) (op := Go.Op.slice 9 (Go.Operand.tmp 90) none (some (Go.Operand.tmp 91)) none) (g := some (18, true)) 27 ?v27 rfl (by kernel_rfl) (by kernel_rfl) (by kernel_rfl) (by kernel_rfl) ?y27 hb7 ?_
  case y27 => intro o ho w _; simp only [execOp, ho]; go_simp; try rfl
  simp only [Act.put, List.setIfInBounds_toArray, List.set_cons_zero, List.set_cons_succ]
  refine heldTake (d := some 93) (op := Go.Op.binOp Go.BinOp.add 9 (Go.Operand.tmp 89) (Go.Operand.tmp 92) 9) (g := some (18, true)) 28 ?v28 rfl (by kernel_rfl) (by kernel_rfl) (by kernel_rfl) (by kernel_rfl) ?y28 hb7 ?_
  case y28 => intro o ho w _; simp only [execOp, ho]; go_simp; try rfl
  simp only [Act.put, List.setIfInBounds_toArray, List.set_cons_zero, List.set_cons_succ]
  refine heldCall (d := some 85) (op := Go.Op.call { callee := Go.Callee.value (Go.Operand.func 16), args := #[Go.Operand.tmp 84, Go.Operand.const (Go.Value.int Go.IntKind.i64 1000)], argTypes := #[23, 3] }) (g := some (18, true)) 20 16 ?a20 rfl (by kernel_rfl) (by kernel_rfl) ?y20 ?_
  case y20 => intro o ho; simp only [execOp, ho]; go_simp; try rfl
  refine (take_ex w _ (w.heap.size + 1) w.heap.size L s out out [] 1000 hb7 (Nat.le_succ _) (Nat.le_refl _) HR7d.out HT.out.1 HL.out HT.out.2).mono ?_
  rintro e w8 ⟨rfl, HO8, HR8, HX8, HB8⟩
  have hb8 := HB8.out
  have hcv : (convert 33 9 (.slice (some ⟨w7.heap.size, 0, none⟩) s s)).run Try.prog w8 = .ok (.string (strOf out)) w8 := HO8.out.str HL.out
  refine ⟨_, rfl, hb8, ?_⟩
  simp only [Act.put, List.setIfInBounds_toArray, List.set_cons_zero, List.set_cons_succ]
  refine heldRun (d := some 86) (op := Go.Op.convert 33 9 (Go.Operand.tmp 85)) (g := some (18, true)) 21 (.string (strOf out)) (w8) rfl (by kernel_rfl) (by kernel_rfl) ?y21 hb8 ?_
  case y21 => intro o ho; simp only [execOp, ho]; go_simp; try rfl
  simp only [Act.put, List.setIfInBounds_toArray, List.set_cons_zero, List.set_cons_succ]
  refine heldTake (d := some 94) (op := Go.Op.binOp Go.BinOp.eql 9 (Go.Operand.tmp 86) (Go.Operand.tmp 93) 9) (g := some (18, true)) 29 ?v29 rfl (by kernel_rfl) (by kernel_rfl) (by kernel_rfl) (by kernel_rfl) ?y29 hb8 ?_
  case y29 => intro o ho w _; simp only [execOp, ho]; go_simp; try rfl
  simp only [Act.put, List.setIfInBounds_toArray, List.set_cons_zero, List.set_cons_succ]
  refine heldTake (d := some 95) (op := Go.Op.pick (Go.Operand.tmp 83) (Go.Operand.tmp 94) (Go.Operand.const (Go.Value.bool false))) (g := none) 30 ?v30 rfl (by kernel_rfl) (by kernel_rfl) (by kernel_rfl) (by kernel_rfl) ?y30 hb8 ?_
  case y30 => intro o ho w _; simp only [execOp, ho]; go_simp; try rfl
  simp only [Act.put, List.setIfInBounds_toArray, List.set_cons_zero, List.set_cons_succ]
  refine heldTake (d := some 96) (op := Go.Op.move (Go.Operand.tmp 95)) (g := none) 31 ?v31 rfl (by kernel_rfl) (by kernel_rfl) (by kernel_rfl) (by kernel_rfl) ?y31 hb8 ?_
  case y31 => intro o ho w _; simp only [execOp, ho]; go_simp; try rfl
  simp only [Act.put, List.setIfInBounds_toArray, List.set_cons_zero, List.set_cons_succ]
  refine heldTake (d := some 97) (op := Go.Op.move (Go.Operand.tmp 7)) (g := some (31, true)) 32 ?v32 rfl (by kernel_rfl) (by kernel_rfl) (by kernel_rfl) (by kernel_rfl) ?y32 hb8 ?_
  case y32 => intro o ho w _; simp only [execOp, ho]; go_simp; try rfl
  simp only [Act.put, List.setIfInBounds_toArray, List.set_cons_zero, List.set_cons_succ]
  refine heldTake (d := some 99) (op := Go.Op.move (Go.Operand.tmp 0)) (g := some (31, true)) 34 ?v34 rfl (by kernel_rfl) (by kernel_rfl) (by kernel_rfl) (by kernel_rfl) ?y34 hb8 ?_
  case y34 => intro o ho w _; simp only [execOp, ho]; go_simp; try rfl
  simp only [Act.put, List.setIfInBounds_toArray, List.set_cons_zero, List.set_cons_succ]
  refine heldTake (d := some 100) (op := Go.Op.convert 5 3 (Go.Operand.tmp 99)) (g := some (31, true)) 35 ?v35 rfl (by kernel_rfl) (by kernel_rfl) (by kernel_rfl) (by kernel_rfl) ?y35 hb8 ?_
  case y35 => intro o ho w _; simp only [execOp, ho]; go_simp; try rfl
  simp only [Act.put, List.setIfInBounds_toArray, List.set_cons_zero, List.set_cons_succ]
  refine heldTake (d := some 101) (op := Go.Op.binOp Go.BinOp.add 3 (Go.Operand.const (Go.Value.int Go.IntKind.i64 1)) (Go.Operand.tmp 100) 3) (g := some (31, true)) 36 ?v36 rfl (by kernel_rfl) (by kernel_rfl) (by kernel_rfl) (by kernel_rfl) ?y36 hb8 ?_
  case y36 => intro o ho w _; simp only [execOp, ho]; go_simp; try rfl
  simp only [Act.put, List.setIfInBounds_toArray, List.set_cons_zero, List.set_cons_succ]
  refine heldCall (d := some 98) (op := Go.Op.call { callee := Go.Callee.value (Go.Operand.func 18), args := #[Go.Operand.tmp 97], argTypes := #[23] }) (g := some (31, true)) 33 18 ?a33 rfl (by kernel_rfl) (by kernel_rfl) ?y33 ?_
  case y33 => intro o ho; simp only [execOp, ho]; go_simp; try rfl
  refine (room_ex w _ (w.heap.size + 1) w.heap.size L L [] hb8 HR8.out rfl).mono ?_
  rintro e w9 ⟨rfl, HR9, HX9, HB9⟩
  have hb9 := HB9.out
  refine ⟨_, rfl, hb9, ?_⟩
  simp only [Act.put, List.setIfInBounds_toArray, List.set_cons_zero, List.set_cons_succ]
  refine heldTake (d := some 102) (op := Go.Op.binOp Go.BinOp.eql 3 (Go.Operand.tmp 98) (Go.Operand.tmp 101) 3) (g := some (31, true)) 37 ?v37 rfl (by kernel_rfl) (by kernel_rfl) (by kernel_rfl) (by kernel_rfl) ?y37 hb9 ?_
  case y37 => intro o ho w _; simp only [execOp, ho]; go_simp; try rfl
  simp only [Act.put, List.setIfInBounds_toArray, List.set_cons_zero, List.set_cons_succ]
  refine heldTake (d := some 103) (op := Go.Op.pick (Go.Operand.tmp 96) (Go.Operand.tmp 102) (Go.Operand.const (Go.Value.bool false))) (g := none) 38 ?v38 rfl (by kernel_rfl) (by kernel_rfl) (by kernel_rfl) (by kernel_rfl) ?y38 hb9 ?_
  case y38 => intro o ho w _; simp only [execOp, ho]; go_simp; try rfl
  simp only [Act.put, List.setIfInBounds_toArray, List.set_cons_zero, List.set_cons_succ]
  refine heldTake (d := some 6) (op := Go.Op.assign (Go.Operand.tmp 103)) (g := none) 39 ?v39 rfl (by kernel_rfl) (by kernel_rfl) (by kernel_rfl) (by kernel_rfl) ?y39 hb9 ?_
  case y39 => intro o ho w _; simp only [execOp, ho]; go_simp; try rfl
  simp only [Act.put, List.setIfInBounds_toArray, List.set_cons_zero, List.set_cons_succ]
  refine wpAnyH_done (by kernel_rfl) ?_ _
  refine NoPanic.normal ?_
  go_wp2
  go_ret
  exact ⟨rfl, hb9⟩

theorem room_walk (mo : Nat) (a b : ByteArray) (w : World) (ha : a.size ≤ maxLen) (hb : b.size ≤ maxLen) (hmo : mo < 256) :
    Calls Try.prog 7 #[.int .u8 mo, .string a, .string b] w fun e w' => e = .returned (.bool true) ∧ Below w.heap.size w w' := by
  by_cases h : 500 < a.size ∨ 500 < b.size
  · exact room_long mo a b w hmo h ha hb
  · have h1 : a.size ≤ 500 := by omega
    have h2 : b.size ≤ 500 := by omega
    obtain ⟨n, hn⟩ : ∃ n, n = min a.size (1 + mo) := ⟨_, rfl⟩
    obtain ⟨m, hm⟩ : ∃ m, m = min b.size (1 + mo - n) := ⟨_, rfl⟩
    by_cases c1 : 1 + (mo : Int) < (a.size : Int)
    · by_cases c2 : 1 + (mo : Int) - (n : Int) < (b.size : Int)
      · exact room_ll mo n m _ a b w hmo h1 h2 hn hm rfl c1 (by simp; omega) c2 (by simp; omega)
      · exact room_lg mo n m _ a b w hmo h1 h2 hn hm rfl c1 (by simp; omega) c2 (by simp; omega)
    · by_cases c2 : 1 + (mo : Int) - (n : Int) < (b.size : Int)
      · obtain rfl : n = a.size := by omega
        exact room_gl mo m _ a b w hmo h1 h2 hm rfl c1 c2 (by simp; omega)
      · obtain rfl : n = a.size := by omega
        exact room_gg mo m _ a b w hmo h1 h2 hm rfl c1 c2 (by simp; omega)
end Go.Proofs.Ytfgpohfegjomfaa
