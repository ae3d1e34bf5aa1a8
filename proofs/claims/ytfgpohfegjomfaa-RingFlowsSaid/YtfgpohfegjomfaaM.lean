/- RingFlows, the walk: whatever byte, string and bytes are handed over, the law's Go text returns true, and nothing that was in memory changes. Conditions: the bytes are numbers of their kind; the string and the bytes fit in memory. -/
import Derived.Test.YtfgpohfegjomfaaK
namespace Go.Proofs.Ytfgpohfegjomfaa
open Go.RowKit

section
variable {P : Program} {md : Region.Mode} {ops : Array Oper} {Q : Exit → Act → World → Prop} {S : World → Prop}
/-- What every operation keeps may become more on the way. -/
theorem heldMore2 {S' : World → Prop} (hs : ∀ W, S' W → S W) : ∀ (fuel : Nat) (listed : Array Bool) (a : Act) (w : World), wpAnyH P md ops Q S' fuel listed a w → wpAnyH P md ops Q S fuel listed a w
  | 0, _, _, _, h => h
  | fuel + 1, listed, _, _, h => ⟨h.1, fun i hi => wpOp_mono (fun a w k => ⟨hs _ k.1, heldMore2 hs fuel (listed.setIfInBounds i true) a w k.2⟩) (h.2 i hi)⟩
end
/-- The string of a row of bytes, in every world that has it. -/
theorem RowB.strs2 {g k : Nat} {bs : List Nat} (hk : bs.length = k) (W : World) (h : RowB W g bs) : (convert 33 9 (.slice (some ⟨g, 0, none⟩) k k)).run Try.prog W = .ok (.string (strOf bs)) W := h.str hk
theorem new_exi2 (w0 W : World) (z : Int) (L : Nat) (hz : z = L) (h1 : 1 ≤ L) (h2 : L ≤ 65536) (hB : Below w0.heap.size w0 W) :
    Calls Try.prog 9 #[.int .i64 z] W fun e w' => e = .returned (.tuple #[.pointer (some ⟨W.heap.size + 1, 0, none⟩), .int .i64 0]) ∧ Sl (RingH w' (W.heap.size + 1) W.heap.size L []) ∧ Sl (Below W.heap.size W w') ∧ Sl (Below w0.heap.size w0 w') := by
  subst hz; exact new_ex w0 W L h1 h2 hB

set_option maxHeartbeats 400000 in
theorem flows_long (mo : Nat) (a : ByteArray) (v : Value) (w : World) (hmo : mo < 256) (h : 500 < a.size) (ha : a.size ≤ maxLen) :
    Calls Try.prog 4 #[.int .u8 mo, .string a, v] w fun e w' => e = .returned (.bool true) ∧ Below w.heap.size w w' := by
  unfold maxLen at ha
  go_enter Try.func4, Try.ntmps4
  go_wp2_with fail
  refine (new_exi2 w _ _ (1 + mo) (by omega) (by omega) (by omega) (Below.refl _ _)).mono ?_
  rintro e w1 ⟨rfl, HR1, HX1, HB1⟩
  go_wp2_with fail
  refine (awake_ex w _ HB1.out).mono ?_
  rintro e w2 ⟨rfl, HX2, HB2⟩
  go_wp2_with fail
  refine (awake_ex w _ HB2.out).mono ?_
  rintro e w3 ⟨rfl, HX3, HB3⟩
  go_wp2
  go_ret
  exact ⟨rfl, HB3.out⟩

/-- What the loop holds to: c bytes went in, x came out, hs wait. -/
def FL (w : World) (L : Nat) (a : ByteArray) (c : Nat) (x : ByteArray) (wr : World) : Prop :=
  ∃ hs, RingH wr (w.heap.size + 1) w.heap.size L hs ∧ bytes x ++ hs = (bytes a).take c ∧ c ≤ a.size ∧ Below w.heap.size w wr

set_option maxHeartbeats 1000000 in
set_option maxRecDepth 100000 in
theorem flows_short (mo : Nat) (a : ByteArray) (v : Value) (bs : List Nat) (w : World) (hmo : mo < 256) (h : a.size ≤ 500) (hv : SrcAt w v bs) (hbs : Small 256 bs) (hm : bs.length ≤ maxLen) :
    Calls Try.prog 4 #[.int .u8 mo, .string a, v] w fun e w' => e = .returned (.bool true) ∧ Below w.heap.size w w' := by
  obtain ⟨ad, cap, sb, so, rfl, hcap, had, hcell⟩ := hv
  unfold maxLen at hm
  have HAD := Sl.mk had
  have HCE := Sl.mk hcell
  have HSM := Sl.mk hbs
  clear had hcell hbs
  go_enter Try.func4, Try.ntmps4
  go_wp2_with fail
  refine (new_exi2 w _ _ (1 + mo) (by omega) (by omega) (by omega) (Below.refl _ _)).mono ?_
  rintro e w1 ⟨rfl, HR1, HX1, HB1⟩
  go_wp2_with fail
  refine (awake_ex w _ HB1.out).mono ?_
  rintro e w2 ⟨rfl, HX2, HB2⟩
  have HF2 : Sl (FL w (1 + mo) a 0 ByteArray.empty w2) := ⟨[], HR1.out.below HX2.out, rfl, Nat.zero_le _, HB2.out⟩
  go_wp2
  go_loopw [9, 10, 11] (fun n s i wr => ∃ (k c : Nat) (x : ByteArray), k ≤ bs.length ∧ k ≤ 200 ∧ i = .int .i64 k ∧ n = .int .i64 c ∧ s = .string x ∧ x.size ≤ 500 ∧ c ≤ a.size ∧ FL w (1 + mo) a c x wr) (fun _ _ i _ => bs.length - (intOf i).toNat)
  case atStart => exact ⟨0, 0, _, Nat.zero_le _, Nat.zero_le _, rfl, rfl, rfl, Nat.zero_le _, Nat.zero_le _, HF2.out⟩
  case round =>
    obtain ⟨k, c, x, hk, hk2, rfl, rfl, rfl, hxs, hca, hs, hrh, heq, -, hbr⟩ := hrel
    have HRH := Sl.mk hrh
    have HEQ := Sl.mk heq
    have HBR := Sl.mk hbr
    clear hrh heq hbr
    by_cases hc : k < bs.length ∧ k < 200
    · obtain ⟨hlt, hl2⟩ := hc
      obtain rfl := HAD.out (by omega)
      obtain ⟨z, hz⟩ : ∃ z, z = a.extract c a.size := ⟨_, rfl⟩
      have zs : z.size = a.size - c := by rw [hz, ByteArray.size_extract]; omega
      have bz : bytes z = (bytes a).drop c := by rw [hz, bytes_extract, List.take_of_length_le (by rw [bytes_length]; exact Nat.le_refl _)]
      obtain ⟨m, hm⟩ : ∃ m, min (bytes z).length (1 + mo - hs.length) = m := ⟨_, rfl⟩
      obtain ⟨hs2, hh2⟩ : ∃ hs2, hs2 = hs ++ (bytes z).take m := ⟨_, rfl⟩
      obtain ⟨tk, htk⟩ : ∃ tk, tk = bs.getD k 0 := ⟨_, rfl⟩
      have ltk : tk < 256 := by rw [htk]; exact HSM.out.getD (by decide) k
      obtain ⟨o, ho⟩ : ∃ o, hs2.take (tk : Int).toNat = o := ⟨_, rfl⟩
      obtain ⟨ko, hko⟩ : ∃ ko, o.length = ko := ⟨_, rfl⟩
      obtain ⟨rs, hrs⟩ : ∃ rs, hs2.drop (tk : Int).toNat = rs := ⟨_, rfl⟩
      obtain ⟨lr, hlr⟩ : ∃ lr, rs.length = lr := ⟨_, rfl⟩
      obtain ⟨y, hy⟩ : ∃ y, strOf o = y := ⟨_, rfl⟩
      have sm2 : Small 256 hs2 := by rw [hh2]; exact HRH.out.small.append ((bytes_small z).take _)
      have smo : Small 256 o := by rw [← ho]; exact sm2.take _
      have zy : y.size = ko := by rw [← hy, strOf_size, hko]
      have bm : m ≤ a.size - c := by rw [← hm, bytes_length, zs]; omega
      have E2 : bytes x ++ hs2 = (bytes a).take (c + m) := by
        rw [hh2, ← List.append_assoc, HEQ.out, bz, List.take_add]
      have E3 : bytes (x ++ y) ++ rs = (bytes a).take (c + m) := by
        rw [bytes_append, ← hy, bytes_strOf _ smo, List.append_assoc, ← ho, ← hrs, List.take_append_drop, E2]
      have E4 : x.size + y.size + lr = c + m := by
        have := congrArg List.length E3
        rw [List.length_append, bytes_length, ByteArray.size_append, hlr, List.length_take, bytes_length] at this
        omega
      have q1 : ((x.size : Int) + (y.size : Int) + (lr : Int) != (c : Int) + (m : Int)) = false := by simp; omega
      have lrb : lr ≤ 500 := by omega
      have ys : y.size ≤ 500 := by omega
      have HE3 := Sl.mk E3
      have HZ := Sl.mk hz
      have HZS := Sl.mk zs
      have HM := Sl.mk hm
      have HH2 := Sl.mk hh2
      have HO := Sl.mk ho
      have HKO := Sl.mk hko
      have HRS := Sl.mk hrs
      have HLR := Sl.mk hlr
      have YY := Sl.mk hy
      have xy : x.size + y.size ≤ 500 := by omega
      have cm : c + m ≤ a.size := by omega
      have hc0 := HCE.out k hlt
      rw [← htk] at hc0
      have HC0 := Sl.mk hc0
      have HZL : Sl ((bytes z).length ≤ 100000) := ⟨by rw [bytes_length]; omega⟩
      clear hc0 htk hm hh2 ho hko hrs hlr hy sm2 smo zy E2 E3 E4 zs bz bm
      obtain ⟨c3, w3, hc3, HV3, HX3⟩ := conv_str z wr
      have HB3 : Sl (Below w.heap.size w w3) := ⟨HBR.out.trans (HX3.out.mono HBR.out.size)⟩
      have HR3 := Sl.mk (HRH.out.below HX3.out)
      rw [hz] at hc3
      rw [HZS.out] at HV3
      clear hz
      go_wp2_with fail
      refine (put_ex w _ (w.heap.size + 1) w.heap.size (1 + mo) m hs (bytes z) _ HB3.out (by omega) (by omega) HR3.out (HV3.out.offs HRH.out.plt) (bytes_small z) HZL.out HM.out).mono ?_
      rw [← HH2.out]
      rintro e w4 ⟨rfl, HR4, HX4, HB4⟩
      clear hc3
      have hcl : w4.cell? ⟨sb, so + k, none⟩ = some (.int .u8 (tk : Int)) := by
        rw [HB4.out.cell (p := ⟨sb, so + k, none⟩) (block_lt_of_cell HC0.out)]; exact HC0.out
      have hk0 : (0 : Int) ≤ (k : Int) := by omega
      have hk1 : (k : Int) < (bs.length : Int) := by omega
      go_wp2_with fail
      refine (take_ex w _ (w.heap.size + 1) w.heap.size (1 + mo) ko hs2 o rs _ HB4.out (by omega) (by omega) HR4.out HO.out HKO.out HRS.out).mono ?_
      rintro e w5 ⟨rfl, HO5, HR5, HX5, HB5⟩
      clear hcl
      have hcv := HO5.out.str HKO.out
      rw [YY.out] at hcv
      go_wp2_with fail
      refine (len_ex _ (w.heap.size + 1) w.heap.size (1 + mo) lr rs HR5.out HLR.out).mono ?_
      rintro e w5' ⟨rfl, rfl⟩
      have HF : Sl (FL w (1 + mo) a (c + m) (x ++ y) w5) := ⟨rs, HR5.out, HE3.out, cm, HB5.out⟩
      clear hcv
      go_wp2
      go_roundw
      case rel => exact ⟨k + 1, c + m, x ++ y, by omega, by omega, by go_num, by go_num, rfl, by rw [ByteArray.size_append]; omega, by omega, HF.out⟩
      case measure => simp [intOf]; omega
    · by_cases hlt : k < bs.length
      · have hge : ¬ (k : Int) < 200 := by omega
        clear hc
        obtain ⟨lh, hlh⟩ : ∃ lh, hs.length = lh := ⟨_, rfl⟩
        obtain ⟨y, hy⟩ : ∃ y, strOf hs = y := ⟨_, rfl⟩
        have smh := HRH.out.small
        have hsl : x.size + hs.length = c := by rw [← bytes_length x, ← List.length_append, HEQ.out, List.length_take, bytes_length]; omega
        have HT : Sl (hs.take (1000 : Int).toNat = hs ∧ hs.drop (1000 : Int).toNat = []) := ⟨by
          have h2 : hs.length ≤ (1000 : Int).toNat := by show hs.length ≤ 1000; omega
          exact ⟨List.take_of_length_le h2, List.drop_eq_nil_of_le h2⟩⟩
        have zy : y.size = hs.length := by rw [← hy, strOf_size]
        have Q1 : Sl (((x ++ y).toList == (a.extract 0 c).toList) = true) := ⟨by
          rw [beq_bytes2, bytes_append, ← hy, bytes_strOf _ smh, HEQ.out, bytes_extract, List.drop_zero, decide_eq_true_eq]⟩
        have ys : y.size ≤ 500 := by omega
        have LH := Sl.mk hlh
        have YY := Sl.mk hy
        clear hlh hy smh zy hsl
        go_wp2
        have hadd := fun (W : World) => run_string_add_sum (P := Try.prog) W x y (by omega)
        have q1 := Q1.out
        have hb8 : Below w.heap.size w wr.drew := HBR.out.drew
        have HR8 : Sl (RingH wr.drew (w.heap.size + 1) w.heap.size (1 + mo) hs) := ⟨HRH.out.below (Below.refl _ _).drew⟩
        have u1 : w.heap.size ≤ w.heap.size + 1 := by omega
        have u2 : w.heap.size ≤ w.heap.size := by omega
        refine wp_region_noPanic ?_
        refine wp_region_held (S := fun W => Below w.heap.size w W) (by kernel_rfl) ?_
        change wpAnyH _ _ _ _ _ _ _ _ wr.drew
        refine heldTake (d := some 70) (op := Go.Op.move (Go.Operand.tmp 10)) (g := none) 0 ?v0 rfl (by kernel_rfl) (by kernel_rfl) (by kernel_rfl) (by kernel_rfl) ?y0 hb8 ?_
        case y0 => intro o ho w _; simp only [execOp, ho]; go_simp; try rfl
        simp only [Act.put, List.setIfInBounds_toArray, List.set_cons_zero, List.set_cons_succ]
        refine heldTake (d := some 71) (op := Go.Op.move (Go.Operand.tmp 7)) (g := none) 1 ?v1 rfl (by kernel_rfl) (by kernel_rfl) (by kernel_rfl) (by kernel_rfl) ?y1 hb8 ?_
        case y1 => intro o ho w _; simp only [execOp, ho]; go_simp; try rfl
        simp only [Act.put, List.setIfInBounds_toArray, List.set_cons_zero, List.set_cons_succ]
        refine heldTake (d := some 75) (op := Go.Op.move (Go.Operand.tmp 1)) (g := none) 5 ?v5 rfl (by kernel_rfl) (by kernel_rfl) (by kernel_rfl) (by kernel_rfl) ?y5 hb8 ?_
        case y5 => intro o ho w _; simp only [execOp, ho]; go_simp; try rfl
        simp only [Act.put, List.setIfInBounds_toArray, List.set_cons_zero, List.set_cons_succ]
        refine heldTake (d := some 76) (op := Go.Op.move (Go.Operand.tmp 9)) (g := none) 6 ?v6 rfl (by kernel_rfl) (by kernel_rfl) (by kernel_rfl) (by kernel_rfl) ?y6 hb8 ?_
        case y6 => intro o ho w _; simp only [execOp, ho]; go_simp; try rfl
        simp only [Act.put, List.setIfInBounds_toArray, List.set_cons_zero, List.set_cons_succ]
        refine heldTake (d := some 77) (op := Go.Op.slice 9 (Go.Operand.tmp 75) none (some (Go.Operand.tmp 76)) none) (g := none) 7 ?v7 rfl (by kernel_rfl) (by kernel_rfl) (by kernel_rfl) (by kernel_rfl) ?y7 hb8 ?_
        case y7 => intro o ho w _; simp only [execOp, ho]; go_simp; try rfl
        simp only [Act.put, List.setIfInBounds_toArray, List.set_cons_zero, List.set_cons_succ]
        refine heldCall (d := some 72) (op := Go.Op.call { callee := Go.Callee.value (Go.Operand.func 16), args := #[Go.Operand.tmp 71, Go.Operand.const (Go.Value.int Go.IntKind.i64 1000)], argTypes := #[23, 3] }) (g := none) 2 16 ?a2 rfl (by kernel_rfl) (by kernel_rfl) ?y2 ?_
        case y2 => intro o ho; simp only [execOp, ho]; go_simp; try rfl
        refine (take_ex w _ (w.heap.size + 1) w.heap.size (1 + mo) lh hs hs [] 1000 hb8 u1 u2 HR8.out HT.out.1 LH.out HT.out.2).mono ?_
        rintro e w9 ⟨rfl, HO9, HR9, HX9, HB9⟩
        have HS9 : Below w.heap.size w w9 ∧ RowB w9 wr.heap.size hs := ⟨HB9.out, HO9.out⟩
        refine ⟨_, rfl, HS9.1, ?_⟩
        refine heldMore2 (S' := fun W => Below w.heap.size w W ∧ RowB W wr.heap.size hs) (fun _ h => h.1) _ _ _ _ ?_
        simp only [Act.put, List.setIfInBounds_toArray, List.set_cons_zero, List.set_cons_succ]
        refine heldTake (d := some 73) (op := Go.Op.convert 33 9 (Go.Operand.tmp 72)) (g := none) 3 ?v3 rfl (by kernel_rfl) (by kernel_rfl) (by kernel_rfl) (by kernel_rfl) ?y3 HS9 ?_
        case y3 => intro o ho w hS; have hcv : (convert 33 9 (.slice (some ⟨wr.heap.size, 0, none⟩) lh lh)).run Try.prog w = .ok (.string y) w := (RowB.strs2 LH.out w hS.2).trans (by rw [YY.out]); simp only [execOp, ho]; go_simp; try rfl
        simp only [Act.put, List.setIfInBounds_toArray, List.set_cons_zero, List.set_cons_succ]
        refine heldTake (d := some 74) (op := Go.Op.binOp Go.BinOp.add 9 (Go.Operand.tmp 70) (Go.Operand.tmp 73) 9) (g := none) 4 ?v4 rfl (by kernel_rfl) (by kernel_rfl) (by kernel_rfl) (by kernel_rfl) ?y4 HS9 ?_
        case y4 => intro o ho w _; simp only [execOp, ho]; go_simp; try rfl
        simp only [Act.put, List.setIfInBounds_toArray, List.set_cons_zero, List.set_cons_succ]
        refine heldTake (d := some 78) (op := Go.Op.binOp Go.BinOp.eql 9 (Go.Operand.tmp 74) (Go.Operand.tmp 77) 9) (g := none) 8 ?v8 rfl (by kernel_rfl) (by kernel_rfl) (by kernel_rfl) (by kernel_rfl) ?y8 HS9 ?_
        case y8 => intro o ho w _; simp only [execOp, ho]; go_simp; try rfl
        simp only [Act.put, List.setIfInBounds_toArray, List.set_cons_zero, List.set_cons_succ]
        refine heldTake (d := some 79) (op := Go.Op.move (Go.Operand.tmp 78)) (g := none) 9 ?v9 rfl (by kernel_rfl) (by kernel_rfl) (by kernel_rfl) (by kernel_rfl) ?y9 HS9 ?_
        case y9 => intro o ho w _; simp only [execOp, ho]; go_simp; try rfl
        simp only [Act.put, List.setIfInBounds_toArray, List.set_cons_zero, List.set_cons_succ]
        refine heldTake (d := some 80) (op := Go.Op.move (Go.Operand.tmp 7)) (g := some (9, true)) 10 ?v10 rfl (by kernel_rfl) (by kernel_rfl) (by kernel_rfl) (by kernel_rfl) ?y10 HS9 ?_
        case y10 => intro o ho w _; simp only [execOp, ho]; go_simp; try rfl
        simp only [Act.put, List.setIfInBounds_toArray, List.set_cons_zero, List.set_cons_succ]
        refine heldCall (d := some 81) (op := Go.Op.call { callee := Go.Callee.value (Go.Operand.func 17), args := #[Go.Operand.tmp 80], argTypes := #[23] }) (g := some (9, true)) 11 17 ?a11 rfl (by kernel_rfl) (by kernel_rfl) ?y11 ?_
        case y11 => intro o ho; simp only [execOp, ho]; go_simp; try rfl
        refine (len_ex _ (w.heap.size + 1) w.heap.size (1 + mo) 0 [] HR9.out rfl).mono ?_
        rintro e w9' ⟨rfl, rfl⟩
        refine ⟨_, rfl, HS9, ?_⟩
        simp only [Act.put, List.setIfInBounds_toArray, List.set_cons_zero, List.set_cons_succ]
        refine heldTake (d := some 82) (op := Go.Op.binOp Go.BinOp.eql 3 (Go.Operand.tmp 81) (Go.Operand.const (Go.Value.int Go.IntKind.i64 0)) 3) (g := some (9, true)) 12 ?v12 rfl (by kernel_rfl) (by kernel_rfl) (by kernel_rfl) (by kernel_rfl) ?y12 HS9 ?_
        case y12 => intro o ho w _; simp only [execOp, ho]; go_simp; try rfl
        simp only [Act.put, List.setIfInBounds_toArray, List.set_cons_zero, List.set_cons_succ]
        refine heldTake (d := some 83) (op := Go.Op.pick (Go.Operand.tmp 79) (Go.Operand.tmp 82) (Go.Operand.const (Go.Value.bool false))) (g := none) 13 ?v13 rfl (by kernel_rfl) (by kernel_rfl) (by kernel_rfl) (by kernel_rfl) ?y13 HS9 ?_
        case y13 => intro o ho w _; simp only [execOp, ho]; go_simp; try rfl
        simp only [Act.put, List.setIfInBounds_toArray, List.set_cons_zero, List.set_cons_succ]
        refine heldTake (d := some 6) (op := Go.Op.assign (Go.Operand.tmp 83)) (g := none) 14 ?v14 rfl (by kernel_rfl) (by kernel_rfl) (by kernel_rfl) (by kernel_rfl) ?y14 HS9 ?_
        case y14 => intro o ho w _; simp only [execOp, ho]; go_simp; try rfl
        simp only [Act.put, List.setIfInBounds_toArray, List.set_cons_zero, List.set_cons_succ]
        refine wpAnyH_done (by kernel_rfl) ?_ _
        refine NoPanic.normal ?_
        go_wp2
        go_ret
        exact ⟨rfl, HB9.out⟩
      · have hge : ¬ (k : Int) < (bs.length : Int) := by omega
        clear hc
        obtain ⟨lh, hlh⟩ : ∃ lh, hs.length = lh := ⟨_, rfl⟩
        obtain ⟨y, hy⟩ : ∃ y, strOf hs = y := ⟨_, rfl⟩
        have smh := HRH.out.small
        have hsl : x.size + hs.length = c := by rw [← bytes_length x, ← List.length_append, HEQ.out, List.length_take, bytes_length]; omega
        have HT : Sl (hs.take (1000 : Int).toNat = hs ∧ hs.drop (1000 : Int).toNat = []) := ⟨by
          have h2 : hs.length ≤ (1000 : Int).toNat := by show hs.length ≤ 1000; omega
          exact ⟨List.take_of_length_le h2, List.drop_eq_nil_of_le h2⟩⟩
        have zy : y.size = hs.length := by rw [← hy, strOf_size]
        have Q1 : Sl (((x ++ y).toList == (a.extract 0 c).toList) = true) := ⟨by
          rw [beq_bytes2, bytes_append, ← hy, bytes_strOf _ smh, HEQ.out, bytes_extract, List.drop_zero, decide_eq_true_eq]⟩
        have ys : y.size ≤ 500 := by omega
        have LH := Sl.mk hlh
        have YY := Sl.mk hy
        clear hlh hy smh zy hsl
        go_wp2
        have hadd := fun (W : World) => run_string_add_sum (P := Try.prog) W x y (by omega)
        have q1 := Q1.out
        have hb8 : Below w.heap.size w wr.drew := HBR.out.drew
        have HR8 : Sl (RingH wr.drew (w.heap.size + 1) w.heap.size (1 + mo) hs) := ⟨HRH.out.below (Below.refl _ _).drew⟩
        have u1 : w.heap.size ≤ w.heap.size + 1 := by omega
        have u2 : w.heap.size ≤ w.heap.size := by omega
        refine wp_region_noPanic ?_
        refine wp_region_held (S := fun W => Below w.heap.size w W) (by kernel_rfl) ?_
        change wpAnyH _ _ _ _ _ _ _ _ wr.drew
        refine heldTake (d := some 70) (op := Go.Op.move (Go.Operand.tmp 10)) (g := none) 0 ?v0b rfl (by kernel_rfl) (by kernel_rfl) (by kernel_rfl) (by kernel_rfl) ?y0b hb8 ?_
        case y0b => intro o ho w _; simp only [execOp, ho]; go_simp; try rfl
        simp only [Act.put, List.setIfInBounds_toArray, List.set_cons_zero, List.set_cons_succ]
        refine heldTake (d := some 71) (op := Go.Op.move (Go.Operand.tmp 7)) (g := none) 1 ?v1b rfl (by kernel_rfl) (by kernel_rfl) (by kernel_rfl) (by kernel_rfl) ?y1b hb8 ?_
        case y1b => intro o ho w _; simp only [execOp, ho]; go_simp; try rfl
        simp only [Act.put, List.setIfInBounds_toArray, List.set_cons_zero, List.set_cons_succ]
        refine heldTake (d := some 75) (op := Go.Op.move (Go.Operand.tmp 1)) (g := none) 5 ?v5b rfl (by kernel_rfl) (by kernel_rfl) (by kernel_rfl) (by kernel_rfl) ?y5b hb8 ?_
        case y5b => intro o ho w _; simp only [execOp, ho]; go_simp; try rfl
        simp only [Act.put, List.setIfInBounds_toArray, List.set_cons_zero, List.set_cons_succ]
        refine heldTake (d := some 76) (op := Go.Op.move (Go.Operand.tmp 9)) (g := none) 6 ?v6b rfl (by kernel_rfl) (by kernel_rfl) (by kernel_rfl) (by kernel_rfl) ?y6b hb8 ?_
        case y6b => intro o ho w _; simp only [execOp, ho]; go_simp; try rfl
        simp only [Act.put, List.setIfInBounds_toArray, List.set_cons_zero, List.set_cons_succ]
        refine heldTake (d := some 77) (op := Go.Op.slice 9 (Go.Operand.tmp 75) none (some (Go.Operand.tmp 76)) none) (g := none) 7 ?v7b rfl (by kernel_rfl) (by kernel_rfl) (by kernel_rfl) (by kernel_rfl) ?y7b hb8 ?_
        case y7b => intro o ho w _; simp only [execOp, ho]; go_simp; try rfl
        simp only [Act.put, List.setIfInBounds_toArray, List.set_cons_zero, List.set_cons_succ]
        refine heldCall (d := some 72) (op := Go.Op.call { callee := Go.Callee.value (Go.Operand.func 16), args := #[Go.Operand.tmp 71, Go.Operand.const (Go.Value.int Go.IntKind.i64 1000)], argTypes := #[23, 3] }) (g := none) 2 16 ?a2b rfl (by kernel_rfl) (by kernel_rfl) ?y2b ?_
        case y2b => intro o ho; simp only [execOp, ho]; go_simp; try rfl
        refine (take_ex w _ (w.heap.size + 1) w.heap.size (1 + mo) lh hs hs [] 1000 hb8 u1 u2 HR8.out HT.out.1 LH.out HT.out.2).mono ?_
        rintro e w9 ⟨rfl, HO9, HR9, HX9, HB9⟩
        have HS9 : Below w.heap.size w w9 ∧ RowB w9 wr.heap.size hs := ⟨HB9.out, HO9.out⟩
        refine ⟨_, rfl, HS9.1, ?_⟩
        refine heldMore2 (S' := fun W => Below w.heap.size w W ∧ RowB W wr.heap.size hs) (fun _ h => h.1) _ _ _ _ ?_
        simp only [Act.put, List.setIfInBounds_toArray, List.set_cons_zero, List.set_cons_succ]
        refine heldTake (d := some 73) (op := Go.Op.convert 33 9 (Go.Operand.tmp 72)) (g := none) 3 ?v3b rfl (by kernel_rfl) (by kernel_rfl) (by kernel_rfl) (by kernel_rfl) ?y3b HS9 ?_
        case y3b => intro o ho w hS; have hcv : (convert 33 9 (.slice (some ⟨wr.heap.size, 0, none⟩) lh lh)).run Try.prog w = .ok (.string y) w := (RowB.strs2 LH.out w hS.2).trans (by rw [YY.out]); simp only [execOp, ho]; go_simp; try rfl
        simp only [Act.put, List.setIfInBounds_toArray, List.set_cons_zero, List.set_cons_succ]
        refine heldTake (d := some 74) (op := Go.Op.binOp Go.BinOp.add 9 (Go.Operand.tmp 70) (Go.Operand.tmp 73) 9) (g := none) 4 ?v4b rfl (by kernel_rfl) (by kernel_rfl) (by kernel_rfl) (by kernel_rfl) ?y4b HS9 ?_
        case y4b => intro o ho w _; simp only [execOp, ho]; go_simp; try rfl
        simp only [Act.put, List.setIfInBounds_toArray, List.set_cons_zero, List.set_cons_succ]
        refine heldTake (d := some 78) (op := Go.Op.binOp Go.BinOp.eql 9 (Go.Operand.tmp 74) (Go.Operand.tmp 77) 9) (g := none) 8 ?v8b rfl (by kernel_rfl) (by kernel_rfl) (by kernel_rfl) (by kernel_rfl) ?y8b HS9 ?_
        case y8b => intro o ho w _; simp only [execOp, ho]; go_simp; try rfl
        simp only [Act.put, List.setIfInBounds_toArray, List.set_cons_zero, List.set_cons_succ]
        refine heldTake (d := some 79) (op := Go.Op.move (Go.Operand.tmp 78)) (g := none) 9 ?v9b rfl (by kernel_rfl) (by kernel_rfl) (by kernel_rfl) (by kernel_rfl) ?y9b HS9 ?_
        case y9b => intro o ho w _; simp only [execOp, ho]; go_simp; try rfl
        simp only [Act.put, List.setIfInBounds_toArray, List.set_cons_zero, List.set_cons_succ]
        refine heldTake (d := some 80) (op := Go.Op.move (Go.Operand.tmp 7)) (g := some (9, true)) 10 ?v10b rfl (by kernel_rfl) (by kernel_rfl) (by kernel_rfl) (by kernel_rfl) ?y10b HS9 ?_
        case y10b => intro o ho w _; simp only [execOp, ho]; go_simp; try rfl
        simp only [Act.put, List.setIfInBounds_toArray, List.set_cons_zero, List.set_cons_succ]
        refine heldCall (d := some 81) (op := Go.Op.call { callee := Go.Callee.value (Go.Operand.func 17), args := #[Go.Operand.tmp 80], argTypes := #[23] }) (g := some (9, true)) 11 17 ?a11b rfl (by kernel_rfl) (by kernel_rfl) ?y11b ?_
        case y11b => intro o ho; simp only [execOp, ho]; go_simp; try rfl
        refine (len_ex _ (w.heap.size + 1) w.heap.size (1 + mo) 0 [] HR9.out rfl).mono ?_
        rintro e w9' ⟨rfl, rfl⟩
        refine ⟨_, rfl, HS9, ?_⟩
        simp only [Act.put, List.setIfInBounds_toArray, List.set_cons_zero, List.set_cons_succ]
        refine heldTake (d := some 82) (op := Go.Op.binOp Go.BinOp.eql 3 (Go.Operand.tmp 81) (Go.Operand.const (Go.Value.int Go.IntKind.i64 0)) 3) (g := some (9, true)) 12 ?v12b rfl (by kernel_rfl) (by kernel_rfl) (by kernel_rfl) (by kernel_rfl) ?y12b HS9 ?_
        case y12b => intro o ho w _; simp only [execOp, ho]; go_simp; try rfl
        simp only [Act.put, List.setIfInBounds_toArray, List.set_cons_zero, List.set_cons_succ]
        refine heldTake (d := some 83) (op := Go.Op.pick (Go.Operand.tmp 79) (Go.Operand.tmp 82) (Go.Operand.const (Go.Value.bool false))) (g := none) 13 ?v13b rfl (by kernel_rfl) (by kernel_rfl) (by kernel_rfl) (by kernel_rfl) ?y13b HS9 ?_
        case y13b => intro o ho w _; simp only [execOp, ho]; go_simp; try rfl
        simp only [Act.put, List.setIfInBounds_toArray, List.set_cons_zero, List.set_cons_succ]
        refine heldTake (d := some 6) (op := Go.Op.assign (Go.Operand.tmp 83)) (g := none) 14 ?v14b rfl (by kernel_rfl) (by kernel_rfl) (by kernel_rfl) (by kernel_rfl) ?y14b HS9 ?_
        case y14b => intro o ho w _; simp only [execOp, ho]; go_simp; try rfl
        simp only [Act.put, List.setIfInBounds_toArray, List.set_cons_zero, List.set_cons_succ]
        refine wpAnyH_done (by kernel_rfl) ?_ _
        refine NoPanic.normal ?_
        go_wp2
        go_ret
        exact ⟨rfl, HB9.out⟩
theorem flows_walk (mo : Nat) (a : ByteArray) (v : Value) (bs : List Nat) (w : World) (ha : a.size ≤ maxLen) (hv : SrcAt w v bs) (hbs : Small 256 bs) (hm : bs.length ≤ maxLen) (hmo : mo < 256) :
    Calls Try.prog 4 #[.int .u8 mo, .string a, v] w fun e w' => e = .returned (.bool true) ∧ Below w.heap.size w w' := by
  by_cases h : 500 < a.size
  · exact flows_long mo a v w hmo h ha
  · exact flows_short mo a v bs w hmo (by omega) hv hbs hm
end Go.Proofs.Ytfgpohfegjomfaa
