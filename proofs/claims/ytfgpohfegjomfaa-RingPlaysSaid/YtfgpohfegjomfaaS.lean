/- RingPlays, the walk: whatever number and acts are handed over, the law's Go text returns true, and nothing that was in memory changes. Conditions: the numbers are of their kind; the acts and their strings fit in memory. -/
import Derived.Test.YtfgpohfegjomfaaP
namespace Go.Proofs.Ytfgpohfegjomfaa
open Go.RowKit

set_option maxHeartbeats 400000 in
theorem plays_no (z : Int) (v : Value) (w : World) (h : z < 1 ∨ 65536 < z) :
    Calls Try.prog 3 #[.int .i64 z, v] w fun e w' => e = .returned (.bool true) ∧ Below w.heap.size w w' := by
  have HN := Sl.mk (new_no z w h)
  by_cases h1 : z < 1
  · clear h
    go_enter Try.func3, Try.ntmps3
    go_wp2_with fail
    refine HN.out.mono ?_
    rintro e w1 ⟨rfl, rfl⟩
    go_wp2_with fail
    refine (awake_ex w _ (Below.refl _ _)).mono ?_
    rintro e w2 ⟨rfl, HX2, HB2⟩
    go_wp2
    go_ret
    exact ⟨rfl, HB2.out⟩
  · have h2 : 65536 < z := by omega
    clear h
    go_enter Try.func3, Try.ntmps3
    go_wp2_with fail
    refine HN.out.mono ?_
    rintro e w1 ⟨rfl, rfl⟩
    go_wp2_with fail
    refine (awake_ex w _ (Below.refl _ _)).mono ?_
    rintro e w2 ⟨rfl, HX2, HB2⟩
    go_wp2
    go_ret
    exact ⟨rfl, HB2.out⟩

/-- What the loop holds to: the string s is what waits. -/
def PL (w : World) (L : Nat) (s : ByteArray) (wr : World) : Prop := RingH wr (w.heap.size + 1) w.heap.size L (bytes s) ∧ Below w.heap.size w wr

set_option maxHeartbeats 4000000 in
set_option maxRecDepth 100000 in
theorem plays_yes (L : Nat) (v : Value) (l : List ActV) (w : World) (hL1 : 1 ≤ L) (hL2 : L ≤ 65536) (hv : ActsAt w v l) :
    Calls Try.prog 3 #[.int .i64 L, v] w fun e w' => e = .returned (.bool true) ∧ Below w.heap.size w w' := by
  obtain ⟨a, cap, sb, so, rfl, hm, ha, hcell⟩ := hv
  have HA := Sl.mk ha
  have HCE := Sl.mk hcell
  unfold maxLen at hm
  clear ha hcell
  have g1 : ¬ (L : Int) < 1 := by omega
  have g2 : ¬ (65536 : Int) < (L : Int) := by omega
  go_enter Try.func3, Try.ntmps3
  go_wp2_with fail
  refine (new_ex w _ L hL1 hL2 (Below.refl _ _)).mono ?_
  rintro e w1 ⟨rfl, HR1, HX1, HB1⟩
  go_wp2_with fail
  refine (awake_ex w _ HB1.out).mono ?_
  rintro e w2 ⟨rfl, HX2, HB2⟩
  have HP2 : Sl (PL w L ByteArray.empty w2) := ⟨HR1.out.below HX2.out, HB2.out⟩
  clear HR1 HX1 HB1 HX2 HB2
  go_wp2
  go_loopw [7, 8] (fun s i wr => ∃ (k : Nat) (x : ByteArray), k ≤ l.length ∧ k ≤ 60 ∧ i = .int .i64 k ∧ s = .string x ∧ x.size ≤ L ∧ PL w L x wr) (fun _ i _ => l.length - (intOf i).toNat)
  case atStart => exact ⟨0, _, Nat.zero_le _, Nat.zero_le _, rfl, rfl, Nat.zero_le _, HP2.out⟩
  case round =>
    obtain ⟨k, x, hk, hk2, rfl, rfl, hxs, hrh, hbr⟩ := hrel
    have HRH := Sl.mk hrh
    have HBR := Sl.mk hbr
    clear hrh hbr
    by_cases hc : k < l.length ∧ k < 60
    · obtain ⟨hlt, hl2⟩ := hc
      obtain rfl := HA.out (by omega)
      obtain ⟨ac, hac⟩ : ∃ ac, ac = l.getD k act0 := ⟨_, rfl⟩
      obtain ⟨c0, c1, c2, bd1, bd2, bz⟩ := HCE.out k hlt
      rw [← hac] at c0 c1 c2 bd1 bd2 bz
      obtain ⟨K, N, z⟩ := ac
      simp only at c0 c1 c2 bd1 bd2 bz
      clear hac
      unfold maxLen at bz
      have k0 := (block_lt_of_cell c0)
      have e0 : wr.cell? ⟨sb, so + k * 3, none⟩ = some (.int .i64 K) := by rw [HBR.out.cell (p := ⟨sb, so + k * 3, none⟩) k0]; exact c0
      have e1 : wr.cell? ⟨sb, so + k * 3 + 1, none⟩ = some (.int .i64 N) := by rw [HBR.out.cell (p := ⟨sb, so + k * 3 + 1, none⟩) k0]; exact c1
      have e2 : wr.cell? ⟨sb, so + k * 3 + 2, none⟩ = some (.string z) := by rw [HBR.out.cell (p := ⟨sb, so + k * 3 + 2, none⟩) k0]; exact c2
      have hk0 : (0 : Int) ≤ (k : Int) := by omega
      have hk1 : (k : Int) < (l.length : Int) := by omega
      have hk2' : (k : Int) < 60 := by omega
      clear c0 c1 c2 k0
      by_cases h0 : K = 0
      · subst h0
        by_cases hz : z.size ≤ 100
        · obtain ⟨m, hm'⟩ : ∃ m, m = min z.size (L - x.size) := ⟨_, rfl⟩
          have HM : Sl (min (bytes z).length (L - (bytes x).length) = m) := ⟨by rw [bytes_length, bytes_length]; omega⟩
          have HRP := fun (W : World) => refput_any x z L m W hxs hL2 (by omega) hm'
          have HRPS := Sl.mk HRP
          have EB : Sl (bytes (x ++ z.extract 0 m) = bytes x ++ (bytes z).take m) := ⟨by rw [bytes_append, bytes_extract, List.drop_zero]⟩
          have SZ : Sl ((x ++ z.extract 0 m).size ≤ L) := ⟨by rw [ByteArray.size_append, ByteArray.size_extract]; omega⟩
          have HZL : Sl ((bytes z).length ≤ 100000) := ⟨by rw [bytes_length]; omega⟩
          obtain ⟨t, ht⟩ : ∃ t, t = x ++ z.extract 0 m := ⟨_, rfl⟩
          rw [← ht] at HRPS EB SZ
          have qm : ((m : Int) != (m : Int)) = false := by simp
          clear HRP hm' ht
          go_wp2_with fail
          refine (HRPS.out _).mono ?_
          rintro e w3 ⟨rfl, rfl⟩
          have HB3 : Sl (Below w.heap.size w (wr.alloc (.cells #[.int .i64 0, .int .i64 N, .string z] 29))) := ⟨HBR.out.alloc HBR.out.size _⟩
          have HR3 := Sl.mk (HRH.out.below ((Below.refl _ _).alloc (Nat.le_refl _) (.cells #[.int .i64 0, .int .i64 N, .string z] 29)))
          obtain ⟨c4, w4, hc4, HV4, HX4⟩ := conv_str z (wr.alloc (.cells #[.int .i64 0, .int .i64 N, .string z] 29))
          have HB4 : Sl (Below w.heap.size w w4) := ⟨HB3.out.trans (HX4.out.mono HB3.out.size)⟩
          have HR4 := Sl.mk (HR3.out.below HX4.out)
          rw [alloc_size] at HV4
          have lt4 := HR3.out.plt
          rw [alloc_size] at lt4
          go_wp2_with fail
          refine (put_ex w _ (w.heap.size + 1) w.heap.size L m (bytes x) (bytes z) _ HB4.out (by omega) (by omega) HR4.out (HV4.out.offs lt4) (bytes_small z) HZL.out HM.out).mono ?_
          rw [← EB.out]
          rintro e w5 ⟨rfl, HR5, HX5, HB5⟩
          clear hc4
          have HTS : Sl ((bytes t).length = (t).size ∧ L - (bytes t).length = L - (t).size) := ⟨by rw [bytes_length]; exact ⟨rfl, rfl⟩⟩
          obtain ⟨r, hr⟩ : ∃ r, r = L - (t).size := ⟨_, rfl⟩
          have hts : (t).size ≤ L := SZ.out
          have qr : ((r : Int) != (L : Int) - ((t).size : Int)) = false := by simp; omega
          have HRR := Sl.mk hr
          clear hr
          go_wp2_with fail
          refine (len_ex _ (w.heap.size + 1) w.heap.size L (t).size (bytes (t)) HR5.out HTS.out.1).mono ?_
          rintro e w90 ⟨rfl, rfl⟩
          go_wp2_with fail
          refine (room_ex w _ (w.heap.size + 1) w.heap.size L r (bytes (t)) HB5.out HR5.out (by rw [HRR.out]; exact HTS.out.2)).mono ?_
          rintro e w91 ⟨rfl, HR91, HK91, HB91⟩
          have HF : Sl (PL w L (t) w91) := ⟨HR91.out, HB91.out⟩
          go_wp2
          go_roundw
          case rel => exact ⟨k + 1, t, by omega, by omega, by go_num, rfl, hts, HF.out⟩
          case measure => simp [intOf]; omega
        · have hz' : ¬ (z.size : Int) ≤ 100 := by omega
          have HB3 : Sl (Below w.heap.size w (wr.alloc (.cells #[.int .i64 0, .int .i64 N, .string z] 29))) := ⟨HBR.out.alloc HBR.out.size _⟩
          have HR3 := Sl.mk (HRH.out.below ((Below.refl _ _).alloc (Nat.le_refl _) (.cells #[.int .i64 0, .int .i64 N, .string z] 29)))
          have HTS : Sl ((bytes x).length = (x).size ∧ L - (bytes x).length = L - (x).size) := ⟨by rw [bytes_length]; exact ⟨rfl, rfl⟩⟩
          obtain ⟨r, hr⟩ : ∃ r, r = L - (x).size := ⟨_, rfl⟩
          have hts : (x).size ≤ L := hxs
          have qr : ((r : Int) != (L : Int) - ((x).size : Int)) = false := by simp; omega
          have HRR := Sl.mk hr
          clear hr
          go_wp2_with fail
          refine (len_ex _ (w.heap.size + 1) w.heap.size L (x).size (bytes (x)) HR3.out HTS.out.1).mono ?_
          rintro e w90 ⟨rfl, rfl⟩
          go_wp2_with fail
          refine (room_ex w _ (w.heap.size + 1) w.heap.size L r (bytes (x)) HB3.out HR3.out (by rw [HRR.out]; exact HTS.out.2)).mono ?_
          rintro e w91 ⟨rfl, HR91, HK91, HB91⟩
          have HF : Sl (PL w L (x) w91) := ⟨HR91.out, HB91.out⟩
          go_wp2
          go_roundw
          case rel => exact ⟨k + 1, x, by omega, by omega, by go_num, rfl, hts, HF.out⟩
          case measure => simp [intOf]; omega
      · have qk0 : (K == 0) = false := beq_eq_false_iff_ne.2 h0
        have HB3 : Sl (Below w.heap.size w (wr.alloc (.cells #[.int .i64 K, .int .i64 N, .string z] 29))) := ⟨HBR.out.alloc HBR.out.size _⟩
        have HR3 := Sl.mk (HRH.out.below ((Below.refl _ _).alloc (Nat.le_refl _) (.cells #[.int .i64 K, .int .i64 N, .string z] 29)))
        by_cases hK1 : K = 1
        · subst hK1
          clear h0
          obtain ⟨o, ho⟩ : ∃ o, (bytes x).take N.toNat = o := ⟨_, rfl⟩
          obtain ⟨ko, hko⟩ : ∃ ko, o.length = ko := ⟨_, rfl⟩
          have EX : Sl (strOf o = x.extract 0 N.toNat) := ⟨bytes_inj (by rw [bytes_strOf _ (by rw [← ho]; exact (bytes_small x).take _), bytes_extract, List.drop_zero, ho])⟩
          have HO := Sl.mk ho
          have KO := Sl.mk hko
          clear ho hko
          go_wp2
          have qx : ((x.extract 0 N.toNat).toList == (x.extract 0 N.toNat).toList) = true := by simp
          have HB8 : Sl (Below w.heap.size w (wr.alloc (.cells #[.int .i64 1, .int .i64 N, .string z] 29)).drew) := ⟨HB3.out.drew⟩
          have HR8 : Sl (RingH (wr.alloc (.cells #[.int .i64 1, .int .i64 N, .string z] 29)).drew (w.heap.size + 1) w.heap.size L (bytes x)) := ⟨HR3.out.below (Below.refl _ _).drew⟩
          have HLT : Sl (wr.heap.size < (wr.alloc (.cells #[.int .i64 1, .int .i64 N, .string z] 29)).drew.heap.size) := ⟨by show _ < (wr.alloc _).heap.size; rw [alloc_size]; omega⟩
          have hb8 : Below w.heap.size w (wr.alloc (.cells #[.int .i64 1, .int .i64 N, .string z] 29)).drew ∧ (wr.alloc (.cells #[.int .i64 1, .int .i64 N, .string z] 29)).drew.cell? ⟨wr.heap.size, 1, none⟩ = some (.int .i64 N) := ⟨HB8.out, by
            show (wr.alloc _).cell? _ = _
            rw [cell_of_row _ _ _ _ _ _ (alloc_new _ _ _ rfl)]; rfl⟩
          refine wp_region_noPanic ?_
          refine wp_region_held (S := fun W => Below w.heap.size w W ∧ W.cell? ⟨wr.heap.size, 1, none⟩ = some (.int .i64 N)) (by kernel_rfl) ?_
          change wpAnyH _ _ _ _ _ _ _ _ (wr.alloc (.cells #[.int .i64 1, .int .i64 N, .string z] 29)).drew
          refine heldTake (d := some 87) (op := Go.Op.move (Go.Operand.tmp 5)) (g := none) 0 ?v0 rfl (by kernel_rfl) (by kernel_rfl) (by kernel_rfl) (by kernel_rfl) ?y0 hb8 ?_
          case y0 => intro o ho w _; simp only [execOp, ho]; go_simp; try rfl
          simp only [Act.put, List.setIfInBounds_toArray, List.set_cons_zero, List.set_cons_succ]
          refine heldTake (d := some 88) (op := Go.Op.fieldAddr 29 (Go.Operand.tmp 9) 1) (g := none) 1 ?v1 rfl (by kernel_rfl) (by kernel_rfl) (by kernel_rfl) (by kernel_rfl) ?y1 hb8 ?_
          case y1 => intro o ho w _; simp only [execOp, ho]; go_simp; try rfl
          simp only [Act.put, List.setIfInBounds_toArray, List.set_cons_zero, List.set_cons_succ]
          refine heldTake (d := some 89) (op := Go.Op.load 3 (Go.Operand.tmp 88)) (g := none) 2 ?v2 rfl (by kernel_rfl) (by kernel_rfl) (by kernel_rfl) (by kernel_rfl) ?y2 hb8 ?_
          case y2 => intro o ho w hS; have hl : w.cell? ⟨wr.heap.size, 1, none⟩ = some (.int .i64 N) := hS.2; simp only [execOp, ho]; go_simp; try rfl
          simp only [Act.put, List.setIfInBounds_toArray, List.set_cons_zero, List.set_cons_succ]
          refine heldTake (d := some 92) (op := Go.Op.move (Go.Operand.tmp 7)) (g := none) 5 ?v5 rfl (by kernel_rfl) (by kernel_rfl) (by kernel_rfl) (by kernel_rfl) ?y5 hb8 ?_
          case y5 => intro o ho w _; simp only [execOp, ho]; go_simp; try rfl
          simp only [Act.put, List.setIfInBounds_toArray, List.set_cons_zero, List.set_cons_succ]
          refine heldTake (d := some 93) (op := Go.Op.fieldAddr 29 (Go.Operand.tmp 9) 1) (g := none) 6 ?v6 rfl (by kernel_rfl) (by kernel_rfl) (by kernel_rfl) (by kernel_rfl) ?y6 hb8 ?_
          case y6 => intro o ho w _; simp only [execOp, ho]; go_simp; try rfl
          simp only [Act.put, List.setIfInBounds_toArray, List.set_cons_zero, List.set_cons_succ]
          refine heldTake (d := some 94) (op := Go.Op.load 3 (Go.Operand.tmp 93)) (g := none) 7 ?v7 rfl (by kernel_rfl) (by kernel_rfl) (by kernel_rfl) (by kernel_rfl) ?y7 hb8 ?_
          case y7 => intro o ho w hS; have hl : w.cell? ⟨wr.heap.size, 1, none⟩ = some (.int .i64 N) := hS.2; simp only [execOp, ho]; go_simp; try rfl
          simp only [Act.put, List.setIfInBounds_toArray, List.set_cons_zero, List.set_cons_succ]
          refine heldCall (d := some 90) (op := Go.Op.call { callee := Go.Callee.value (Go.Operand.func 13), args := #[Go.Operand.tmp 87, Go.Operand.tmp 89], argTypes := #[23, 3] }) (g := none) 3 13 ?a3 rfl (by kernel_rfl) (by kernel_rfl) ?y3 ?_
          case y3 => intro o ho; simp only [execOp, ho]; go_simp; try rfl
          refine (peek_ex w _ (w.heap.size + 1) w.heap.size L ko (bytes x) o N HB8.out HR8.out HO.out KO.out).mono ?_
          rintro e w9 ⟨rfl, HO9, HR9, HX9, HB9⟩
          have HC9 : (Below w.heap.size w w9 ∧ w9.cell? ⟨wr.heap.size, 1, none⟩ = some (.int .i64 N)) := ⟨HB9.out, by rw [HX9.out.cell (p := ⟨wr.heap.size, 1, none⟩) (by show wr.heap.size < _; exact HLT.out)]; exact hb8.2⟩
          have HS9 : (Below w.heap.size w w9 ∧ w9.cell? ⟨wr.heap.size, 1, none⟩ = some (.int .i64 N)) ∧ RowB w9 (wr.heap.size + 1) o := ⟨HC9, by have h := HO9.out; rw [show (wr.alloc (.cells #[.int .i64 1, .int .i64 N, .string z] 29)).drew.heap.size = wr.heap.size + 1 from alloc_size _ _] at h; exact h⟩
          refine ⟨_, rfl, HC9, ?_⟩
          refine heldMore (S' := fun W => (Below w.heap.size w W ∧ W.cell? ⟨wr.heap.size, 1, none⟩ = some (.int .i64 N)) ∧ RowB W (wr.heap.size + 1) o) (fun _ h => h.1) _ _ _ _ ?_
          simp only [Act.put, List.setIfInBounds_toArray, List.set_cons_zero, List.set_cons_succ]
          refine heldTake (d := some 91) (op := Go.Op.convert 33 9 (Go.Operand.tmp 90)) (g := none) 4 ?v4 rfl (by kernel_rfl) (by kernel_rfl) (by kernel_rfl) (by kernel_rfl) ?y4 HS9 ?_
          case y4 => intro o ho w hS; have hcv : (convert 33 9 (.slice (some ⟨wr.heap.size + 1, 0, none⟩) ko ko)).run Try.prog w = .ok (.string (x.extract 0 N.toNat)) w := (RowB.strs KO.out w hS.2).trans (by rw [EX.out]); simp only [execOp, ho]; go_simp; try rfl
          simp only [Act.put, List.setIfInBounds_toArray, List.set_cons_zero, List.set_cons_succ]
          refine heldCall (d := some 95) (op := Go.Op.call { callee := Go.Callee.value (Go.Operand.func 14), args := #[Go.Operand.tmp 92, Go.Operand.tmp 94], argTypes := #[9, 3] }) (g := none) 8 14 ?a8 rfl (by kernel_rfl) (by kernel_rfl) ?y8 ?_
          case y8 => intro o ho; simp only [execOp, ho]; go_simp; try rfl
          refine (refpeek_any x N w9 (by omega)).mono ?_
          rintro e w9' ⟨rfl, rfl⟩
          refine ⟨_, rfl, HS9, ?_⟩
          simp only [Act.put, List.setIfInBounds_toArray, List.set_cons_zero, List.set_cons_succ]
          refine heldTake (d := some 96) (op := Go.Op.binOp Go.BinOp.neq 9 (Go.Operand.tmp 91) (Go.Operand.tmp 95) 9) (g := none) 9 ?v9 rfl (by kernel_rfl) (by kernel_rfl) (by kernel_rfl) (by kernel_rfl) ?y9 HS9 ?_
          case y9 => intro o ho w _; simp only [execOp, ho]; go_simp; try rfl
          simp only [Act.put, List.setIfInBounds_toArray, List.set_cons_zero, List.set_cons_succ]
          refine wpAnyH_done (by kernel_rfl) ?_ _
          refine NoPanic.normal ?_
          clear qx
          have HTS : Sl ((bytes x).length = (x).size ∧ L - (bytes x).length = L - (x).size) := ⟨by rw [bytes_length]; exact ⟨rfl, rfl⟩⟩
          obtain ⟨r, hr⟩ : ∃ r, r = L - (x).size := ⟨_, rfl⟩
          have hts : (x).size ≤ L := hxs
          have qr : ((r : Int) != (L : Int) - ((x).size : Int)) = false := by simp; omega
          have HRR := Sl.mk hr
          clear hr
          go_wp2_with fail
          refine (len_ex _ (w.heap.size + 1) w.heap.size L (x).size (bytes (x)) HR9.out HTS.out.1).mono ?_
          rintro e w90 ⟨rfl, rfl⟩
          go_wp2_with fail
          refine (room_ex w _ (w.heap.size + 1) w.heap.size L r (bytes (x)) HB9.out HR9.out (by rw [HRR.out]; exact HTS.out.2)).mono ?_
          rintro e w91 ⟨rfl, HR91, HK91, HB91⟩
          have HF : Sl (PL w L (x) w91) := ⟨HR91.out, HB91.out⟩
          go_wp2
          go_roundw
          case rel => exact ⟨k + 1, x, by omega, by omega, by go_num, rfl, hts, HF.out⟩
          case measure => simp [intOf]; omega
        · have qk1 : (K == 1) = false := beq_eq_false_iff_ne.2 hK1
          by_cases hK2 : K = 2
          · subst hK2
            clear h0 hK1
            obtain ⟨o, ho⟩ : ∃ o, (bytes x).take N.toNat = o := ⟨_, rfl⟩
            obtain ⟨ko, hko⟩ : ∃ ko, o.length = ko := ⟨_, rfl⟩
            have EX : Sl (strOf o = x.extract 0 N.toNat) := ⟨bytes_inj (by rw [bytes_strOf _ (by rw [← ho]; exact (bytes_small x).take _), bytes_extract, List.drop_zero, ho])⟩
            have HO := Sl.mk ho
            have KO := Sl.mk hko
            clear ho hko
            go_wp2_with fail
            refine (refpeek_any x N _ (by omega)).mono ?_
            rintro e w3' ⟨rfl, rfl⟩
            go_wp2_with fail
            refine (refrest_any x N _ (by omega) bd2 bd1).mono ?_
            rintro e w3' ⟨t, rfl, ht, rfl⟩
            have HT := Sl.mk ht
            have SZ : Sl (t.size ≤ L) := ⟨by rw [← bytes_length, ht, List.length_drop, bytes_length]; omega⟩
            clear ht
            go_wp2_with fail
            refine (take_ex w _ (w.heap.size + 1) w.heap.size L ko (bytes x) o (bytes t) N HB3.out (by omega) (by omega) HR3.out HO.out KO.out HT.out.symm).mono ?_
            rintro e w5 ⟨rfl, HO5, HR5, HX5, HB5⟩
            have hcv := HO5.out.str KO.out
            rw [EX.out, alloc_size] at hcv
            have qx : ((x.extract 0 N.toNat).toList == (x.extract 0 N.toNat).toList) = true := by simp
            have HTS : Sl ((bytes t).length = (t).size ∧ L - (bytes t).length = L - (t).size) := ⟨by rw [bytes_length]; exact ⟨rfl, rfl⟩⟩
            obtain ⟨r, hr⟩ : ∃ r, r = L - (t).size := ⟨_, rfl⟩
            have hts : (t).size ≤ L := SZ.out
            have qr : ((r : Int) != (L : Int) - ((t).size : Int)) = false := by simp; omega
            have HRR := Sl.mk hr
            clear hr
            go_wp2_with fail
            refine (len_ex _ (w.heap.size + 1) w.heap.size L (t).size (bytes (t)) HR5.out HTS.out.1).mono ?_
            rintro e w90 ⟨rfl, rfl⟩
            go_wp2_with fail
            refine (room_ex w _ (w.heap.size + 1) w.heap.size L r (bytes (t)) HB5.out HR5.out (by rw [HRR.out]; exact HTS.out.2)).mono ?_
            rintro e w91 ⟨rfl, HR91, HK91, HB91⟩
            have HF : Sl (PL w L (t) w91) := ⟨HR91.out, HB91.out⟩
            go_wp2
            go_roundw
            case rel => exact ⟨k + 1, t, by omega, by omega, by go_num, rfl, hts, HF.out⟩
            case measure => simp [intOf]; omega
          · have qk2 : (K == 2) = false := beq_eq_false_iff_ne.2 hK2
            have HTS : Sl ((bytes x).length = (x).size ∧ L - (bytes x).length = L - (x).size) := ⟨by rw [bytes_length]; exact ⟨rfl, rfl⟩⟩
            obtain ⟨r, hr⟩ : ∃ r, r = L - (x).size := ⟨_, rfl⟩
            have hts : (x).size ≤ L := hxs
            have qr : ((r : Int) != (L : Int) - ((x).size : Int)) = false := by simp; omega
            have HRR := Sl.mk hr
            clear hr
            go_wp2_with fail
            refine (len_ex _ (w.heap.size + 1) w.heap.size L (x).size (bytes (x)) HR3.out HTS.out.1).mono ?_
            rintro e w90 ⟨rfl, rfl⟩
            go_wp2_with fail
            refine (room_ex w _ (w.heap.size + 1) w.heap.size L r (bytes (x)) HB3.out HR3.out (by rw [HRR.out]; exact HTS.out.2)).mono ?_
            rintro e w91 ⟨rfl, HR91, HK91, HB91⟩
            have HF : Sl (PL w L (x) w91) := ⟨HR91.out, HB91.out⟩
            go_wp2
            go_roundw
            case rel => exact ⟨k + 1, x, by omega, by omega, by go_num, rfl, hts, HF.out⟩
            case measure => simp [intOf]; omega
    · by_cases hlt : k < l.length
      · have hge : ¬ (k : Int) < 60 := by omega
        clear hc
        have HT : Sl ((bytes x).take ((x.size : Int)).toNat = bytes x) := ⟨List.take_of_length_le (by rw [bytes_length]; simp)⟩
        have qx : (x.toList == x.toList) = true := by simp
        go_wp2_with fail
        refine (peek_ex w _ (w.heap.size + 1) w.heap.size L x.size (bytes x) (bytes x) _ HBR.out HRH.out HT.out (bytes_length x)).mono ?_
        rintro e w5 ⟨rfl, HO5, HR5, HX5, HB5⟩
        have hcv := HO5.out.str (bytes_length x)
        rw [strOf_bytes] at hcv
        go_wp2
        go_ret
        exact ⟨by first | rfl | simp, HB5.out⟩
      · have hge : ¬ (k : Int) < (l.length : Int) := by omega
        clear hc
        have HT : Sl ((bytes x).take ((x.size : Int)).toNat = bytes x) := ⟨List.take_of_length_le (by rw [bytes_length]; simp)⟩
        have qx : (x.toList == x.toList) = true := by simp
        go_wp2_with fail
        refine (peek_ex w _ (w.heap.size + 1) w.heap.size L x.size (bytes x) (bytes x) _ HBR.out HRH.out HT.out (bytes_length x)).mono ?_
        rintro e w5 ⟨rfl, HO5, HR5, HX5, HB5⟩
        have hcv := HO5.out.str (bytes_length x)
        rw [strOf_bytes] at hcv
        go_wp2
        go_ret
        exact ⟨by first | rfl | simp, HB5.out⟩

theorem plays_walk (z : Int) (v : Value) (l : List ActV) (w : World) (hv : ActsAt w v l) (_h1 : -9223372036854775808 ≤ z) (_h2 : z ≤ 9223372036854775807) :
    Calls Try.prog 3 #[.int .i64 z, v] w fun e w' => e = .returned (.bool true) ∧ Below w.heap.size w w' := by
  by_cases h : z < 1 ∨ 65536 < z
  · exact plays_no z v w h
  · obtain ⟨L, rfl⟩ := Int.eq_ofNat_of_zero_le (by omega : 0 ≤ z)
    exact plays_yes L v l w (by omega) (by omega) hv
end Go.Proofs.Ytfgpohfegjomfaa
