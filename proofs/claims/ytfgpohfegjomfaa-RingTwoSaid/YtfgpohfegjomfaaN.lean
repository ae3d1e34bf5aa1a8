/- RingTwo, the walk: whatever strings and byte are handed over, the law's Go text returns true, and nothing that was in memory changes. Conditions: the byte is a number of its kind; the strings fit in memory. -/
import Derived.Test.YtfgpohfegjomfaaL
import Derived.SliceStrings
import Derived.ProofKit
namespace Go.Proofs.Ytfgpohfegjomfaa
open Go.RowKit Go.WideShapes Go.ChangeShapes

/-- The strings l are the elements of the slice v. -/
def StrsAt (W : World) (v : Value) (l : List ByteArray) : Prop :=
  ∃ (a : Option Addr) (cap sb so : Nat), v = .slice a l.length cap ∧ l.length ≤ maxLen ∧ (0 < l.length → a = some ⟨sb, so, none⟩) ∧ (∀ i, i < l.length → W.cell? ⟨sb, so + i, none⟩ = some (.string (l.getD i ByteArray.empty))) ∧
    ∀ i, (l.getD i ByteArray.empty).size ≤ maxLen
theorem strsAt_of_trod {H : Type} {enc : TypeId × Value → H} {W : World} {ad : Option Addr} {len cap : Nat} {d : DataW H} {p : List MemPlace} (h : DataW.Trod enc Try.prog W 0 (fun _ => true) true 40 (.slice ad len cap) d p) :
    ∃ l, StrsAt W (.slice ad len cap) l := by
  obtain ⟨fuel, hf⟩ := h
  rcases open_strings Try.underlying40 Try.underlying9 (by kernel_rfl) hf with ⟨hcs, _⟩ | ⟨a, len', cap', ss, hcs, _, hl, hm, hz, _, hcell, hws⟩
  · simp [Value.cells] at hcs
    obtain ⟨rfl, rfl, rfl⟩ := hcs
    exact ⟨[], none, 0, 0, 0, rfl, by simp, fun h => by simp at h, fun i hi => by simp at hi, fun i => by simp [List.getD]⟩
  · simp [Value.cells] at hcs
    obtain ⟨rfl, rfl, rfl⟩ := hcs
    have hlen : (ss.take len).length = len := by simp at hz; simp; omega
    have hg : ∀ i, i < len → (ss.take len).getD i ByteArray.empty = ss.getD i ByteArray.empty := fun i hi => by simp [List.getD, hi]
    refine ⟨ss.take len, some a, cap, a.block, a.off, by rw [hlen], by rw [hlen]; omega, fun hp => ?_, fun i hi => ?_, fun i => ?_⟩
    · rw [hlen] at hp
      have hc := hcell 0 (by simp at hz; omega)
      obtain ⟨b, off, spot⟩ := a
      have hspot : spot = none := by simpa [Addr.add] using World.cell?_spot hc
      rw [hspot]
    · rw [hlen] at hi
      have hc := hcell i (by simp at hz; omega)
      obtain ⟨b, off, spot⟩ := a
      have hspot : spot = none := by simpa [Addr.add] using World.cell?_spot (hcell 0 (by simp at hz; omega))
      subst hspot
      rw [Addr.add_mid] at hc
      rw [hg i hi, hc]
    · by_cases hi : i < len
      · rw [hg i hi]
        have hi' : i < ss.length := by simp at hz; omega
        have := hws ss[i] (List.getElem_mem hi')
        simpa [List.getD, List.getElem?_eq_getElem hi'] using this
      · rw [List.getD, List.getElem?_eq_none (by rw [hlen]; omega)]
        exact Nat.zero_le _


set_option maxHeartbeats 400000 in
theorem two_long (v : Value) (l : List ByteArray) (n : Nat) (w : World) (hv : StrsAt w v l) (h1 : 60 < l.length) :
    Calls Try.prog 6 #[v, .int .u8 n] w fun e w' => e = .returned (.bool true) ∧ Below w.heap.size w w' := by
  obtain ⟨a, cap, sb, so, rfl, hm, _, _, _⟩ := hv
  unfold maxLen at hm
  go_enter Try.func6, Try.ntmps6
  go_wp2_with fail
  refine (new_ex w _ 20 (by omega) (by omega) (Below.refl _ _)).mono ?_
  rintro e w1 ⟨rfl, HR1, HX1, HB1⟩
  go_wp2_with fail
  refine (new_ex w _ 30 (by omega) (by omega) HB1.out).mono ?_
  rintro e w2 ⟨rfl, HR2, HX2, HB2⟩
  go_wp2_with fail
  refine (awake_ex w _ HB2.out).mono ?_
  rintro e w3 ⟨rfl, HX3, HB3⟩
  go_wp2_with fail
  refine (awake_ex w _ HB3.out).mono ?_
  rintro e w4 ⟨rfl, HX4, HB4⟩
  go_wp2
  go_ret
  exact ⟨rfl, HB4.out⟩

/-- What the loop holds to. -/
def TW (w wb wr : World) : Prop := ∃ h1 h2, RingH wr (w.heap.size + 1) w.heap.size 20 h1 ∧ RingH wr (wb.heap.size + 1) wb.heap.size 30 h2 ∧ Below w.heap.size w wr

set_option maxHeartbeats 8000000 in
set_option maxRecDepth 100000 in
theorem two_short (v : Value) (l : List ByteArray) (n : Nat) (w : World) (hn : n < 256) (hv : StrsAt w v l) (h1 : l.length ≤ 60) :
    Calls Try.prog 6 #[v, .int .u8 n] w fun e w' => e = .returned (.bool true) ∧ Below w.heap.size w w' := by
  obtain ⟨a, cap, sb, so, rfl, hm, ha, hcell, hsz⟩ := hv
  have HA := Sl.mk ha
  have HCE := Sl.mk hcell
  have HSZ := Sl.mk hsz
  have ZN := Sl.mk (IntWalk.i64_in (n : Int) (by omega))
  clear ha hcell hsz hm
  go_enter Try.func6, Try.ntmps6
  go_wp2_with fail
  refine (new_ex w _ 20 (by omega) (by omega) (Below.refl _ _)).mono ?_
  rintro e wb ⟨rfl, HR1, HX1, HB1⟩
  have ltb : w.heap.size + 1 < wb.heap.size := HR1.out.blt
  go_wp2_with fail
  refine (new_ex w _ 30 (by omega) (by omega) HB1.out).mono ?_
  rintro e w2 ⟨rfl, HR2, HX2, HB2⟩
  have HR12 := Sl.mk (HR1.out.below HX2.out)
  go_wp2_with fail
  refine (awake_ex w _ HB2.out).mono ?_
  rintro e w3 ⟨rfl, HX3, HB3⟩
  have HTW : Sl (TW w wb w3) := ⟨[], [], HR12.out.below HX3.out, HR2.out.below HX3.out, HB3.out⟩
  clear HR1 HX1 HB1 HR2 HX2 HB2 HR12 HX3 HB3
  go_wp2
  go_loopw [9] (fun i wr => ∃ k : Nat, k ≤ l.length ∧ i = .int .i64 k ∧ TW w wb wr) (fun i _ => l.length - (intOf i).toNat)
  case atStart => exact ⟨0, Nat.zero_le _, rfl, HTW.out⟩
  case round =>
    obtain ⟨k, hk, rfl, h1', h2', har, hdr, hbr⟩ := hrel
    have HAR := Sl.mk har
    have HDR := Sl.mk hdr
    have HBR := Sl.mk hbr
    clear har hdr hbr
    by_cases hlt : k < l.length
    · obtain rfl := HA.out (by omega)
      have HCW : Sl (∀ W, Below w.heap.size w W → W.cell? ⟨sb, so + k, none⟩ = some (.string (l.getD k ByteArray.empty))) := ⟨fun W hb => by
        have h := HCE.out k hlt
        have hl := block_lt_of_cell h
        rw [hb.cell (p := ⟨sb, so + k, none⟩) hl]; exact h⟩
      have hzz := HSZ.out k
      unfold maxLen at hzz
      generalize l.getD k ByteArray.empty = z at *
      have hcl := HCW.out wr HBR.out
      by_cases h3 : z.size ≤ 100
      · obtain ⟨h1, hh1⟩ : ∃ h1, h1 = h1' := ⟨_, rfl⟩
        obtain ⟨h2, hh2⟩ : ∃ h2, h2 = h2' := ⟨_, rfl⟩
        rw [← hh1] at HAR
        rw [← hh2] at HDR
        obtain ⟨l1, hl1⟩ : ∃ l1, h1.length = l1 := ⟨_, rfl⟩
        obtain ⟨l2, hl2⟩ : ∃ l2, h2.length = l2 := ⟨_, rfl⟩
        obtain ⟨x1, hx1⟩ : ∃ x1, strOf h1 = x1 := ⟨_, rfl⟩
        obtain ⟨x2, hx2⟩ : ∃ x2, strOf h2 = x2 := ⟨_, rfl⟩
        have T1 : Sl (h1.take (100 : Int).toNat = h1) := ⟨List.take_of_length_le (by have := HAR.out.le; show _ ≤ 100; omega)⟩
        have T2 : Sl (h2.take (100 : Int).toNat = h2) := ⟨List.take_of_length_le (by have := HDR.out.le; show _ ≤ 100; omega)⟩
        have L1 := Sl.mk hl1
        have L2 := Sl.mk hl2
        have X1 := Sl.mk hx1
        have X2 := Sl.mk hx2
        have HZL : Sl ((bytes z).length ≤ 100000) := ⟨by rw [bytes_length]; omega⟩
        clear hh1 hh2 hl1 hl2 hx1 hx2
        go_wp2
        clear hcl
        have hb8 : Below w.heap.size w wr.drew := HBR.out.drew
        have HA8 : Sl (RingH wr.drew (w.heap.size + 1) w.heap.size 20 h1) := ⟨HAR.out.below (Below.refl _ _).drew⟩
        have HD8 : Sl (RingH wr.drew (wb.heap.size + 1) wb.heap.size 30 h2) := ⟨HDR.out.below (Below.refl _ _).drew⟩
        refine wp_region_noPanic ?_
        refine wp_region_held (S := fun W => Below w.heap.size w W) (by kernel_rfl) ?_
        change wpAnyH _ _ _ _ _ _ _ _ wr.drew
        refine heldTake (d := some 56) (op := Go.Op.move (Go.Operand.tmp 5)) (g := none) 0 ?v0 rfl (by kernel_rfl) (by kernel_rfl) (by kernel_rfl) (by kernel_rfl) ?y0 hb8 ?_
        case y0 => intro o ho w _; simp only [execOp, ho]; go_simp; try rfl
        simp only [Act.put, List.setIfInBounds_toArray, List.set_cons_zero, List.set_cons_succ]
        refine heldTake (d := some 59) (op := Go.Op.move (Go.Operand.tmp 7)) (g := none) 3 ?v3 rfl (by kernel_rfl) (by kernel_rfl) (by kernel_rfl) (by kernel_rfl) ?y3 hb8 ?_
        case y3 => intro o ho w _; simp only [execOp, ho]; go_simp; try rfl
        simp only [Act.put, List.setIfInBounds_toArray, List.set_cons_zero, List.set_cons_succ]
        refine heldCall (d := some 57) (op := Go.Op.call { callee := Go.Callee.value (Go.Operand.func 13), args := #[Go.Operand.tmp 56, Go.Operand.const (Go.Value.int Go.IntKind.i64 100)], argTypes := #[23, 3] }) (g := none) 1 13 ?a1 rfl (by kernel_rfl) (by kernel_rfl) ?y1 ?_
        case y1 => intro o ho; simp only [execOp, ho]; go_simp; try rfl
        refine (peek_ex w _ (w.heap.size + 1) w.heap.size 20 l1 h1 h1 100 hb8 HA8.out T1.out L1.out).mono ?_
        rintro e w9 ⟨rfl, HO9, HA9, HX9, HB9⟩
        have HD9 := Sl.mk (HD8.out.below HX9.out)
        have HS9 : Below w.heap.size w w9 ∧ RowB w9 wr.heap.size h1 := ⟨HB9.out, HO9.out⟩
        refine ⟨_, rfl, HS9.1, ?_⟩
        refine heldMore (S' := fun W => Below w.heap.size w W ∧ RowB W wr.heap.size h1) (fun _ h => h.1) _ _ _ _ ?_
        simp only [Act.put, List.setIfInBounds_toArray, List.set_cons_zero, List.set_cons_succ]
        refine heldTake (d := some 58) (op := Go.Op.convert 33 9 (Go.Operand.tmp 57)) (g := none) 2 ?v2 rfl (by kernel_rfl) (by kernel_rfl) (by kernel_rfl) (by kernel_rfl) ?y2 HS9 ?_
        case y2 => intro o ho w hS; have hcv : (convert 33 9 (.slice (some ⟨wr.heap.size, 0, none⟩) l1 l1)).run Try.prog w = .ok (.string x1) w := (RowB.strs L1.out w hS.2).trans (by rw [X1.out]); simp only [execOp, ho]; go_simp; try rfl
        simp only [Act.put, List.setIfInBounds_toArray, List.set_cons_zero, List.set_cons_succ]
        refine heldCall (d := some 60) (op := Go.Op.call { callee := Go.Callee.value (Go.Operand.func 13), args := #[Go.Operand.tmp 59, Go.Operand.const (Go.Value.int Go.IntKind.i64 100)], argTypes := #[23, 3] }) (g := none) 4 13 ?a4 rfl (by kernel_rfl) (by kernel_rfl) ?y4 ?_
        case y4 => intro o ho; simp only [execOp, ho]; go_simp; try rfl
        refine (peek_ex w _ (wb.heap.size + 1) wb.heap.size 30 l2 h2 h2 100 HB9.out HD9.out T2.out L2.out).mono ?_
        rintro e w10 ⟨rfl, HO10, HD10, HX10, HB10⟩
        have HA10 := Sl.mk (HA9.out.below HX10.out)
        have HS10 : Below w.heap.size w w10 ∧ RowB w10 wr.heap.size h1 := ⟨HB10.out, HS9.2.below HX10.out⟩
        have HSY : (Below w.heap.size w w10 ∧ RowB w10 wr.heap.size h1) ∧ RowB w10 w9.heap.size h2 := ⟨HS10, HO10.out⟩
        refine ⟨_, rfl, HS10, ?_⟩
        refine heldMore (S' := fun W => (Below w.heap.size w W ∧ RowB W wr.heap.size h1) ∧ RowB W w9.heap.size h2) (fun _ h => h.1) _ _ _ _ ?_
        simp only [Act.put, List.setIfInBounds_toArray, List.set_cons_zero, List.set_cons_succ]
        refine heldTake (d := some 61) (op := Go.Op.convert 33 9 (Go.Operand.tmp 60)) (g := none) 5 ?v5 rfl (by kernel_rfl) (by kernel_rfl) (by kernel_rfl) (by kernel_rfl) ?y5 HSY ?_
        case y5 => intro o ho w hS; have hcv : (convert 33 9 (.slice (some ⟨w9.heap.size, 0, none⟩) l2 l2)).run Try.prog w = .ok (.string x2) w := (RowB.strs L2.out w hS.2).trans (by rw [X2.out]); simp only [execOp, ho]; go_simp; try rfl
        simp only [Act.put, List.setIfInBounds_toArray, List.set_cons_zero, List.set_cons_succ]
        refine heldTake (d := some 10) (op := Go.Op.assign (Go.Operand.tmp 58)) (g := none) 6 ?v6 rfl (by kernel_rfl) (by kernel_rfl) (by kernel_rfl) (by kernel_rfl) ?y6 HSY ?_
        case y6 => intro o ho w _; simp only [execOp, ho]; go_simp; try rfl
        simp only [Act.put, List.setIfInBounds_toArray, List.set_cons_zero, List.set_cons_succ]
        refine heldTake (d := some 11) (op := Go.Op.assign (Go.Operand.tmp 61)) (g := none) 7 ?v7 rfl (by kernel_rfl) (by kernel_rfl) (by kernel_rfl) (by kernel_rfl) ?y7 HSY ?_
        case y7 => intro o ho w _; simp only [execOp, ho]; go_simp; try rfl
        simp only [Act.put, List.setIfInBounds_toArray, List.set_cons_zero, List.set_cons_succ]
        refine wpAnyH_done (by kernel_rfl) ?_ _
        refine NoPanic.normal ?_
        by_cases he : k % 2 = 0
        · have qe : ((k : Int) % 2 == 0) = true := by simp; omega
          have hcl := HCW.out w10 HB10.out
          obtain ⟨m, hm⟩ : ∃ m, min (bytes z).length (20 - h1.length) = m := ⟨_, rfl⟩
          have HM := Sl.mk hm
          clear hm
          obtain ⟨c3, w13, hc3, HV3, HX3⟩ := conv_str z w10
          have HB3 : Sl (Below w.heap.size w w13) := ⟨HB10.out.trans (HX3.out.mono HB10.out.size)⟩
          have HA3 := Sl.mk (HA10.out.below HX3.out)
          have HD3 := Sl.mk (HD10.out.below HX3.out)
          have lt10 := HD10.out.blt
          go_wp2_with fail
          refine (put_ex w _ (w.heap.size + 1) w.heap.size 20 m h1 (bytes z) _ HB3.out (by omega) (by omega) HA3.out (HV3.out.offs HA10.out.plt) (bytes_small z) HZL.out HM.out).mono ?_
          rintro e w14 ⟨rfl, HA4, HX4, HB4⟩
          have HD4 := Sl.mk (HD3.out.two HX4.out (by omega) (by omega) (by omega) (by omega))
          clear hc3 hcl
          go_wp2_with fail
          refine (peek_ex w _ (wb.heap.size + 1) wb.heap.size 30 l2 h2 h2 100 HB4.out HD4.out T2.out L2.out).mono ?_
          rintro e w15 ⟨rfl, HO5, HD5, HX5, HB5⟩
          have HA5 := Sl.mk (HA4.out.below HX5.out)
          have hcv := HO5.out.str L2.out
          rw [X2.out] at hcv
          have qs : (x2.toList == x2.toList) = true := by simp
          by_cases h5 : k % 5 = 4
          · have q5 : ((k : Int) % 5 == 4) = true := by simp; omega
            go_wp2_with fail
            refine (take_ex w _ (w.heap.size + 1) w.heap.size 20 _ _ _ _ _ HB5.out (by omega) (by omega) HA5.out rfl rfl rfl).mono ?_
            rintro e w16 ⟨rfl, HO6, HA6, HX6, HB6⟩
            have HD6 := Sl.mk (HD5.out.two HX6.out (by omega) (by omega) (by omega) (by omega))
            clear hcv
            go_wp2_with fail
            refine (take_ex w _ (wb.heap.size + 1) wb.heap.size 30 _ _ _ _ _ HB6.out (by omega) (by omega) HD6.out rfl rfl rfl).mono ?_
            rintro e w17 ⟨rfl, HO7, HD7, HX7, HB7⟩
            have HA7 := Sl.mk (HA6.out.two HX7.out (by omega) (by omega) (by omega) (by omega))
            obtain ⟨g1, hg1⟩ : ∃ g1, g1 = (h1 ++ (bytes z).take m).drop (n : Int).toNat := ⟨_, rfl⟩
            obtain ⟨g2, hg2⟩ : ∃ g2, g2 = (h2).drop (n : Int).toNat := ⟨_, rfl⟩
            rw [← hg1] at HA7
            rw [← hg2] at HD7
            obtain ⟨o, ho⟩ : ∃ o, g1.take (n : Int).toNat = o := ⟨_, rfl⟩
            obtain ⟨ko, hko⟩ : ∃ ko, o.length = ko := ⟨_, rfl⟩
            obtain ⟨xo, hxo⟩ : ∃ xo, strOf o = xo := ⟨_, rfl⟩
            obtain ⟨k1, hk1⟩ : ∃ k1, g1.length = k1 := ⟨_, rfl⟩
            obtain ⟨k2, hk2⟩ : ∃ k2, g2.length = k2 := ⟨_, rfl⟩
            have T1 : Sl (g1.take (100 : Int).toNat = g1) := ⟨List.take_of_length_le (by have := HA7.out.le; show _ ≤ 100; omega)⟩
            have T2 : Sl (g2.take (100 : Int).toNat = g2) := ⟨List.take_of_length_le (by have := HD7.out.le; show _ ≤ 100; omega)⟩
            have HO := Sl.mk ho
            have KO := Sl.mk hko
            have XO := Sl.mk hxo
            have K1 := Sl.mk hk1
            have K2 := Sl.mk hk2
            have hk1b : k1 ≤ 20 := by rw [← hk1]; exact HA7.out.le
            have hk2b : k2 ≤ 30 := by rw [← hk2]; exact HD7.out.le
            clear hg1 hg2 ho hko hxo hk1 hk2
            go_wp2
            have qx : (xo.toList == xo.toList) = true := by simp
            have qy : ((k1 : Int) != (k1 : Int)) = false := by simp
            have qz : ((k2 : Int) != (k2 : Int)) = false := by simp
            have hb8 : Below w.heap.size w w17.drew := HB7.out.drew
            have HA8 : Sl (RingH w17.drew (w.heap.size + 1) w.heap.size 20 g1) := ⟨HA7.out.below (Below.refl _ _).drew⟩
            have HD8 : Sl (RingH w17.drew (wb.heap.size + 1) wb.heap.size 30 g2) := ⟨HD7.out.below (Below.refl _ _).drew⟩
            have z0 : IntKind.i64.wrap (n : Int) = (n : Int) := ZN.out
            refine wp_region_noPanic ?_
            refine wp_region_held (S := fun W => Below w.heap.size w W) (by kernel_rfl) ?_
            change wpAnyH _ _ _ _ _ _ _ _ w17.drew
            refine heldTake (d := some 100) (op := Go.Op.move (Go.Operand.tmp 5)) (g := none) 0 ?v0t rfl (by kernel_rfl) (by kernel_rfl) (by kernel_rfl) (by kernel_rfl) ?y0t hb8 ?_
            case y0t => intro o ho w _; simp only [execOp, ho]; go_simp; try rfl
            simp only [Act.put, List.setIfInBounds_toArray, List.set_cons_zero, List.set_cons_succ]
            refine heldTake (d := some 101) (op := Go.Op.move (Go.Operand.tmp 1)) (g := none) 1 ?v1t rfl (by kernel_rfl) (by kernel_rfl) (by kernel_rfl) (by kernel_rfl) ?y1t hb8 ?_
            case y1t => intro o ho w _; simp only [execOp, ho]; go_simp; try rfl
            simp only [Act.put, List.setIfInBounds_toArray, List.set_cons_zero, List.set_cons_succ]
            refine heldTake (d := some 102) (op := Go.Op.convert 5 3 (Go.Operand.tmp 101)) (g := none) 2 ?v2t rfl (by kernel_rfl) (by kernel_rfl) (by kernel_rfl) (by kernel_rfl) ?y2t hb8 ?_
            case y2t => intro o ho w _; simp only [execOp, ho]; go_simp; try rfl
            simp only [Act.put, List.setIfInBounds_toArray, List.set_cons_zero, List.set_cons_succ]
            refine heldTake (d := some 105) (op := Go.Op.move (Go.Operand.tmp 5)) (g := none) 5 ?v5t rfl (by kernel_rfl) (by kernel_rfl) (by kernel_rfl) (by kernel_rfl) ?y5t hb8 ?_
            case y5t => intro o ho w _; simp only [execOp, ho]; go_simp; try rfl
            simp only [Act.put, List.setIfInBounds_toArray, List.set_cons_zero, List.set_cons_succ]
            refine heldTake (d := some 106) (op := Go.Op.move (Go.Operand.tmp 1)) (g := none) 6 ?v6t rfl (by kernel_rfl) (by kernel_rfl) (by kernel_rfl) (by kernel_rfl) ?y6t hb8 ?_
            case y6t => intro o ho w _; simp only [execOp, ho]; go_simp; try rfl
            simp only [Act.put, List.setIfInBounds_toArray, List.set_cons_zero, List.set_cons_succ]
            refine heldTake (d := some 107) (op := Go.Op.convert 5 3 (Go.Operand.tmp 106)) (g := none) 7 ?v7t rfl (by kernel_rfl) (by kernel_rfl) (by kernel_rfl) (by kernel_rfl) ?y7t hb8 ?_
            case y7t => intro o ho w _; simp only [execOp, ho]; go_simp; try rfl
            simp only [Act.put, List.setIfInBounds_toArray, List.set_cons_zero, List.set_cons_succ]
            refine heldCall (d := some 103) (op := Go.Op.call { callee := Go.Callee.value (Go.Operand.func 13), args := #[Go.Operand.tmp 100, Go.Operand.tmp 102], argTypes := #[23, 3] }) (g := none) 3 13 ?a3t rfl (by kernel_rfl) (by kernel_rfl) ?y3t ?_
            case y3t => intro o ho; simp only [execOp, ho]; go_simp; try rfl
            refine (peek_ex w _ (w.heap.size + 1) w.heap.size 20 ko g1 o _ hb8 HA8.out HO.out KO.out).mono ?_
            rintro e w9 ⟨rfl, HO9, HA9, HX9, HB9⟩
            have HD9 := Sl.mk (HD8.out.below HX9.out)
            have HS9 : Below w.heap.size w w9 ∧ RowB w9 w17.heap.size o := ⟨HB9.out, HO9.out⟩
            refine ⟨_, rfl, HS9.1, ?_⟩
            refine heldMore (S' := fun W => Below w.heap.size w W ∧ RowB W w17.heap.size o) (fun _ h => h.1) _ _ _ _ ?_
            simp only [Act.put, List.setIfInBounds_toArray, List.set_cons_zero, List.set_cons_succ]
            refine heldTake (d := some 104) (op := Go.Op.convert 33 9 (Go.Operand.tmp 103)) (g := none) 4 ?v4t rfl (by kernel_rfl) (by kernel_rfl) (by kernel_rfl) (by kernel_rfl) ?y4t HS9 ?_
            case y4t => intro o ho w hS; have hcv : (convert 33 9 (.slice (some ⟨w17.heap.size, 0, none⟩) ko ko)).run Try.prog w = .ok (.string xo) w := (RowB.strs KO.out w hS.2).trans (by rw [XO.out]); simp only [execOp, ho]; go_simp; try rfl
            simp only [Act.put, List.setIfInBounds_toArray, List.set_cons_zero, List.set_cons_succ]
            refine heldCall (d := some 108) (op := Go.Op.call { callee := Go.Callee.value (Go.Operand.func 13), args := #[Go.Operand.tmp 105, Go.Operand.tmp 107], argTypes := #[23, 3] }) (g := none) 8 13 ?a8t rfl (by kernel_rfl) (by kernel_rfl) ?y8t ?_
            case y8t => intro o ho; simp only [execOp, ho]; go_simp; try rfl
            refine (peek_ex w _ (w.heap.size + 1) w.heap.size 20 ko g1 o _ HB9.out HA9.out HO.out KO.out).mono ?_
            rintro e w10 ⟨rfl, HO10, HA10, HX10, HB10⟩
            have HD10 := Sl.mk (HD9.out.below HX10.out)
            have HS10 : Below w.heap.size w w10 ∧ RowB w10 w17.heap.size o := ⟨HB10.out, HS9.2.below HX10.out⟩
            have HSY : (Below w.heap.size w w10 ∧ RowB w10 w17.heap.size o) ∧ RowB w10 w9.heap.size o := ⟨HS10, HO10.out⟩
            refine ⟨_, rfl, HS10, ?_⟩
            refine heldMore (S' := fun W => (Below w.heap.size w W ∧ RowB W w17.heap.size o) ∧ RowB W w9.heap.size o) (fun _ h => h.1) _ _ _ _ ?_
            simp only [Act.put, List.setIfInBounds_toArray, List.set_cons_zero, List.set_cons_succ]
            refine heldTake (d := some 109) (op := Go.Op.convert 33 9 (Go.Operand.tmp 108)) (g := none) 9 ?v9t rfl (by kernel_rfl) (by kernel_rfl) (by kernel_rfl) (by kernel_rfl) ?y9t HSY ?_
            case y9t => intro o ho w hS; have hcv : (convert 33 9 (.slice (some ⟨w9.heap.size, 0, none⟩) ko ko)).run Try.prog w = .ok (.string xo) w := (RowB.strs KO.out w hS.2).trans (by rw [XO.out]); simp only [execOp, ho]; go_simp; try rfl
            simp only [Act.put, List.setIfInBounds_toArray, List.set_cons_zero, List.set_cons_succ]
            refine heldTake (d := some 110) (op := Go.Op.binOp Go.BinOp.neq 9 (Go.Operand.tmp 104) (Go.Operand.tmp 109) 9) (g := none) 10 ?v10t rfl (by kernel_rfl) (by kernel_rfl) (by kernel_rfl) (by kernel_rfl) ?y10t HSY ?_
            case y10t => intro o ho w _; simp only [execOp, ho]; go_simp; try rfl
            simp only [Act.put, List.setIfInBounds_toArray, List.set_cons_zero, List.set_cons_succ]
            refine heldTake (d := some 111) (op := Go.Op.move (Go.Operand.tmp 110)) (g := none) 11 ?v11t rfl (by kernel_rfl) (by kernel_rfl) (by kernel_rfl) (by kernel_rfl) ?y11t HSY ?_
            case y11t => intro o ho w _; simp only [execOp, ho]; go_simp; try rfl
            simp only [Act.put, List.setIfInBounds_toArray, List.set_cons_zero, List.set_cons_succ]
            refine heldTake (d := some 112) (op := Go.Op.move (Go.Operand.tmp 5)) (g := some (11, false)) 12 ?v12t rfl (by kernel_rfl) (by kernel_rfl) (by kernel_rfl) (by kernel_rfl) ?y12t HSY ?_
            case y12t => intro o ho w _; simp only [execOp, ho]; go_simp; try rfl
            simp only [Act.put, List.setIfInBounds_toArray, List.set_cons_zero, List.set_cons_succ]
            refine heldTake (d := some 115) (op := Go.Op.move (Go.Operand.tmp 5)) (g := some (11, false)) 15 ?v15t rfl (by kernel_rfl) (by kernel_rfl) (by kernel_rfl) (by kernel_rfl) ?y15t HSY ?_
            case y15t => intro o ho w _; simp only [execOp, ho]; go_simp; try rfl
            simp only [Act.put, List.setIfInBounds_toArray, List.set_cons_zero, List.set_cons_succ]
            refine heldCall (d := some 113) (op := Go.Op.call { callee := Go.Callee.value (Go.Operand.func 13), args := #[Go.Operand.tmp 112, Go.Operand.const (Go.Value.int Go.IntKind.i64 100)], argTypes := #[23, 3] }) (g := some (11, false)) 13 13 ?a13t rfl (by kernel_rfl) (by kernel_rfl) ?y13t ?_
            case y13t => intro o ho; simp only [execOp, ho]; go_simp; try rfl
            refine (peek_ex w _ (w.heap.size + 1) w.heap.size 20 k1 g1 g1 100 HB10.out HA10.out T1.out K1.out).mono ?_
            rintro e w11 ⟨rfl, HO11, HA11, HX11, HB11⟩
            have HD11 := Sl.mk (HD10.out.below HX11.out)
            have HS11 : (Below w.heap.size w w11 ∧ RowB w11 w17.heap.size o) ∧ RowB w11 w9.heap.size o := ⟨⟨HB11.out, HSY.1.2.below HX11.out⟩, HSY.2.below HX11.out⟩
            refine ⟨_, rfl, HS11, ?_⟩
            simp only [Act.put, List.setIfInBounds_toArray, List.set_cons_zero, List.set_cons_succ]
            refine heldTake (d := some 114) (op := Go.Op.call { callee := Go.Callee.builtin Go.Builtin.len, args := #[Go.Operand.tmp 113], argTypes := #[33] }) (g := some (11, false)) 14 ?v14t rfl (by kernel_rfl) (by kernel_rfl) (by kernel_rfl) (by kernel_rfl) ?y14t HS11 ?_
            case y14t => intro o ho w _; simp only [execOp, ho]; go_simp; try rfl
            simp only [Act.put, List.setIfInBounds_toArray, List.set_cons_zero, List.set_cons_succ]
            refine heldCall (d := some 116) (op := Go.Op.call { callee := Go.Callee.value (Go.Operand.func 17), args := #[Go.Operand.tmp 115], argTypes := #[23] }) (g := some (11, false)) 16 17 ?a16t rfl (by kernel_rfl) (by kernel_rfl) ?y16t ?_
            case y16t => intro o ho; simp only [execOp, ho]; go_simp; try rfl
            refine (len_ex _ (w.heap.size + 1) w.heap.size 20 k1 g1 HA11.out K1.out).mono ?_
            rintro e w11' ⟨rfl, rfl⟩
            refine ⟨_, rfl, HS11, ?_⟩
            simp only [Act.put, List.setIfInBounds_toArray, List.set_cons_zero, List.set_cons_succ]
            refine heldTake (d := some 117) (op := Go.Op.binOp Go.BinOp.neq 3 (Go.Operand.tmp 114) (Go.Operand.tmp 116) 3) (g := some (11, false)) 17 ?v17t rfl (by kernel_rfl) (by kernel_rfl) (by kernel_rfl) (by kernel_rfl) ?y17t HS11 ?_
            case y17t => intro o ho w _; simp only [execOp, ho]; go_simp; try rfl
            simp only [Act.put, List.setIfInBounds_toArray, List.set_cons_zero, List.set_cons_succ]
            refine heldTake (d := some 118) (op := Go.Op.pick (Go.Operand.tmp 111) (Go.Operand.const (Go.Value.bool true)) (Go.Operand.tmp 117)) (g := none) 18 ?v18t rfl (by kernel_rfl) (by kernel_rfl) (by kernel_rfl) (by kernel_rfl) ?y18t HS11 ?_
            case y18t => intro o ho w _; simp only [execOp, ho]; go_simp; try rfl
            simp only [Act.put, List.setIfInBounds_toArray, List.set_cons_zero, List.set_cons_succ]
            refine heldTake (d := some 119) (op := Go.Op.move (Go.Operand.tmp 118)) (g := none) 19 ?v19t rfl (by kernel_rfl) (by kernel_rfl) (by kernel_rfl) (by kernel_rfl) ?y19t HS11 ?_
            case y19t => intro o ho w _; simp only [execOp, ho]; go_simp; try rfl
            simp only [Act.put, List.setIfInBounds_toArray, List.set_cons_zero, List.set_cons_succ]
            refine heldTake (d := some 120) (op := Go.Op.move (Go.Operand.tmp 7)) (g := some (19, false)) 20 ?v20t rfl (by kernel_rfl) (by kernel_rfl) (by kernel_rfl) (by kernel_rfl) ?y20t HS11 ?_
            case y20t => intro o ho w _; simp only [execOp, ho]; go_simp; try rfl
            simp only [Act.put, List.setIfInBounds_toArray, List.set_cons_zero, List.set_cons_succ]
            refine heldTake (d := some 123) (op := Go.Op.move (Go.Operand.tmp 7)) (g := some (19, false)) 23 ?v23t rfl (by kernel_rfl) (by kernel_rfl) (by kernel_rfl) (by kernel_rfl) ?y23t HS11 ?_
            case y23t => intro o ho w _; simp only [execOp, ho]; go_simp; try rfl
            simp only [Act.put, List.setIfInBounds_toArray, List.set_cons_zero, List.set_cons_succ]
            refine heldCall (d := some 121) (op := Go.Op.call { callee := Go.Callee.value (Go.Operand.func 13), args := #[Go.Operand.tmp 120, Go.Operand.const (Go.Value.int Go.IntKind.i64 100)], argTypes := #[23, 3] }) (g := some (19, false)) 21 13 ?a21t rfl (by kernel_rfl) (by kernel_rfl) ?y21t ?_
            case y21t => intro o ho; simp only [execOp, ho]; go_simp; try rfl
            refine (peek_ex w _ (wb.heap.size + 1) wb.heap.size 30 k2 g2 g2 100 HB11.out HD11.out T2.out K2.out).mono ?_
            rintro e w12 ⟨rfl, HO12, HD12, HX12, HB12⟩
            have HA12 := Sl.mk (HA11.out.below HX12.out)
            have HS12 : (Below w.heap.size w w12 ∧ RowB w12 w17.heap.size o) ∧ RowB w12 w9.heap.size o := ⟨⟨HB12.out, HS11.1.2.below HX12.out⟩, HS11.2.below HX12.out⟩
            refine ⟨_, rfl, HS12, ?_⟩
            simp only [Act.put, List.setIfInBounds_toArray, List.set_cons_zero, List.set_cons_succ]
            refine heldTake (d := some 122) (op := Go.Op.call { callee := Go.Callee.builtin Go.Builtin.len, args := #[Go.Operand.tmp 121], argTypes := #[33] }) (g := some (19, false)) 22 ?v22t rfl (by kernel_rfl) (by kernel_rfl) (by kernel_rfl) (by kernel_rfl) ?y22t HS12 ?_
            case y22t => intro o ho w _; simp only [execOp, ho]; go_simp; try rfl
            simp only [Act.put, List.setIfInBounds_toArray, List.set_cons_zero, List.set_cons_succ]
            refine heldCall (d := some 124) (op := Go.Op.call { callee := Go.Callee.value (Go.Operand.func 17), args := #[Go.Operand.tmp 123], argTypes := #[23] }) (g := some (19, false)) 24 17 ?a24t rfl (by kernel_rfl) (by kernel_rfl) ?y24t ?_
            case y24t => intro o ho; simp only [execOp, ho]; go_simp; try rfl
            refine (len_ex _ (wb.heap.size + 1) wb.heap.size 30 k2 g2 HD12.out K2.out).mono ?_
            rintro e w12' ⟨rfl, rfl⟩
            refine ⟨_, rfl, HS12, ?_⟩
            simp only [Act.put, List.setIfInBounds_toArray, List.set_cons_zero, List.set_cons_succ]
            refine heldTake (d := some 125) (op := Go.Op.binOp Go.BinOp.neq 3 (Go.Operand.tmp 122) (Go.Operand.tmp 124) 3) (g := some (19, false)) 25 ?v25t rfl (by kernel_rfl) (by kernel_rfl) (by kernel_rfl) (by kernel_rfl) ?y25t HS12 ?_
            case y25t => intro o ho w _; simp only [execOp, ho]; go_simp; try rfl
            simp only [Act.put, List.setIfInBounds_toArray, List.set_cons_zero, List.set_cons_succ]
            refine heldTake (d := some 126) (op := Go.Op.pick (Go.Operand.tmp 119) (Go.Operand.const (Go.Value.bool true)) (Go.Operand.tmp 125)) (g := none) 26 ?v26t rfl (by kernel_rfl) (by kernel_rfl) (by kernel_rfl) (by kernel_rfl) ?y26t HS12 ?_
            case y26t => intro o ho w _; simp only [execOp, ho]; go_simp; try rfl
            simp only [Act.put, List.setIfInBounds_toArray, List.set_cons_zero, List.set_cons_succ]
            refine wpAnyH_done (by kernel_rfl) ?_ _
            refine NoPanic.normal ?_
            clear z0 qx qy qz
            have HF : Sl (TW w wb w12) := ⟨g1, g2, HA12.out, HD12.out, HB12.out⟩
            go_wp2
            go_roundw
            case rel => exact ⟨k + 1, by omega, by go_num, HF.out⟩
            case measure => simp [intOf]; omega
          · have q5 : ((k : Int) % 5 == 4) = false := beq_eq_false_iff_ne.2 (by omega)
            obtain ⟨g1, hg1⟩ : ∃ g1, g1 = h1 ++ (bytes z).take m := ⟨_, rfl⟩
            obtain ⟨g2, hg2⟩ : ∃ g2, g2 = h2 := ⟨_, rfl⟩
            rw [← hg1] at HA5
            rw [← hg2] at HD5
            obtain ⟨o, ho⟩ : ∃ o, g1.take (n : Int).toNat = o := ⟨_, rfl⟩
            obtain ⟨ko, hko⟩ : ∃ ko, o.length = ko := ⟨_, rfl⟩
            obtain ⟨xo, hxo⟩ : ∃ xo, strOf o = xo := ⟨_, rfl⟩
            obtain ⟨k1, hk1⟩ : ∃ k1, g1.length = k1 := ⟨_, rfl⟩
            obtain ⟨k2, hk2⟩ : ∃ k2, g2.length = k2 := ⟨_, rfl⟩
            have T1 : Sl (g1.take (100 : Int).toNat = g1) := ⟨List.take_of_length_le (by have := HA5.out.le; show _ ≤ 100; omega)⟩
            have T2 : Sl (g2.take (100 : Int).toNat = g2) := ⟨List.take_of_length_le (by have := HD5.out.le; show _ ≤ 100; omega)⟩
            have HO := Sl.mk ho
            have KO := Sl.mk hko
            have XO := Sl.mk hxo
            have K1 := Sl.mk hk1
            have K2 := Sl.mk hk2
            have hk1b : k1 ≤ 20 := by rw [← hk1]; exact HA5.out.le
            have hk2b : k2 ≤ 30 := by rw [← hk2]; exact HD5.out.le
            clear hg1 hg2 ho hko hxo hk1 hk2
            go_wp2
            have qx : (xo.toList == xo.toList) = true := by simp
            have qy : ((k1 : Int) != (k1 : Int)) = false := by simp
            have qz : ((k2 : Int) != (k2 : Int)) = false := by simp
            have hb8 : Below w.heap.size w w15.drew := HB5.out.drew
            have HA8 : Sl (RingH w15.drew (w.heap.size + 1) w.heap.size 20 g1) := ⟨HA5.out.below (Below.refl _ _).drew⟩
            have HD8 : Sl (RingH w15.drew (wb.heap.size + 1) wb.heap.size 30 g2) := ⟨HD5.out.below (Below.refl _ _).drew⟩
            have z0 : IntKind.i64.wrap (n : Int) = (n : Int) := ZN.out
            refine wp_region_noPanic ?_
            refine wp_region_held (S := fun W => Below w.heap.size w W) (by kernel_rfl) ?_
            change wpAnyH _ _ _ _ _ _ _ _ w15.drew
            refine heldTake (d := some 100) (op := Go.Op.move (Go.Operand.tmp 5)) (g := none) 0 ?v0p rfl (by kernel_rfl) (by kernel_rfl) (by kernel_rfl) (by kernel_rfl) ?y0p hb8 ?_
            case y0p => intro o ho w _; simp only [execOp, ho]; go_simp; try rfl
            simp only [Act.put, List.setIfInBounds_toArray, List.set_cons_zero, List.set_cons_succ]
            refine heldTake (d := some 101) (op := Go.Op.move (Go.Operand.tmp 1)) (g := none) 1 ?v1p rfl (by kernel_rfl) (by kernel_rfl) (by kernel_rfl) (by kernel_rfl) ?y1p hb8 ?_
            case y1p => intro o ho w _; simp only [execOp, ho]; go_simp; try rfl
            simp only [Act.put, List.setIfInBounds_toArray, List.set_cons_zero, List.set_cons_succ]
            refine heldTake (d := some 102) (op := Go.Op.convert 5 3 (Go.Operand.tmp 101)) (g := none) 2 ?v2p rfl (by kernel_rfl) (by kernel_rfl) (by kernel_rfl) (by kernel_rfl) ?y2p hb8 ?_
            case y2p => intro o ho w _; simp only [execOp, ho]; go_simp; try rfl
            simp only [Act.put, List.setIfInBounds_toArray, List.set_cons_zero, List.set_cons_succ]
            refine heldTake (d := some 105) (op := Go.Op.move (Go.Operand.tmp 5)) (g := none) 5 ?v5p rfl (by kernel_rfl) (by kernel_rfl) (by kernel_rfl) (by kernel_rfl) ?y5p hb8 ?_
            case y5p => intro o ho w _; simp only [execOp, ho]; go_simp; try rfl
            simp only [Act.put, List.setIfInBounds_toArray, List.set_cons_zero, List.set_cons_succ]
            refine heldTake (d := some 106) (op := Go.Op.move (Go.Operand.tmp 1)) (g := none) 6 ?v6p rfl (by kernel_rfl) (by kernel_rfl) (by kernel_rfl) (by kernel_rfl) ?y6p hb8 ?_
            case y6p => intro o ho w _; simp only [execOp, ho]; go_simp; try rfl
            simp only [Act.put, List.setIfInBounds_toArray, List.set_cons_zero, List.set_cons_succ]
            refine heldTake (d := some 107) (op := Go.Op.convert 5 3 (Go.Operand.tmp 106)) (g := none) 7 ?v7p rfl (by kernel_rfl) (by kernel_rfl) (by kernel_rfl) (by kernel_rfl) ?y7p hb8 ?_
            case y7p => intro o ho w _; simp only [execOp, ho]; go_simp; try rfl
            simp only [Act.put, List.setIfInBounds_toArray, List.set_cons_zero, List.set_cons_succ]
            refine heldCall (d := some 103) (op := Go.Op.call { callee := Go.Callee.value (Go.Operand.func 13), args := #[Go.Operand.tmp 100, Go.Operand.tmp 102], argTypes := #[23, 3] }) (g := none) 3 13 ?a3p rfl (by kernel_rfl) (by kernel_rfl) ?y3p ?_
            case y3p => intro o ho; simp only [execOp, ho]; go_simp; try rfl
            refine (peek_ex w _ (w.heap.size + 1) w.heap.size 20 ko g1 o _ hb8 HA8.out HO.out KO.out).mono ?_
            rintro e w9 ⟨rfl, HO9, HA9, HX9, HB9⟩
            have HD9 := Sl.mk (HD8.out.below HX9.out)
            have HS9 : Below w.heap.size w w9 ∧ RowB w9 w15.heap.size o := ⟨HB9.out, HO9.out⟩
            refine ⟨_, rfl, HS9.1, ?_⟩
            refine heldMore (S' := fun W => Below w.heap.size w W ∧ RowB W w15.heap.size o) (fun _ h => h.1) _ _ _ _ ?_
            simp only [Act.put, List.setIfInBounds_toArray, List.set_cons_zero, List.set_cons_succ]
            refine heldTake (d := some 104) (op := Go.Op.convert 33 9 (Go.Operand.tmp 103)) (g := none) 4 ?v4p rfl (by kernel_rfl) (by kernel_rfl) (by kernel_rfl) (by kernel_rfl) ?y4p HS9 ?_
            case y4p => intro o ho w hS; have hcv : (convert 33 9 (.slice (some ⟨w15.heap.size, 0, none⟩) ko ko)).run Try.prog w = .ok (.string xo) w := (RowB.strs KO.out w hS.2).trans (by rw [XO.out]); simp only [execOp, ho]; go_simp; try rfl
            simp only [Act.put, List.setIfInBounds_toArray, List.set_cons_zero, List.set_cons_succ]
            refine heldCall (d := some 108) (op := Go.Op.call { callee := Go.Callee.value (Go.Operand.func 13), args := #[Go.Operand.tmp 105, Go.Operand.tmp 107], argTypes := #[23, 3] }) (g := none) 8 13 ?a8p rfl (by kernel_rfl) (by kernel_rfl) ?y8p ?_
            case y8p => intro o ho; simp only [execOp, ho]; go_simp; try rfl
            refine (peek_ex w _ (w.heap.size + 1) w.heap.size 20 ko g1 o _ HB9.out HA9.out HO.out KO.out).mono ?_
            rintro e w10 ⟨rfl, HO10, HA10, HX10, HB10⟩
            have HD10 := Sl.mk (HD9.out.below HX10.out)
            have HS10 : Below w.heap.size w w10 ∧ RowB w10 w15.heap.size o := ⟨HB10.out, HS9.2.below HX10.out⟩
            have HSY : (Below w.heap.size w w10 ∧ RowB w10 w15.heap.size o) ∧ RowB w10 w9.heap.size o := ⟨HS10, HO10.out⟩
            refine ⟨_, rfl, HS10, ?_⟩
            refine heldMore (S' := fun W => (Below w.heap.size w W ∧ RowB W w15.heap.size o) ∧ RowB W w9.heap.size o) (fun _ h => h.1) _ _ _ _ ?_
            simp only [Act.put, List.setIfInBounds_toArray, List.set_cons_zero, List.set_cons_succ]
            refine heldTake (d := some 109) (op := Go.Op.convert 33 9 (Go.Operand.tmp 108)) (g := none) 9 ?v9p rfl (by kernel_rfl) (by kernel_rfl) (by kernel_rfl) (by kernel_rfl) ?y9p HSY ?_
            case y9p => intro o ho w hS; have hcv : (convert 33 9 (.slice (some ⟨w9.heap.size, 0, none⟩) ko ko)).run Try.prog w = .ok (.string xo) w := (RowB.strs KO.out w hS.2).trans (by rw [XO.out]); simp only [execOp, ho]; go_simp; try rfl
            simp only [Act.put, List.setIfInBounds_toArray, List.set_cons_zero, List.set_cons_succ]
            refine heldTake (d := some 110) (op := Go.Op.binOp Go.BinOp.neq 9 (Go.Operand.tmp 104) (Go.Operand.tmp 109) 9) (g := none) 10 ?v10p rfl (by kernel_rfl) (by kernel_rfl) (by kernel_rfl) (by kernel_rfl) ?y10p HSY ?_
            case y10p => intro o ho w _; simp only [execOp, ho]; go_simp; try rfl
            simp only [Act.put, List.setIfInBounds_toArray, List.set_cons_zero, List.set_cons_succ]
            refine heldTake (d := some 111) (op := Go.Op.move (Go.Operand.tmp 110)) (g := none) 11 ?v11p rfl (by kernel_rfl) (by kernel_rfl) (by kernel_rfl) (by kernel_rfl) ?y11p HSY ?_
            case y11p => intro o ho w _; simp only [execOp, ho]; go_simp; try rfl
            simp only [Act.put, List.setIfInBounds_toArray, List.set_cons_zero, List.set_cons_succ]
            refine heldTake (d := some 112) (op := Go.Op.move (Go.Operand.tmp 5)) (g := some (11, false)) 12 ?v12p rfl (by kernel_rfl) (by kernel_rfl) (by kernel_rfl) (by kernel_rfl) ?y12p HSY ?_
            case y12p => intro o ho w _; simp only [execOp, ho]; go_simp; try rfl
            simp only [Act.put, List.setIfInBounds_toArray, List.set_cons_zero, List.set_cons_succ]
            refine heldTake (d := some 115) (op := Go.Op.move (Go.Operand.tmp 5)) (g := some (11, false)) 15 ?v15p rfl (by kernel_rfl) (by kernel_rfl) (by kernel_rfl) (by kernel_rfl) ?y15p HSY ?_
            case y15p => intro o ho w _; simp only [execOp, ho]; go_simp; try rfl
            simp only [Act.put, List.setIfInBounds_toArray, List.set_cons_zero, List.set_cons_succ]
            refine heldCall (d := some 113) (op := Go.Op.call { callee := Go.Callee.value (Go.Operand.func 13), args := #[Go.Operand.tmp 112, Go.Operand.const (Go.Value.int Go.IntKind.i64 100)], argTypes := #[23, 3] }) (g := some (11, false)) 13 13 ?a13p rfl (by kernel_rfl) (by kernel_rfl) ?y13p ?_
            case y13p => intro o ho; simp only [execOp, ho]; go_simp; try rfl
            refine (peek_ex w _ (w.heap.size + 1) w.heap.size 20 k1 g1 g1 100 HB10.out HA10.out T1.out K1.out).mono ?_
            rintro e w11 ⟨rfl, HO11, HA11, HX11, HB11⟩
            have HD11 := Sl.mk (HD10.out.below HX11.out)
            have HS11 : (Below w.heap.size w w11 ∧ RowB w11 w15.heap.size o) ∧ RowB w11 w9.heap.size o := ⟨⟨HB11.out, HSY.1.2.below HX11.out⟩, HSY.2.below HX11.out⟩
            refine ⟨_, rfl, HS11, ?_⟩
            simp only [Act.put, List.setIfInBounds_toArray, List.set_cons_zero, List.set_cons_succ]
            refine heldTake (d := some 114) (op := Go.Op.call { callee := Go.Callee.builtin Go.Builtin.len, args := #[Go.Operand.tmp 113], argTypes := #[33] }) (g := some (11, false)) 14 ?v14p rfl (by kernel_rfl) (by kernel_rfl) (by kernel_rfl) (by kernel_rfl) ?y14p HS11 ?_
            case y14p => intro o ho w _; simp only [execOp, ho]; go_simp; try rfl
            simp only [Act.put, List.setIfInBounds_toArray, List.set_cons_zero, List.set_cons_succ]
            refine heldCall (d := some 116) (op := Go.Op.call { callee := Go.Callee.value (Go.Operand.func 17), args := #[Go.Operand.tmp 115], argTypes := #[23] }) (g := some (11, false)) 16 17 ?a16p rfl (by kernel_rfl) (by kernel_rfl) ?y16p ?_
            case y16p => intro o ho; simp only [execOp, ho]; go_simp; try rfl
            refine (len_ex _ (w.heap.size + 1) w.heap.size 20 k1 g1 HA11.out K1.out).mono ?_
            rintro e w11' ⟨rfl, rfl⟩
            refine ⟨_, rfl, HS11, ?_⟩
            simp only [Act.put, List.setIfInBounds_toArray, List.set_cons_zero, List.set_cons_succ]
            refine heldTake (d := some 117) (op := Go.Op.binOp Go.BinOp.neq 3 (Go.Operand.tmp 114) (Go.Operand.tmp 116) 3) (g := some (11, false)) 17 ?v17p rfl (by kernel_rfl) (by kernel_rfl) (by kernel_rfl) (by kernel_rfl) ?y17p HS11 ?_
            case y17p => intro o ho w _; simp only [execOp, ho]; go_simp; try rfl
            simp only [Act.put, List.setIfInBounds_toArray, List.set_cons_zero, List.set_cons_succ]
            refine heldTake (d := some 118) (op := Go.Op.pick (Go.Operand.tmp 111) (Go.Operand.const (Go.Value.bool true)) (Go.Operand.tmp 117)) (g := none) 18 ?v18p rfl (by kernel_rfl) (by kernel_rfl) (by kernel_rfl) (by kernel_rfl) ?y18p HS11 ?_
            case y18p => intro o ho w _; simp only [execOp, ho]; go_simp; try rfl
            simp only [Act.put, List.setIfInBounds_toArray, List.set_cons_zero, List.set_cons_succ]
            refine heldTake (d := some 119) (op := Go.Op.move (Go.Operand.tmp 118)) (g := none) 19 ?v19p rfl (by kernel_rfl) (by kernel_rfl) (by kernel_rfl) (by kernel_rfl) ?y19p HS11 ?_
            case y19p => intro o ho w _; simp only [execOp, ho]; go_simp; try rfl
            simp only [Act.put, List.setIfInBounds_toArray, List.set_cons_zero, List.set_cons_succ]
            refine heldTake (d := some 120) (op := Go.Op.move (Go.Operand.tmp 7)) (g := some (19, false)) 20 ?v20p rfl (by kernel_rfl) (by kernel_rfl) (by kernel_rfl) (by kernel_rfl) ?y20p HS11 ?_
            case y20p => intro o ho w _; simp only [execOp, ho]; go_simp; try rfl
            simp only [Act.put, List.setIfInBounds_toArray, List.set_cons_zero, List.set_cons_succ]
            refine heldTake (d := some 123) (op := Go.Op.move (Go.Operand.tmp 7)) (g := some (19, false)) 23 ?v23p rfl (by kernel_rfl) (by kernel_rfl) (by kernel_rfl) (by kernel_rfl) ?y23p HS11 ?_
            case y23p => intro o ho w _; simp only [execOp, ho]; go_simp; try rfl
            simp only [Act.put, List.setIfInBounds_toArray, List.set_cons_zero, List.set_cons_succ]
            refine heldCall (d := some 121) (op := Go.Op.call { callee := Go.Callee.value (Go.Operand.func 13), args := #[Go.Operand.tmp 120, Go.Operand.const (Go.Value.int Go.IntKind.i64 100)], argTypes := #[23, 3] }) (g := some (19, false)) 21 13 ?a21p rfl (by kernel_rfl) (by kernel_rfl) ?y21p ?_
            case y21p => intro o ho; simp only [execOp, ho]; go_simp; try rfl
            refine (peek_ex w _ (wb.heap.size + 1) wb.heap.size 30 k2 g2 g2 100 HB11.out HD11.out T2.out K2.out).mono ?_
            rintro e w12 ⟨rfl, HO12, HD12, HX12, HB12⟩
            have HA12 := Sl.mk (HA11.out.below HX12.out)
            have HS12 : (Below w.heap.size w w12 ∧ RowB w12 w15.heap.size o) ∧ RowB w12 w9.heap.size o := ⟨⟨HB12.out, HS11.1.2.below HX12.out⟩, HS11.2.below HX12.out⟩
            refine ⟨_, rfl, HS12, ?_⟩
            simp only [Act.put, List.setIfInBounds_toArray, List.set_cons_zero, List.set_cons_succ]
            refine heldTake (d := some 122) (op := Go.Op.call { callee := Go.Callee.builtin Go.Builtin.len, args := #[Go.Operand.tmp 121], argTypes := #[33] }) (g := some (19, false)) 22 ?v22p rfl (by kernel_rfl) (by kernel_rfl) (by kernel_rfl) (by kernel_rfl) ?y22p HS12 ?_
            case y22p => intro o ho w _; simp only [execOp, ho]; go_simp; try rfl
            simp only [Act.put, List.setIfInBounds_toArray, List.set_cons_zero, List.set_cons_succ]
            refine heldCall (d := some 124) (op := Go.Op.call { callee := Go.Callee.value (Go.Operand.func 17), args := #[Go.Operand.tmp 123], argTypes := #[23] }) (g := some (19, false)) 24 17 ?a24p rfl (by kernel_rfl) (by kernel_rfl) ?y24p ?_
            case y24p => intro o ho; simp only [execOp, ho]; go_simp; try rfl
            refine (len_ex _ (wb.heap.size + 1) wb.heap.size 30 k2 g2 HD12.out K2.out).mono ?_
            rintro e w12' ⟨rfl, rfl⟩
            refine ⟨_, rfl, HS12, ?_⟩
            simp only [Act.put, List.setIfInBounds_toArray, List.set_cons_zero, List.set_cons_succ]
            refine heldTake (d := some 125) (op := Go.Op.binOp Go.BinOp.neq 3 (Go.Operand.tmp 122) (Go.Operand.tmp 124) 3) (g := some (19, false)) 25 ?v25p rfl (by kernel_rfl) (by kernel_rfl) (by kernel_rfl) (by kernel_rfl) ?y25p HS12 ?_
            case y25p => intro o ho w _; simp only [execOp, ho]; go_simp; try rfl
            simp only [Act.put, List.setIfInBounds_toArray, List.set_cons_zero, List.set_cons_succ]
            refine heldTake (d := some 126) (op := Go.Op.pick (Go.Operand.tmp 119) (Go.Operand.const (Go.Value.bool true)) (Go.Operand.tmp 125)) (g := none) 26 ?v26p rfl (by kernel_rfl) (by kernel_rfl) (by kernel_rfl) (by kernel_rfl) ?y26p HS12 ?_
            case y26p => intro o ho w _; simp only [execOp, ho]; go_simp; try rfl
            simp only [Act.put, List.setIfInBounds_toArray, List.set_cons_zero, List.set_cons_succ]
            refine wpAnyH_done (by kernel_rfl) ?_ _
            refine NoPanic.normal ?_
            clear z0 qx qy qz
            have HF : Sl (TW w wb w12) := ⟨g1, g2, HA12.out, HD12.out, HB12.out⟩
            go_wp2
            go_roundw
            case rel => exact ⟨k + 1, by omega, by go_num, HF.out⟩
            case measure => simp [intOf]; omega
        · have qe : ((k : Int) % 2 == 0) = false := beq_eq_false_iff_ne.2 (by omega)
          have hcl := HCW.out w10 HB10.out
          obtain ⟨m, hm⟩ : ∃ m, min (bytes z).length (30 - h2.length) = m := ⟨_, rfl⟩
          have HM := Sl.mk hm
          clear hm
          obtain ⟨c3, w13, hc3, HV3, HX3⟩ := conv_str z w10
          have HB3 : Sl (Below w.heap.size w w13) := ⟨HB10.out.trans (HX3.out.mono HB10.out.size)⟩
          have HA3 := Sl.mk (HA10.out.below HX3.out)
          have HD3 := Sl.mk (HD10.out.below HX3.out)
          have lt10 := HD10.out.blt
          go_wp2_with fail
          refine (put_ex w _ (wb.heap.size + 1) wb.heap.size 30 m h2 (bytes z) _ HB3.out (by omega) (by omega) HD3.out (HV3.out.offs HD10.out.plt) (bytes_small z) HZL.out HM.out).mono ?_
          rintro e w14 ⟨rfl, HD4, HX4, HB4⟩
          have HA4 := Sl.mk (HA3.out.two HX4.out (by omega) (by omega) (by omega) (by omega))
          clear hc3 hcl
          go_wp2_with fail
          refine (peek_ex w _ (w.heap.size + 1) w.heap.size 20 l1 h1 h1 100 HB4.out HA4.out T1.out L1.out).mono ?_
          rintro e w15 ⟨rfl, HO5, HA5, HX5, HB5⟩
          have HD5 := Sl.mk (HD4.out.below HX5.out)
          have hcv := HO5.out.str L1.out
          rw [X1.out] at hcv
          have qs : (x1.toList == x1.toList) = true := by simp
          by_cases h5 : k % 5 = 4
          · have q5 : ((k : Int) % 5 == 4) = true := by simp; omega
            go_wp2_with fail
            refine (take_ex w _ (w.heap.size + 1) w.heap.size 20 _ _ _ _ _ HB5.out (by omega) (by omega) HA5.out rfl rfl rfl).mono ?_
            rintro e w16 ⟨rfl, HO6, HA6, HX6, HB6⟩
            have HD6 := Sl.mk (HD5.out.two HX6.out (by omega) (by omega) (by omega) (by omega))
            clear hcv
            go_wp2_with fail
            refine (take_ex w _ (wb.heap.size + 1) wb.heap.size 30 _ _ _ _ _ HB6.out (by omega) (by omega) HD6.out rfl rfl rfl).mono ?_
            rintro e w17 ⟨rfl, HO7, HD7, HX7, HB7⟩
            have HA7 := Sl.mk (HA6.out.two HX7.out (by omega) (by omega) (by omega) (by omega))
            obtain ⟨g1, hg1⟩ : ∃ g1, g1 = (h1).drop (n : Int).toNat := ⟨_, rfl⟩
            obtain ⟨g2, hg2⟩ : ∃ g2, g2 = (h2 ++ (bytes z).take m).drop (n : Int).toNat := ⟨_, rfl⟩
            rw [← hg1] at HA7
            rw [← hg2] at HD7
            obtain ⟨o, ho⟩ : ∃ o, g1.take (n : Int).toNat = o := ⟨_, rfl⟩
            obtain ⟨ko, hko⟩ : ∃ ko, o.length = ko := ⟨_, rfl⟩
            obtain ⟨xo, hxo⟩ : ∃ xo, strOf o = xo := ⟨_, rfl⟩
            obtain ⟨k1, hk1⟩ : ∃ k1, g1.length = k1 := ⟨_, rfl⟩
            obtain ⟨k2, hk2⟩ : ∃ k2, g2.length = k2 := ⟨_, rfl⟩
            have T1 : Sl (g1.take (100 : Int).toNat = g1) := ⟨List.take_of_length_le (by have := HA7.out.le; show _ ≤ 100; omega)⟩
            have T2 : Sl (g2.take (100 : Int).toNat = g2) := ⟨List.take_of_length_le (by have := HD7.out.le; show _ ≤ 100; omega)⟩
            have HO := Sl.mk ho
            have KO := Sl.mk hko
            have XO := Sl.mk hxo
            have K1 := Sl.mk hk1
            have K2 := Sl.mk hk2
            have hk1b : k1 ≤ 20 := by rw [← hk1]; exact HA7.out.le
            have hk2b : k2 ≤ 30 := by rw [← hk2]; exact HD7.out.le
            clear hg1 hg2 ho hko hxo hk1 hk2
            go_wp2
            have qx : (xo.toList == xo.toList) = true := by simp
            have qy : ((k1 : Int) != (k1 : Int)) = false := by simp
            have qz : ((k2 : Int) != (k2 : Int)) = false := by simp
            have hb8 : Below w.heap.size w w17.drew := HB7.out.drew
            have HA8 : Sl (RingH w17.drew (w.heap.size + 1) w.heap.size 20 g1) := ⟨HA7.out.below (Below.refl _ _).drew⟩
            have HD8 : Sl (RingH w17.drew (wb.heap.size + 1) wb.heap.size 30 g2) := ⟨HD7.out.below (Below.refl _ _).drew⟩
            have z0 : IntKind.i64.wrap (n : Int) = (n : Int) := ZN.out
            refine wp_region_noPanic ?_
            refine wp_region_held (S := fun W => Below w.heap.size w W) (by kernel_rfl) ?_
            change wpAnyH _ _ _ _ _ _ _ _ w17.drew
            refine heldTake (d := some 100) (op := Go.Op.move (Go.Operand.tmp 5)) (g := none) 0 ?v0u rfl (by kernel_rfl) (by kernel_rfl) (by kernel_rfl) (by kernel_rfl) ?y0u hb8 ?_
            case y0u => intro o ho w _; simp only [execOp, ho]; go_simp; try rfl
            simp only [Act.put, List.setIfInBounds_toArray, List.set_cons_zero, List.set_cons_succ]
            refine heldTake (d := some 101) (op := Go.Op.move (Go.Operand.tmp 1)) (g := none) 1 ?v1u rfl (by kernel_rfl) (by kernel_rfl) (by kernel_rfl) (by kernel_rfl) ?y1u hb8 ?_
            case y1u => intro o ho w _; simp only [execOp, ho]; go_simp; try rfl
            simp only [Act.put, List.setIfInBounds_toArray, List.set_cons_zero, List.set_cons_succ]
            refine heldTake (d := some 102) (op := Go.Op.convert 5 3 (Go.Operand.tmp 101)) (g := none) 2 ?v2u rfl (by kernel_rfl) (by kernel_rfl) (by kernel_rfl) (by kernel_rfl) ?y2u hb8 ?_
            case y2u => intro o ho w _; simp only [execOp, ho]; go_simp; try rfl
            simp only [Act.put, List.setIfInBounds_toArray, List.set_cons_zero, List.set_cons_succ]
            refine heldTake (d := some 105) (op := Go.Op.move (Go.Operand.tmp 5)) (g := none) 5 ?v5u rfl (by kernel_rfl) (by kernel_rfl) (by kernel_rfl) (by kernel_rfl) ?y5u hb8 ?_
            case y5u => intro o ho w _; simp only [execOp, ho]; go_simp; try rfl
            simp only [Act.put, List.setIfInBounds_toArray, List.set_cons_zero, List.set_cons_succ]
            refine heldTake (d := some 106) (op := Go.Op.move (Go.Operand.tmp 1)) (g := none) 6 ?v6u rfl (by kernel_rfl) (by kernel_rfl) (by kernel_rfl) (by kernel_rfl) ?y6u hb8 ?_
            case y6u => intro o ho w _; simp only [execOp, ho]; go_simp; try rfl
            simp only [Act.put, List.setIfInBounds_toArray, List.set_cons_zero, List.set_cons_succ]
            refine heldTake (d := some 107) (op := Go.Op.convert 5 3 (Go.Operand.tmp 106)) (g := none) 7 ?v7u rfl (by kernel_rfl) (by kernel_rfl) (by kernel_rfl) (by kernel_rfl) ?y7u hb8 ?_
            case y7u => intro o ho w _; simp only [execOp, ho]; go_simp; try rfl
            simp only [Act.put, List.setIfInBounds_toArray, List.set_cons_zero, List.set_cons_succ]
            refine heldCall (d := some 103) (op := Go.Op.call { callee := Go.Callee.value (Go.Operand.func 13), args := #[Go.Operand.tmp 100, Go.Operand.tmp 102], argTypes := #[23, 3] }) (g := none) 3 13 ?a3u rfl (by kernel_rfl) (by kernel_rfl) ?y3u ?_
            case y3u => intro o ho; simp only [execOp, ho]; go_simp; try rfl
            refine (peek_ex w _ (w.heap.size + 1) w.heap.size 20 ko g1 o _ hb8 HA8.out HO.out KO.out).mono ?_
            rintro e w9 ⟨rfl, HO9, HA9, HX9, HB9⟩
            have HD9 := Sl.mk (HD8.out.below HX9.out)
            have HS9 : Below w.heap.size w w9 ∧ RowB w9 w17.heap.size o := ⟨HB9.out, HO9.out⟩
            refine ⟨_, rfl, HS9.1, ?_⟩
            refine heldMore (S' := fun W => Below w.heap.size w W ∧ RowB W w17.heap.size o) (fun _ h => h.1) _ _ _ _ ?_
            simp only [Act.put, List.setIfInBounds_toArray, List.set_cons_zero, List.set_cons_succ]
            refine heldTake (d := some 104) (op := Go.Op.convert 33 9 (Go.Operand.tmp 103)) (g := none) 4 ?v4u rfl (by kernel_rfl) (by kernel_rfl) (by kernel_rfl) (by kernel_rfl) ?y4u HS9 ?_
            case y4u => intro o ho w hS; have hcv : (convert 33 9 (.slice (some ⟨w17.heap.size, 0, none⟩) ko ko)).run Try.prog w = .ok (.string xo) w := (RowB.strs KO.out w hS.2).trans (by rw [XO.out]); simp only [execOp, ho]; go_simp; try rfl
            simp only [Act.put, List.setIfInBounds_toArray, List.set_cons_zero, List.set_cons_succ]
            refine heldCall (d := some 108) (op := Go.Op.call { callee := Go.Callee.value (Go.Operand.func 13), args := #[Go.Operand.tmp 105, Go.Operand.tmp 107], argTypes := #[23, 3] }) (g := none) 8 13 ?a8u rfl (by kernel_rfl) (by kernel_rfl) ?y8u ?_
            case y8u => intro o ho; simp only [execOp, ho]; go_simp; try rfl
            refine (peek_ex w _ (w.heap.size + 1) w.heap.size 20 ko g1 o _ HB9.out HA9.out HO.out KO.out).mono ?_
            rintro e w10 ⟨rfl, HO10, HA10, HX10, HB10⟩
            have HD10 := Sl.mk (HD9.out.below HX10.out)
            have HS10 : Below w.heap.size w w10 ∧ RowB w10 w17.heap.size o := ⟨HB10.out, HS9.2.below HX10.out⟩
            have HSY : (Below w.heap.size w w10 ∧ RowB w10 w17.heap.size o) ∧ RowB w10 w9.heap.size o := ⟨HS10, HO10.out⟩
            refine ⟨_, rfl, HS10, ?_⟩
            refine heldMore (S' := fun W => (Below w.heap.size w W ∧ RowB W w17.heap.size o) ∧ RowB W w9.heap.size o) (fun _ h => h.1) _ _ _ _ ?_
            simp only [Act.put, List.setIfInBounds_toArray, List.set_cons_zero, List.set_cons_succ]
            refine heldTake (d := some 109) (op := Go.Op.convert 33 9 (Go.Operand.tmp 108)) (g := none) 9 ?v9u rfl (by kernel_rfl) (by kernel_rfl) (by kernel_rfl) (by kernel_rfl) ?y9u HSY ?_
            case y9u => intro o ho w hS; have hcv : (convert 33 9 (.slice (some ⟨w9.heap.size, 0, none⟩) ko ko)).run Try.prog w = .ok (.string xo) w := (RowB.strs KO.out w hS.2).trans (by rw [XO.out]); simp only [execOp, ho]; go_simp; try rfl
            simp only [Act.put, List.setIfInBounds_toArray, List.set_cons_zero, List.set_cons_succ]
            refine heldTake (d := some 110) (op := Go.Op.binOp Go.BinOp.neq 9 (Go.Operand.tmp 104) (Go.Operand.tmp 109) 9) (g := none) 10 ?v10u rfl (by kernel_rfl) (by kernel_rfl) (by kernel_rfl) (by kernel_rfl) ?y10u HSY ?_
            case y10u => intro o ho w _; simp only [execOp, ho]; go_simp; try rfl
            simp only [Act.put, List.setIfInBounds_toArray, List.set_cons_zero, List.set_cons_succ]
            refine heldTake (d := some 111) (op := Go.Op.move (Go.Operand.tmp 110)) (g := none) 11 ?v11u rfl (by kernel_rfl) (by kernel_rfl) (by kernel_rfl) (by kernel_rfl) ?y11u HSY ?_
            case y11u => intro o ho w _; simp only [execOp, ho]; go_simp; try rfl
            simp only [Act.put, List.setIfInBounds_toArray, List.set_cons_zero, List.set_cons_succ]
            refine heldTake (d := some 112) (op := Go.Op.move (Go.Operand.tmp 5)) (g := some (11, false)) 12 ?v12u rfl (by kernel_rfl) (by kernel_rfl) (by kernel_rfl) (by kernel_rfl) ?y12u HSY ?_
            case y12u => intro o ho w _; simp only [execOp, ho]; go_simp; try rfl
            simp only [Act.put, List.setIfInBounds_toArray, List.set_cons_zero, List.set_cons_succ]
            refine heldTake (d := some 115) (op := Go.Op.move (Go.Operand.tmp 5)) (g := some (11, false)) 15 ?v15u rfl (by kernel_rfl) (by kernel_rfl) (by kernel_rfl) (by kernel_rfl) ?y15u HSY ?_
            case y15u => intro o ho w _; simp only [execOp, ho]; go_simp; try rfl
            simp only [Act.put, List.setIfInBounds_toArray, List.set_cons_zero, List.set_cons_succ]
            refine heldCall (d := some 113) (op := Go.Op.call { callee := Go.Callee.value (Go.Operand.func 13), args := #[Go.Operand.tmp 112, Go.Operand.const (Go.Value.int Go.IntKind.i64 100)], argTypes := #[23, 3] }) (g := some (11, false)) 13 13 ?a13u rfl (by kernel_rfl) (by kernel_rfl) ?y13u ?_
            case y13u => intro o ho; simp only [execOp, ho]; go_simp; try rfl
            refine (peek_ex w _ (w.heap.size + 1) w.heap.size 20 k1 g1 g1 100 HB10.out HA10.out T1.out K1.out).mono ?_
            rintro e w11 ⟨rfl, HO11, HA11, HX11, HB11⟩
            have HD11 := Sl.mk (HD10.out.below HX11.out)
            have HS11 : (Below w.heap.size w w11 ∧ RowB w11 w17.heap.size o) ∧ RowB w11 w9.heap.size o := ⟨⟨HB11.out, HSY.1.2.below HX11.out⟩, HSY.2.below HX11.out⟩
            refine ⟨_, rfl, HS11, ?_⟩
            simp only [Act.put, List.setIfInBounds_toArray, List.set_cons_zero, List.set_cons_succ]
            refine heldTake (d := some 114) (op := Go.Op.call { callee := Go.Callee.builtin Go.Builtin.len, args := #[Go.Operand.tmp 113], argTypes := #[33] }) (g := some (11, false)) 14 ?v14u rfl (by kernel_rfl) (by kernel_rfl) (by kernel_rfl) (by kernel_rfl) ?y14u HS11 ?_
            case y14u => intro o ho w _; simp only [execOp, ho]; go_simp; try rfl
            simp only [Act.put, List.setIfInBounds_toArray, List.set_cons_zero, List.set_cons_succ]
            refine heldCall (d := some 116) (op := Go.Op.call { callee := Go.Callee.value (Go.Operand.func 17), args := #[Go.Operand.tmp 115], argTypes := #[23] }) (g := some (11, false)) 16 17 ?a16u rfl (by kernel_rfl) (by kernel_rfl) ?y16u ?_
            case y16u => intro o ho; simp only [execOp, ho]; go_simp; try rfl
            refine (len_ex _ (w.heap.size + 1) w.heap.size 20 k1 g1 HA11.out K1.out).mono ?_
            rintro e w11' ⟨rfl, rfl⟩
            refine ⟨_, rfl, HS11, ?_⟩
            simp only [Act.put, List.setIfInBounds_toArray, List.set_cons_zero, List.set_cons_succ]
            refine heldTake (d := some 117) (op := Go.Op.binOp Go.BinOp.neq 3 (Go.Operand.tmp 114) (Go.Operand.tmp 116) 3) (g := some (11, false)) 17 ?v17u rfl (by kernel_rfl) (by kernel_rfl) (by kernel_rfl) (by kernel_rfl) ?y17u HS11 ?_
            case y17u => intro o ho w _; simp only [execOp, ho]; go_simp; try rfl
            simp only [Act.put, List.setIfInBounds_toArray, List.set_cons_zero, List.set_cons_succ]
            refine heldTake (d := some 118) (op := Go.Op.pick (Go.Operand.tmp 111) (Go.Operand.const (Go.Value.bool true)) (Go.Operand.tmp 117)) (g := none) 18 ?v18u rfl (by kernel_rfl) (by kernel_rfl) (by kernel_rfl) (by kernel_rfl) ?y18u HS11 ?_
            case y18u => intro o ho w _; simp only [execOp, ho]; go_simp; try rfl
            simp only [Act.put, List.setIfInBounds_toArray, List.set_cons_zero, List.set_cons_succ]
            refine heldTake (d := some 119) (op := Go.Op.move (Go.Operand.tmp 118)) (g := none) 19 ?v19u rfl (by kernel_rfl) (by kernel_rfl) (by kernel_rfl) (by kernel_rfl) ?y19u HS11 ?_
            case y19u => intro o ho w _; simp only [execOp, ho]; go_simp; try rfl
            simp only [Act.put, List.setIfInBounds_toArray, List.set_cons_zero, List.set_cons_succ]
            refine heldTake (d := some 120) (op := Go.Op.move (Go.Operand.tmp 7)) (g := some (19, false)) 20 ?v20u rfl (by kernel_rfl) (by kernel_rfl) (by kernel_rfl) (by kernel_rfl) ?y20u HS11 ?_
            case y20u => intro o ho w _; simp only [execOp, ho]; go_simp; try rfl
            simp only [Act.put, List.setIfInBounds_toArray, List.set_cons_zero, List.set_cons_succ]
            refine heldTake (d := some 123) (op := Go.Op.move (Go.Operand.tmp 7)) (g := some (19, false)) 23 ?v23u rfl (by kernel_rfl) (by kernel_rfl) (by kernel_rfl) (by kernel_rfl) ?y23u HS11 ?_
            case y23u => intro o ho w _; simp only [execOp, ho]; go_simp; try rfl
            simp only [Act.put, List.setIfInBounds_toArray, List.set_cons_zero, List.set_cons_succ]
            refine heldCall (d := some 121) (op := Go.Op.call { callee := Go.Callee.value (Go.Operand.func 13), args := #[Go.Operand.tmp 120, Go.Operand.const (Go.Value.int Go.IntKind.i64 100)], argTypes := #[23, 3] }) (g := some (19, false)) 21 13 ?a21u rfl (by kernel_rfl) (by kernel_rfl) ?y21u ?_
            case y21u => intro o ho; simp only [execOp, ho]; go_simp; try rfl
            refine (peek_ex w _ (wb.heap.size + 1) wb.heap.size 30 k2 g2 g2 100 HB11.out HD11.out T2.out K2.out).mono ?_
            rintro e w12 ⟨rfl, HO12, HD12, HX12, HB12⟩
            have HA12 := Sl.mk (HA11.out.below HX12.out)
            have HS12 : (Below w.heap.size w w12 ∧ RowB w12 w17.heap.size o) ∧ RowB w12 w9.heap.size o := ⟨⟨HB12.out, HS11.1.2.below HX12.out⟩, HS11.2.below HX12.out⟩
            refine ⟨_, rfl, HS12, ?_⟩
            simp only [Act.put, List.setIfInBounds_toArray, List.set_cons_zero, List.set_cons_succ]
            refine heldTake (d := some 122) (op := Go.Op.call { callee := Go.Callee.builtin Go.Builtin.len, args := #[Go.Operand.tmp 121], argTypes := #[33] }) (g := some (19, false)) 22 ?v22u rfl (by kernel_rfl) (by kernel_rfl) (by kernel_rfl) (by kernel_rfl) ?y22u HS12 ?_
            case y22u => intro o ho w _; simp only [execOp, ho]; go_simp; try rfl
            simp only [Act.put, List.setIfInBounds_toArray, List.set_cons_zero, List.set_cons_succ]
            refine heldCall (d := some 124) (op := Go.Op.call { callee := Go.Callee.value (Go.Operand.func 17), args := #[Go.Operand.tmp 123], argTypes := #[23] }) (g := some (19, false)) 24 17 ?a24u rfl (by kernel_rfl) (by kernel_rfl) ?y24u ?_
            case y24u => intro o ho; simp only [execOp, ho]; go_simp; try rfl
            refine (len_ex _ (wb.heap.size + 1) wb.heap.size 30 k2 g2 HD12.out K2.out).mono ?_
            rintro e w12' ⟨rfl, rfl⟩
            refine ⟨_, rfl, HS12, ?_⟩
            simp only [Act.put, List.setIfInBounds_toArray, List.set_cons_zero, List.set_cons_succ]
            refine heldTake (d := some 125) (op := Go.Op.binOp Go.BinOp.neq 3 (Go.Operand.tmp 122) (Go.Operand.tmp 124) 3) (g := some (19, false)) 25 ?v25u rfl (by kernel_rfl) (by kernel_rfl) (by kernel_rfl) (by kernel_rfl) ?y25u HS12 ?_
            case y25u => intro o ho w _; simp only [execOp, ho]; go_simp; try rfl
            simp only [Act.put, List.setIfInBounds_toArray, List.set_cons_zero, List.set_cons_succ]
            refine heldTake (d := some 126) (op := Go.Op.pick (Go.Operand.tmp 119) (Go.Operand.const (Go.Value.bool true)) (Go.Operand.tmp 125)) (g := none) 26 ?v26u rfl (by kernel_rfl) (by kernel_rfl) (by kernel_rfl) (by kernel_rfl) ?y26u HS12 ?_
            case y26u => intro o ho w _; simp only [execOp, ho]; go_simp; try rfl
            simp only [Act.put, List.setIfInBounds_toArray, List.set_cons_zero, List.set_cons_succ]
            refine wpAnyH_done (by kernel_rfl) ?_ _
            refine NoPanic.normal ?_
            clear z0 qx qy qz
            have HF : Sl (TW w wb w12) := ⟨g1, g2, HA12.out, HD12.out, HB12.out⟩
            go_wp2
            go_roundw
            case rel => exact ⟨k + 1, by omega, by go_num, HF.out⟩
            case measure => simp [intOf]; omega
          · have q5 : ((k : Int) % 5 == 4) = false := beq_eq_false_iff_ne.2 (by omega)
            obtain ⟨g1, hg1⟩ : ∃ g1, g1 = h1 := ⟨_, rfl⟩
            obtain ⟨g2, hg2⟩ : ∃ g2, g2 = h2 ++ (bytes z).take m := ⟨_, rfl⟩
            rw [← hg1] at HA5
            rw [← hg2] at HD5
            obtain ⟨o, ho⟩ : ∃ o, g1.take (n : Int).toNat = o := ⟨_, rfl⟩
            obtain ⟨ko, hko⟩ : ∃ ko, o.length = ko := ⟨_, rfl⟩
            obtain ⟨xo, hxo⟩ : ∃ xo, strOf o = xo := ⟨_, rfl⟩
            obtain ⟨k1, hk1⟩ : ∃ k1, g1.length = k1 := ⟨_, rfl⟩
            obtain ⟨k2, hk2⟩ : ∃ k2, g2.length = k2 := ⟨_, rfl⟩
            have T1 : Sl (g1.take (100 : Int).toNat = g1) := ⟨List.take_of_length_le (by have := HA5.out.le; show _ ≤ 100; omega)⟩
            have T2 : Sl (g2.take (100 : Int).toNat = g2) := ⟨List.take_of_length_le (by have := HD5.out.le; show _ ≤ 100; omega)⟩
            have HO := Sl.mk ho
            have KO := Sl.mk hko
            have XO := Sl.mk hxo
            have K1 := Sl.mk hk1
            have K2 := Sl.mk hk2
            have hk1b : k1 ≤ 20 := by rw [← hk1]; exact HA5.out.le
            have hk2b : k2 ≤ 30 := by rw [← hk2]; exact HD5.out.le
            clear hg1 hg2 ho hko hxo hk1 hk2
            go_wp2
            have qx : (xo.toList == xo.toList) = true := by simp
            have qy : ((k1 : Int) != (k1 : Int)) = false := by simp
            have qz : ((k2 : Int) != (k2 : Int)) = false := by simp
            have hb8 : Below w.heap.size w w15.drew := HB5.out.drew
            have HA8 : Sl (RingH w15.drew (w.heap.size + 1) w.heap.size 20 g1) := ⟨HA5.out.below (Below.refl _ _).drew⟩
            have HD8 : Sl (RingH w15.drew (wb.heap.size + 1) wb.heap.size 30 g2) := ⟨HD5.out.below (Below.refl _ _).drew⟩
            have z0 : IntKind.i64.wrap (n : Int) = (n : Int) := ZN.out
            refine wp_region_noPanic ?_
            refine wp_region_held (S := fun W => Below w.heap.size w W) (by kernel_rfl) ?_
            change wpAnyH _ _ _ _ _ _ _ _ w15.drew
            refine heldTake (d := some 100) (op := Go.Op.move (Go.Operand.tmp 5)) (g := none) 0 ?v0q rfl (by kernel_rfl) (by kernel_rfl) (by kernel_rfl) (by kernel_rfl) ?y0q hb8 ?_
            case y0q => intro o ho w _; simp only [execOp, ho]; go_simp; try rfl
            simp only [Act.put, List.setIfInBounds_toArray, List.set_cons_zero, List.set_cons_succ]
            refine heldTake (d := some 101) (op := Go.Op.move (Go.Operand.tmp 1)) (g := none) 1 ?v1q rfl (by kernel_rfl) (by kernel_rfl) (by kernel_rfl) (by kernel_rfl) ?y1q hb8 ?_
            case y1q => intro o ho w _; simp only [execOp, ho]; go_simp; try rfl
            simp only [Act.put, List.setIfInBounds_toArray, List.set_cons_zero, List.set_cons_succ]
            refine heldTake (d := some 102) (op := Go.Op.convert 5 3 (Go.Operand.tmp 101)) (g := none) 2 ?v2q rfl (by kernel_rfl) (by kernel_rfl) (by kernel_rfl) (by kernel_rfl) ?y2q hb8 ?_
            case y2q => intro o ho w _; simp only [execOp, ho]; go_simp; try rfl
            simp only [Act.put, List.setIfInBounds_toArray, List.set_cons_zero, List.set_cons_succ]
            refine heldTake (d := some 105) (op := Go.Op.move (Go.Operand.tmp 5)) (g := none) 5 ?v5q rfl (by kernel_rfl) (by kernel_rfl) (by kernel_rfl) (by kernel_rfl) ?y5q hb8 ?_
            case y5q => intro o ho w _; simp only [execOp, ho]; go_simp; try rfl
            simp only [Act.put, List.setIfInBounds_toArray, List.set_cons_zero, List.set_cons_succ]
            refine heldTake (d := some 106) (op := Go.Op.move (Go.Operand.tmp 1)) (g := none) 6 ?v6q rfl (by kernel_rfl) (by kernel_rfl) (by kernel_rfl) (by kernel_rfl) ?y6q hb8 ?_
            case y6q => intro o ho w _; simp only [execOp, ho]; go_simp; try rfl
            simp only [Act.put, List.setIfInBounds_toArray, List.set_cons_zero, List.set_cons_succ]
            refine heldTake (d := some 107) (op := Go.Op.convert 5 3 (Go.Operand.tmp 106)) (g := none) 7 ?v7q rfl (by kernel_rfl) (by kernel_rfl) (by kernel_rfl) (by kernel_rfl) ?y7q hb8 ?_
            case y7q => intro o ho w _; simp only [execOp, ho]; go_simp; try rfl
            simp only [Act.put, List.setIfInBounds_toArray, List.set_cons_zero, List.set_cons_succ]
            refine heldCall (d := some 103) (op := Go.Op.call { callee := Go.Callee.value (Go.Operand.func 13), args := #[Go.Operand.tmp 100, Go.Operand.tmp 102], argTypes := #[23, 3] }) (g := none) 3 13 ?a3q rfl (by kernel_rfl) (by kernel_rfl) ?y3q ?_
            case y3q => intro o ho; simp only [execOp, ho]; go_simp; try rfl
            refine (peek_ex w _ (w.heap.size + 1) w.heap.size 20 ko g1 o _ hb8 HA8.out HO.out KO.out).mono ?_
            rintro e w9 ⟨rfl, HO9, HA9, HX9, HB9⟩
            have HD9 := Sl.mk (HD8.out.below HX9.out)
            have HS9 : Below w.heap.size w w9 ∧ RowB w9 w15.heap.size o := ⟨HB9.out, HO9.out⟩
            refine ⟨_, rfl, HS9.1, ?_⟩
            refine heldMore (S' := fun W => Below w.heap.size w W ∧ RowB W w15.heap.size o) (fun _ h => h.1) _ _ _ _ ?_
            simp only [Act.put, List.setIfInBounds_toArray, List.set_cons_zero, List.set_cons_succ]
            refine heldTake (d := some 104) (op := Go.Op.convert 33 9 (Go.Operand.tmp 103)) (g := none) 4 ?v4q rfl (by kernel_rfl) (by kernel_rfl) (by kernel_rfl) (by kernel_rfl) ?y4q HS9 ?_
            case y4q => intro o ho w hS; have hcv : (convert 33 9 (.slice (some ⟨w15.heap.size, 0, none⟩) ko ko)).run Try.prog w = .ok (.string xo) w := (RowB.strs KO.out w hS.2).trans (by rw [XO.out]); simp only [execOp, ho]; go_simp; try rfl
            simp only [Act.put, List.setIfInBounds_toArray, List.set_cons_zero, List.set_cons_succ]
            refine heldCall (d := some 108) (op := Go.Op.call { callee := Go.Callee.value (Go.Operand.func 13), args := #[Go.Operand.tmp 105, Go.Operand.tmp 107], argTypes := #[23, 3] }) (g := none) 8 13 ?a8q rfl (by kernel_rfl) (by kernel_rfl) ?y8q ?_
            case y8q => intro o ho; simp only [execOp, ho]; go_simp; try rfl
            refine (peek_ex w _ (w.heap.size + 1) w.heap.size 20 ko g1 o _ HB9.out HA9.out HO.out KO.out).mono ?_
            rintro e w10 ⟨rfl, HO10, HA10, HX10, HB10⟩
            have HD10 := Sl.mk (HD9.out.below HX10.out)
            have HS10 : Below w.heap.size w w10 ∧ RowB w10 w15.heap.size o := ⟨HB10.out, HS9.2.below HX10.out⟩
            have HSY : (Below w.heap.size w w10 ∧ RowB w10 w15.heap.size o) ∧ RowB w10 w9.heap.size o := ⟨HS10, HO10.out⟩
            refine ⟨_, rfl, HS10, ?_⟩
            refine heldMore (S' := fun W => (Below w.heap.size w W ∧ RowB W w15.heap.size o) ∧ RowB W w9.heap.size o) (fun _ h => h.1) _ _ _ _ ?_
            simp only [Act.put, List.setIfInBounds_toArray, List.set_cons_zero, List.set_cons_succ]
            refine heldTake (d := some 109) (op := Go.Op.convert 33 9 (Go.Operand.tmp 108)) (g := none) 9 ?v9q rfl (by kernel_rfl) (by kernel_rfl) (by kernel_rfl) (by kernel_rfl) ?y9q HSY ?_
            case y9q => intro o ho w hS; have hcv : (convert 33 9 (.slice (some ⟨w9.heap.size, 0, none⟩) ko ko)).run Try.prog w = .ok (.string xo) w := (RowB.strs KO.out w hS.2).trans (by rw [XO.out]); simp only [execOp, ho]; go_simp; try rfl
            simp only [Act.put, List.setIfInBounds_toArray, List.set_cons_zero, List.set_cons_succ]
            refine heldTake (d := some 110) (op := Go.Op.binOp Go.BinOp.neq 9 (Go.Operand.tmp 104) (Go.Operand.tmp 109) 9) (g := none) 10 ?v10q rfl (by kernel_rfl) (by kernel_rfl) (by kernel_rfl) (by kernel_rfl) ?y10q HSY ?_
            case y10q => intro o ho w _; simp only [execOp, ho]; go_simp; try rfl
            simp only [Act.put, List.setIfInBounds_toArray, List.set_cons_zero, List.set_cons_succ]
            refine heldTake (d := some 111) (op := Go.Op.move (Go.Operand.tmp 110)) (g := none) 11 ?v11q rfl (by kernel_rfl) (by kernel_rfl) (by kernel_rfl) (by kernel_rfl) ?y11q HSY ?_
            case y11q => intro o ho w _; simp only [execOp, ho]; go_simp; try rfl
            simp only [Act.put, List.setIfInBounds_toArray, List.set_cons_zero, List.set_cons_succ]
            refine heldTake (d := some 112) (op := Go.Op.move (Go.Operand.tmp 5)) (g := some (11, false)) 12 ?v12q rfl (by kernel_rfl) (by kernel_rfl) (by kernel_rfl) (by kernel_rfl) ?y12q HSY ?_
            case y12q => intro o ho w _; simp only [execOp, ho]; go_simp; try rfl
            simp only [Act.put, List.setIfInBounds_toArray, List.set_cons_zero, List.set_cons_succ]
            refine heldTake (d := some 115) (op := Go.Op.move (Go.Operand.tmp 5)) (g := some (11, false)) 15 ?v15q rfl (by kernel_rfl) (by kernel_rfl) (by kernel_rfl) (by kernel_rfl) ?y15q HSY ?_
            case y15q => intro o ho w _; simp only [execOp, ho]; go_simp; try rfl
            simp only [Act.put, List.setIfInBounds_toArray, List.set_cons_zero, List.set_cons_succ]
            refine heldCall (d := some 113) (op := Go.Op.call { callee := Go.Callee.value (Go.Operand.func 13), args := #[Go.Operand.tmp 112, Go.Operand.const (Go.Value.int Go.IntKind.i64 100)], argTypes := #[23, 3] }) (g := some (11, false)) 13 13 ?a13q rfl (by kernel_rfl) (by kernel_rfl) ?y13q ?_
            case y13q => intro o ho; simp only [execOp, ho]; go_simp; try rfl
            refine (peek_ex w _ (w.heap.size + 1) w.heap.size 20 k1 g1 g1 100 HB10.out HA10.out T1.out K1.out).mono ?_
            rintro e w11 ⟨rfl, HO11, HA11, HX11, HB11⟩
            have HD11 := Sl.mk (HD10.out.below HX11.out)
            have HS11 : (Below w.heap.size w w11 ∧ RowB w11 w15.heap.size o) ∧ RowB w11 w9.heap.size o := ⟨⟨HB11.out, HSY.1.2.below HX11.out⟩, HSY.2.below HX11.out⟩
            refine ⟨_, rfl, HS11, ?_⟩
            simp only [Act.put, List.setIfInBounds_toArray, List.set_cons_zero, List.set_cons_succ]
            refine heldTake (d := some 114) (op := Go.Op.call { callee := Go.Callee.builtin Go.Builtin.len, args := #[Go.Operand.tmp 113], argTypes := #[33] }) (g := some (11, false)) 14 ?v14q rfl (by kernel_rfl) (by kernel_rfl) (by kernel_rfl) (by kernel_rfl) ?y14q HS11 ?_
            case y14q => intro o ho w _; simp only [execOp, ho]; go_simp; try rfl
            simp only [Act.put, List.setIfInBounds_toArray, List.set_cons_zero, List.set_cons_succ]
            refine heldCall (d := some 116) (op := Go.Op.call { callee := Go.Callee.value (Go.Operand.func 17), args := #[Go.Operand.tmp 115], argTypes := #[23] }) (g := some (11, false)) 16 17 ?a16q rfl (by kernel_rfl) (by kernel_rfl) ?y16q ?_
            case y16q => intro o ho; simp only [execOp, ho]; go_simp; try rfl
            refine (len_ex _ (w.heap.size + 1) w.heap.size 20 k1 g1 HA11.out K1.out).mono ?_
            rintro e w11' ⟨rfl, rfl⟩
            refine ⟨_, rfl, HS11, ?_⟩
            simp only [Act.put, List.setIfInBounds_toArray, List.set_cons_zero, List.set_cons_succ]
            refine heldTake (d := some 117) (op := Go.Op.binOp Go.BinOp.neq 3 (Go.Operand.tmp 114) (Go.Operand.tmp 116) 3) (g := some (11, false)) 17 ?v17q rfl (by kernel_rfl) (by kernel_rfl) (by kernel_rfl) (by kernel_rfl) ?y17q HS11 ?_
            case y17q => intro o ho w _; simp only [execOp, ho]; go_simp; try rfl
            simp only [Act.put, List.setIfInBounds_toArray, List.set_cons_zero, List.set_cons_succ]
            refine heldTake (d := some 118) (op := Go.Op.pick (Go.Operand.tmp 111) (Go.Operand.const (Go.Value.bool true)) (Go.Operand.tmp 117)) (g := none) 18 ?v18q rfl (by kernel_rfl) (by kernel_rfl) (by kernel_rfl) (by kernel_rfl) ?y18q HS11 ?_
            case y18q => intro o ho w _; simp only [execOp, ho]; go_simp; try rfl
            simp only [Act.put, List.setIfInBounds_toArray, List.set_cons_zero, List.set_cons_succ]
            refine heldTake (d := some 119) (op := Go.Op.move (Go.Operand.tmp 118)) (g := none) 19 ?v19q rfl (by kernel_rfl) (by kernel_rfl) (by kernel_rfl) (by kernel_rfl) ?y19q HS11 ?_
            case y19q => intro o ho w _; simp only [execOp, ho]; go_simp; try rfl
            simp only [Act.put, List.setIfInBounds_toArray, List.set_cons_zero, List.set_cons_succ]
            refine heldTake (d := some 120) (op := Go.Op.move (Go.Operand.tmp 7)) (g := some (19, false)) 20 ?v20q rfl (by kernel_rfl) (by kernel_rfl) (by kernel_rfl) (by kernel_rfl) ?y20q HS11 ?_
            case y20q => intro o ho w _; simp only [execOp, ho]; go_simp; try rfl
            simp only [Act.put, List.setIfInBounds_toArray, List.set_cons_zero, List.set_cons_succ]
            refine heldTake (d := some 123) (op := Go.Op.move (Go.Operand.tmp 7)) (g := some (19, false)) 23 ?v23q rfl (by kernel_rfl) (by kernel_rfl) (by kernel_rfl) (by kernel_rfl) ?y23q HS11 ?_
            case y23q => intro o ho w _; simp only [execOp, ho]; go_simp; try rfl
            simp only [Act.put, List.setIfInBounds_toArray, List.set_cons_zero, List.set_cons_succ]
            refine heldCall (d := some 121) (op := Go.Op.call { callee := Go.Callee.value (Go.Operand.func 13), args := #[Go.Operand.tmp 120, Go.Operand.const (Go.Value.int Go.IntKind.i64 100)], argTypes := #[23, 3] }) (g := some (19, false)) 21 13 ?a21q rfl (by kernel_rfl) (by kernel_rfl) ?y21q ?_
            case y21q => intro o ho; simp only [execOp, ho]; go_simp; try rfl
            refine (peek_ex w _ (wb.heap.size + 1) wb.heap.size 30 k2 g2 g2 100 HB11.out HD11.out T2.out K2.out).mono ?_
            rintro e w12 ⟨rfl, HO12, HD12, HX12, HB12⟩
            have HA12 := Sl.mk (HA11.out.below HX12.out)
            have HS12 : (Below w.heap.size w w12 ∧ RowB w12 w15.heap.size o) ∧ RowB w12 w9.heap.size o := ⟨⟨HB12.out, HS11.1.2.below HX12.out⟩, HS11.2.below HX12.out⟩
            refine ⟨_, rfl, HS12, ?_⟩
            simp only [Act.put, List.setIfInBounds_toArray, List.set_cons_zero, List.set_cons_succ]
            refine heldTake (d := some 122) (op := Go.Op.call { callee := Go.Callee.builtin Go.Builtin.len, args := #[Go.Operand.tmp 121], argTypes := #[33] }) (g := some (19, false)) 22 ?v22q rfl (by kernel_rfl) (by kernel_rfl) (by kernel_rfl) (by kernel_rfl) ?y22q HS12 ?_
            case y22q => intro o ho w _; simp only [execOp, ho]; go_simp; try rfl
            simp only [Act.put, List.setIfInBounds_toArray, List.set_cons_zero, List.set_cons_succ]
            refine heldCall (d := some 124) (op := Go.Op.call { callee := Go.Callee.value (Go.Operand.func 17), args := #[Go.Operand.tmp 123], argTypes := #[23] }) (g := some (19, false)) 24 17 ?a24q rfl (by kernel_rfl) (by kernel_rfl) ?y24q ?_
            case y24q => intro o ho; simp only [execOp, ho]; go_simp; try rfl
            refine (len_ex _ (wb.heap.size + 1) wb.heap.size 30 k2 g2 HD12.out K2.out).mono ?_
            rintro e w12' ⟨rfl, rfl⟩
            refine ⟨_, rfl, HS12, ?_⟩
            simp only [Act.put, List.setIfInBounds_toArray, List.set_cons_zero, List.set_cons_succ]
            refine heldTake (d := some 125) (op := Go.Op.binOp Go.BinOp.neq 3 (Go.Operand.tmp 122) (Go.Operand.tmp 124) 3) (g := some (19, false)) 25 ?v25q rfl (by kernel_rfl) (by kernel_rfl) (by kernel_rfl) (by kernel_rfl) ?y25q HS12 ?_
            case y25q => intro o ho w _; simp only [execOp, ho]; go_simp; try rfl
            simp only [Act.put, List.setIfInBounds_toArray, List.set_cons_zero, List.set_cons_succ]
            refine heldTake (d := some 126) (op := Go.Op.pick (Go.Operand.tmp 119) (Go.Operand.const (Go.Value.bool true)) (Go.Operand.tmp 125)) (g := none) 26 ?v26q rfl (by kernel_rfl) (by kernel_rfl) (by kernel_rfl) (by kernel_rfl) ?y26q HS12 ?_
            case y26q => intro o ho w _; simp only [execOp, ho]; go_simp; try rfl
            simp only [Act.put, List.setIfInBounds_toArray, List.set_cons_zero, List.set_cons_succ]
            refine wpAnyH_done (by kernel_rfl) ?_ _
            refine NoPanic.normal ?_
            clear z0 qx qy qz
            have HF : Sl (TW w wb w12) := ⟨g1, g2, HA12.out, HD12.out, HB12.out⟩
            go_wp2
            go_roundw
            case rel => exact ⟨k + 1, by omega, by go_num, HF.out⟩
            case measure => simp [intOf]; omega
      · have h3' : 100 < z.size := by omega
        go_wp2
        go_ret
        exact ⟨rfl, HBR.out⟩
    · have hge : ¬ (k : Int) < (l.length : Int) := by omega
      go_wp2
      go_ret
      exact ⟨rfl, HBR.out⟩
theorem two_walk (v : Value) (l : List ByteArray) (n : Nat) (w : World) (hv : StrsAt w v l) (hn : n < 256) :
    Calls Try.prog 6 #[v, .int .u8 n] w fun e w' => e = .returned (.bool true) ∧ Below w.heap.size w w' := by
  by_cases h : 60 < l.length
  · exact two_long v l n w hv h
  · exact two_short v l n w hn hv (by omega)
end Go.Proofs.Ytfgpohfegjomfaa
