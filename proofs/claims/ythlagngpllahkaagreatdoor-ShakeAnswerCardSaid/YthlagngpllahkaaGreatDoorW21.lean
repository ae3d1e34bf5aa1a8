/- shake: the document's Refusal. -/
import Derived.Test.YthlagngpllahkaaGreatDoorW5
import Derived.Test.YthlagngpllahkaaGreatDoorS6
set_option maxRecDepth 100000
namespace Go.Proofs.YthlagngpllahkaaGreatDoor
open Go.RowKit HeadPlain

def nsL : List Int := [403, 404, 405, 426, 502, 503, 504]
def csL : List ByteArray := [{ data := #[52, 48, 51] }, { data := #[52, 48, 52] }, { data := #[52, 48, 53] }, { data := #[52, 50, 54] }, { data := #[53, 48, 50] }, { data := #[53, 48, 51] }, { data := #[53, 48, 52] }]
def tsL : List ByteArray := [{ data := #[70, 111, 114, 98, 105, 100, 100, 101, 110] }, { data := #[78, 111, 116, 32, 70, 111, 117, 110, 100] }, { data := #[77, 101, 116, 104, 111, 100, 32, 78, 111, 116, 32, 65, 108, 108, 111, 119, 101, 100] }, { data := #[85, 112, 103, 114, 97, 100, 101, 32, 82, 101, 113, 117, 105, 114, 101, 100] }, { data := #[66, 97, 100, 32, 71, 97, 116, 101, 119, 97, 121] }, { data := #[83, 101, 114, 118, 105, 99, 101, 32, 85, 110, 97, 118, 97, 105, 108, 97, 98, 108, 101] }, { data := #[71, 97, 116, 101, 119, 97, 121, 32, 84, 105, 109, 101, 111, 117, 116] }]
/-- A refusal's number and words, by the first k statuses. -/
def pickV (st : Int) : Nat → ByteArray × ByteArray
  | 0 => ({ data := #[52, 48, 48] }, { data := #[66, 97, 100, 32, 82, 101, 113, 117, 101, 115, 116] })
  | k + 1 => if nsL.getD k 0 = st then (csL.getD k ByteArray.empty, tsL.getD k ByteArray.empty) else pickV st k
theorem pick_why (st : Int) : pickV st 7 = whyV st := by
  unfold whyV
  by_cases h403 : st = 403
  · subst h403; rfl
  rw [if_neg h403]
  by_cases h404 : st = 404
  · subst h404; rfl
  rw [if_neg h404]
  by_cases h405 : st = 405
  · subst h405; rfl
  rw [if_neg h405]
  by_cases h426 : st = 426
  · subst h426; rfl
  rw [if_neg h426]
  by_cases h502 : st = 502
  · subst h502; rfl
  rw [if_neg h502]
  by_cases h503 : st = 503
  · subst h503; rfl
  rw [if_neg h503]
  by_cases h504 : st = 504
  · subst h504; rfl
  rw [if_neg h504]
  have no : ∀ x : Int, st ≠ x → (x = st) = False := fun x h => eq_false (Ne.symm h)
  simp only [pickV]
  rw [if_neg (show ¬ nsL.getD 6 0 = st from fun e => h504 e.symm)]
  rw [if_neg (show ¬ nsL.getD 5 0 = st from fun e => h503 e.symm)]
  rw [if_neg (show ¬ nsL.getD 4 0 = st from fun e => h502 e.symm)]
  rw [if_neg (show ¬ nsL.getD 3 0 = st from fun e => h426 e.symm)]
  rw [if_neg (show ¬ nsL.getD 2 0 = st from fun e => h405 e.symm)]
  rw [if_neg (show ¬ nsL.getD 1 0 = st from fun e => h404 e.symm)]
  rw [if_neg (show ¬ nsL.getD 0 0 = st from fun e => h403 e.symm)]
/-- The head so far, the three rows beside it. -/
structure LP (w : World) (gn gc gt q : Nat) (st : Int) (k : Nat) (W : World) : Prop where
  S : AS w #[.string { data := #[] }, .string { data := #[] }, .string { data := #[] }, .slice none 0 0] q bH11 (pickV st k).1 (pickV st k).2 [] (.slice none 0 0) W
  N : W.heap[gn]? = some (.cells #[.int .i64 403, .int .i64 404, .int .i64 405, .int .i64 426, .int .i64 502, .int .i64 503, .int .i64 504] 3 (0, 0))
  C : W.heap[gc]? = some (.cells #[.string { data := #[52, 48, 51] }, .string { data := #[52, 48, 52] }, .string { data := #[52, 48, 53] }, .string { data := #[52, 50, 54] }, .string { data := #[53, 48, 50] }, .string { data := #[53, 48, 51] }, .string { data := #[53, 48, 52] }] 9 (0, 0))
  T : W.heap[gt]? = some (.cells #[.string { data := #[70, 111, 114, 98, 105, 100, 100, 101, 110] }, .string { data := #[78, 111, 116, 32, 70, 111, 117, 110, 100] }, .string { data := #[77, 101, 116, 104, 111, 100, 32, 78, 111, 116, 32, 65, 108, 108, 111, 119, 101, 100] }, .string { data := #[85, 112, 103, 114, 97, 100, 101, 32, 82, 101, 113, 117, 105, 114, 101, 100] }, .string { data := #[66, 97, 100, 32, 71, 97, 116, 101, 119, 97, 121] }, .string { data := #[83, 101, 114, 118, 105, 99, 101, 32, 85, 110, 97, 118, 97, 105, 108, 97, 98, 108, 101] }, .string { data := #[71, 97, 116, 101, 119, 97, 121, 32, 84, 105, 109, 101, 111, 117, 116] }] 9 (0, 0))
  qn : gn ≠ q
  qc : gc ≠ q
  qt : gt ≠ q
theorem LP.below {w W W' : World} {gn gc gt q k : Nat} {st : Int} (p : LP w gn gc gt q st k W) (h : Below W.heap.size W W') : LP w gn gc gt q st k W' :=
  ⟨p.S.below h, box_below p.N h, box_below p.C h, box_below p.T h, p.qn, p.qc, p.qt⟩
theorem LP.stay {w W : World} {gn gc gt q k : Nat} {st : Int} (p : LP w gn gc gt q st k W) (h : nsL.getD k 0 ≠ st) : LP w gn gc gt q st (k + 1) W :=
  have e : pickV st (k + 1) = pickV st k := by rw [pickV, if_neg h]
  ⟨by rw [e]; exact p.S, p.N, p.C, p.T, p.qn, p.qc, p.qt⟩
theorem LP.cells {w W : World} {gn gc gt q k : Nat} {st : Int} (p : LP w gn gc gt q st k W) (hk : k < 7) :
    W.cell? ⟨gn, k, none⟩ = some (.int .i64 (nsL.getD k 0)) ∧ W.cell? ⟨gc, k, none⟩ = some (.string (csL.getD k ByteArray.empty)) ∧ W.cell? ⟨gt, k, none⟩ = some (.string (tsL.getD k ByteArray.empty)) := by
  rw [cell_of_row _ _ _ _ _ _ p.N, cell_of_row _ _ _ _ _ _ p.C, cell_of_row _ _ _ _ _ _ p.T]
  match k, hk with
  | 0, _ => exact ⟨rfl, rfl, rfl⟩
  | 1, _ => exact ⟨rfl, rfl, rfl⟩
  | 2, _ => exact ⟨rfl, rfl, rfl⟩
  | 3, _ => exact ⟨rfl, rfl, rfl⟩
  | 4, _ => exact ⟨rfl, rfl, rfl⟩
  | 5, _ => exact ⟨rfl, rfl, rfl⟩
  | 6, _ => exact ⟨rfl, rfl, rfl⟩
theorem LP.next {w W : World} {gn gc gt q k : Nat} {st : Int} (p : LP w gn gc gt q st k W) (h : nsL.getD k 0 = st) :
    LP w gn gc gt q st (k + 1) (((W.setCell ⟨q, 0, none⟩ (.string bH11)).setCell ⟨q, 1, none⟩ (.string (csL.getD k ByteArray.empty))).setCell ⟨q, 2, none⟩ (.string (tsL.getD k ByteArray.empty))) := by
  have e : pickV st (k + 1) = (csL.getD k ByteArray.empty, tsL.getD k ByteArray.empty) := by rw [pickV, if_pos h]
  have hgr := grown_trans (grown_trans (grown_setCell W q 0 (.string bH11)) (grown_setCell _ q 1 (.string (csL.getD k ByteArray.empty)))) (grown_setCell _ q 2 (.string (tsL.getD k ByteArray.empty)))
  have o : ∀ g cs t, g ≠ q → W.heap[g]? = some (.cells cs t (0, 0)) → (((W.setCell ⟨q, 0, none⟩ (.string bH11)).setCell ⟨q, 1, none⟩ (.string (csL.getD k ByteArray.empty))).setCell ⟨q, 2, none⟩ (.string (tsL.getD k ByteArray.empty))).heap[g]? = some (.cells cs t (0, 0)) := fun g cs t hne hg => by
    rw [heap_setCell_other _ _ _ _ hne, heap_setCell_other _ _ _ _ hne, heap_setCell_other _ _ _ _ hne]; exact hg
  have hq := p.S.Q
  refine ⟨⟨p.S.B.grown hgr p.S.B.size (fun k hk => by injection hk with hk; omega), o _ _ _ (by omega) p.S.R, ?_, ?_, hq⟩, o _ _ _ p.qn p.N, o _ _ _ p.qc p.C, o _ _ _ p.qt p.T, p.qn, p.qc, p.qt⟩
  · rw [e]
    rw [heap_setCell_same _ _ _ _ _ _ (heap_setCell_same _ _ _ _ _ _ (heap_setCell_same _ _ _ _ _ _ p.S.H))]
    rfl
  · exact ownF_nil _ _
set_option maxHeartbeats 4000000 in
theorem refusalD_any (st : Int) (w : World) : Calls Tryz.prog 24 #[.int .i64 st] w fun e w' => Sl (HeadR w' (refuseV st) e) ∧ Sl (Below w.heap.size w w') := by
  have HPW := Sl.mk (pick_why st)
  have HV0 : Sl (st ≠ 426 → refuseV st = ⟨bH11, (whyV st).1, (whyV st).2, [(bConn, bClose), (bLen, bNull)]⟩) := ⟨fun h => by unfold refuseV; rw [if_neg h]; rfl⟩
  have HV1 : Sl (st = 426 → refuseV st = ⟨bH11, (whyV st).1, (whyV st).2, [(bUp, bWs), (bVer, b13), (bConn, bClose), (bLen, bNull)]⟩) := ⟨fun h => by unfold refuseV; rw [if_pos h]; rfl⟩
  have HSZ : Sl (∀ f ∈ [(bUp, bWs), (bVer, b13), (bConn, bClose), (bLen, bNull)], f.1.size ≤ maxLen ∧ f.2.size ≤ maxLen) := ⟨refuse_sizes⟩
  obtain ⟨w0, hw0⟩ : ∃ V, w.alloc (.cells #[.string { data := #[] }, .string { data := #[] }, .string { data := #[] }, .slice none 0 0] 25) = V := ⟨_, rfl⟩
  have HB0 : Sl (Below w.heap.size w w0) := ⟨by rw [← hw0]; exact (Below.refl _ _).alloc (Nat.le_refl _) _⟩
  have HX0 : Sl (w0.heap[w.heap.size]? = some (.cells #[.string { data := #[] }, .string { data := #[] }, .string { data := #[] }, .slice none 0 0] 25 (0, 0))) := ⟨by rw [← hw0]; exact alloc_new _ _ _ rfl⟩
  obtain ⟨G1, hG1⟩ : ∃ W, w0.alloc (.cells #[.int .i64 403, .int .i64 404, .int .i64 405, .int .i64 426, .int .i64 502, .int .i64 503, .int .i64 504] 3) = W := ⟨_, rfl⟩
  obtain ⟨G2, hG2⟩ : ∃ W, G1.alloc (.cells #[.string { data := #[52, 48, 51] }, .string { data := #[52, 48, 52] }, .string { data := #[52, 48, 53] }, .string { data := #[52, 50, 54] }, .string { data := #[53, 48, 50] }, .string { data := #[53, 48, 51] }, .string { data := #[53, 48, 52] }] 9) = W := ⟨_, rfl⟩
  obtain ⟨G3, hG3⟩ : ∃ W, G2.alloc (.cells #[.string { data := #[70, 111, 114, 98, 105, 100, 100, 101, 110] }, .string { data := #[78, 111, 116, 32, 70, 111, 117, 110, 100] }, .string { data := #[77, 101, 116, 104, 111, 100, 32, 78, 111, 116, 32, 65, 108, 108, 111, 119, 101, 100] }, .string { data := #[85, 112, 103, 114, 97, 100, 101, 32, 82, 101, 113, 117, 105, 114, 101, 100] }, .string { data := #[66, 97, 100, 32, 71, 97, 116, 101, 119, 97, 121] }, .string { data := #[83, 101, 114, 118, 105, 99, 101, 32, 85, 110, 97, 118, 97, 105, 108, 97, 98, 108, 101] }, .string { data := #[71, 97, 116, 101, 119, 97, 121, 32, 84, 105, 109, 101, 111, 117, 116] }] 9) = W := ⟨_, rfl⟩
  obtain ⟨W0, hW0⟩ : ∃ W, G3.alloc (.cells #[.string { data := #[72, 84, 84, 80, 47, 49, 46, 49] }, .string { data := #[52, 48, 48] }, .string { data := #[66, 97, 100, 32, 82, 101, 113, 117, 101, 115, 116] }, .slice none 0 0] 25) = W := ⟨_, rfl⟩
  have B1 : Below w0.heap.size w0 G1 := by rw [← hG1]; exact (Below.refl _ _).alloc (Nat.le_refl _) _
  have B2 : Below G1.heap.size G1 G2 := by rw [← hG2]; exact (Below.refl _ _).alloc (Nat.le_refl _) _
  have B3 : Below G2.heap.size G2 G3 := by rw [← hG3]; exact (Below.refl _ _).alloc (Nat.le_refl _) _
  have B4 : Below G3.heap.size G3 W0 := by rw [← hW0]; exact (Below.refl _ _).alloc (Nat.le_refl _) _
  have N1 : G1.heap[w0.heap.size]? = some (.cells #[.int .i64 403, .int .i64 404, .int .i64 405, .int .i64 426, .int .i64 502, .int .i64 503, .int .i64 504] 3 (0, 0)) := by rw [← hG1]; exact alloc_new _ _ _ rfl
  have N2 : G2.heap[G1.heap.size]? = some (.cells #[.string { data := #[52, 48, 51] }, .string { data := #[52, 48, 52] }, .string { data := #[52, 48, 53] }, .string { data := #[52, 50, 54] }, .string { data := #[53, 48, 50] }, .string { data := #[53, 48, 51] }, .string { data := #[53, 48, 52] }] 9 (0, 0)) := by rw [← hG2]; exact alloc_new _ _ _ rfl
  have N3 : G3.heap[G2.heap.size]? = some (.cells #[.string { data := #[70, 111, 114, 98, 105, 100, 100, 101, 110] }, .string { data := #[78, 111, 116, 32, 70, 111, 117, 110, 100] }, .string { data := #[77, 101, 116, 104, 111, 100, 32, 78, 111, 116, 32, 65, 108, 108, 111, 119, 101, 100] }, .string { data := #[85, 112, 103, 114, 97, 100, 101, 32, 82, 101, 113, 117, 105, 114, 101, 100] }, .string { data := #[66, 97, 100, 32, 71, 97, 116, 101, 119, 97, 121] }, .string { data := #[83, 101, 114, 118, 105, 99, 101, 32, 85, 110, 97, 118, 97, 105, 108, 97, 98, 108, 101] }, .string { data := #[71, 97, 116, 101, 119, 97, 121, 32, 84, 105, 109, 101, 111, 117, 116] }] 9 (0, 0)) := by rw [← hG3]; exact alloc_new _ _ _ rfl
  have HLP : Sl (LP w w0.heap.size G1.heap.size G2.heap.size G3.heap.size st 0 W0) := ⟨by
    have C1 := below_trans B2 B3
    have hS : AS w #[.string { data := #[] }, .string { data := #[] }, .string { data := #[] }, .slice none 0 0] G3.heap.size bH11 { data := #[52, 48, 48] } { data := #[66, 97, 100, 32, 82, 101, 113, 117, 101, 115, 116] } [] (.slice none 0 0) W0 := by
      rw [← hW0]; exact AS.new (below_trans (below_trans HB0.out B1) C1) (box_below HX0.out (below_trans B1 C1))
    have z1 := lt_of_block (box_below N1 C1)
    have z2 := lt_of_block (box_below N2 B3)
    have z3 := lt_of_block N3
    exact ⟨hS, box_below N1 (below_trans C1 B4), box_below N2 (below_trans B3 B4), box_below N3 B4, by omega, by omega, by omega⟩⟩
  have HZW : Sl (w.heap.size ≤ W0.heap.size) := ⟨HLP.out.S.B.size⟩
  clear B1 B2 B3 B4 N1 N2 N3 HB0 HX0
  have hW0b : W0.setCell ⟨G3.heap.size, 3, none⟩ (.slice none 0 0) = W0 := by rw [← hW0, World.setCell_alloc_new]; rfl
  have g3 : W0.frozen? ⟨G3.heap.size, 3, none⟩ = false := frozen_of_row _ _ _ _ _ HLP.out.S.H
  have e3 : W0.cell? ⟨G3.heap.size, 3, none⟩ = some (.slice none 0 0) := (head_cells HLP.out.S.H).2.2.2
  go_enter Tryz.func24, Tryz.ntmps24
  go_wp2
  clear hw0 hG1 hG2 hG3 hW0 hW0b g3 e3
  go_loopw [7] (fun i wr => ∃ k : Nat, k ≤ 7 ∧ i = .int .i64 k ∧ Sl (LP w w0.heap.size G1.heap.size G2.heap.size G3.heap.size st k wr)) (fun i _ => 7 - (intOf i).toNat)
  case atStart => exact ⟨0, by omega, rfl, HLP⟩
  case round =>
    obtain ⟨k, hk, rfl, HL⟩ := hrel
    clear HLP
    by_cases hlt : k < 7
    · obtain ⟨cn, cc, ct⟩ := HL.out.cells hlt
      have hk0 : (0 : Int) ≤ (k : Int) := by omega
      have hk1 : (k : Int) < 7 := by omega
      obtain ⟨x, hx⟩ : ∃ x, nsL.getD k 0 = x := ⟨_, rfl⟩
      rw [hx] at cn
      by_cases hxs : x = st
      · have hxx : (x == st) = true := by simp [hxs]
        have HNS : Sl (nsL.getD k 0 = st) := ⟨by rw [hx]; exact hxs⟩
        clear hx hxs
        go_upto_region 9 with fail
        go_still_tail 10, (by kernel_rfl)
        change wpList _ _ _ _ _ wr.drew
        obtain ⟨R, hR⟩ : ∃ R, wr.drew = R := ⟨_, rfl⟩
        have HLR : Sl (LP w w0.heap.size G1.heap.size G2.heap.size G3.heap.size st k R) := ⟨by rw [← hR]; exact HL.out.below (Below.refl _ _).drew⟩
        rw [hR]
        clear hR HL
        have HNX := Sl.mk (HLR.out.next HNS.out)
        obtain ⟨p0, p1, p2, p3⟩ := head_cells HLR.out.S.H
        have g0 : R.frozen? ⟨G3.heap.size, 0, none⟩ = false := frozen_of_row _ _ _ _ _ HLR.out.S.H
        have g1 : R.frozen? ⟨G3.heap.size, 1, none⟩ = false := frozen_of_row _ _ _ _ _ HLR.out.S.H
        have g2 : R.frozen? ⟨G3.heap.size, 2, none⟩ = false := frozen_of_row _ _ _ _ _ HLR.out.S.H
        clear HLR HNS
        go_wp2
        exact ⟨⟨k + 1, by omega, by go_num, HNX⟩, by simp [intOf]; omega⟩
      · have hxx : (x == st) = false := by simp [hxs]
        have HNX := Sl.mk (HL.out.stay (by rw [hx]; exact hxs))
        clear hx hxs
        go_wp2
        exact ⟨⟨k + 1, by omega, by go_num, HNX⟩, by simp [intOf]; omega⟩
    · have hge : ((k : Int) < 7) = False := eq_false (by omega)
      have hk7 : k = 7 := by omega
      subst hk7
      have S0 := Sl.mk HL.out.S
      rw [HPW.out] at S0
      clear HL HPW hlt
      by_cases h426 : st = 426
      · have HVV := Sl.mk (HV1.out h426)
        have hqq : (st == 426) = true := by simp [h426]
        clear h426 HV0 HV1
        obtain ⟨A0, hA0⟩ : ∃ A, wr.alloc (.cells #[.string { data := #[85, 112, 103, 114, 97, 100, 101] }, .string { data := #[119, 101, 98, 115, 111, 99, 107, 101, 116] }] 60) = A := ⟨_, rfl⟩
        have BA0 : Sl (Below wr.heap.size wr A0) := ⟨by rw [← hA0]; exact (Below.refl _ _).alloc (Nat.le_refl _) _⟩
        have HL0 : Sl (A0.heap[wr.heap.size]? = some (.cells #[.string { data := #[85, 112, 103, 114, 97, 100, 101] }, .string { data := #[119, 101, 98, 115, 111, 99, 107, 101, 116] }] 60 (0, 0))) := ⟨by rw [← hA0]; exact alloc_new _ _ _ rfl⟩
        have SA0 := Sl.mk (S0.out.below BA0.out)
        have p30 := (head_cells S0.out.H).2.2.2
        go_wp2_with (at_builtin; refine app_flds rfl rfl _ _ rfl w.heap.size _ [] [(bUp, bWs)] wr.heap.size 1 rfl SA0.out.O rfl rfl _ HL0.out rfl (show 0 + 1 ≤ 1000 by omega) SA0.out.B.size ?_)
        intro v' X0 HO0 HG0
        obtain ⟨va1, vc1, hv'⟩ : ∃ a c, v' = .slice a 1 c := HO0.out.slice
        subst hv'
        obtain ⟨W1, hW1⟩ : ∃ W, X0.setCell ⟨G3.heap.size, 3, none⟩ (.slice va1 1 vc1) = W := ⟨_, rfl⟩
        have S1 : Sl (AS w #[.string { data := #[] }, .string { data := #[] }, .string { data := #[] }, .slice none 0 0] G3.heap.size bH11 (whyV st).1 (whyV st).2 [(bUp, bWs)] (.slice va1 1 vc1) W1) := ⟨by rw [← hW1]; exact SA0.out.step HO0.out HG0.out⟩
        obtain ⟨f30, p40⟩ := SA0.out.frozen HG0.out
        clear hA0 BA0 HL0 SA0 p30 HO0 HG0 S0
        clear hqq hge
        obtain ⟨A1, hA1⟩ : ∃ A, W1.alloc (.cells #[.string { data := #[83, 101, 99, 45, 87, 101, 98, 83, 111, 99, 107, 101, 116, 45, 86, 101, 114, 115, 105, 111, 110] }, .string { data := #[49, 51] }] 60) = A := ⟨_, rfl⟩
        have BA1 : Sl (Below W1.heap.size W1 A1) := ⟨by rw [← hA1]; exact (Below.refl _ _).alloc (Nat.le_refl _) _⟩
        have HL1 : Sl (A1.heap[W1.heap.size]? = some (.cells #[.string { data := #[83, 101, 99, 45, 87, 101, 98, 83, 111, 99, 107, 101, 116, 45, 86, 101, 114, 115, 105, 111, 110] }, .string { data := #[49, 51] }] 60 (0, 0))) := ⟨by rw [← hA1]; exact alloc_new _ _ _ rfl⟩
        have SA1 := Sl.mk (S1.out.below BA1.out)
        have p31 := (head_cells S1.out.H).2.2.2
        go_wp2_with (at_builtin; refine app_flds rfl rfl _ _ rfl w.heap.size _ [(bUp, bWs)] [(bVer, b13)] W1.heap.size 1 rfl SA1.out.O rfl rfl _ HL1.out rfl (show 1 + 1 ≤ 1000 by omega) SA1.out.B.size ?_)
        intro v' X1 HO1 HG1
        obtain ⟨va2, vc2, hv'⟩ : ∃ a c, v' = .slice a 2 c := HO1.out.slice
        subst hv'
        obtain ⟨W2, hW2⟩ : ∃ W, X1.setCell ⟨G3.heap.size, 3, none⟩ (.slice va2 2 vc2) = W := ⟨_, rfl⟩
        have S2 : Sl (AS w #[.string { data := #[] }, .string { data := #[] }, .string { data := #[] }, .slice none 0 0] G3.heap.size bH11 (whyV st).1 (whyV st).2 [(bUp, bWs), (bVer, b13)] (.slice va2 2 vc2) W2) := ⟨by rw [← hW2]; exact SA1.out.step HO1.out HG1.out⟩
        obtain ⟨f31, p41⟩ := SA1.out.frozen HG1.out
        clear hA1 BA1 HL1 SA1 p31 HO1 HG1 S1
        clear f30 p40 hW1
        obtain ⟨A2, hA2⟩ : ∃ A, W2.alloc (.cells #[.string { data := #[67, 111, 110, 110, 101, 99, 116, 105, 111, 110] }, .string { data := #[99, 108, 111, 115, 101] }] 60) = A := ⟨_, rfl⟩
        have BA2 : Sl (Below W2.heap.size W2 A2) := ⟨by rw [← hA2]; exact (Below.refl _ _).alloc (Nat.le_refl _) _⟩
        have HL2 : Sl (A2.heap[W2.heap.size]? = some (.cells #[.string { data := #[67, 111, 110, 110, 101, 99, 116, 105, 111, 110] }, .string { data := #[99, 108, 111, 115, 101] }] 60 (0, 0))) := ⟨by rw [← hA2]; exact alloc_new _ _ _ rfl⟩
        have SA2 := Sl.mk (S2.out.below BA2.out)
        have p32 := (head_cells S2.out.H).2.2.2
        go_wp2_with (at_builtin; refine app_flds rfl rfl _ _ rfl w.heap.size _ [(bUp, bWs), (bVer, b13)] [(bConn, bClose)] W2.heap.size 1 rfl SA2.out.O rfl rfl _ HL2.out rfl (show 2 + 1 ≤ 1000 by omega) SA2.out.B.size ?_)
        intro v' X2 HO2 HG2
        obtain ⟨va3, vc3, hv'⟩ : ∃ a c, v' = .slice a 3 c := HO2.out.slice
        subst hv'
        obtain ⟨W3, hW3⟩ : ∃ W, X2.setCell ⟨G3.heap.size, 3, none⟩ (.slice va3 3 vc3) = W := ⟨_, rfl⟩
        have S3 : Sl (AS w #[.string { data := #[] }, .string { data := #[] }, .string { data := #[] }, .slice none 0 0] G3.heap.size bH11 (whyV st).1 (whyV st).2 [(bUp, bWs), (bVer, b13), (bConn, bClose)] (.slice va3 3 vc3) W3) := ⟨by rw [← hW3]; exact SA2.out.step HO2.out HG2.out⟩
        obtain ⟨f32, p42⟩ := SA2.out.frozen HG2.out
        clear hA2 BA2 HL2 SA2 p32 HO2 HG2 S2
        clear f31 p41 hW2
        obtain ⟨A3, hA3⟩ : ∃ A, W3.alloc (.cells #[.string { data := #[67, 111, 110, 116, 101, 110, 116, 45, 76, 101, 110, 103, 116, 104] }, .string { data := #[48] }] 60) = A := ⟨_, rfl⟩
        have BA3 : Sl (Below W3.heap.size W3 A3) := ⟨by rw [← hA3]; exact (Below.refl _ _).alloc (Nat.le_refl _) _⟩
        have HL3 : Sl (A3.heap[W3.heap.size]? = some (.cells #[.string { data := #[67, 111, 110, 116, 101, 110, 116, 45, 76, 101, 110, 103, 116, 104] }, .string { data := #[48] }] 60 (0, 0))) := ⟨by rw [← hA3]; exact alloc_new _ _ _ rfl⟩
        have SA3 := Sl.mk (S3.out.below BA3.out)
        have p33 := (head_cells S3.out.H).2.2.2
        go_wp2_with (at_builtin; refine app_flds rfl rfl _ _ rfl w.heap.size _ [(bUp, bWs), (bVer, b13), (bConn, bClose)] [(bLen, bNull)] W3.heap.size 1 rfl SA3.out.O rfl rfl _ HL3.out rfl (show 3 + 1 ≤ 1000 by omega) SA3.out.B.size ?_)
        intro v' X3 HO3 HG3
        obtain ⟨va4, vc4, hv'⟩ : ∃ a c, v' = .slice a 4 c := HO3.out.slice
        subst hv'
        obtain ⟨W4, hW4⟩ : ∃ W, X3.setCell ⟨G3.heap.size, 3, none⟩ (.slice va4 4 vc4) = W := ⟨_, rfl⟩
        have S4 : Sl (AS w #[.string { data := #[] }, .string { data := #[] }, .string { data := #[] }, .slice none 0 0] G3.heap.size bH11 (whyV st).1 (whyV st).2 [(bUp, bWs), (bVer, b13), (bConn, bClose), (bLen, bNull)] (.slice va4 4 vc4) W4) := ⟨by rw [← hW4]; exact SA3.out.step HO3.out HG3.out⟩
        obtain ⟨f33, p43⟩ := SA3.out.frozen HG3.out
        have hwq := S4.out.Q
        obtain ⟨⟨r0, r1, r2, r3⟩, ⟨q0, q1, q2, q3⟩⟩ := zero_cells S4.out.R
        have hz6 : w.heap.size < W4.heap.size := lt_of_block S4.out.R
        obtain ⟨t0, t1, t2, t3⟩ := head_cells S4.out.H
        clear hA3 BA3 HL3 SA3 p33 HO3 HG3 S3
        clear f32 p42 hW3
        go_wp2
        obtain ⟨D2, D3⟩ := S4.out.out refuse_sizes (show 4 < 100000 by omega)
        refine bodyPost_ret (ret_head1 rfl _ _ w.heap.size 25 _ (0, 0) rfl (four_cells _ _ _ _ _ _ _ _ _ _ S4.out.R) rfl) rfl ?_
        rw [HVV.out]
        exact ⟨⟨_, _, rfl, D2.out⟩, D3⟩
      · have HVV := Sl.mk (HV0.out h426)
        have hqq : (st == 426) = false := by simp [h426]
        clear h426 HV0 HV1
        obtain ⟨A0, hA0⟩ : ∃ A, wr.alloc (.cells #[.string { data := #[67, 111, 110, 110, 101, 99, 116, 105, 111, 110] }, .string { data := #[99, 108, 111, 115, 101] }] 60) = A := ⟨_, rfl⟩
        have BA0 : Sl (Below wr.heap.size wr A0) := ⟨by rw [← hA0]; exact (Below.refl _ _).alloc (Nat.le_refl _) _⟩
        have HL0 : Sl (A0.heap[wr.heap.size]? = some (.cells #[.string { data := #[67, 111, 110, 110, 101, 99, 116, 105, 111, 110] }, .string { data := #[99, 108, 111, 115, 101] }] 60 (0, 0))) := ⟨by rw [← hA0]; exact alloc_new _ _ _ rfl⟩
        have SA0 := Sl.mk (S0.out.below BA0.out)
        have p30 := (head_cells S0.out.H).2.2.2
        go_wp2_with (at_builtin; refine app_flds rfl rfl _ _ rfl w.heap.size _ [] [(bConn, bClose)] wr.heap.size 1 rfl SA0.out.O rfl rfl _ HL0.out rfl (show 0 + 1 ≤ 1000 by omega) SA0.out.B.size ?_)
        intro v' X0 HO0 HG0
        obtain ⟨va1, vc1, hv'⟩ : ∃ a c, v' = .slice a 1 c := HO0.out.slice
        subst hv'
        obtain ⟨W1, hW1⟩ : ∃ W, X0.setCell ⟨G3.heap.size, 3, none⟩ (.slice va1 1 vc1) = W := ⟨_, rfl⟩
        have S1 : Sl (AS w #[.string { data := #[] }, .string { data := #[] }, .string { data := #[] }, .slice none 0 0] G3.heap.size bH11 (whyV st).1 (whyV st).2 [(bConn, bClose)] (.slice va1 1 vc1) W1) := ⟨by rw [← hW1]; exact SA0.out.step HO0.out HG0.out⟩
        obtain ⟨f30, p40⟩ := SA0.out.frozen HG0.out
        clear hA0 BA0 HL0 SA0 p30 HO0 HG0 S0
        clear hqq hge
        obtain ⟨A1, hA1⟩ : ∃ A, W1.alloc (.cells #[.string { data := #[67, 111, 110, 116, 101, 110, 116, 45, 76, 101, 110, 103, 116, 104] }, .string { data := #[48] }] 60) = A := ⟨_, rfl⟩
        have BA1 : Sl (Below W1.heap.size W1 A1) := ⟨by rw [← hA1]; exact (Below.refl _ _).alloc (Nat.le_refl _) _⟩
        have HL1 : Sl (A1.heap[W1.heap.size]? = some (.cells #[.string { data := #[67, 111, 110, 116, 101, 110, 116, 45, 76, 101, 110, 103, 116, 104] }, .string { data := #[48] }] 60 (0, 0))) := ⟨by rw [← hA1]; exact alloc_new _ _ _ rfl⟩
        have SA1 := Sl.mk (S1.out.below BA1.out)
        have p31 := (head_cells S1.out.H).2.2.2
        go_wp2_with (at_builtin; refine app_flds rfl rfl _ _ rfl w.heap.size _ [(bConn, bClose)] [(bLen, bNull)] W1.heap.size 1 rfl SA1.out.O rfl rfl _ HL1.out rfl (show 1 + 1 ≤ 1000 by omega) SA1.out.B.size ?_)
        intro v' X1 HO1 HG1
        obtain ⟨va2, vc2, hv'⟩ : ∃ a c, v' = .slice a 2 c := HO1.out.slice
        subst hv'
        obtain ⟨W2, hW2⟩ : ∃ W, X1.setCell ⟨G3.heap.size, 3, none⟩ (.slice va2 2 vc2) = W := ⟨_, rfl⟩
        have S2 : Sl (AS w #[.string { data := #[] }, .string { data := #[] }, .string { data := #[] }, .slice none 0 0] G3.heap.size bH11 (whyV st).1 (whyV st).2 [(bConn, bClose), (bLen, bNull)] (.slice va2 2 vc2) W2) := ⟨by rw [← hW2]; exact SA1.out.step HO1.out HG1.out⟩
        obtain ⟨f31, p41⟩ := SA1.out.frozen HG1.out
        have hwq := S2.out.Q
        obtain ⟨⟨r0, r1, r2, r3⟩, ⟨q0, q1, q2, q3⟩⟩ := zero_cells S2.out.R
        have hz6 : w.heap.size < W2.heap.size := lt_of_block S2.out.R
        obtain ⟨t0, t1, t2, t3⟩ := head_cells S2.out.H
        clear hA1 BA1 HL1 SA1 p31 HO1 HG1 S1
        clear f30 p40 hW1
        go_wp2
        obtain ⟨D2, D3⟩ := S2.out.out (fun f hf => refuse_sizes f (List.mem_append.2 (.inr hf))) (show 2 < 100000 by omega)
        refine bodyPost_ret (ret_head1 rfl _ _ w.heap.size 25 _ (0, 0) rfl (four_cells _ _ _ _ _ _ _ _ _ _ S2.out.R) rfl) rfl ?_
        rw [HVV.out]
        exact ⟨⟨_, _, rfl, D2.out⟩, D3⟩
end Go.Proofs.YthlagngpllahkaaGreatDoor
