/- QueuePlays' walk. -/
import Derived.Test.YtflnmjiopeoodaaQO
set_option maxRecDepth 100000
namespace Go.Proofs.Ytflnmjiopeoodaa.Que
open Go.RowKit Evt QueuePlain
open MsgPlain (Ev)

set_option maxHeartbeats 64000000 in
theorem plays_walk (count bytes' : Int) (v : Value) (l : List AAct) (w : World) (hcb : -9223372036854775808 ≤ count ∧ count ≤ 9223372036854775807) (hbb : -9223372036854775808 ≤ bytes' ∧ bytes' ≤ 9223372036854775807) (hv : ActsAt w v l) (ok : ∀ a ∈ l, ActOk a) (ml : l.length ≤ maxLen) : Calls Try.prog 3 #[.int .i64 count, .int .i64 bytes', v] w fun e w' => e = .returned (.bool true) ∧ Below w.heap.size w w' := by
  obtain ⟨ad, cap, rfl⟩ := hv.slice
  have HV := Sl.mk hv
  have HOK := Sl.mk ok
  obtain ⟨n, hn⟩ : ∃ n, l.length = n := ⟨_, rfl⟩
  have HN := Sl.mk hn
  rw [hn] at HV ml ⊢
  have hn9 : n ≤ 9223372036854775807 := by unfold maxLen at ml; omega
  clear hv ok hn ml
  by_cases h1 : count < 1
  · have hq1 : (count < 1) = True := eq_true h1
    have N0 := new_no w count bytes' (by omega)
    go_enter Try.func3, Try.ntmps3
    go_wp2_with fail
    refine N0.mono ?_
    rintro e w1 ⟨rfl, HB1⟩
    clear N0
    have A1 := awake_below w w1 HB1.out
    go_wp2_with fail
    refine A1.mono ?_
    rintro e w2 ⟨rfl, HB2⟩
    clear A1
    go_wp2
    go_ret
    exact ⟨rfl, HB2.out⟩
  have hq1 : (count < 1) = False := eq_false h1
  by_cases h2 : count > 1024
  · have hq2 : (count > 1024) = True := eq_true h2
    have N0 := new_no w count bytes' (by omega)
    go_enter Try.func3, Try.ntmps3
    go_wp2_with fail
    refine N0.mono ?_
    rintro e w1 ⟨rfl, HB1⟩
    clear N0
    have A1 := awake_below w w1 HB1.out
    go_wp2_with fail
    refine A1.mono ?_
    rintro e w2 ⟨rfl, HB2⟩
    clear A1
    go_wp2
    go_ret
    exact ⟨rfl, HB2.out⟩
  have hq2 : (count > 1024) = False := eq_false h2
  by_cases h3 : bytes' < 1
  · have hq3 : (bytes' < 1) = True := eq_true h3
    have N0 := new_no w count bytes' (by omega)
    go_enter Try.func3, Try.ntmps3
    go_wp2_with fail
    refine N0.mono ?_
    rintro e w1 ⟨rfl, HB1⟩
    clear N0
    have A1 := awake_below w w1 HB1.out
    go_wp2_with fail
    refine A1.mono ?_
    rintro e w2 ⟨rfl, HB2⟩
    clear A1
    go_wp2
    go_ret
    exact ⟨rfl, HB2.out⟩
  have hq3 : (bytes' < 1) = False := eq_false h3
  by_cases h4 : bytes' > 4194304
  · have hq4 : (bytes' > 4194304) = True := eq_true h4
    have N0 := new_no w count bytes' (by omega)
    go_enter Try.func3, Try.ntmps3
    go_wp2_with fail
    refine N0.mono ?_
    rintro e w1 ⟨rfl, HB1⟩
    clear N0
    have A1 := awake_below w w1 HB1.out
    go_wp2_with fail
    refine A1.mono ?_
    rintro e w2 ⟨rfl, HB2⟩
    clear A1
    go_wp2
    go_ret
    exact ⟨rfl, HB2.out⟩
  have hq4 : (bytes' > 4194304) = False := eq_false h4
  have HC : Sl (1 ≤ count ∧ count ≤ 1024) := ⟨by omega⟩
  have HD : Sl (1 ≤ bytes' ∧ bytes' ≤ 4194304) := ⟨by omega⟩
  have N1 := new_yes w w count bytes' (by omega) (Below.refl _ _)
  obtain ⟨q, hq⟩ : ∃ q, w.heap.size = q := ⟨_, rfl⟩
  have HQQ := Sl.mk hq
  go_enter Try.func3, Try.ntmps3
  go_wp2_with fail
  refine N1.mono ?_
  rintro e w1 ⟨rfl, HQ1, HB1⟩
  clear N1
  rw [hq] at HQ1 ⊢
  have A1 := awake_any w1
  go_wp2_with fail
  refine A1.mono ?_
  rintro e w2 ⟨rfl, HB2⟩
  clear A1
  have HQ2 := Sl.mk (HQ1.out.below HB2.out)
  clear HQ1 HB1 HB2 hq
  obtain ⟨w30, hww30, HBw30, hbw30⟩ := box_q w2 0 0 (.slice none 0 0)
  obtain ⟨w3, hww3, HBw3, HCw3⟩ := set_q hbw30 HBw30.out (Nat.le_refl _) #[.int .i64 count, .int .i64 bytes', .slice none 0 0]
  have HIw3 := q_info count bytes' (.slice none 0 0)
  go_upto_region 7 with (refine wpList_store_row rfl 30 (.tmp 9) (.tmp 65) rfl w2.heap.size #[.int .i64 count, .int .i64 bytes', .slice none 0 0] rfl rfl 30 #[.int .i64 0, .int .i64 0, .slice none 0 0] hbw30 HIw3 rfl (q_all _ _ _ _ _) ?_)
  (try rw [hww3])
  clear hww30 hww3 hbw30 HBw30 HIw3
  have HM := Sl.mk (Doc.new HQ2.out HBw3.out HCw3.out)
  obtain ⟨mb, hmb⟩ : ∃ m, w2.heap.size = m := ⟨_, rfl⟩
  rw [hmb] at HM ⊢
  clear hmb HQ2 HBw3 HCw3 h1 h2 h3 h4
  go_wp2
  go_loopw [10] (fun i wr => ∃ (k : Nat) (u L : Value) (la : List Ev), i = .int .i64 (k : Int) ∧ k ≤ n ∧ k ≤ 60 ∧ Sl (Doc w wr q u count bytes' la mb L la)) (fun i _ => n - (intOf i).toNat)
  case atStart => exact ⟨0, _, _, [], rfl, Nat.zero_le _, Nat.zero_le _, HM⟩
  case round =>
    clear HM
    obtain ⟨k, u, L, la, rfl, hk, hk6, HM⟩ := hrel
    by_cases hkn : k < n
    · have hlt : ((k : Int) < (n : Int)) = True := eq_true (by omega)
      by_cases hk60 : k < 60
      · have hlt6 : ((k : Int) < 60) = True := eq_true (by omega)
        have hkl : k < l.length := by rw [HN.out]; exact hkn
        obtain ⟨sb, so, rfl⟩ := HV.out.cap.2.2 (by omega)
        obtain ⟨kd, nn, o, c, s, he, hnn⟩ := act_parts HOK.out k hkl
        obtain ⟨c0, c1, c2, c3, c4⟩ := (HV.out.below HM.out.Q.N.L).at5 k hkl he
        clear he
        obtain ⟨wa0, hwa0, HBa0, hba0⟩ := box_act wr
        obtain ⟨wa, hwa, HBa, HCa⟩ := set_act hba0 HBa0.out (Nat.le_refl _) #[.int .i64 kd, .int .i64 nn, .int .i64 o, .int .i64 c, .string s]
        have HIa := act_info kd nn o c s
        go_upto_region 10 with fail
        obtain ⟨e0, e1, e2, e3, e4⟩ := act_cells hba0
        clear e0 e1 e2 e3 e4
        go_upto_region 11 with (refine wpList_store_row rfl 34 (.tmp 11) (.tmp 79) rfl wr.heap.size #[.int .i64 kd, .int .i64 nn, .int .i64 o, .int .i64 c, .string s] rfl rfl 34 #[.int .i64 0, .int .i64 0, .int .i64 0, .int .i64 0, .string { data := #[] }] hba0 HIa rfl (act_all _ _ _ _ _) ?_)
        (try rw [hwa])
        clear hwa0 hwa hba0 HBa0 HIa c0 c1 c2 c3 c4
        have HMa := Sl.mk (HM.out.below HBa.out)
        have HXa := Sl.mk (HMa.out.Q.beside_of HM.out.Q HCa.out)
        obtain ⟨x, hx⟩ : ∃ x, wr.heap.size = x := ⟨_, rfl⟩
        have HXM : Sl (x ≠ mb) := ⟨fun e => by have := HM.out.lt; omega⟩
        rw [hx] at HXa ⊢
        clear hx HBa HCa HM
        obtain ⟨f0, f1, f2, f3, f4⟩ := act_cells HXa.out.1
        have hmost := HMa.out.Q.most
        obtain ⟨nl, hnl⟩ : ∃ x, la.length = x := ⟨_, rfl⟩
        obtain ⟨aL0, cL0, hL0⟩ := doc_slice HMa.out.E
        rw [hnl] at hL0 hmost
        subst hL0
        have HNL := Sl.mk hnl
        have hnl9 : la.length ≤ 1024 := by omega
        clear hnl
        by_cases hk0 : kd = 0
        · subst hk0
          by_cases h3 : s.size ≤ 300
          · have hq3 : ((s.size : Int) ≤ 300) = True := eq_true (by omega)
            obtain ⟨la1, r1, hp1⟩ : ∃ l1 r1, put count bytes' la ⟨o, c, bytes s⟩ = (l1, r1) := ⟨_, _, rfl⟩
            have HP1 := Sl.mk hp1
            have RP := refput_any la la1 (.slice aL0 nl cL0) count bytes' o c s r1 wa HMa.out.E (fun g hg => (HMa.out.d g hg).2.2) (by omega) (by omega) (by have := HD.out; omega) hp1
            obtain ⟨d0, d1, d2⟩ := q_cells HMa.out.B.1
            clear hp1
            go_wp2_with fail
            refine RP.mono ?_
            rintro e w5 ⟨L1, rfl, HE5, HF5, HB5⟩
            clear RP
            clear d0 d1 d2 f0 f1 f2 f3 f4
            obtain ⟨aL1, cL1, hL1⟩ := doc_slice HE5.out
            obtain ⟨nL1, hnL1⟩ : ∃ x, la1.length = x := ⟨_, rfl⟩
            rw [hnL1] at hL1
            subst hL1
            have HN1 := Sl.mk hnL1
            clear hnL1
            obtain ⟨w60, hww60, HBw60, hbw60⟩ := box_q w5 0 0 (.slice none 0 0)
            obtain ⟨w6, hww6, HBw6, HCw6⟩ := set_q hbw60 HBw60.out (Nat.le_refl _) #[.int .i64 count, .int .i64 bytes', .slice aL1 nL1 cL1]
            have HIw6 := q_info count bytes' (.slice aL1 nL1 cL1)
            go_upto_region 13 with (refine wpList_store_row rfl 30 (.tmp 12) (.tmp 96) rfl w5.heap.size #[.int .i64 count, .int .i64 bytes', .slice aL1 nL1 cL1] rfl rfl 30 #[.int .i64 0, .int .i64 0, .slice none 0 0] hbw60 HIw6 rfl (q_all _ _ _ _ _) ?_)
            (try rw [hww6])
            clear hww60 hww6 hbw60 HBw60 HIw6
            have HB56 : Sl (Below wa.heap.size wa w6) := ⟨HB5.out.trans (HBw6.out.mono HB5.out.size)⟩
            have HM6 := Sl.mk (HMa.out.below HB56.out)
            have HX6 := Sl.mk (HXa.out.below HB56.out)
            have HE6 := Sl.mk (HE5.out.below HBw6.out)
            have hd6 := HMa.out.apart (V := w6) HF5.out HBw6.out.size
            have hm6 := HM6.out.store HE6.out hd6
            obtain ⟨d0, d1, d2⟩ := q_cells HCw6.out
            have hb6 := HM6.out.B.1
            obtain ⟨w7, hw7⟩ : ∃ V, w6.setRow mb #[.int .i64 count, .int .i64 bytes', .slice aL1 nL1 cL1] = V := ⟨_, rfl⟩
            rw [hw7] at hm6
            have HM7 := Sl.mk hm6
            have HX7 : Sl (Beside w7 q u x (.cells #[.int .i64 0, .int .i64 nn, .int .i64 o, .int .i64 c, .string s] 34 (0, 0))) := ⟨by rw [← hw7, setRow_other _ _ _ _ HXM.out]; exact HX6.out.1, HX6.out.2⟩
            have HI7 := q_info count bytes' (.slice aL1 nL1 cL1)
            clear hm6 hd6 HM6 HX6 HE6 HE5 HF5 HB5 HBw6 HCw6 HB56 HMa HXa
            go_upto_region 14 with (refine wpList_store_row rfl 30 (.tmp 9) (.tmp 98) rfl mb #[.int .i64 count, .int .i64 bytes', .slice aL1 nL1 cL1] rfl rfl 30 #[.int .i64 count, .int .i64 bytes', .slice aL0 nl cL0] hb6 HI7 rfl (q_all _ _ _ _ _) ?_)
            (try rw [hw7])
            clear hw7 d0 d1 d2 HI7 hb6
            obtain ⟨f0, f1, f2, f3, f4⟩ := act_cells HX7.out.1
            have hrr : (r1 != r1) = false := by cases r1 <;> rfl
            have P := put_any o c s r1 HM7.out.Q (by omega) HP1.out
            go_wp2_with fail
            refine P.mono ?_
            rintro e w8 ⟨u8, rfl, HQ8, HG8⟩
            clear P
            clear f0 f1 f2 f3 f4
            have HM8 := Sl.mk (HM7.out.queue HQ8.out HG8.out)
            clear HM7 HX7 HQ8 HG8
            obtain ⟨za, hza⟩ : ∃ x, size la1 = x := ⟨_, rfl⟩
            have HZA := Sl.mk hza
            have hIw := HM8.out.Q.I
            have hmo := HM8.out.Q.most
            unfold Within at hIw
            rw [HN1.out, hza] at hIw hmo
            have hg1 : ((nL1 : Int) > count) = False := eq_false (by omega)
            have hg2 : ((za : Int) > bytes') = False := eq_false (by omega)
            clear hza
            have hml := HM8.out.lt
            go_upto_region 27 with fail
            obtain ⟨Rw, hRw⟩ : ∃ R, w8.drew = R := ⟨_, rfl⟩
            have HBR : Below w8.heap.size w8 Rw := by rw [← hRw]; exact (Below.refl _ _).drew
            refine wp_region_noPanic ?_
            refine wp_region_held (S := fun V => Below w8.heap.size w8 V) (by kernel_rfl) ?_
            change wpAnyH _ _ _ _ _ _ _ _ w8.drew
            rw [hRw]
            clear hRw
            refine heldTake (d := some 163) (op := .move (Operand.tmp 7)) (g := none) 0 ?v0a rfl (by kernel_rfl) (by kernel_rfl) (by kernel_rfl) (by kernel_rfl) ?y0a HBR ?_
            case y0a => intro o' ho W hS; simp only [execOp, ho]; go_simp; try rfl
            simp only [Act.put, List.setIfInBounds_toArray, List.set_cons_zero, List.set_cons_succ]
            refine heldTake (d := some 165) (op := .fieldAddr 30 (Operand.tmp 9) 2) (g := none) 2 ?v2a rfl (by kernel_rfl) (by kernel_rfl) (by kernel_rfl) (by kernel_rfl) ?y2a HBR ?_
            case y2a => intro o' ho W hS; simp only [execOp, ho]; go_simp; try rfl
            simp only [Act.put, List.setIfInBounds_toArray, List.set_cons_zero, List.set_cons_succ]
            refine heldTake (d := some 166) (op := .load 28 (Operand.tmp 165)) (g := none) 3 ?v3a rfl (by kernel_rfl) (by kernel_rfl) (by kernel_rfl) (by kernel_rfl) ?y3a HBR ?_
            case y3a => intro o' ho W hS; obtain ⟨d0, d1, d2⟩ := q_cells ((hS.block _ hml).trans HM8.out.B.1); simp only [execOp, ho]; go_simp; try rfl
            simp only [Act.put, List.setIfInBounds_toArray, List.set_cons_zero, List.set_cons_succ]
            refine heldTake (d := some 167) (op := .call { callee := Callee.builtin Builtin.len, args := #[Operand.tmp 166], argTypes := #[28] }) (g := none) 4 ?v4a rfl (by kernel_rfl) (by kernel_rfl) (by kernel_rfl) (by kernel_rfl) ?y4a HBR ?_
            case y4a => intro o' ho W hS; simp only [execOp, ho]; go_simp; try rfl
            simp only [Act.put, List.setIfInBounds_toArray, List.set_cons_zero, List.set_cons_succ]
            refine heldCall (d := some 164) (op := .call { callee := Callee.value (Operand.func 17), args := #[Operand.tmp 163], argTypes := #[23] }) (g := none) 1 17 #[.pointer (some ⟨q, 0, none⟩)] rfl (by kernel_rfl) (by kernel_rfl) ?y1a ?_
            case y1a => intro o' ho; simp only [execOp, ho]; go_simp; try rfl
            refine (len_any HN1.out (HM8.out.Q.below HBR).N).mono ?_
            rintro e w20 ⟨rfl, rfl⟩
            refine ⟨_, rfl, HBR, ?_⟩
            simp only [Act.put, List.setIfInBounds_toArray, List.set_cons_zero, List.set_cons_succ]
            refine heldTake (d := some 168) (op := .binOp BinOp.neq 3 (Operand.tmp 164) (Operand.tmp 167) 3) (g := none) 5 (.bool false) rfl (by kernel_rfl) (by kernel_rfl) (by kernel_rfl) (by kernel_rfl) ?y5a HBR ?_
            case y5a => intro o' ho W hS; exact by simp only [execOp, ho]; go_simp; first | done | (simp; done) | rfl
            simp only [Act.put, List.setIfInBounds_toArray, List.set_cons_zero, List.set_cons_succ]
            refine heldTake (d := some 169) (op := .move (Operand.tmp 168)) (g := none) 6 (.bool false) rfl (by kernel_rfl) (by kernel_rfl) (by kernel_rfl) (by kernel_rfl) ?y6a HBR ?_
            case y6a => intro o' ho W hS; exact by simp only [execOp, ho]; go_simp; first | done | (simp; done) | rfl
            simp only [Act.put, List.setIfInBounds_toArray, List.set_cons_zero, List.set_cons_succ]
            refine heldTake (d := some 170) (op := .move (Operand.tmp 7)) (g := some (6, false)) 7 ?v7a rfl (by kernel_rfl) (by kernel_rfl) (by kernel_rfl) (by kernel_rfl) ?y7a HBR ?_
            case y7a => intro o' ho W hS; simp only [execOp, ho]; go_simp; try rfl
            simp only [Act.put, List.setIfInBounds_toArray, List.set_cons_zero, List.set_cons_succ]
            refine heldTake (d := some 172) (op := .load 30 (Operand.tmp 9)) (g := some (6, false)) 9 ?v9a rfl (by kernel_rfl) (by kernel_rfl) (by kernel_rfl) (by kernel_rfl) ?y9a HBR ?_
            case y9a => intro o' ho W hS; obtain ⟨d0, d1, d2⟩ := q_cells ((hS.block _ hml).trans HM8.out.B.1); simp only [execOp, ho]; go_simp; try rfl
            simp only [Act.put, List.setIfInBounds_toArray, List.set_cons_zero, List.set_cons_succ]
            have hN2 := (HM8.out.Q.below HBR).N
            rw [HZA.out] at hN2
            refine heldCall (d := some 171) (op := .call { callee := Callee.value (Operand.func 18), args := #[Operand.tmp 170], argTypes := #[23] }) (g := some (6, false)) 8 18 #[.pointer (some ⟨q, 0, none⟩)] rfl (by kernel_rfl) (by kernel_rfl) ?y8a ?_
            case y8a => intro o' ho; simp only [execOp, ho]; go_simp; try rfl
            refine (size_any hN2).mono ?_
            rintro e w20 ⟨rfl, rfl⟩
            refine ⟨_, rfl, HBR, ?_⟩
            simp only [Act.put, List.setIfInBounds_toArray, List.set_cons_zero, List.set_cons_succ]
            refine heldCall (d := some 173) (op := .call { callee := Callee.value (Operand.func 19), args := #[Operand.tmp 172], argTypes := #[30] }) (g := some (6, false)) 10 19 #[.agg #[.int .i64 count, .int .i64 bytes', .slice aL1 nL1 cL1]] rfl (by kernel_rfl) (by kernel_rfl) ?y10a ?_
            case y10a => intro o' ho; simp only [execOp, ho]; go_simp; try rfl
            refine (refsize_any la1 (.slice aL1 nL1 cL1) count bytes' za Rw (HM8.out.E.below HBR) (by rw [HN1.out]; omega) HZA.out (by omega)).mono ?_
            rintro e w21 ⟨rfl, HB21⟩
            have HBS : Below w8.heap.size w8 w21 := HBR.trans (HB21.out.mono HBR.size)
            refine ⟨_, rfl, HBS, ?_⟩
            simp only [Act.put, List.setIfInBounds_toArray, List.set_cons_zero, List.set_cons_succ]
            refine heldTake (d := some 174) (op := .binOp BinOp.neq 3 (Operand.tmp 171) (Operand.tmp 173) 3) (g := some (6, false)) 11 (.bool false) rfl (by kernel_rfl) (by kernel_rfl) (by kernel_rfl) (by kernel_rfl) ?y11a HBS ?_
            case y11a => intro o' ho W hS; exact by simp only [execOp, ho]; go_simp; first | done | (simp; done) | rfl
            simp only [Act.put, List.setIfInBounds_toArray, List.set_cons_zero, List.set_cons_succ]
            refine heldTake (d := some 175) (op := .pick (Operand.tmp 169) (Operand.const (Value.bool true)) (Operand.tmp 174)) (g := none) 12 (.bool false) rfl (by kernel_rfl) (by kernel_rfl) (by kernel_rfl) (by kernel_rfl) ?y12a HBS ?_
            case y12a => intro o' ho W hS; exact by simp only [execOp, ho]; go_simp; first | done | (simp; done) | rfl
            simp only [Act.put, List.setIfInBounds_toArray, List.set_cons_zero, List.set_cons_succ]
            refine heldTake (d := some 176) (op := .move (Operand.tmp 175)) (g := none) 13 (.bool false) rfl (by kernel_rfl) (by kernel_rfl) (by kernel_rfl) (by kernel_rfl) ?y13a HBS ?_
            case y13a => intro o' ho W hS; exact by simp only [execOp, ho]; go_simp; first | done | (simp; done) | rfl
            simp only [Act.put, List.setIfInBounds_toArray, List.set_cons_zero, List.set_cons_succ]
            refine heldTake (d := some 177) (op := .move (Operand.tmp 7)) (g := some (13, false)) 14 ?v14a rfl (by kernel_rfl) (by kernel_rfl) (by kernel_rfl) (by kernel_rfl) ?y14a HBS ?_
            case y14a => intro o' ho W hS; simp only [execOp, ho]; go_simp; try rfl
            simp only [Act.put, List.setIfInBounds_toArray, List.set_cons_zero, List.set_cons_succ]
            refine heldTake (d := some 179) (op := .move (Operand.tmp 0)) (g := some (13, false)) 16 ?v16a rfl (by kernel_rfl) (by kernel_rfl) (by kernel_rfl) (by kernel_rfl) ?y16a HBS ?_
            case y16a => intro o' ho W hS; simp only [execOp, ho]; go_simp; try rfl
            simp only [Act.put, List.setIfInBounds_toArray, List.set_cons_zero, List.set_cons_succ]
            refine heldCall (d := some 178) (op := .call { callee := Callee.value (Operand.func 17), args := #[Operand.tmp 177], argTypes := #[23] }) (g := some (13, false)) 15 17 #[.pointer (some ⟨q, 0, none⟩)] rfl (by kernel_rfl) (by kernel_rfl) ?y15a ?_
            case y15a => intro o' ho; simp only [execOp, ho]; go_simp; try rfl
            refine (len_any HN1.out (HM8.out.Q.below HBS).N).mono ?_
            rintro e w22 ⟨rfl, rfl⟩
            refine ⟨_, rfl, HBS, ?_⟩
            simp only [Act.put, List.setIfInBounds_toArray, List.set_cons_zero, List.set_cons_succ]
            refine heldTake (d := some 180) (op := .binOp BinOp.gtr 3 (Operand.tmp 178) (Operand.tmp 179) 3) (g := some (13, false)) 17 (.bool false) rfl (by kernel_rfl) (by kernel_rfl) (by kernel_rfl) (by kernel_rfl) ?y17a HBS ?_
            case y17a => intro o' ho W hS; exact by simp only [execOp, ho]; go_simp; first | done | (simp; done) | rfl
            simp only [Act.put, List.setIfInBounds_toArray, List.set_cons_zero, List.set_cons_succ]
            refine heldTake (d := some 181) (op := .pick (Operand.tmp 176) (Operand.const (Value.bool true)) (Operand.tmp 180)) (g := none) 18 (.bool false) rfl (by kernel_rfl) (by kernel_rfl) (by kernel_rfl) (by kernel_rfl) ?y18a HBS ?_
            case y18a => intro o' ho W hS; exact by simp only [execOp, ho]; go_simp; first | done | (simp; done) | rfl
            simp only [Act.put, List.setIfInBounds_toArray, List.set_cons_zero, List.set_cons_succ]
            refine heldTake (d := some 182) (op := .move (Operand.tmp 181)) (g := none) 19 (.bool false) rfl (by kernel_rfl) (by kernel_rfl) (by kernel_rfl) (by kernel_rfl) ?y19a HBS ?_
            case y19a => intro o' ho W hS; exact by simp only [execOp, ho]; go_simp; first | done | (simp; done) | rfl
            simp only [Act.put, List.setIfInBounds_toArray, List.set_cons_zero, List.set_cons_succ]
            refine heldTake (d := some 183) (op := .move (Operand.tmp 7)) (g := some (19, false)) 20 ?v20a rfl (by kernel_rfl) (by kernel_rfl) (by kernel_rfl) (by kernel_rfl) ?y20a HBS ?_
            case y20a => intro o' ho W hS; simp only [execOp, ho]; go_simp; try rfl
            simp only [Act.put, List.setIfInBounds_toArray, List.set_cons_zero, List.set_cons_succ]
            refine heldTake (d := some 185) (op := .move (Operand.tmp 1)) (g := some (19, false)) 22 ?v22a rfl (by kernel_rfl) (by kernel_rfl) (by kernel_rfl) (by kernel_rfl) ?y22a HBS ?_
            case y22a => intro o' ho W hS; simp only [execOp, ho]; go_simp; try rfl
            simp only [Act.put, List.setIfInBounds_toArray, List.set_cons_zero, List.set_cons_succ]
            have hN3 := (HM8.out.Q.below HBS).N
            rw [HZA.out] at hN3
            refine heldCall (d := some 184) (op := .call { callee := Callee.value (Operand.func 18), args := #[Operand.tmp 183], argTypes := #[23] }) (g := some (19, false)) 21 18 #[.pointer (some ⟨q, 0, none⟩)] rfl (by kernel_rfl) (by kernel_rfl) ?y21a ?_
            case y21a => intro o' ho; simp only [execOp, ho]; go_simp; try rfl
            refine (size_any hN3).mono ?_
            rintro e w22 ⟨rfl, rfl⟩
            refine ⟨_, rfl, HBS, ?_⟩
            simp only [Act.put, List.setIfInBounds_toArray, List.set_cons_zero, List.set_cons_succ]
            refine heldTake (d := some 186) (op := .binOp BinOp.gtr 3 (Operand.tmp 184) (Operand.tmp 185) 3) (g := some (19, false)) 23 (.bool false) rfl (by kernel_rfl) (by kernel_rfl) (by kernel_rfl) (by kernel_rfl) ?y23a HBS ?_
            case y23a => intro o' ho W hS; exact by simp only [execOp, ho]; go_simp; first | done | (simp; done) | rfl
            simp only [Act.put, List.setIfInBounds_toArray, List.set_cons_zero, List.set_cons_succ]
            refine heldTake (d := some 187) (op := .pick (Operand.tmp 182) (Operand.const (Value.bool true)) (Operand.tmp 186)) (g := none) 24 (.bool false) rfl (by kernel_rfl) (by kernel_rfl) (by kernel_rfl) (by kernel_rfl) ?y24a HBS ?_
            case y24a => intro o' ho W hS; exact by simp only [execOp, ho]; go_simp; first | done | (simp; done) | rfl
            simp only [Act.put, List.setIfInBounds_toArray, List.set_cons_zero, List.set_cons_succ]
            refine wpAnyH_done (by kernel_rfl) ?_ _
            refine NoPanic.normal ?_
            have HM9 := Sl.mk (HM8.out.below HBS)
            clear HBR HBS HB21 hN2 hN3
            go_wp2
            exact ⟨⟨k + 1, _, _, la1, by go_num, by omega, by omega, HM9⟩, by simp [intOf]; omega⟩
          · have hq3 : ((s.size : Int) ≤ 300) = False := eq_false (by omega)
            obtain ⟨la1, hla1⟩ : ∃ x, la = x := ⟨_, rfl⟩
            have HM8 := HMa
            rw [hla1] at HM8 HNL
            obtain ⟨za, hza⟩ : ∃ x, size la1 = x := ⟨_, rfl⟩
            have HZA := Sl.mk hza
            have hIw := HM8.out.Q.I
            have hmo := HM8.out.Q.most
            unfold Within at hIw
            rw [HNL.out, hza] at hIw hmo
            have hg1 : ((nl : Int) > count) = False := eq_false (by omega)
            have hg2 : ((za : Int) > bytes') = False := eq_false (by omega)
            clear hza
            have hml := HM8.out.lt
            go_upto_region 27 with fail
            obtain ⟨Rw, hRw⟩ : ∃ R, wa.drew = R := ⟨_, rfl⟩
            have HBR : Below wa.heap.size wa Rw := by rw [← hRw]; exact (Below.refl _ _).drew
            refine wp_region_noPanic ?_
            refine wp_region_held (S := fun V => Below wa.heap.size wa V) (by kernel_rfl) ?_
            change wpAnyH _ _ _ _ _ _ _ _ wa.drew
            rw [hRw]
            clear hRw
            refine heldTake (d := some 163) (op := .move (Operand.tmp 7)) (g := none) 0 ?v0b rfl (by kernel_rfl) (by kernel_rfl) (by kernel_rfl) (by kernel_rfl) ?y0b HBR ?_
            case y0b => intro o' ho W hS; simp only [execOp, ho]; go_simp; try rfl
            simp only [Act.put, List.setIfInBounds_toArray, List.set_cons_zero, List.set_cons_succ]
            refine heldTake (d := some 165) (op := .fieldAddr 30 (Operand.tmp 9) 2) (g := none) 2 ?v2b rfl (by kernel_rfl) (by kernel_rfl) (by kernel_rfl) (by kernel_rfl) ?y2b HBR ?_
            case y2b => intro o' ho W hS; simp only [execOp, ho]; go_simp; try rfl
            simp only [Act.put, List.setIfInBounds_toArray, List.set_cons_zero, List.set_cons_succ]
            refine heldTake (d := some 166) (op := .load 28 (Operand.tmp 165)) (g := none) 3 ?v3b rfl (by kernel_rfl) (by kernel_rfl) (by kernel_rfl) (by kernel_rfl) ?y3b HBR ?_
            case y3b => intro o' ho W hS; obtain ⟨d0, d1, d2⟩ := q_cells ((hS.block _ hml).trans HM8.out.B.1); simp only [execOp, ho]; go_simp; try rfl
            simp only [Act.put, List.setIfInBounds_toArray, List.set_cons_zero, List.set_cons_succ]
            refine heldTake (d := some 167) (op := .call { callee := Callee.builtin Builtin.len, args := #[Operand.tmp 166], argTypes := #[28] }) (g := none) 4 ?v4b rfl (by kernel_rfl) (by kernel_rfl) (by kernel_rfl) (by kernel_rfl) ?y4b HBR ?_
            case y4b => intro o' ho W hS; simp only [execOp, ho]; go_simp; try rfl
            simp only [Act.put, List.setIfInBounds_toArray, List.set_cons_zero, List.set_cons_succ]
            refine heldCall (d := some 164) (op := .call { callee := Callee.value (Operand.func 17), args := #[Operand.tmp 163], argTypes := #[23] }) (g := none) 1 17 #[.pointer (some ⟨q, 0, none⟩)] rfl (by kernel_rfl) (by kernel_rfl) ?y1b ?_
            case y1b => intro o' ho; simp only [execOp, ho]; go_simp; try rfl
            refine (len_any HNL.out (HM8.out.Q.below HBR).N).mono ?_
            rintro e w20 ⟨rfl, rfl⟩
            refine ⟨_, rfl, HBR, ?_⟩
            simp only [Act.put, List.setIfInBounds_toArray, List.set_cons_zero, List.set_cons_succ]
            refine heldTake (d := some 168) (op := .binOp BinOp.neq 3 (Operand.tmp 164) (Operand.tmp 167) 3) (g := none) 5 (.bool false) rfl (by kernel_rfl) (by kernel_rfl) (by kernel_rfl) (by kernel_rfl) ?y5b HBR ?_
            case y5b => intro o' ho W hS; exact by simp only [execOp, ho]; go_simp; first | done | (simp; done) | rfl
            simp only [Act.put, List.setIfInBounds_toArray, List.set_cons_zero, List.set_cons_succ]
            refine heldTake (d := some 169) (op := .move (Operand.tmp 168)) (g := none) 6 (.bool false) rfl (by kernel_rfl) (by kernel_rfl) (by kernel_rfl) (by kernel_rfl) ?y6b HBR ?_
            case y6b => intro o' ho W hS; exact by simp only [execOp, ho]; go_simp; first | done | (simp; done) | rfl
            simp only [Act.put, List.setIfInBounds_toArray, List.set_cons_zero, List.set_cons_succ]
            refine heldTake (d := some 170) (op := .move (Operand.tmp 7)) (g := some (6, false)) 7 ?v7b rfl (by kernel_rfl) (by kernel_rfl) (by kernel_rfl) (by kernel_rfl) ?y7b HBR ?_
            case y7b => intro o' ho W hS; simp only [execOp, ho]; go_simp; try rfl
            simp only [Act.put, List.setIfInBounds_toArray, List.set_cons_zero, List.set_cons_succ]
            refine heldTake (d := some 172) (op := .load 30 (Operand.tmp 9)) (g := some (6, false)) 9 ?v9b rfl (by kernel_rfl) (by kernel_rfl) (by kernel_rfl) (by kernel_rfl) ?y9b HBR ?_
            case y9b => intro o' ho W hS; obtain ⟨d0, d1, d2⟩ := q_cells ((hS.block _ hml).trans HM8.out.B.1); simp only [execOp, ho]; go_simp; try rfl
            simp only [Act.put, List.setIfInBounds_toArray, List.set_cons_zero, List.set_cons_succ]
            have hN2 := (HM8.out.Q.below HBR).N
            rw [HZA.out] at hN2
            refine heldCall (d := some 171) (op := .call { callee := Callee.value (Operand.func 18), args := #[Operand.tmp 170], argTypes := #[23] }) (g := some (6, false)) 8 18 #[.pointer (some ⟨q, 0, none⟩)] rfl (by kernel_rfl) (by kernel_rfl) ?y8b ?_
            case y8b => intro o' ho; simp only [execOp, ho]; go_simp; try rfl
            refine (size_any hN2).mono ?_
            rintro e w20 ⟨rfl, rfl⟩
            refine ⟨_, rfl, HBR, ?_⟩
            simp only [Act.put, List.setIfInBounds_toArray, List.set_cons_zero, List.set_cons_succ]
            refine heldCall (d := some 173) (op := .call { callee := Callee.value (Operand.func 19), args := #[Operand.tmp 172], argTypes := #[30] }) (g := some (6, false)) 10 19 #[.agg #[.int .i64 count, .int .i64 bytes', .slice aL0 nl cL0]] rfl (by kernel_rfl) (by kernel_rfl) ?y10b ?_
            case y10b => intro o' ho; simp only [execOp, ho]; go_simp; try rfl
            refine (refsize_any la1 (.slice aL0 nl cL0) count bytes' za Rw (HM8.out.E.below HBR) (by rw [HNL.out]; omega) HZA.out (by omega)).mono ?_
            rintro e w21 ⟨rfl, HB21⟩
            have HBS : Below wa.heap.size wa w21 := HBR.trans (HB21.out.mono HBR.size)
            refine ⟨_, rfl, HBS, ?_⟩
            simp only [Act.put, List.setIfInBounds_toArray, List.set_cons_zero, List.set_cons_succ]
            refine heldTake (d := some 174) (op := .binOp BinOp.neq 3 (Operand.tmp 171) (Operand.tmp 173) 3) (g := some (6, false)) 11 (.bool false) rfl (by kernel_rfl) (by kernel_rfl) (by kernel_rfl) (by kernel_rfl) ?y11b HBS ?_
            case y11b => intro o' ho W hS; exact by simp only [execOp, ho]; go_simp; first | done | (simp; done) | rfl
            simp only [Act.put, List.setIfInBounds_toArray, List.set_cons_zero, List.set_cons_succ]
            refine heldTake (d := some 175) (op := .pick (Operand.tmp 169) (Operand.const (Value.bool true)) (Operand.tmp 174)) (g := none) 12 (.bool false) rfl (by kernel_rfl) (by kernel_rfl) (by kernel_rfl) (by kernel_rfl) ?y12b HBS ?_
            case y12b => intro o' ho W hS; exact by simp only [execOp, ho]; go_simp; first | done | (simp; done) | rfl
            simp only [Act.put, List.setIfInBounds_toArray, List.set_cons_zero, List.set_cons_succ]
            refine heldTake (d := some 176) (op := .move (Operand.tmp 175)) (g := none) 13 (.bool false) rfl (by kernel_rfl) (by kernel_rfl) (by kernel_rfl) (by kernel_rfl) ?y13b HBS ?_
            case y13b => intro o' ho W hS; exact by simp only [execOp, ho]; go_simp; first | done | (simp; done) | rfl
            simp only [Act.put, List.setIfInBounds_toArray, List.set_cons_zero, List.set_cons_succ]
            refine heldTake (d := some 177) (op := .move (Operand.tmp 7)) (g := some (13, false)) 14 ?v14b rfl (by kernel_rfl) (by kernel_rfl) (by kernel_rfl) (by kernel_rfl) ?y14b HBS ?_
            case y14b => intro o' ho W hS; simp only [execOp, ho]; go_simp; try rfl
            simp only [Act.put, List.setIfInBounds_toArray, List.set_cons_zero, List.set_cons_succ]
            refine heldTake (d := some 179) (op := .move (Operand.tmp 0)) (g := some (13, false)) 16 ?v16b rfl (by kernel_rfl) (by kernel_rfl) (by kernel_rfl) (by kernel_rfl) ?y16b HBS ?_
            case y16b => intro o' ho W hS; simp only [execOp, ho]; go_simp; try rfl
            simp only [Act.put, List.setIfInBounds_toArray, List.set_cons_zero, List.set_cons_succ]
            refine heldCall (d := some 178) (op := .call { callee := Callee.value (Operand.func 17), args := #[Operand.tmp 177], argTypes := #[23] }) (g := some (13, false)) 15 17 #[.pointer (some ⟨q, 0, none⟩)] rfl (by kernel_rfl) (by kernel_rfl) ?y15b ?_
            case y15b => intro o' ho; simp only [execOp, ho]; go_simp; try rfl
            refine (len_any HNL.out (HM8.out.Q.below HBS).N).mono ?_
            rintro e w22 ⟨rfl, rfl⟩
            refine ⟨_, rfl, HBS, ?_⟩
            simp only [Act.put, List.setIfInBounds_toArray, List.set_cons_zero, List.set_cons_succ]
            refine heldTake (d := some 180) (op := .binOp BinOp.gtr 3 (Operand.tmp 178) (Operand.tmp 179) 3) (g := some (13, false)) 17 (.bool false) rfl (by kernel_rfl) (by kernel_rfl) (by kernel_rfl) (by kernel_rfl) ?y17b HBS ?_
            case y17b => intro o' ho W hS; exact by simp only [execOp, ho]; go_simp; first | done | (simp; done) | rfl
            simp only [Act.put, List.setIfInBounds_toArray, List.set_cons_zero, List.set_cons_succ]
            refine heldTake (d := some 181) (op := .pick (Operand.tmp 176) (Operand.const (Value.bool true)) (Operand.tmp 180)) (g := none) 18 (.bool false) rfl (by kernel_rfl) (by kernel_rfl) (by kernel_rfl) (by kernel_rfl) ?y18b HBS ?_
            case y18b => intro o' ho W hS; exact by simp only [execOp, ho]; go_simp; first | done | (simp; done) | rfl
            simp only [Act.put, List.setIfInBounds_toArray, List.set_cons_zero, List.set_cons_succ]
            refine heldTake (d := some 182) (op := .move (Operand.tmp 181)) (g := none) 19 (.bool false) rfl (by kernel_rfl) (by kernel_rfl) (by kernel_rfl) (by kernel_rfl) ?y19b HBS ?_
            case y19b => intro o' ho W hS; exact by simp only [execOp, ho]; go_simp; first | done | (simp; done) | rfl
            simp only [Act.put, List.setIfInBounds_toArray, List.set_cons_zero, List.set_cons_succ]
            refine heldTake (d := some 183) (op := .move (Operand.tmp 7)) (g := some (19, false)) 20 ?v20b rfl (by kernel_rfl) (by kernel_rfl) (by kernel_rfl) (by kernel_rfl) ?y20b HBS ?_
            case y20b => intro o' ho W hS; simp only [execOp, ho]; go_simp; try rfl
            simp only [Act.put, List.setIfInBounds_toArray, List.set_cons_zero, List.set_cons_succ]
            refine heldTake (d := some 185) (op := .move (Operand.tmp 1)) (g := some (19, false)) 22 ?v22b rfl (by kernel_rfl) (by kernel_rfl) (by kernel_rfl) (by kernel_rfl) ?y22b HBS ?_
            case y22b => intro o' ho W hS; simp only [execOp, ho]; go_simp; try rfl
            simp only [Act.put, List.setIfInBounds_toArray, List.set_cons_zero, List.set_cons_succ]
            have hN3 := (HM8.out.Q.below HBS).N
            rw [HZA.out] at hN3
            refine heldCall (d := some 184) (op := .call { callee := Callee.value (Operand.func 18), args := #[Operand.tmp 183], argTypes := #[23] }) (g := some (19, false)) 21 18 #[.pointer (some ⟨q, 0, none⟩)] rfl (by kernel_rfl) (by kernel_rfl) ?y21b ?_
            case y21b => intro o' ho; simp only [execOp, ho]; go_simp; try rfl
            refine (size_any hN3).mono ?_
            rintro e w22 ⟨rfl, rfl⟩
            refine ⟨_, rfl, HBS, ?_⟩
            simp only [Act.put, List.setIfInBounds_toArray, List.set_cons_zero, List.set_cons_succ]
            refine heldTake (d := some 186) (op := .binOp BinOp.gtr 3 (Operand.tmp 184) (Operand.tmp 185) 3) (g := some (19, false)) 23 (.bool false) rfl (by kernel_rfl) (by kernel_rfl) (by kernel_rfl) (by kernel_rfl) ?y23b HBS ?_
            case y23b => intro o' ho W hS; exact by simp only [execOp, ho]; go_simp; first | done | (simp; done) | rfl
            simp only [Act.put, List.setIfInBounds_toArray, List.set_cons_zero, List.set_cons_succ]
            refine heldTake (d := some 187) (op := .pick (Operand.tmp 182) (Operand.const (Value.bool true)) (Operand.tmp 186)) (g := none) 24 (.bool false) rfl (by kernel_rfl) (by kernel_rfl) (by kernel_rfl) (by kernel_rfl) ?y24b HBS ?_
            case y24b => intro o' ho W hS; exact by simp only [execOp, ho]; go_simp; first | done | (simp; done) | rfl
            simp only [Act.put, List.setIfInBounds_toArray, List.set_cons_zero, List.set_cons_succ]
            refine wpAnyH_done (by kernel_rfl) ?_ _
            refine NoPanic.normal ?_
            have HM9 := Sl.mk (HM8.out.below HBS)
            clear HBR HBS HB21 hN2 hN3
            go_wp2
            exact ⟨⟨k + 1, _, _, la1, by go_num, by omega, by omega, HM9⟩, by simp [intOf]; omega⟩
        have hk01 : (kd == 0) = false := beq_eq_false_iff_ne.2 hk0
        by_cases hk1 : kd = 1
        · subst hk1
          obtain ⟨o2, k2, s2, hhd⟩ : ∃ o c s, evV (hd la) = .agg #[.int .i64 o, .int .i64 c, .string s] := ⟨_, _, _, rfl⟩
          obtain ⟨b, hb⟩ : ∃ b, (!la.isEmpty) = b := ⟨_, rfl⟩
          have HHD := Sl.mk hhd
          have HHB := Sl.mk hb
          clear hhd hb
          have hs := ev_same o2 k2 s2
          have hbb : (b != b) = false := by cases b <;> rfl
          obtain ⟨la1, hla1⟩ : ∃ x, la.tail = x := ⟨_, rfl⟩
          have RT := reftake_any la (.slice aL0 nl cL0) count bytes' o2 k2 s2 b wa HMa.out.E (fun g hg => (HMa.out.d g hg).2.2) (by omega) HHD.out HHB.out
          rw [hla1] at RT
          have HLA := Sl.mk hla1
          obtain ⟨d0, d1, d2⟩ := q_cells HMa.out.B.1
          clear hla1
          go_wp2_with fail
          refine RT.mono ?_
          rintro e w5 ⟨L1, rfl, HE5, HF5, HB5⟩
          clear RT
          clear d0 d1 d2 f0 f1 f2 f3 f4
          obtain ⟨aL1, cL1, hL1⟩ := doc_slice HE5.out
          obtain ⟨nL1, hnL1⟩ : ∃ x, la1.length = x := ⟨_, rfl⟩
          rw [hnL1] at hL1
          subst hL1
          have HN1 := Sl.mk hnL1
          clear hnL1
          obtain ⟨w6a, hww6a, HBw6a, hbw6a⟩ := box_q w5 0 0 (.slice none 0 0)
          obtain ⟨w6b, hww6b, HBw6b, hbw6b⟩ := box_ev w6a
          have szw6 : Sl (w6a.heap.size = w5.heap.size + 1) := ⟨by rw [← hww6a]; exact alloc_size _ _⟩
          have hqw6 := below_key hbw6a HBw6b.out
          have HKw6 : Below w5.heap.size w5 w6b := HBw6a.out.trans (HBw6b.out.mono HBw6a.out.size)
          obtain ⟨w6c, hww6c, HBw6c, HCw6c⟩ := set_q hqw6 HKw6 (Nat.le_refl _) #[.int .i64 count, .int .i64 bytes', .slice aL1 nL1 cL1]
          have hew6 : (w6b.setRow w5.heap.size #[.int .i64 count, .int .i64 bytes', .slice aL1 nL1 cL1]).heap[w6a.heap.size]? = some (.cells #[.int .i64 0, .int .i64 0, .string { data := #[] }] 32 (0, 0)) := by rw [setRow_other _ _ _ _ (by have := szw6.out; omega)]; exact hbw6b
          have hew62 : w6c.heap[w6a.heap.size]? = some (.cells #[.int .i64 0, .int .i64 0, .string { data := #[] }] 32 (0, 0)) := by rw [← hww6c]; exact hew6
          obtain ⟨w6, hww6, HBw6, HCw6⟩ := set_ev hew62 HBw6c.out (by have := szw6.out; omega) #[.int .i64 o2, .int .i64 k2, .string s2]
          have HQw6 : Sl (w6.heap[w5.heap.size]? = some (.cells #[.int .i64 count, .int .i64 bytes', .slice aL1 nL1 cL1] 30 (0, 0))) := ⟨by rw [← hww6, setRow_other _ _ _ _ (by have := szw6.out; omega)]; exact HCw6c.out⟩
          have HIw6 := q_info count bytes' (.slice aL1 nL1 cL1)
          have HJw6 : (Try.prog.info? 32).map (·.size) = some (#[Value.int .i64 o2, .int .i64 k2, .string s2]).size := ev_info rfl
          have sw6 := szw6
          go_upto_region 18 with (first | (refine wpList_store_row rfl 30 (.tmp 14) (.tmp 112) rfl w5.heap.size #[.int .i64 count, .int .i64 bytes', .slice aL1 nL1 cL1] rfl rfl 30 #[.int .i64 0, .int .i64 0, .slice none 0 0] hqw6 HIw6 rfl (q_all _ _ _ _ _) ?_) | (refine wpList_store_row rfl 32 (.tmp 15) (.tmp 113) rfl w6a.heap.size #[.int .i64 o2, .int .i64 k2, .string s2] rfl rfl 32 #[.int .i64 0, .int .i64 0, .string { data := #[] }] hew6 HJw6 rfl (ev_all _ _ _) ?_) | (refine wpList_store_row rfl 32 (.tmp 15) (.tmp 113) rfl w6a.heap.size #[.int .i64 o2, .int .i64 k2, .string s2] rfl rfl 32 #[.int .i64 0, .int .i64 0, .string { data := #[] }] hew62 HJw6 rfl (ev_all _ _ _) ?_))
          (try rw [hww6c])
          (try rw [hww6])
          clear hww6a hww6b hww6c hww6 hbw6a hbw6b HBw6a HBw6b HBw6c HCw6c hew6 hew62 HIw6 HJw6 HKw6 hqw6 szw6
          obtain ⟨e1, he1⟩ : ∃ e, w5.heap.size = e := ⟨_, rfl⟩
          obtain ⟨e2, he2⟩ : ∃ e, w6a.heap.size = e := ⟨_, rfl⟩
          have HB56 : Sl (Below wa.heap.size wa w6) := ⟨HB5.out.trans (HBw6.out.mono HB5.out.size)⟩
          have HM6 := Sl.mk (HMa.out.below HB56.out)
          have HE6 := Sl.mk (HE5.out.below HBw6.out)
          have hd6 := HMa.out.apart (V := w6) HF5.out HBw6.out.size
          have hm6 := HM6.out.store HE6.out hd6
          obtain ⟨d0, d1, d2⟩ := q_cells HQw6.out
          have hb6 := HM6.out.B.1
          have HX6 : Sl (Beside w6 q u w6a.heap.size (.cells #[.int .i64 o2, .int .i64 k2, .string s2] 32 (0, 0)) ∧ w6a.heap.size ≠ mb) := ⟨⟨HCw6.out, fun e => by have := (HMa.out.Q.N.own e).2; have := HB5.out.size; have := sw6.out; omega⟩, by have := HMa.out.lt; have := HB5.out.size; have := sw6.out; omega⟩
          rw [he2] at HX6 ⊢
          obtain ⟨w7, hw7⟩ : ∃ V, w6.setRow mb #[.int .i64 count, .int .i64 bytes', .slice aL1 nL1 cL1] = V := ⟨_, rfl⟩
          rw [hw7] at hm6
          have HM7 := Sl.mk hm6
          have HX7 : Sl (Beside w7 q u e2 (.cells #[.int .i64 o2, .int .i64 k2, .string s2] 32 (0, 0))) := ⟨by rw [← hw7, setRow_other _ _ _ _ HX6.out.2]; exact HX6.out.1.1, HX6.out.1.2⟩
          have HI7 := q_info count bytes' (.slice aL1 nL1 cL1)
          clear hm6 hd6 HM6 HX6 HE6 HE5 HF5 HB5 HBw6 HCw6 HQw6 HB56 HMa HXa he2 he1
          go_upto_region 19 with (refine wpList_store_row rfl 30 (.tmp 9) (.tmp 115) rfl mb #[.int .i64 count, .int .i64 bytes', .slice aL1 nL1 cL1] rfl rfl 30 #[.int .i64 count, .int .i64 bytes', .slice aL0 nl cL0] hb6 HI7 rfl (q_all _ _ _ _ _) ?_)
          (try rw [hw7])
          clear hw7 d0 d1 d2 HI7 hb6
          have TK := take_any o2 k2 s2 b HM7.out.Q HHD.out HHB.out
          rw [HLA.out] at TK
          go_wp2_with fail
          refine TK.mono ?_
          rintro e w8 ⟨u8, rfl, HQ8, HG8⟩
          clear TK
          have HM8' := Sl.mk (HM7.out.queue HQ8.out HG8.out)
          have HX8 := Sl.mk (HX7.out.goes HG8.out)
          clear HM7 HX7 HQ8 HG8
          obtain ⟨w90, hww90, HBw90, hbw90⟩ := box_ev w8
          obtain ⟨w9, hww9, HBw9, HCw9⟩ := set_ev hbw90 HBw90.out (Nat.le_refl _) #[.int .i64 o2, .int .i64 k2, .string s2]
          have HIw9 : (Try.prog.info? 32).map (·.size) = some (#[Value.int .i64 o2, .int .i64 k2, .string s2]).size := ev_info rfl
          go_upto_region 20 with (refine wpList_store_row rfl 32 (.tmp 17) (.tmp 119) rfl w8.heap.size #[.int .i64 o2, .int .i64 k2, .string s2] rfl rfl 32 #[.int .i64 0, .int .i64 0, .string { data := #[] }] hbw90 HIw9 rfl (ev_all _ _ _) ?_)
          (try rw [hww9])
          clear hww90 hww9 hbw90 HBw90 HIw9
          have HM8 := Sl.mk (HM8'.out.below HBw9.out)
          have HX9 := Sl.mk (HX8.out.below HBw9.out)
          obtain ⟨d0, d1, d2⟩ := ev_cells HCw9.out
          obtain ⟨g0, g1, g2⟩ := ev_cells HX9.out.1
          clear HM8' HX8 HBw9
          obtain ⟨za, hza⟩ : ∃ x, size la1 = x := ⟨_, rfl⟩
          have HZA := Sl.mk hza
          have hIw := HM8.out.Q.I
          have hmo := HM8.out.Q.most
          unfold Within at hIw
          rw [HN1.out, hza] at hIw hmo
          have hg1 : ((nL1 : Int) > count) = False := eq_false (by omega)
          have hg2 : ((za : Int) > bytes') = False := eq_false (by omega)
          clear hza
          have hml := HM8.out.lt
          go_upto_region 27 with fail
          obtain ⟨Rw, hRw⟩ : ∃ R, w9.drew = R := ⟨_, rfl⟩
          have HBR : Below w9.heap.size w9 Rw := by rw [← hRw]; exact (Below.refl _ _).drew
          refine wp_region_noPanic ?_
          refine wp_region_held (S := fun V => Below w9.heap.size w9 V) (by kernel_rfl) ?_
          change wpAnyH _ _ _ _ _ _ _ _ w9.drew
          rw [hRw]
          clear hRw
          refine heldTake (d := some 163) (op := .move (Operand.tmp 7)) (g := none) 0 ?v0c0 rfl (by kernel_rfl) (by kernel_rfl) (by kernel_rfl) (by kernel_rfl) ?y0c0 HBR ?_
          case y0c0 => intro o' ho W hS; simp only [execOp, ho]; go_simp; try rfl
          simp only [Act.put, List.setIfInBounds_toArray, List.set_cons_zero, List.set_cons_succ]
          refine heldTake (d := some 165) (op := .fieldAddr 30 (Operand.tmp 9) 2) (g := none) 2 ?v2c0 rfl (by kernel_rfl) (by kernel_rfl) (by kernel_rfl) (by kernel_rfl) ?y2c0 HBR ?_
          case y2c0 => intro o' ho W hS; simp only [execOp, ho]; go_simp; try rfl
          simp only [Act.put, List.setIfInBounds_toArray, List.set_cons_zero, List.set_cons_succ]
          refine heldTake (d := some 166) (op := .load 28 (Operand.tmp 165)) (g := none) 3 ?v3c0 rfl (by kernel_rfl) (by kernel_rfl) (by kernel_rfl) (by kernel_rfl) ?y3c0 HBR ?_
          case y3c0 => intro o' ho W hS; obtain ⟨d0, d1, d2⟩ := q_cells ((hS.block _ hml).trans HM8.out.B.1); simp only [execOp, ho]; go_simp; try rfl
          simp only [Act.put, List.setIfInBounds_toArray, List.set_cons_zero, List.set_cons_succ]
          refine heldTake (d := some 167) (op := .call { callee := Callee.builtin Builtin.len, args := #[Operand.tmp 166], argTypes := #[28] }) (g := none) 4 ?v4c0 rfl (by kernel_rfl) (by kernel_rfl) (by kernel_rfl) (by kernel_rfl) ?y4c0 HBR ?_
          case y4c0 => intro o' ho W hS; simp only [execOp, ho]; go_simp; try rfl
          simp only [Act.put, List.setIfInBounds_toArray, List.set_cons_zero, List.set_cons_succ]
          refine heldCall (d := some 164) (op := .call { callee := Callee.value (Operand.func 17), args := #[Operand.tmp 163], argTypes := #[23] }) (g := none) 1 17 #[.pointer (some ⟨q, 0, none⟩)] rfl (by kernel_rfl) (by kernel_rfl) ?y1c0 ?_
          case y1c0 => intro o' ho; simp only [execOp, ho]; go_simp; try rfl
          refine (len_any HN1.out (HM8.out.Q.below HBR).N).mono ?_
          rintro e w20 ⟨rfl, rfl⟩
          refine ⟨_, rfl, HBR, ?_⟩
          simp only [Act.put, List.setIfInBounds_toArray, List.set_cons_zero, List.set_cons_succ]
          refine heldTake (d := some 168) (op := .binOp BinOp.neq 3 (Operand.tmp 164) (Operand.tmp 167) 3) (g := none) 5 (.bool false) rfl (by kernel_rfl) (by kernel_rfl) (by kernel_rfl) (by kernel_rfl) ?y5c0 HBR ?_
          case y5c0 => intro o' ho W hS; exact by simp only [execOp, ho]; go_simp; first | done | (simp; done) | rfl
          simp only [Act.put, List.setIfInBounds_toArray, List.set_cons_zero, List.set_cons_succ]
          refine heldTake (d := some 169) (op := .move (Operand.tmp 168)) (g := none) 6 (.bool false) rfl (by kernel_rfl) (by kernel_rfl) (by kernel_rfl) (by kernel_rfl) ?y6c0 HBR ?_
          case y6c0 => intro o' ho W hS; exact by simp only [execOp, ho]; go_simp; first | done | (simp; done) | rfl
          simp only [Act.put, List.setIfInBounds_toArray, List.set_cons_zero, List.set_cons_succ]
          refine heldTake (d := some 170) (op := .move (Operand.tmp 7)) (g := some (6, false)) 7 ?v7c0 rfl (by kernel_rfl) (by kernel_rfl) (by kernel_rfl) (by kernel_rfl) ?y7c0 HBR ?_
          case y7c0 => intro o' ho W hS; simp only [execOp, ho]; go_simp; try rfl
          simp only [Act.put, List.setIfInBounds_toArray, List.set_cons_zero, List.set_cons_succ]
          refine heldTake (d := some 172) (op := .load 30 (Operand.tmp 9)) (g := some (6, false)) 9 ?v9c0 rfl (by kernel_rfl) (by kernel_rfl) (by kernel_rfl) (by kernel_rfl) ?y9c0 HBR ?_
          case y9c0 => intro o' ho W hS; obtain ⟨d0, d1, d2⟩ := q_cells ((hS.block _ hml).trans HM8.out.B.1); simp only [execOp, ho]; go_simp; try rfl
          simp only [Act.put, List.setIfInBounds_toArray, List.set_cons_zero, List.set_cons_succ]
          have hN2 := (HM8.out.Q.below HBR).N
          rw [HZA.out] at hN2
          refine heldCall (d := some 171) (op := .call { callee := Callee.value (Operand.func 18), args := #[Operand.tmp 170], argTypes := #[23] }) (g := some (6, false)) 8 18 #[.pointer (some ⟨q, 0, none⟩)] rfl (by kernel_rfl) (by kernel_rfl) ?y8c0 ?_
          case y8c0 => intro o' ho; simp only [execOp, ho]; go_simp; try rfl
          refine (size_any hN2).mono ?_
          rintro e w20 ⟨rfl, rfl⟩
          refine ⟨_, rfl, HBR, ?_⟩
          simp only [Act.put, List.setIfInBounds_toArray, List.set_cons_zero, List.set_cons_succ]
          refine heldCall (d := some 173) (op := .call { callee := Callee.value (Operand.func 19), args := #[Operand.tmp 172], argTypes := #[30] }) (g := some (6, false)) 10 19 #[.agg #[.int .i64 count, .int .i64 bytes', .slice aL1 nL1 cL1]] rfl (by kernel_rfl) (by kernel_rfl) ?y10c0 ?_
          case y10c0 => intro o' ho; simp only [execOp, ho]; go_simp; try rfl
          refine (refsize_any la1 (.slice aL1 nL1 cL1) count bytes' za Rw (HM8.out.E.below HBR) (by rw [HN1.out]; omega) HZA.out (by omega)).mono ?_
          rintro e w21 ⟨rfl, HB21⟩
          have HBS : Below w9.heap.size w9 w21 := HBR.trans (HB21.out.mono HBR.size)
          refine ⟨_, rfl, HBS, ?_⟩
          simp only [Act.put, List.setIfInBounds_toArray, List.set_cons_zero, List.set_cons_succ]
          refine heldTake (d := some 174) (op := .binOp BinOp.neq 3 (Operand.tmp 171) (Operand.tmp 173) 3) (g := some (6, false)) 11 (.bool false) rfl (by kernel_rfl) (by kernel_rfl) (by kernel_rfl) (by kernel_rfl) ?y11c0 HBS ?_
          case y11c0 => intro o' ho W hS; exact by simp only [execOp, ho]; go_simp; first | done | (simp; done) | rfl
          simp only [Act.put, List.setIfInBounds_toArray, List.set_cons_zero, List.set_cons_succ]
          refine heldTake (d := some 175) (op := .pick (Operand.tmp 169) (Operand.const (Value.bool true)) (Operand.tmp 174)) (g := none) 12 (.bool false) rfl (by kernel_rfl) (by kernel_rfl) (by kernel_rfl) (by kernel_rfl) ?y12c0 HBS ?_
          case y12c0 => intro o' ho W hS; exact by simp only [execOp, ho]; go_simp; first | done | (simp; done) | rfl
          simp only [Act.put, List.setIfInBounds_toArray, List.set_cons_zero, List.set_cons_succ]
          refine heldTake (d := some 176) (op := .move (Operand.tmp 175)) (g := none) 13 (.bool false) rfl (by kernel_rfl) (by kernel_rfl) (by kernel_rfl) (by kernel_rfl) ?y13c0 HBS ?_
          case y13c0 => intro o' ho W hS; exact by simp only [execOp, ho]; go_simp; first | done | (simp; done) | rfl
          simp only [Act.put, List.setIfInBounds_toArray, List.set_cons_zero, List.set_cons_succ]
          refine heldTake (d := some 177) (op := .move (Operand.tmp 7)) (g := some (13, false)) 14 ?v14c0 rfl (by kernel_rfl) (by kernel_rfl) (by kernel_rfl) (by kernel_rfl) ?y14c0 HBS ?_
          case y14c0 => intro o' ho W hS; simp only [execOp, ho]; go_simp; try rfl
          simp only [Act.put, List.setIfInBounds_toArray, List.set_cons_zero, List.set_cons_succ]
          refine heldTake (d := some 179) (op := .move (Operand.tmp 0)) (g := some (13, false)) 16 ?v16c0 rfl (by kernel_rfl) (by kernel_rfl) (by kernel_rfl) (by kernel_rfl) ?y16c0 HBS ?_
          case y16c0 => intro o' ho W hS; simp only [execOp, ho]; go_simp; try rfl
          simp only [Act.put, List.setIfInBounds_toArray, List.set_cons_zero, List.set_cons_succ]
          refine heldCall (d := some 178) (op := .call { callee := Callee.value (Operand.func 17), args := #[Operand.tmp 177], argTypes := #[23] }) (g := some (13, false)) 15 17 #[.pointer (some ⟨q, 0, none⟩)] rfl (by kernel_rfl) (by kernel_rfl) ?y15c0 ?_
          case y15c0 => intro o' ho; simp only [execOp, ho]; go_simp; try rfl
          refine (len_any HN1.out (HM8.out.Q.below HBS).N).mono ?_
          rintro e w22 ⟨rfl, rfl⟩
          refine ⟨_, rfl, HBS, ?_⟩
          simp only [Act.put, List.setIfInBounds_toArray, List.set_cons_zero, List.set_cons_succ]
          refine heldTake (d := some 180) (op := .binOp BinOp.gtr 3 (Operand.tmp 178) (Operand.tmp 179) 3) (g := some (13, false)) 17 (.bool false) rfl (by kernel_rfl) (by kernel_rfl) (by kernel_rfl) (by kernel_rfl) ?y17c0 HBS ?_
          case y17c0 => intro o' ho W hS; exact by simp only [execOp, ho]; go_simp; first | done | (simp; done) | rfl
          simp only [Act.put, List.setIfInBounds_toArray, List.set_cons_zero, List.set_cons_succ]
          refine heldTake (d := some 181) (op := .pick (Operand.tmp 176) (Operand.const (Value.bool true)) (Operand.tmp 180)) (g := none) 18 (.bool false) rfl (by kernel_rfl) (by kernel_rfl) (by kernel_rfl) (by kernel_rfl) ?y18c0 HBS ?_
          case y18c0 => intro o' ho W hS; exact by simp only [execOp, ho]; go_simp; first | done | (simp; done) | rfl
          simp only [Act.put, List.setIfInBounds_toArray, List.set_cons_zero, List.set_cons_succ]
          refine heldTake (d := some 182) (op := .move (Operand.tmp 181)) (g := none) 19 (.bool false) rfl (by kernel_rfl) (by kernel_rfl) (by kernel_rfl) (by kernel_rfl) ?y19c0 HBS ?_
          case y19c0 => intro o' ho W hS; exact by simp only [execOp, ho]; go_simp; first | done | (simp; done) | rfl
          simp only [Act.put, List.setIfInBounds_toArray, List.set_cons_zero, List.set_cons_succ]
          refine heldTake (d := some 183) (op := .move (Operand.tmp 7)) (g := some (19, false)) 20 ?v20c0 rfl (by kernel_rfl) (by kernel_rfl) (by kernel_rfl) (by kernel_rfl) ?y20c0 HBS ?_
          case y20c0 => intro o' ho W hS; simp only [execOp, ho]; go_simp; try rfl
          simp only [Act.put, List.setIfInBounds_toArray, List.set_cons_zero, List.set_cons_succ]
          refine heldTake (d := some 185) (op := .move (Operand.tmp 1)) (g := some (19, false)) 22 ?v22c0 rfl (by kernel_rfl) (by kernel_rfl) (by kernel_rfl) (by kernel_rfl) ?y22c0 HBS ?_
          case y22c0 => intro o' ho W hS; simp only [execOp, ho]; go_simp; try rfl
          simp only [Act.put, List.setIfInBounds_toArray, List.set_cons_zero, List.set_cons_succ]
          have hN3 := (HM8.out.Q.below HBS).N
          rw [HZA.out] at hN3
          refine heldCall (d := some 184) (op := .call { callee := Callee.value (Operand.func 18), args := #[Operand.tmp 183], argTypes := #[23] }) (g := some (19, false)) 21 18 #[.pointer (some ⟨q, 0, none⟩)] rfl (by kernel_rfl) (by kernel_rfl) ?y21c0 ?_
          case y21c0 => intro o' ho; simp only [execOp, ho]; go_simp; try rfl
          refine (size_any hN3).mono ?_
          rintro e w22 ⟨rfl, rfl⟩
          refine ⟨_, rfl, HBS, ?_⟩
          simp only [Act.put, List.setIfInBounds_toArray, List.set_cons_zero, List.set_cons_succ]
          refine heldTake (d := some 186) (op := .binOp BinOp.gtr 3 (Operand.tmp 184) (Operand.tmp 185) 3) (g := some (19, false)) 23 (.bool false) rfl (by kernel_rfl) (by kernel_rfl) (by kernel_rfl) (by kernel_rfl) ?y23c0 HBS ?_
          case y23c0 => intro o' ho W hS; exact by simp only [execOp, ho]; go_simp; first | done | (simp; done) | rfl
          simp only [Act.put, List.setIfInBounds_toArray, List.set_cons_zero, List.set_cons_succ]
          refine heldTake (d := some 187) (op := .pick (Operand.tmp 182) (Operand.const (Value.bool true)) (Operand.tmp 186)) (g := none) 24 (.bool false) rfl (by kernel_rfl) (by kernel_rfl) (by kernel_rfl) (by kernel_rfl) ?y24c0 HBS ?_
          case y24c0 => intro o' ho W hS; exact by simp only [execOp, ho]; go_simp; first | done | (simp; done) | rfl
          simp only [Act.put, List.setIfInBounds_toArray, List.set_cons_zero, List.set_cons_succ]
          refine wpAnyH_done (by kernel_rfl) ?_ _
          refine NoPanic.normal ?_
          have HM9 := Sl.mk (HM8.out.below HBS)
          clear HBR HBS HB21 hN2 hN3
          go_wp2
          exact ⟨⟨k + 1, _, _, la1, by go_num, by omega, by omega, HM9⟩, by simp [intOf]; omega⟩
        have hk11 : (kd == 1) = false := beq_eq_false_iff_ne.2 hk1
        by_cases hk2 : kd = 2
        · subst hk2
          obtain ⟨o2, k2, s2, hhd⟩ : ∃ o c s, evV (hd la) = .agg #[.int .i64 o, .int .i64 c, .string s] := ⟨_, _, _, rfl⟩
          obtain ⟨b, hb⟩ : ∃ b, (!la.isEmpty) = b := ⟨_, rfl⟩
          have HHD := Sl.mk hhd
          have HHB := Sl.mk hb
          clear hhd hb
          have hs := ev_same o2 k2 s2
          have hbb : (b != b) = false := by cases b <;> rfl
          have PK := peek_any o2 k2 s2 b HMa.out.Q HHD.out HHB.out
          go_wp2_with fail
          refine PK.mono ?_
          rintro e w5 ⟨rfl, HB5⟩
          clear PK
          clear f0 f1 f2 f3 f4
          have HM5 := Sl.mk (HMa.out.below HB5.out)
          have HX5 := Sl.mk (HXa.out.below HB5.out)
          clear HMa HXa HB5
          obtain ⟨w60, hww60, HBw60, hbw60⟩ := box_ev w5
          obtain ⟨w6, hww6, HBw6, HCw6⟩ := set_ev hbw60 HBw60.out (Nat.le_refl _) #[.int .i64 o2, .int .i64 k2, .string s2]
          have HIw6 : (Try.prog.info? 32).map (·.size) = some (#[Value.int .i64 o2, .int .i64 k2, .string s2]).size := ev_info rfl
          go_upto_region 24 with (refine wpList_store_row rfl 32 (.tmp 19) (.tmp 136) rfl w5.heap.size #[.int .i64 o2, .int .i64 k2, .string s2] rfl rfl 32 #[.int .i64 0, .int .i64 0, .string { data := #[] }] hbw60 HIw6 rfl (ev_all _ _ _) ?_)
          (try rw [hww6])
          clear hww60 hww6 hbw60 HBw60 HIw6
          obtain ⟨y, hy⟩ : ∃ y, w5.heap.size = y := ⟨_, rfl⟩
          rw [hy] at HCw6 ⊢
          clear hy
          have HM6 := Sl.mk (HM5.out.below HBw6.out)
          have HX6 := Sl.mk (HX5.out.below HBw6.out)
          clear HM5 HX5 HBw6
          have RT := reftake_any la (.slice aL0 nl cL0) count bytes' o2 k2 s2 b w6 HM6.out.E (fun g hg => (HM6.out.d g hg).2.2) (by omega) HHD.out HHB.out
          obtain ⟨d0, d1, d2⟩ := q_cells HM6.out.B.1
          go_wp2_with fail
          refine RT.mono ?_
          rintro e w7 ⟨L1, rfl, HE7, HF7, HB7⟩
          clear RT
          clear d0 d1 d2 HF7
          obtain ⟨aL1, cL1, hL1⟩ := doc_slice HE7.out
          obtain ⟨nL1, hnL1⟩ : ∃ x, la.tail.length = x := ⟨_, rfl⟩
          rw [hnL1] at hL1
          subst hL1
          obtain ⟨w8a, hww8a, HBw8a, hbw8a⟩ := box_q w7 0 0 (.slice none 0 0)
          obtain ⟨w8b, hww8b, HBw8b, hbw8b⟩ := box_ev w8a
          have szw8 : Sl (w8a.heap.size = w7.heap.size + 1) := ⟨by rw [← hww8a]; exact alloc_size _ _⟩
          have hqw8 := below_key hbw8a HBw8b.out
          have HKw8 : Below w7.heap.size w7 w8b := HBw8a.out.trans (HBw8b.out.mono HBw8a.out.size)
          obtain ⟨w8c, hww8c, HBw8c, HCw8c⟩ := set_q hqw8 HKw8 (Nat.le_refl _) #[.int .i64 count, .int .i64 bytes', .slice aL1 nL1 cL1]
          have hew8 : (w8b.setRow w7.heap.size #[.int .i64 count, .int .i64 bytes', .slice aL1 nL1 cL1]).heap[w8a.heap.size]? = some (.cells #[.int .i64 0, .int .i64 0, .string { data := #[] }] 32 (0, 0)) := by rw [setRow_other _ _ _ _ (by have := szw8.out; omega)]; exact hbw8b
          have hew82 : w8c.heap[w8a.heap.size]? = some (.cells #[.int .i64 0, .int .i64 0, .string { data := #[] }] 32 (0, 0)) := by rw [← hww8c]; exact hew8
          obtain ⟨w8, hww8, HBw8, HCw8⟩ := set_ev hew82 HBw8c.out (by have := szw8.out; omega) #[.int .i64 o2, .int .i64 k2, .string s2]
          have HQw8 : Sl (w8.heap[w7.heap.size]? = some (.cells #[.int .i64 count, .int .i64 bytes', .slice aL1 nL1 cL1] 30 (0, 0))) := ⟨by rw [← hww8, setRow_other _ _ _ _ (by have := szw8.out; omega)]; exact HCw8c.out⟩
          have HIw8 := q_info count bytes' (.slice aL1 nL1 cL1)
          have HJw8 : (Try.prog.info? 32).map (·.size) = some (#[Value.int .i64 o2, .int .i64 k2, .string s2]).size := ev_info rfl
          go_upto_region 25 with (first | (refine wpList_store_row rfl 30 (.tmp 21) (.tmp 141) rfl w7.heap.size #[.int .i64 count, .int .i64 bytes', .slice aL1 nL1 cL1] rfl rfl 30 #[.int .i64 0, .int .i64 0, .slice none 0 0] hqw8 HIw8 rfl (q_all _ _ _ _ _) ?_) | (refine wpList_store_row rfl 32 (.tmp 22) (.tmp 142) rfl w8a.heap.size #[.int .i64 o2, .int .i64 k2, .string s2] rfl rfl 32 #[.int .i64 0, .int .i64 0, .string { data := #[] }] hew8 HJw8 rfl (ev_all _ _ _) ?_) | (refine wpList_store_row rfl 32 (.tmp 22) (.tmp 142) rfl w8a.heap.size #[.int .i64 o2, .int .i64 k2, .string s2] rfl rfl 32 #[.int .i64 0, .int .i64 0, .string { data := #[] }] hew82 HJw8 rfl (ev_all _ _ _) ?_))
          (try rw [hww8c])
          (try rw [hww8])
          clear hww8a hww8b hww8c hww8 hbw8a hbw8b HBw8a HBw8b HBw8c HCw8c hew8 hew82 HIw8 HJw8 HKw8 hqw8 szw8
          obtain ⟨e2, he2⟩ : ∃ e, w8a.heap.size = e := ⟨_, rfl⟩
          rw [he2] at HCw8 ⊢
          have HB78 : Sl (Below w6.heap.size w6 w8) := ⟨HB7.out.trans (HBw8.out.mono HB7.out.size)⟩
          have HM8' := Sl.mk (HM6.out.below HB78.out)
          have HX8 := Sl.mk (HX6.out.below HB78.out)
          have HY8 := Sl.mk (below_key HCw6.out HB78.out)
          clear he2 HB7 HBw8 HE7 HB78 HM6 HX6 HCw6 HQw8
          have hml := HM8'.out.lt
          have hxl := (Array.getElem?_eq_some_iff.1 HX8.out.1).1
          have hyl := (Array.getElem?_eq_some_iff.1 HY8.out).1
          have hel := (Array.getElem?_eq_some_iff.1 HCw8.out).1
          obtain ⟨rm, hrm⟩ : ∃ r, room count bytes' la nn = r := ⟨_, rfl⟩
          have HRM := Sl.mk hrm
          clear hrm
          have hrr : (rm != rm) = false := by cases rm <;> rfl
          obtain ⟨Rw, hRw⟩ : ∃ R, w8.drew = R := ⟨_, rfl⟩
          have HBR : Below w8.heap.size w8 Rw := by rw [← hRw]; exact (Below.refl _ _).drew
          refine wp_region_noPanic ?_
          refine wp_region_held (S := fun V => Below w8.heap.size w8 V) (by kernel_rfl) ?_
          change wpAnyH _ _ _ _ _ _ _ _ w8.drew
          rw [hRw]
          clear hRw
          refine heldTake (d := some 144) (op := .load 32 (Operand.tmp 19)) (g := none) 0 ?v0c rfl (by kernel_rfl) (by kernel_rfl) (by kernel_rfl) (by kernel_rfl) ?y0c HBR ?_
          case y0c => intro o' ho W hS; obtain ⟨d0, d1, d2⟩ := ev_cells ((hS.block _ hyl).trans HY8.out); simp only [execOp, ho]; go_simp; try rfl
          simp only [Act.put, List.setIfInBounds_toArray, List.set_cons_zero, List.set_cons_succ]
          refine heldTake (d := some 145) (op := .load 32 (Operand.tmp 22)) (g := none) 1 ?v1c rfl (by kernel_rfl) (by kernel_rfl) (by kernel_rfl) (by kernel_rfl) ?y1c HBR ?_
          case y1c => intro o' ho W hS; obtain ⟨d0, d1, d2⟩ := ev_cells ((hS.block _ hel).trans HCw8.out); simp only [execOp, ho]; go_simp; try rfl
          simp only [Act.put, List.setIfInBounds_toArray, List.set_cons_zero, List.set_cons_succ]
          refine heldTake (d := some 146) (op := .binOp BinOp.neq 32 (Operand.tmp 144) (Operand.tmp 145) 32) (g := none) 2 (.bool false) rfl (by kernel_rfl) (by kernel_rfl) (by kernel_rfl) (by kernel_rfl) ?y2c HBR ?_
          case y2c => intro o' ho W hS; exact by simp only [execOp, ho]; go_simp; first | done | (simp [binOp, Op.equal, Op.maxDepth, hs]; done) | (simp [hbb]; done) | (simp [hrr]; done) | rfl
          simp only [Act.put, List.setIfInBounds_toArray, List.set_cons_zero, List.set_cons_succ]
          refine heldTake (d := some 147) (op := .move (Operand.tmp 146)) (g := none) 3 (.bool false) rfl (by kernel_rfl) (by kernel_rfl) (by kernel_rfl) (by kernel_rfl) ?y3c HBR ?_
          case y3c => intro o' ho W hS; exact by simp only [execOp, ho]; go_simp; first | done | (simp [binOp, Op.equal, Op.maxDepth, hs]; done) | (simp [hbb]; done) | (simp [hrr]; done) | rfl
          simp only [Act.put, List.setIfInBounds_toArray, List.set_cons_zero, List.set_cons_succ]
          refine heldTake (d := some 148) (op := .move (Operand.tmp 20)) (g := some (3, false)) 4 ?v4c rfl (by kernel_rfl) (by kernel_rfl) (by kernel_rfl) (by kernel_rfl) ?y4c HBR ?_
          case y4c => intro o' ho W hS; simp only [execOp, ho]; go_simp; try rfl
          simp only [Act.put, List.setIfInBounds_toArray, List.set_cons_zero, List.set_cons_succ]
          refine heldTake (d := some 149) (op := .move (Operand.tmp 23)) (g := some (3, false)) 5 ?v5c rfl (by kernel_rfl) (by kernel_rfl) (by kernel_rfl) (by kernel_rfl) ?y5c HBR ?_
          case y5c => intro o' ho W hS; simp only [execOp, ho]; go_simp; try rfl
          simp only [Act.put, List.setIfInBounds_toArray, List.set_cons_zero, List.set_cons_succ]
          refine heldTake (d := some 150) (op := .binOp BinOp.neq 4 (Operand.tmp 148) (Operand.tmp 149) 4) (g := some (3, false)) 6 (.bool false) rfl (by kernel_rfl) (by kernel_rfl) (by kernel_rfl) (by kernel_rfl) ?y6c HBR ?_
          case y6c => intro o' ho W hS; exact by simp only [execOp, ho]; go_simp; first | done | (simp [binOp, Op.equal, Op.maxDepth, hs]; done) | (simp [hbb]; done) | (simp [hrr]; done) | rfl
          simp only [Act.put, List.setIfInBounds_toArray, List.set_cons_zero, List.set_cons_succ]
          refine heldTake (d := some 151) (op := .pick (Operand.tmp 147) (Operand.const (Value.bool true)) (Operand.tmp 150)) (g := none) 7 (.bool false) rfl (by kernel_rfl) (by kernel_rfl) (by kernel_rfl) (by kernel_rfl) ?y7c HBR ?_
          case y7c => intro o' ho W hS; exact by simp only [execOp, ho]; go_simp; first | done | (simp [binOp, Op.equal, Op.maxDepth, hs]; done) | (simp [hbb]; done) | (simp [hrr]; done) | rfl
          simp only [Act.put, List.setIfInBounds_toArray, List.set_cons_zero, List.set_cons_succ]
          refine heldTake (d := some 152) (op := .move (Operand.tmp 151)) (g := none) 8 (.bool false) rfl (by kernel_rfl) (by kernel_rfl) (by kernel_rfl) (by kernel_rfl) ?y8c HBR ?_
          case y8c => intro o' ho W hS; exact by simp only [execOp, ho]; go_simp; first | done | (simp [binOp, Op.equal, Op.maxDepth, hs]; done) | (simp [hbb]; done) | (simp [hrr]; done) | rfl
          simp only [Act.put, List.setIfInBounds_toArray, List.set_cons_zero, List.set_cons_succ]
          refine heldTake (d := some 153) (op := .move (Operand.tmp 7)) (g := some (8, false)) 9 ?v9c rfl (by kernel_rfl) (by kernel_rfl) (by kernel_rfl) (by kernel_rfl) ?y9c HBR ?_
          case y9c => intro o' ho W hS; simp only [execOp, ho]; go_simp; try rfl
          simp only [Act.put, List.setIfInBounds_toArray, List.set_cons_zero, List.set_cons_succ]
          refine heldTake (d := some 154) (op := .fieldAddr 34 (Operand.tmp 11) 1) (g := some (8, false)) 10 ?v10c rfl (by kernel_rfl) (by kernel_rfl) (by kernel_rfl) (by kernel_rfl) ?y10c HBR ?_
          case y10c => intro o' ho W hS; simp only [execOp, ho]; go_simp; try rfl
          simp only [Act.put, List.setIfInBounds_toArray, List.set_cons_zero, List.set_cons_succ]
          refine heldTake (d := some 155) (op := .load 3 (Operand.tmp 154)) (g := some (8, false)) 11 ?v11c rfl (by kernel_rfl) (by kernel_rfl) (by kernel_rfl) (by kernel_rfl) ?y11c HBR ?_
          case y11c => intro o' ho W hS; obtain ⟨d0, d1, d2, d3, d4⟩ := act_cells ((hS.block _ hxl).trans HX8.out.1); simp only [execOp, ho]; go_simp; try rfl
          simp only [Act.put, List.setIfInBounds_toArray, List.set_cons_zero, List.set_cons_succ]
          refine heldTake (d := some 157) (op := .load 30 (Operand.tmp 9)) (g := some (8, false)) 13 ?v13c rfl (by kernel_rfl) (by kernel_rfl) (by kernel_rfl) (by kernel_rfl) ?y13c HBR ?_
          case y13c => intro o' ho W hS; obtain ⟨d0, d1, d2⟩ := q_cells ((hS.block _ hml).trans HM8'.out.B.1); simp only [execOp, ho]; go_simp; try rfl
          simp only [Act.put, List.setIfInBounds_toArray, List.set_cons_zero, List.set_cons_succ]
          refine heldTake (d := some 158) (op := .fieldAddr 34 (Operand.tmp 11) 1) (g := some (8, false)) 14 ?v14c rfl (by kernel_rfl) (by kernel_rfl) (by kernel_rfl) (by kernel_rfl) ?y14c HBR ?_
          case y14c => intro o' ho W hS; simp only [execOp, ho]; go_simp; try rfl
          simp only [Act.put, List.setIfInBounds_toArray, List.set_cons_zero, List.set_cons_succ]
          refine heldTake (d := some 159) (op := .load 3 (Operand.tmp 158)) (g := some (8, false)) 15 ?v15c rfl (by kernel_rfl) (by kernel_rfl) (by kernel_rfl) (by kernel_rfl) ?y15c HBR ?_
          case y15c => intro o' ho W hS; obtain ⟨d0, d1, d2, d3, d4⟩ := act_cells ((hS.block _ hxl).trans HX8.out.1); simp only [execOp, ho]; go_simp; try rfl
          simp only [Act.put, List.setIfInBounds_toArray, List.set_cons_zero, List.set_cons_succ]
          refine heldCall (d := some 156) (op := .call { callee := Callee.value (Operand.func 15), args := #[Operand.tmp 153, Operand.tmp 155], argTypes := #[23, 3] }) (g := some (8, false)) 12 15 #[.pointer (some ⟨q, 0, none⟩), .int .i64 nn] rfl (by kernel_rfl) (by kernel_rfl) ?y12c ?_
          case y12c => intro o' ho; simp only [execOp, ho]; go_simp; try rfl
          refine (room_any nn rm (HM8'.out.Q.below HBR) HRM.out).mono ?_
          rintro e w10 ⟨rfl, HB10⟩
          have HBS : Below w8.heap.size w8 w10 := HBR.trans (HB10.out.mono HBR.size)
          refine ⟨_, rfl, HBS, ?_⟩
          simp only [Act.put, List.setIfInBounds_toArray, List.set_cons_zero, List.set_cons_succ]
          refine heldCall (d := some 160) (op := .call { callee := Callee.value (Operand.func 16), args := #[Operand.tmp 157, Operand.tmp 159], argTypes := #[30, 3] }) (g := some (8, false)) 16 16 #[.agg #[.int .i64 count, .int .i64 bytes', .slice aL0 nl cL0], .int .i64 nn] rfl (by kernel_rfl) (by kernel_rfl) ?y16c ?_
          case y16c => intro o' ho; simp only [execOp, ho]; go_simp; try rfl
          refine (refroom_any la (.slice aL0 nl cL0) count bytes' nn rm w10 (HM8'.out.E.below HBS) (by omega) (by omega) (by have := HD.out; omega) HRM.out).mono ?_
          rintro e w11 ⟨rfl, HB11⟩
          have HBT : Below w8.heap.size w8 w11 := HBS.trans (HB11.out.mono HBS.size)
          refine ⟨_, rfl, HBT, ?_⟩
          simp only [Act.put, List.setIfInBounds_toArray, List.set_cons_zero, List.set_cons_succ]
          refine heldTake (d := some 161) (op := .binOp BinOp.neq 4 (Operand.tmp 156) (Operand.tmp 160) 4) (g := some (8, false)) 17 (.bool false) rfl (by kernel_rfl) (by kernel_rfl) (by kernel_rfl) (by kernel_rfl) ?y17c HBT ?_
          case y17c => intro o' ho W hS; exact by simp only [execOp, ho]; go_simp; first | done | (simp [binOp, Op.equal, Op.maxDepth, hs]; done) | (simp [hbb]; done) | (simp [hrr]; done) | rfl
          simp only [Act.put, List.setIfInBounds_toArray, List.set_cons_zero, List.set_cons_succ]
          refine heldTake (d := some 162) (op := .pick (Operand.tmp 152) (Operand.const (Value.bool true)) (Operand.tmp 161)) (g := none) 18 (.bool false) rfl (by kernel_rfl) (by kernel_rfl) (by kernel_rfl) (by kernel_rfl) ?y18c HBT ?_
          case y18c => intro o' ho W hS; exact by simp only [execOp, ho]; go_simp; first | done | (simp [binOp, Op.equal, Op.maxDepth, hs]; done) | (simp [hbb]; done) | (simp [hrr]; done) | rfl
          simp only [Act.put, List.setIfInBounds_toArray, List.set_cons_zero, List.set_cons_succ]
          refine wpAnyH_done (by kernel_rfl) ?_ _
          refine NoPanic.normal ?_
          have HM8 := Sl.mk (HM8'.out.below HBT)
          obtain ⟨la1, hla1⟩ : ∃ x, la = x := ⟨_, rfl⟩
          rw [hla1] at HM8 HNL
          clear HBR HBS HBT HB10 HB11 HM8' hml hxl hyl hel
          obtain ⟨za, hza⟩ : ∃ x, size la1 = x := ⟨_, rfl⟩
          have HZA := Sl.mk hza
          have hIw := HM8.out.Q.I
          have hmo := HM8.out.Q.most
          unfold Within at hIw
          rw [HNL.out, hza] at hIw hmo
          have hg1 : ((nl : Int) > count) = False := eq_false (by omega)
          have hg2 : ((za : Int) > bytes') = False := eq_false (by omega)
          clear hza
          have hml := HM8.out.lt
          go_upto_region 27 with fail
          obtain ⟨Rw, hRw⟩ : ∃ R, w11.drew = R := ⟨_, rfl⟩
          have HBR : Below w11.heap.size w11 Rw := by rw [← hRw]; exact (Below.refl _ _).drew
          refine wp_region_noPanic ?_
          refine wp_region_held (S := fun V => Below w11.heap.size w11 V) (by kernel_rfl) ?_
          change wpAnyH _ _ _ _ _ _ _ _ w11.drew
          rw [hRw]
          clear hRw
          refine heldTake (d := some 163) (op := .move (Operand.tmp 7)) (g := none) 0 ?v0d rfl (by kernel_rfl) (by kernel_rfl) (by kernel_rfl) (by kernel_rfl) ?y0d HBR ?_
          case y0d => intro o' ho W hS; simp only [execOp, ho]; go_simp; try rfl
          simp only [Act.put, List.setIfInBounds_toArray, List.set_cons_zero, List.set_cons_succ]
          refine heldTake (d := some 165) (op := .fieldAddr 30 (Operand.tmp 9) 2) (g := none) 2 ?v2d rfl (by kernel_rfl) (by kernel_rfl) (by kernel_rfl) (by kernel_rfl) ?y2d HBR ?_
          case y2d => intro o' ho W hS; simp only [execOp, ho]; go_simp; try rfl
          simp only [Act.put, List.setIfInBounds_toArray, List.set_cons_zero, List.set_cons_succ]
          refine heldTake (d := some 166) (op := .load 28 (Operand.tmp 165)) (g := none) 3 ?v3d rfl (by kernel_rfl) (by kernel_rfl) (by kernel_rfl) (by kernel_rfl) ?y3d HBR ?_
          case y3d => intro o' ho W hS; obtain ⟨d0, d1, d2⟩ := q_cells ((hS.block _ hml).trans HM8.out.B.1); simp only [execOp, ho]; go_simp; try rfl
          simp only [Act.put, List.setIfInBounds_toArray, List.set_cons_zero, List.set_cons_succ]
          refine heldTake (d := some 167) (op := .call { callee := Callee.builtin Builtin.len, args := #[Operand.tmp 166], argTypes := #[28] }) (g := none) 4 ?v4d rfl (by kernel_rfl) (by kernel_rfl) (by kernel_rfl) (by kernel_rfl) ?y4d HBR ?_
          case y4d => intro o' ho W hS; simp only [execOp, ho]; go_simp; try rfl
          simp only [Act.put, List.setIfInBounds_toArray, List.set_cons_zero, List.set_cons_succ]
          refine heldCall (d := some 164) (op := .call { callee := Callee.value (Operand.func 17), args := #[Operand.tmp 163], argTypes := #[23] }) (g := none) 1 17 #[.pointer (some ⟨q, 0, none⟩)] rfl (by kernel_rfl) (by kernel_rfl) ?y1d ?_
          case y1d => intro o' ho; simp only [execOp, ho]; go_simp; try rfl
          refine (len_any HNL.out (HM8.out.Q.below HBR).N).mono ?_
          rintro e w20 ⟨rfl, rfl⟩
          refine ⟨_, rfl, HBR, ?_⟩
          simp only [Act.put, List.setIfInBounds_toArray, List.set_cons_zero, List.set_cons_succ]
          refine heldTake (d := some 168) (op := .binOp BinOp.neq 3 (Operand.tmp 164) (Operand.tmp 167) 3) (g := none) 5 (.bool false) rfl (by kernel_rfl) (by kernel_rfl) (by kernel_rfl) (by kernel_rfl) ?y5d HBR ?_
          case y5d => intro o' ho W hS; exact by simp only [execOp, ho]; go_simp; first | done | (simp; done) | rfl
          simp only [Act.put, List.setIfInBounds_toArray, List.set_cons_zero, List.set_cons_succ]
          refine heldTake (d := some 169) (op := .move (Operand.tmp 168)) (g := none) 6 (.bool false) rfl (by kernel_rfl) (by kernel_rfl) (by kernel_rfl) (by kernel_rfl) ?y6d HBR ?_
          case y6d => intro o' ho W hS; exact by simp only [execOp, ho]; go_simp; first | done | (simp; done) | rfl
          simp only [Act.put, List.setIfInBounds_toArray, List.set_cons_zero, List.set_cons_succ]
          refine heldTake (d := some 170) (op := .move (Operand.tmp 7)) (g := some (6, false)) 7 ?v7d rfl (by kernel_rfl) (by kernel_rfl) (by kernel_rfl) (by kernel_rfl) ?y7d HBR ?_
          case y7d => intro o' ho W hS; simp only [execOp, ho]; go_simp; try rfl
          simp only [Act.put, List.setIfInBounds_toArray, List.set_cons_zero, List.set_cons_succ]
          refine heldTake (d := some 172) (op := .load 30 (Operand.tmp 9)) (g := some (6, false)) 9 ?v9d rfl (by kernel_rfl) (by kernel_rfl) (by kernel_rfl) (by kernel_rfl) ?y9d HBR ?_
          case y9d => intro o' ho W hS; obtain ⟨d0, d1, d2⟩ := q_cells ((hS.block _ hml).trans HM8.out.B.1); simp only [execOp, ho]; go_simp; try rfl
          simp only [Act.put, List.setIfInBounds_toArray, List.set_cons_zero, List.set_cons_succ]
          have hN2 := (HM8.out.Q.below HBR).N
          rw [HZA.out] at hN2
          refine heldCall (d := some 171) (op := .call { callee := Callee.value (Operand.func 18), args := #[Operand.tmp 170], argTypes := #[23] }) (g := some (6, false)) 8 18 #[.pointer (some ⟨q, 0, none⟩)] rfl (by kernel_rfl) (by kernel_rfl) ?y8d ?_
          case y8d => intro o' ho; simp only [execOp, ho]; go_simp; try rfl
          refine (size_any hN2).mono ?_
          rintro e w20 ⟨rfl, rfl⟩
          refine ⟨_, rfl, HBR, ?_⟩
          simp only [Act.put, List.setIfInBounds_toArray, List.set_cons_zero, List.set_cons_succ]
          refine heldCall (d := some 173) (op := .call { callee := Callee.value (Operand.func 19), args := #[Operand.tmp 172], argTypes := #[30] }) (g := some (6, false)) 10 19 #[.agg #[.int .i64 count, .int .i64 bytes', .slice aL0 nl cL0]] rfl (by kernel_rfl) (by kernel_rfl) ?y10d ?_
          case y10d => intro o' ho; simp only [execOp, ho]; go_simp; try rfl
          refine (refsize_any la1 (.slice aL0 nl cL0) count bytes' za Rw (HM8.out.E.below HBR) (by rw [HNL.out]; omega) HZA.out (by omega)).mono ?_
          rintro e w21 ⟨rfl, HB21⟩
          have HBS : Below w11.heap.size w11 w21 := HBR.trans (HB21.out.mono HBR.size)
          refine ⟨_, rfl, HBS, ?_⟩
          simp only [Act.put, List.setIfInBounds_toArray, List.set_cons_zero, List.set_cons_succ]
          refine heldTake (d := some 174) (op := .binOp BinOp.neq 3 (Operand.tmp 171) (Operand.tmp 173) 3) (g := some (6, false)) 11 (.bool false) rfl (by kernel_rfl) (by kernel_rfl) (by kernel_rfl) (by kernel_rfl) ?y11d HBS ?_
          case y11d => intro o' ho W hS; exact by simp only [execOp, ho]; go_simp; first | done | (simp; done) | rfl
          simp only [Act.put, List.setIfInBounds_toArray, List.set_cons_zero, List.set_cons_succ]
          refine heldTake (d := some 175) (op := .pick (Operand.tmp 169) (Operand.const (Value.bool true)) (Operand.tmp 174)) (g := none) 12 (.bool false) rfl (by kernel_rfl) (by kernel_rfl) (by kernel_rfl) (by kernel_rfl) ?y12d HBS ?_
          case y12d => intro o' ho W hS; exact by simp only [execOp, ho]; go_simp; first | done | (simp; done) | rfl
          simp only [Act.put, List.setIfInBounds_toArray, List.set_cons_zero, List.set_cons_succ]
          refine heldTake (d := some 176) (op := .move (Operand.tmp 175)) (g := none) 13 (.bool false) rfl (by kernel_rfl) (by kernel_rfl) (by kernel_rfl) (by kernel_rfl) ?y13d HBS ?_
          case y13d => intro o' ho W hS; exact by simp only [execOp, ho]; go_simp; first | done | (simp; done) | rfl
          simp only [Act.put, List.setIfInBounds_toArray, List.set_cons_zero, List.set_cons_succ]
          refine heldTake (d := some 177) (op := .move (Operand.tmp 7)) (g := some (13, false)) 14 ?v14d rfl (by kernel_rfl) (by kernel_rfl) (by kernel_rfl) (by kernel_rfl) ?y14d HBS ?_
          case y14d => intro o' ho W hS; simp only [execOp, ho]; go_simp; try rfl
          simp only [Act.put, List.setIfInBounds_toArray, List.set_cons_zero, List.set_cons_succ]
          refine heldTake (d := some 179) (op := .move (Operand.tmp 0)) (g := some (13, false)) 16 ?v16d rfl (by kernel_rfl) (by kernel_rfl) (by kernel_rfl) (by kernel_rfl) ?y16d HBS ?_
          case y16d => intro o' ho W hS; simp only [execOp, ho]; go_simp; try rfl
          simp only [Act.put, List.setIfInBounds_toArray, List.set_cons_zero, List.set_cons_succ]
          refine heldCall (d := some 178) (op := .call { callee := Callee.value (Operand.func 17), args := #[Operand.tmp 177], argTypes := #[23] }) (g := some (13, false)) 15 17 #[.pointer (some ⟨q, 0, none⟩)] rfl (by kernel_rfl) (by kernel_rfl) ?y15d ?_
          case y15d => intro o' ho; simp only [execOp, ho]; go_simp; try rfl
          refine (len_any HNL.out (HM8.out.Q.below HBS).N).mono ?_
          rintro e w22 ⟨rfl, rfl⟩
          refine ⟨_, rfl, HBS, ?_⟩
          simp only [Act.put, List.setIfInBounds_toArray, List.set_cons_zero, List.set_cons_succ]
          refine heldTake (d := some 180) (op := .binOp BinOp.gtr 3 (Operand.tmp 178) (Operand.tmp 179) 3) (g := some (13, false)) 17 (.bool false) rfl (by kernel_rfl) (by kernel_rfl) (by kernel_rfl) (by kernel_rfl) ?y17d HBS ?_
          case y17d => intro o' ho W hS; exact by simp only [execOp, ho]; go_simp; first | done | (simp; done) | rfl
          simp only [Act.put, List.setIfInBounds_toArray, List.set_cons_zero, List.set_cons_succ]
          refine heldTake (d := some 181) (op := .pick (Operand.tmp 176) (Operand.const (Value.bool true)) (Operand.tmp 180)) (g := none) 18 (.bool false) rfl (by kernel_rfl) (by kernel_rfl) (by kernel_rfl) (by kernel_rfl) ?y18d HBS ?_
          case y18d => intro o' ho W hS; exact by simp only [execOp, ho]; go_simp; first | done | (simp; done) | rfl
          simp only [Act.put, List.setIfInBounds_toArray, List.set_cons_zero, List.set_cons_succ]
          refine heldTake (d := some 182) (op := .move (Operand.tmp 181)) (g := none) 19 (.bool false) rfl (by kernel_rfl) (by kernel_rfl) (by kernel_rfl) (by kernel_rfl) ?y19d HBS ?_
          case y19d => intro o' ho W hS; exact by simp only [execOp, ho]; go_simp; first | done | (simp; done) | rfl
          simp only [Act.put, List.setIfInBounds_toArray, List.set_cons_zero, List.set_cons_succ]
          refine heldTake (d := some 183) (op := .move (Operand.tmp 7)) (g := some (19, false)) 20 ?v20d rfl (by kernel_rfl) (by kernel_rfl) (by kernel_rfl) (by kernel_rfl) ?y20d HBS ?_
          case y20d => intro o' ho W hS; simp only [execOp, ho]; go_simp; try rfl
          simp only [Act.put, List.setIfInBounds_toArray, List.set_cons_zero, List.set_cons_succ]
          refine heldTake (d := some 185) (op := .move (Operand.tmp 1)) (g := some (19, false)) 22 ?v22d rfl (by kernel_rfl) (by kernel_rfl) (by kernel_rfl) (by kernel_rfl) ?y22d HBS ?_
          case y22d => intro o' ho W hS; simp only [execOp, ho]; go_simp; try rfl
          simp only [Act.put, List.setIfInBounds_toArray, List.set_cons_zero, List.set_cons_succ]
          have hN3 := (HM8.out.Q.below HBS).N
          rw [HZA.out] at hN3
          refine heldCall (d := some 184) (op := .call { callee := Callee.value (Operand.func 18), args := #[Operand.tmp 183], argTypes := #[23] }) (g := some (19, false)) 21 18 #[.pointer (some ⟨q, 0, none⟩)] rfl (by kernel_rfl) (by kernel_rfl) ?y21d ?_
          case y21d => intro o' ho; simp only [execOp, ho]; go_simp; try rfl
          refine (size_any hN3).mono ?_
          rintro e w22 ⟨rfl, rfl⟩
          refine ⟨_, rfl, HBS, ?_⟩
          simp only [Act.put, List.setIfInBounds_toArray, List.set_cons_zero, List.set_cons_succ]
          refine heldTake (d := some 186) (op := .binOp BinOp.gtr 3 (Operand.tmp 184) (Operand.tmp 185) 3) (g := some (19, false)) 23 (.bool false) rfl (by kernel_rfl) (by kernel_rfl) (by kernel_rfl) (by kernel_rfl) ?y23d HBS ?_
          case y23d => intro o' ho W hS; exact by simp only [execOp, ho]; go_simp; first | done | (simp; done) | rfl
          simp only [Act.put, List.setIfInBounds_toArray, List.set_cons_zero, List.set_cons_succ]
          refine heldTake (d := some 187) (op := .pick (Operand.tmp 182) (Operand.const (Value.bool true)) (Operand.tmp 186)) (g := none) 24 (.bool false) rfl (by kernel_rfl) (by kernel_rfl) (by kernel_rfl) (by kernel_rfl) ?y24d HBS ?_
          case y24d => intro o' ho W hS; exact by simp only [execOp, ho]; go_simp; first | done | (simp; done) | rfl
          simp only [Act.put, List.setIfInBounds_toArray, List.set_cons_zero, List.set_cons_succ]
          refine wpAnyH_done (by kernel_rfl) ?_ _
          refine NoPanic.normal ?_
          have HM9 := Sl.mk (HM8.out.below HBS)
          clear HBR HBS HB21 hN2 hN3
          go_wp2
          exact ⟨⟨k + 1, _, _, la1, by go_num, by omega, by omega, HM9⟩, by simp [intOf]; omega⟩
        have hk21 : (kd == 2) = false := beq_eq_false_iff_ne.2 hk2
        obtain ⟨la1, hla1⟩ : ∃ x, la = x := ⟨_, rfl⟩
        have HM8 := HMa
        rw [hla1] at HM8 HNL
        obtain ⟨za, hza⟩ : ∃ x, size la1 = x := ⟨_, rfl⟩
        have HZA := Sl.mk hza
        have hIw := HM8.out.Q.I
        have hmo := HM8.out.Q.most
        unfold Within at hIw
        rw [HNL.out, hza] at hIw hmo
        have hg1 : ((nl : Int) > count) = False := eq_false (by omega)
        have hg2 : ((za : Int) > bytes') = False := eq_false (by omega)
        clear hza
        have hml := HM8.out.lt
        go_upto_region 27 with fail
        obtain ⟨Rw, hRw⟩ : ∃ R, wa.drew = R := ⟨_, rfl⟩
        have HBR : Below wa.heap.size wa Rw := by rw [← hRw]; exact (Below.refl _ _).drew
        refine wp_region_noPanic ?_
        refine wp_region_held (S := fun V => Below wa.heap.size wa V) (by kernel_rfl) ?_
        change wpAnyH _ _ _ _ _ _ _ _ wa.drew
        rw [hRw]
        clear hRw
        refine heldTake (d := some 163) (op := .move (Operand.tmp 7)) (g := none) 0 ?v0e rfl (by kernel_rfl) (by kernel_rfl) (by kernel_rfl) (by kernel_rfl) ?y0e HBR ?_
        case y0e => intro o' ho W hS; simp only [execOp, ho]; go_simp; try rfl
        simp only [Act.put, List.setIfInBounds_toArray, List.set_cons_zero, List.set_cons_succ]
        refine heldTake (d := some 165) (op := .fieldAddr 30 (Operand.tmp 9) 2) (g := none) 2 ?v2e rfl (by kernel_rfl) (by kernel_rfl) (by kernel_rfl) (by kernel_rfl) ?y2e HBR ?_
        case y2e => intro o' ho W hS; simp only [execOp, ho]; go_simp; try rfl
        simp only [Act.put, List.setIfInBounds_toArray, List.set_cons_zero, List.set_cons_succ]
        refine heldTake (d := some 166) (op := .load 28 (Operand.tmp 165)) (g := none) 3 ?v3e rfl (by kernel_rfl) (by kernel_rfl) (by kernel_rfl) (by kernel_rfl) ?y3e HBR ?_
        case y3e => intro o' ho W hS; obtain ⟨d0, d1, d2⟩ := q_cells ((hS.block _ hml).trans HM8.out.B.1); simp only [execOp, ho]; go_simp; try rfl
        simp only [Act.put, List.setIfInBounds_toArray, List.set_cons_zero, List.set_cons_succ]
        refine heldTake (d := some 167) (op := .call { callee := Callee.builtin Builtin.len, args := #[Operand.tmp 166], argTypes := #[28] }) (g := none) 4 ?v4e rfl (by kernel_rfl) (by kernel_rfl) (by kernel_rfl) (by kernel_rfl) ?y4e HBR ?_
        case y4e => intro o' ho W hS; simp only [execOp, ho]; go_simp; try rfl
        simp only [Act.put, List.setIfInBounds_toArray, List.set_cons_zero, List.set_cons_succ]
        refine heldCall (d := some 164) (op := .call { callee := Callee.value (Operand.func 17), args := #[Operand.tmp 163], argTypes := #[23] }) (g := none) 1 17 #[.pointer (some ⟨q, 0, none⟩)] rfl (by kernel_rfl) (by kernel_rfl) ?y1e ?_
        case y1e => intro o' ho; simp only [execOp, ho]; go_simp; try rfl
        refine (len_any HNL.out (HM8.out.Q.below HBR).N).mono ?_
        rintro e w20 ⟨rfl, rfl⟩
        refine ⟨_, rfl, HBR, ?_⟩
        simp only [Act.put, List.setIfInBounds_toArray, List.set_cons_zero, List.set_cons_succ]
        refine heldTake (d := some 168) (op := .binOp BinOp.neq 3 (Operand.tmp 164) (Operand.tmp 167) 3) (g := none) 5 (.bool false) rfl (by kernel_rfl) (by kernel_rfl) (by kernel_rfl) (by kernel_rfl) ?y5e HBR ?_
        case y5e => intro o' ho W hS; exact by simp only [execOp, ho]; go_simp; first | done | (simp; done) | rfl
        simp only [Act.put, List.setIfInBounds_toArray, List.set_cons_zero, List.set_cons_succ]
        refine heldTake (d := some 169) (op := .move (Operand.tmp 168)) (g := none) 6 (.bool false) rfl (by kernel_rfl) (by kernel_rfl) (by kernel_rfl) (by kernel_rfl) ?y6e HBR ?_
        case y6e => intro o' ho W hS; exact by simp only [execOp, ho]; go_simp; first | done | (simp; done) | rfl
        simp only [Act.put, List.setIfInBounds_toArray, List.set_cons_zero, List.set_cons_succ]
        refine heldTake (d := some 170) (op := .move (Operand.tmp 7)) (g := some (6, false)) 7 ?v7e rfl (by kernel_rfl) (by kernel_rfl) (by kernel_rfl) (by kernel_rfl) ?y7e HBR ?_
        case y7e => intro o' ho W hS; simp only [execOp, ho]; go_simp; try rfl
        simp only [Act.put, List.setIfInBounds_toArray, List.set_cons_zero, List.set_cons_succ]
        refine heldTake (d := some 172) (op := .load 30 (Operand.tmp 9)) (g := some (6, false)) 9 ?v9e rfl (by kernel_rfl) (by kernel_rfl) (by kernel_rfl) (by kernel_rfl) ?y9e HBR ?_
        case y9e => intro o' ho W hS; obtain ⟨d0, d1, d2⟩ := q_cells ((hS.block _ hml).trans HM8.out.B.1); simp only [execOp, ho]; go_simp; try rfl
        simp only [Act.put, List.setIfInBounds_toArray, List.set_cons_zero, List.set_cons_succ]
        have hN2 := (HM8.out.Q.below HBR).N
        rw [HZA.out] at hN2
        refine heldCall (d := some 171) (op := .call { callee := Callee.value (Operand.func 18), args := #[Operand.tmp 170], argTypes := #[23] }) (g := some (6, false)) 8 18 #[.pointer (some ⟨q, 0, none⟩)] rfl (by kernel_rfl) (by kernel_rfl) ?y8e ?_
        case y8e => intro o' ho; simp only [execOp, ho]; go_simp; try rfl
        refine (size_any hN2).mono ?_
        rintro e w20 ⟨rfl, rfl⟩
        refine ⟨_, rfl, HBR, ?_⟩
        simp only [Act.put, List.setIfInBounds_toArray, List.set_cons_zero, List.set_cons_succ]
        refine heldCall (d := some 173) (op := .call { callee := Callee.value (Operand.func 19), args := #[Operand.tmp 172], argTypes := #[30] }) (g := some (6, false)) 10 19 #[.agg #[.int .i64 count, .int .i64 bytes', .slice aL0 nl cL0]] rfl (by kernel_rfl) (by kernel_rfl) ?y10e ?_
        case y10e => intro o' ho; simp only [execOp, ho]; go_simp; try rfl
        refine (refsize_any la1 (.slice aL0 nl cL0) count bytes' za Rw (HM8.out.E.below HBR) (by rw [HNL.out]; omega) HZA.out (by omega)).mono ?_
        rintro e w21 ⟨rfl, HB21⟩
        have HBS : Below wa.heap.size wa w21 := HBR.trans (HB21.out.mono HBR.size)
        refine ⟨_, rfl, HBS, ?_⟩
        simp only [Act.put, List.setIfInBounds_toArray, List.set_cons_zero, List.set_cons_succ]
        refine heldTake (d := some 174) (op := .binOp BinOp.neq 3 (Operand.tmp 171) (Operand.tmp 173) 3) (g := some (6, false)) 11 (.bool false) rfl (by kernel_rfl) (by kernel_rfl) (by kernel_rfl) (by kernel_rfl) ?y11e HBS ?_
        case y11e => intro o' ho W hS; exact by simp only [execOp, ho]; go_simp; first | done | (simp; done) | rfl
        simp only [Act.put, List.setIfInBounds_toArray, List.set_cons_zero, List.set_cons_succ]
        refine heldTake (d := some 175) (op := .pick (Operand.tmp 169) (Operand.const (Value.bool true)) (Operand.tmp 174)) (g := none) 12 (.bool false) rfl (by kernel_rfl) (by kernel_rfl) (by kernel_rfl) (by kernel_rfl) ?y12e HBS ?_
        case y12e => intro o' ho W hS; exact by simp only [execOp, ho]; go_simp; first | done | (simp; done) | rfl
        simp only [Act.put, List.setIfInBounds_toArray, List.set_cons_zero, List.set_cons_succ]
        refine heldTake (d := some 176) (op := .move (Operand.tmp 175)) (g := none) 13 (.bool false) rfl (by kernel_rfl) (by kernel_rfl) (by kernel_rfl) (by kernel_rfl) ?y13e HBS ?_
        case y13e => intro o' ho W hS; exact by simp only [execOp, ho]; go_simp; first | done | (simp; done) | rfl
        simp only [Act.put, List.setIfInBounds_toArray, List.set_cons_zero, List.set_cons_succ]
        refine heldTake (d := some 177) (op := .move (Operand.tmp 7)) (g := some (13, false)) 14 ?v14e rfl (by kernel_rfl) (by kernel_rfl) (by kernel_rfl) (by kernel_rfl) ?y14e HBS ?_
        case y14e => intro o' ho W hS; simp only [execOp, ho]; go_simp; try rfl
        simp only [Act.put, List.setIfInBounds_toArray, List.set_cons_zero, List.set_cons_succ]
        refine heldTake (d := some 179) (op := .move (Operand.tmp 0)) (g := some (13, false)) 16 ?v16e rfl (by kernel_rfl) (by kernel_rfl) (by kernel_rfl) (by kernel_rfl) ?y16e HBS ?_
        case y16e => intro o' ho W hS; simp only [execOp, ho]; go_simp; try rfl
        simp only [Act.put, List.setIfInBounds_toArray, List.set_cons_zero, List.set_cons_succ]
        refine heldCall (d := some 178) (op := .call { callee := Callee.value (Operand.func 17), args := #[Operand.tmp 177], argTypes := #[23] }) (g := some (13, false)) 15 17 #[.pointer (some ⟨q, 0, none⟩)] rfl (by kernel_rfl) (by kernel_rfl) ?y15e ?_
        case y15e => intro o' ho; simp only [execOp, ho]; go_simp; try rfl
        refine (len_any HNL.out (HM8.out.Q.below HBS).N).mono ?_
        rintro e w22 ⟨rfl, rfl⟩
        refine ⟨_, rfl, HBS, ?_⟩
        simp only [Act.put, List.setIfInBounds_toArray, List.set_cons_zero, List.set_cons_succ]
        refine heldTake (d := some 180) (op := .binOp BinOp.gtr 3 (Operand.tmp 178) (Operand.tmp 179) 3) (g := some (13, false)) 17 (.bool false) rfl (by kernel_rfl) (by kernel_rfl) (by kernel_rfl) (by kernel_rfl) ?y17e HBS ?_
        case y17e => intro o' ho W hS; exact by simp only [execOp, ho]; go_simp; first | done | (simp; done) | rfl
        simp only [Act.put, List.setIfInBounds_toArray, List.set_cons_zero, List.set_cons_succ]
        refine heldTake (d := some 181) (op := .pick (Operand.tmp 176) (Operand.const (Value.bool true)) (Operand.tmp 180)) (g := none) 18 (.bool false) rfl (by kernel_rfl) (by kernel_rfl) (by kernel_rfl) (by kernel_rfl) ?y18e HBS ?_
        case y18e => intro o' ho W hS; exact by simp only [execOp, ho]; go_simp; first | done | (simp; done) | rfl
        simp only [Act.put, List.setIfInBounds_toArray, List.set_cons_zero, List.set_cons_succ]
        refine heldTake (d := some 182) (op := .move (Operand.tmp 181)) (g := none) 19 (.bool false) rfl (by kernel_rfl) (by kernel_rfl) (by kernel_rfl) (by kernel_rfl) ?y19e HBS ?_
        case y19e => intro o' ho W hS; exact by simp only [execOp, ho]; go_simp; first | done | (simp; done) | rfl
        simp only [Act.put, List.setIfInBounds_toArray, List.set_cons_zero, List.set_cons_succ]
        refine heldTake (d := some 183) (op := .move (Operand.tmp 7)) (g := some (19, false)) 20 ?v20e rfl (by kernel_rfl) (by kernel_rfl) (by kernel_rfl) (by kernel_rfl) ?y20e HBS ?_
        case y20e => intro o' ho W hS; simp only [execOp, ho]; go_simp; try rfl
        simp only [Act.put, List.setIfInBounds_toArray, List.set_cons_zero, List.set_cons_succ]
        refine heldTake (d := some 185) (op := .move (Operand.tmp 1)) (g := some (19, false)) 22 ?v22e rfl (by kernel_rfl) (by kernel_rfl) (by kernel_rfl) (by kernel_rfl) ?y22e HBS ?_
        case y22e => intro o' ho W hS; simp only [execOp, ho]; go_simp; try rfl
        simp only [Act.put, List.setIfInBounds_toArray, List.set_cons_zero, List.set_cons_succ]
        have hN3 := (HM8.out.Q.below HBS).N
        rw [HZA.out] at hN3
        refine heldCall (d := some 184) (op := .call { callee := Callee.value (Operand.func 18), args := #[Operand.tmp 183], argTypes := #[23] }) (g := some (19, false)) 21 18 #[.pointer (some ⟨q, 0, none⟩)] rfl (by kernel_rfl) (by kernel_rfl) ?y21e ?_
        case y21e => intro o' ho; simp only [execOp, ho]; go_simp; try rfl
        refine (size_any hN3).mono ?_
        rintro e w22 ⟨rfl, rfl⟩
        refine ⟨_, rfl, HBS, ?_⟩
        simp only [Act.put, List.setIfInBounds_toArray, List.set_cons_zero, List.set_cons_succ]
        refine heldTake (d := some 186) (op := .binOp BinOp.gtr 3 (Operand.tmp 184) (Operand.tmp 185) 3) (g := some (19, false)) 23 (.bool false) rfl (by kernel_rfl) (by kernel_rfl) (by kernel_rfl) (by kernel_rfl) ?y23e HBS ?_
        case y23e => intro o' ho W hS; exact by simp only [execOp, ho]; go_simp; first | done | (simp; done) | rfl
        simp only [Act.put, List.setIfInBounds_toArray, List.set_cons_zero, List.set_cons_succ]
        refine heldTake (d := some 187) (op := .pick (Operand.tmp 182) (Operand.const (Value.bool true)) (Operand.tmp 186)) (g := none) 24 (.bool false) rfl (by kernel_rfl) (by kernel_rfl) (by kernel_rfl) (by kernel_rfl) ?y24e HBS ?_
        case y24e => intro o' ho W hS; exact by simp only [execOp, ho]; go_simp; first | done | (simp; done) | rfl
        simp only [Act.put, List.setIfInBounds_toArray, List.set_cons_zero, List.set_cons_succ]
        refine wpAnyH_done (by kernel_rfl) ?_ _
        refine NoPanic.normal ?_
        have HM9 := Sl.mk (HM8.out.below HBS)
        clear HBR HBS HB21 hN2 hN3
        go_wp2
        exact ⟨⟨k + 1, _, _, la1, by go_num, by omega, by omega, HM9⟩, by simp [intOf]; omega⟩
      · obtain rfl : k = 60 := by omega
        have hlt6 : (((60 : Nat) : Int) < 60) = False := eq_false (by omega)
        go_wp2
        go_ret
        exact ⟨rfl, HM.out.Q.N.L⟩
    · obtain rfl : k = n := by omega
      have hlt : ((k : Int) < (k : Int)) = False := eq_false (by omega)
      go_wp2
      go_ret
      exact ⟨rfl, HM.out.Q.N.L⟩
end Go.Proofs.Ytflnmjiopeoodaa.Que
