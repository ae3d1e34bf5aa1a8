/- QueueRoom's walk. -/
import Derived.Test.YtflnmjiopeoodaaQI
set_option maxRecDepth 100000
namespace Go.Proofs.Ytflnmjiopeoodaa.Que
open Go.RowKit Evt QueuePlain
open MsgPlain (Ev)

/-- The first one and the others, as they are told. -/
theorem head_tail (la : List Ev) (h : la ≠ []) : la.tail.length + 1 = la.length ∧ (hd la).data.length + size la.tail = size la := by
  cases la with
  | nil => exact absurd rfl h
  | cons e l => exact ⟨rfl, (size_cons e l).symm⟩
set_option maxHeartbeats 32000000 in
theorem room_walk (n0 n1 : Nat) (v : Value) (l : List Ev) (a b : Int) (w : World) (lt0 : n0 < 256) (lt1 : n1 < 65536) (hv : EvsAt w v l) (ok : ∀ e ∈ l, EvOk e) (ml : l.length ≤ maxLen) (hab : -9223372036854775808 ≤ a ∧ a ≤ 9223372036854775807) (hbb : -9223372036854775808 ≤ b ∧ b ≤ 9223372036854775807) : Calls Try.prog 5 #[.int .u8 (n0 : Int), .int .u16 (n1 : Int), v, .int .i64 a, .int .i64 b] w fun e w' => e = .returned (.bool true) ∧ Below w.heap.size w w' := by
  have N1 := new_yes w w (1 + (n0 : Int)) (1 + (n1 : Int)) (by omega) (Below.refl _ _)
  obtain ⟨q, hq⟩ : ∃ q, w.heap.size = q := ⟨_, rfl⟩
  have HQQ := Sl.mk hq
  obtain ⟨ad, cap, rfl⟩ := hv.slice
  have HV := Sl.mk hv
  have HOK := Sl.mk ok
  obtain ⟨n, hn⟩ : ∃ n, l.length = n := ⟨_, rfl⟩
  have HN := Sl.mk hn
  rw [hn] at HV ml ⊢
  have hn9 : n ≤ 9223372036854775807 := by unfold maxLen at ml; omega
  have w0 : IntKind.i64.wrap (n0 : Int) = (n0 : Int) := by rw [IntKind.wrap_i64]; omega
  have w1' : IntKind.i64.wrap (n1 : Int) = (n1 : Int) := by rw [IntKind.wrap_i64]; omega
  clear hv ok hn ml
  by_cases hgt : n > 30
  · have hq30 : ((n : Int) > 30) = True := eq_true (by omega)
    go_enter Try.func5, Try.ntmps5
    go_wp2_with fail
    refine N1.mono ?_
    rintro e w1 ⟨rfl, HQ1, HB1⟩
    clear N1
    rw [hq] at HQ1 ⊢
    have A1 := awake_any w1
    go_wp2_with fail
    refine A1.mono ?_
    rintro e w2 ⟨rfl, HB2⟩
    clear A1
    have HQ2 := Sl.mk (HQ1.out.below HB2.out)
    clear HQ1 HB1 HB2 hq
    have A2 := awake_below w w2 HQ2.out.N.L
    go_wp2_with fail
    refine A2.mono ?_
    rintro e w3 ⟨rfl, HB3⟩
    clear A2
    go_wp2
    go_ret
    exact ⟨rfl, HB3.out⟩
  have hq30 : ((n : Int) > 30) = False := eq_false (by omega)
  by_cases ha0 : a < 0
  · have hqa : (a < 0) = True := eq_true ha0
    go_enter Try.func5, Try.ntmps5
    go_wp2_with fail
    refine N1.mono ?_
    rintro e w1 ⟨rfl, HQ1, HB1⟩
    clear N1
    rw [hq] at HQ1 ⊢
    have A1 := awake_any w1
    go_wp2_with fail
    refine A1.mono ?_
    rintro e w2 ⟨rfl, HB2⟩
    clear A1
    have HQ2 := Sl.mk (HQ1.out.below HB2.out)
    clear HQ1 HB1 HB2 hq
    have A2 := awake_below w w2 HQ2.out.N.L
    go_wp2_with fail
    refine A2.mono ?_
    rintro e w3 ⟨rfl, HB3⟩
    clear A2
    go_wp2
    go_ret
    exact ⟨rfl, HB3.out⟩
  have hqa : (a < 0) = False := eq_false ha0
  by_cases hba : a > b
  · have hqb : (a > b) = True := eq_true hba
    go_enter Try.func5, Try.ntmps5
    go_wp2_with fail
    refine N1.mono ?_
    rintro e w1 ⟨rfl, HQ1, HB1⟩
    clear N1
    rw [hq] at HQ1 ⊢
    have A1 := awake_any w1
    go_wp2_with fail
    refine A1.mono ?_
    rintro e w2 ⟨rfl, HB2⟩
    clear A1
    have HQ2 := Sl.mk (HQ1.out.below HB2.out)
    clear HQ1 HB1 HB2 hq
    have A2 := awake_below w w2 HQ2.out.N.L
    go_wp2_with fail
    refine A2.mono ?_
    rintro e w3 ⟨rfl, HB3⟩
    clear A2
    go_wp2
    go_ret
    exact ⟨rfl, HB3.out⟩
  have hqb : (a > b) = False := eq_false hba
  have HAB : Sl (0 ≤ a ∧ a ≤ b) := ⟨by omega⟩
  go_enter Try.func5, Try.ntmps5
  go_wp2_with fail
  refine N1.mono ?_
  rintro e w1 ⟨rfl, HQ1, HB1⟩
  clear N1
  rw [hq] at HQ1 ⊢
  have A1 := awake_any w1
  go_wp2_with fail
  refine A1.mono ?_
  rintro e w2 ⟨rfl, HB2⟩
  clear A1
  have HQ2 := Sl.mk (HQ1.out.below HB2.out)
  clear HQ1 HB1 HB2 hq
  go_wp2
  go_loopw [13] (fun i wr => ∃ (k : Nat) (u : Value) (la : List Ev), i = .int .i64 (k : Int) ∧ k ≤ n ∧ Sl (Qu w wr q u (1 + (n0 : Int)) (1 + (n1 : Int)) la)) (fun i _ => n - (intOf i).toNat)
  case atStart => exact ⟨0, _, _, rfl, Nat.zero_le _, HQ2⟩
  case round =>
    clear HQ2
    obtain ⟨k, u, la, rfl, hk, HQ⟩ := hrel
    by_cases hkn : k < n
    · have hlt : ((k : Int) < (n : Int)) = True := eq_true (by omega)
      have hkl : k < l.length := by rw [HN.out]; exact hkn
      obtain ⟨sb, so, rfl⟩ := HV.out.cap.2.2 (by omega)
      obtain ⟨o, c, s, he⟩ := ev_parts HOK.out k hkl
      obtain ⟨c0, c1, c2⟩ := ev_cells_at (HV.out.below HQ.out.N.L) k hkl he
      by_cases h3 : s.size > 300
      · have hq3 : ((s.size : Int) > 300) = True := eq_true (by omega)
        clear he
        go_wp2
        go_ret
        exact ⟨rfl, HQ.out.N.L⟩
      · have hq3 : ((s.size : Int) > 300) = False := eq_false (by omega)
        obtain ⟨la1, r1, hp1⟩ : ∃ l1 r1, put (1 + (n0 : Int)) (1 + (n1 : Int)) la ⟨o, c, bytes s⟩ = (l1, r1) := ⟨_, _, rfl⟩
        have P := put_any o c s r1 HQ.out (by omega) hp1
        clear he hp1 h3
        go_wp2_with fail
        refine P.mono ?_
        rintro e w5 ⟨u5, rfl, HQ5, HG5⟩
        clear P
        clear HG5
        go_wp2
        exact ⟨⟨k + 1, _, _, by go_num, by omega, HQ5⟩, by simp [intOf]; omega⟩
    · obtain rfl : k = n := by omega
      have hlt : ((k : Int) < (k : Int)) = False := eq_false (by omega)
      obtain ⟨x, hx⟩ : ∃ x, room (1 + (n0 : Int)) (1 + (n1 : Int)) la a = x := ⟨_, rfl⟩
      obtain ⟨y, hy⟩ : ∃ y, room (1 + (n0 : Int)) (1 + (n1 : Int)) la b = y := ⟨_, rfl⟩
      have HXY : Sl (y = true → x = true) := ⟨fun e => by rw [← hx]; exact room_less HAB.out.1 HAB.out.2 (hy.trans e)⟩
      obtain ⟨m, hm⟩ : ∃ m, la.length = m := ⟨_, rfl⟩
      obtain ⟨z, hz⟩ : ∃ z, size la = z := ⟨_, rfl⟩
      have HM := Sl.mk hm
      have HZ := Sl.mk hz
      have hmost := HQ.out.most
      rw [hm, hz] at hmost
      have HXX : Sl (x = (decide (a ≤ (1 + (n1 : Int)) - (z : Int)) && decide ((m : Int) < 1 + (n0 : Int)))) := ⟨by
        rw [← hx]
        unfold room
        rw [hm, hz]
        have := HAB.out.1
        have hzb : (z : Int) ≤ 1 + (n1 : Int) := by have := HQ.out.I.2; rw [hz] at this; exact this
        by_cases h1 : a ≤ (1 + (n1 : Int)) - (z : Int) <;> by_cases h2 : (m : Int) < 1 + (n0 : Int) <;> simp [h1, h2] <;> omega⟩
      have RA := room_any a x HQ.out hx
      clear hx hz hm
      go_wp2_with fail
      refine RA.mono ?_
      rintro e w3 ⟨rfl, HB3⟩
      clear RA
      have HQ3 := Sl.mk (HQ.out.below HB3.out)
      have RB := room_any b y HQ3.out hy
      clear HQ HB3 hy
      go_wp2_with fail
      refine RB.mono ?_
      rintro e w4 ⟨rfl, HB4⟩
      clear RB
      have HQ4 := Sl.mk (HQ3.out.below HB4.out)
      clear HQ3 HB4
      have LL := len_any HM.out HQ4.out.N
      have SS := size_any HQ4.out.N
      rw [HZ.out] at SS
      go_wp2_with fail
      refine LL.mono ?_
      rintro e w5 ⟨rfl, rfl⟩
      clear LL
      go_wp2_with fail
      refine SS.mono ?_
      rintro e w5 ⟨rfl, rfl⟩
      clear SS
      obtain ⟨o, c, s, hhd⟩ : ∃ o c s, evV (hd la) = .agg #[.int .i64 o, .int .i64 c, .string s] := ⟨_, _, _, rfl⟩
      obtain ⟨is, his⟩ : ∃ b, (!la.isEmpty) = b := ⟨_, rfl⟩
      have HSZ := Sl.mk (evV_str hhd)
      have HIW := Sl.mk HQ4.out.I
      have T := take_any o c s is HQ4.out hhd his
      have HIS := Sl.mk his
      clear hhd his
      go_wp2_with fail
      refine T.mono ?_
      rintro e w5 ⟨u5, rfl, HQ5, HG5⟩
      clear T
      clear HG5 HQ4
      obtain ⟨w60, hww60, HBw60, hbw60⟩ := box_ev w5
      obtain ⟨w6, hww6, HBw6, HCw6⟩ := set_ev hbw60 HBw60.out (Nat.le_refl _) #[.int .i64 o, .int .i64 c, .string s]
      have HIw6 : (Try.prog.info? 32).map (·.size) = some (#[Value.int .i64 o, .int .i64 c, .string s]).size := ev_info rfl
      go_upto_region 13 with (refine wpList_store_row rfl 32 (.tmp 18) (.tmp 87) rfl w5.heap.size #[.int .i64 o, .int .i64 c, .string s] rfl rfl 32 #[.int .i64 0, .int .i64 0, .string { data := #[] }] hbw60 HIw6 rfl (ev_all _ _ _) ?_)
      (try rw [hww6])
      clear hww60 hww6 hbw60 HBw60 HIw6
      have HQ6 := Sl.mk (HQ5.out.below HBw6.out)
      obtain ⟨p, hp⟩ : ∃ p, w5.heap.size = p := ⟨_, rfl⟩
      rw [hp] at HCw6 ⊢
      clear hp HBw6 HQ5
      have hpl : p < w6.heap.size := (Array.getElem?_eq_some_iff.1 HCw6.out).1
      cases is with
      | true =>
        have hne : la ≠ [] := fun e => by rw [e] at HIS; exact absurd HIS.out (by decide)
        have hht := head_tail la hne
        rw [HM.out, HZ.out, ← HSZ.out] at hht
        obtain ⟨m1, hm1'⟩ : ∃ m1, la.tail.length = m1 := ⟨_, rfl⟩
        obtain ⟨z1, hz1'⟩ : ∃ z1, size la.tail = z1 := ⟨_, rfl⟩
        have HM1 := Sl.mk hm1'
        have HZ1 := Sl.mk hz1'
        rw [hm1', hz1'] at hht
        have hm1 : (m : Int) - 1 = (m1 : Int) := by omega
        have hw1 : IntKind.i64.wrap ((m : Int) - 1) = (m1 : Int) := by rw [IntKind.wrap_i64]; omega
        have hw2 : IntKind.i64.wrap (m1 : Int) = (m1 : Int) := by rw [IntKind.wrap_i64]; omega
        have hz1 : (z : Int) - (s.size : Int) = (z1 : Int) := by omega
        have hw3 : IntKind.i64.wrap ((z : Int) - (s.size : Int)) = (z1 : Int) := by rw [IntKind.wrap_i64]; omega
        have hw4 : IntKind.i64.wrap (z1 : Int) = (z1 : Int) := by rw [IntKind.wrap_i64]; omega
        have hmp : ((m : Int) > 0) = True := eq_true (by omega)
        have hmp0 : (0 < m) = True := eq_true (by omega)
        have HRT : Sl (room (1 + (n0 : Int)) (1 + (n1 : Int)) la.tail (s.size : Int) = true) := ⟨by
          rw [HSZ.out]
          have hI := HIW.out
          revert hI
          cases la with
          | nil => exact absurd rfl hne
          | cons e r => exact room_tail⟩
        clear hne hm1' hz1'
        go_upto_region 13 with fail
        cases y with
        | true =>
          obtain rfl : x = true := HXY.out rfl
          obtain ⟨Rw, hRw⟩ : ∃ R, w6.drew = R := ⟨_, rfl⟩
          have HBR : Below w6.heap.size w6 Rw := by rw [← hRw]; exact (Below.refl _ _).drew
          refine wp_region_noPanic ?_
          refine wp_region_held (S := fun V => Below w6.heap.size w6 V) (by kernel_rfl) ?_
          change wpAnyH _ _ _ _ _ _ _ _ w6.drew
          rw [hRw]
          clear hRw
          refine heldTake (d := some 89) (op := .move (Operand.tmp 15)) (g := none) 0 (.bool true) rfl (by kernel_rfl) (by kernel_rfl) (by kernel_rfl) (by kernel_rfl) ?y0a HBR ?_
          case y0a => intro o' ho W hS; exact by simp only [execOp, ho]; go_simp; try rfl
          simp only [Act.put, List.setIfInBounds_toArray, List.set_cons_zero, List.set_cons_succ]
          refine heldTake (d := some 90) (op := .move (Operand.tmp 89)) (g := none) 1 (.bool true) rfl (by kernel_rfl) (by kernel_rfl) (by kernel_rfl) (by kernel_rfl) ?y1a HBR ?_
          case y1a => intro o' ho W hS; exact by simp only [execOp, ho]; go_simp; try rfl
          simp only [Act.put, List.setIfInBounds_toArray, List.set_cons_zero, List.set_cons_succ]
          refine heldTake (d := some 91) (op := .move (Operand.tmp 14)) (g := some (1, true)) 2 (.bool true) rfl (by kernel_rfl) (by kernel_rfl) (by kernel_rfl) (by kernel_rfl) ?y2a HBR ?_
          case y2a => intro o' ho W hS; exact by simp only [execOp, ho]; go_simp; try rfl
          simp only [Act.put, List.setIfInBounds_toArray, List.set_cons_zero, List.set_cons_succ]
          refine heldTake (d := some 92) (op := .unOp UnOp.not 4 (Operand.tmp 91)) (g := some (1, true)) 3 (.bool false) rfl (by kernel_rfl) (by kernel_rfl) (by kernel_rfl) (by kernel_rfl) ?y3a HBR ?_
          case y3a => intro o' ho W hS; exact by simp only [execOp, ho]; go_simp; try rfl
          simp only [Act.put, List.setIfInBounds_toArray, List.set_cons_zero, List.set_cons_succ]
          refine heldTake (d := some 93) (op := .pick (Operand.tmp 90) (Operand.tmp 92) (Operand.const (Value.bool false))) (g := none) 4 (.bool false) rfl (by kernel_rfl) (by kernel_rfl) (by kernel_rfl) (by kernel_rfl) ?y4a HBR ?_
          case y4a => intro o' ho W hS; exact by simp only [execOp, ho]; go_simp; try rfl
          simp only [Act.put, List.setIfInBounds_toArray, List.set_cons_zero, List.set_cons_succ]
          refine heldTake (d := some 94) (op := .move (Operand.tmp 93)) (g := none) 5 (.bool false) rfl (by kernel_rfl) (by kernel_rfl) (by kernel_rfl) (by kernel_rfl) ?y5a HBR ?_
          case y5a => intro o' ho W hS; exact by simp only [execOp, ho]; go_simp; try rfl
          simp only [Act.put, List.setIfInBounds_toArray, List.set_cons_zero, List.set_cons_succ]
          refine heldTake (d := some 95) (op := .move (Operand.tmp 19)) (g := some (5, false)) 6 (.bool true) rfl (by kernel_rfl) (by kernel_rfl) (by kernel_rfl) (by kernel_rfl) ?y6a HBR ?_
          case y6a => intro o' ho W hS; exact by simp only [execOp, ho]; go_simp; try rfl
          simp only [Act.put, List.setIfInBounds_toArray, List.set_cons_zero, List.set_cons_succ]
          refine heldTake (d := some 96) (op := .move (Operand.tmp 16)) (g := some (5, false)) 7 ?v7a rfl (by kernel_rfl) (by kernel_rfl) (by kernel_rfl) (by kernel_rfl) ?y7a HBR ?_
          case y7a => intro o' ho W hS; simp only [execOp, ho]; go_simp; try rfl
          simp only [Act.put, List.setIfInBounds_toArray, List.set_cons_zero, List.set_cons_succ]
          refine heldTake (d := some 97) (op := .binOp BinOp.gtr 3 (Operand.tmp 96) (Operand.const (Value.int IntKind.i64 0)) 3) (g := some (5, false)) 8 (.bool true) rfl (by kernel_rfl) (by kernel_rfl) (by kernel_rfl) (by kernel_rfl) ?y8a HBR ?_
          case y8a => intro o' ho W hS; exact by simp only [execOp, ho]; go_simp; try rfl
          simp only [Act.put, List.setIfInBounds_toArray, List.set_cons_zero, List.set_cons_succ]
          refine heldTake (d := some 98) (op := .binOp BinOp.neq 4 (Operand.tmp 95) (Operand.tmp 97) 4) (g := some (5, false)) 9 (.bool false) rfl (by kernel_rfl) (by kernel_rfl) (by kernel_rfl) (by kernel_rfl) ?y9a HBR ?_
          case y9a => intro o' ho W hS; exact by simp only [execOp, ho]; go_simp; try rfl
          simp only [Act.put, List.setIfInBounds_toArray, List.set_cons_zero, List.set_cons_succ]
          refine heldTake (d := some 99) (op := .pick (Operand.tmp 94) (Operand.const (Value.bool true)) (Operand.tmp 98)) (g := none) 10 (.bool false) rfl (by kernel_rfl) (by kernel_rfl) (by kernel_rfl) (by kernel_rfl) ?y10a HBR ?_
          case y10a => intro o' ho W hS; exact by simp only [execOp, ho]; go_simp; try rfl
          simp only [Act.put, List.setIfInBounds_toArray, List.set_cons_zero, List.set_cons_succ]
          refine heldTake (d := some 100) (op := .move (Operand.tmp 99)) (g := none) 11 (.bool false) rfl (by kernel_rfl) (by kernel_rfl) (by kernel_rfl) (by kernel_rfl) ?y11a HBR ?_
          case y11a => intro o' ho W hS; exact by simp only [execOp, ho]; go_simp; try rfl
          simp only [Act.put, List.setIfInBounds_toArray, List.set_cons_zero, List.set_cons_succ]
          refine heldTake (d := some 101) (op := .move (Operand.tmp 19)) (g := some (11, false)) 12 (.bool true) rfl (by kernel_rfl) (by kernel_rfl) (by kernel_rfl) (by kernel_rfl) ?y12a HBR ?_
          case y12a => intro o' ho W hS; exact by simp only [execOp, ho]; go_simp; try rfl
          simp only [Act.put, List.setIfInBounds_toArray, List.set_cons_zero, List.set_cons_succ]
          refine heldTake (d := some 102) (op := .move (Operand.tmp 101)) (g := some (11, false)) 13 (.bool true) rfl (by kernel_rfl) (by kernel_rfl) (by kernel_rfl) (by kernel_rfl) ?y13a HBR ?_
          case y13a => intro o' ho W hS; exact by simp only [execOp, ho]; go_simp; try rfl
          simp only [Act.put, List.setIfInBounds_toArray, List.set_cons_zero, List.set_cons_succ]
          refine heldTake (d := some 103) (op := .move (Operand.tmp 11)) (g := some (13, true)) 14 ?v14a rfl (by kernel_rfl) (by kernel_rfl) (by kernel_rfl) (by kernel_rfl) ?y14a HBR ?_
          case y14a => intro o' ho W hS; simp only [execOp, ho]; go_simp; try rfl
          simp only [Act.put, List.setIfInBounds_toArray, List.set_cons_zero, List.set_cons_succ]
          refine heldTake (d := some 105) (op := .move (Operand.tmp 16)) (g := some (13, true)) 16 ?v16a rfl (by kernel_rfl) (by kernel_rfl) (by kernel_rfl) (by kernel_rfl) ?y16a HBR ?_
          case y16a => intro o' ho W hS; simp only [execOp, ho]; go_simp; try rfl
          simp only [Act.put, List.setIfInBounds_toArray, List.set_cons_zero, List.set_cons_succ]
          refine heldTake (d := some 106) (op := .binOp BinOp.sub 3 (Operand.tmp 105) (Operand.const (Value.int IntKind.i64 1)) 3) (g := some (13, true)) 17 (.int .i64 (m1 : Int)) rfl (by kernel_rfl) (by kernel_rfl) (by kernel_rfl) (by kernel_rfl) ?y17a HBR ?_
          case y17a => intro o' ho W hS; exact by simp only [execOp, ho]; go_simp; first | done | (rw [hm1]; done) | (rw [hw1]; done) | (rw [hm1, hw2]; done)
          simp only [Act.put, List.setIfInBounds_toArray, List.set_cons_zero, List.set_cons_succ]
          refine heldCall (d := some 104) (op := .call { callee := Callee.value (Operand.func 17), args := #[Operand.tmp 103], argTypes := #[23] }) (g := some (13, true)) 15 17 #[.pointer (some ⟨q, 0, none⟩)] rfl (by kernel_rfl) (by kernel_rfl) ?y15a ?_
          case y15a => intro o' ho; simp only [execOp, ho]; go_simp; try rfl
          refine (len_any (n := m1) HM1.out (HQ6.out.below HBR).N).mono ?_
          rintro e w7 ⟨rfl, rfl⟩
          refine ⟨_, rfl, HBR, ?_⟩
          simp only [Act.put, List.setIfInBounds_toArray, List.set_cons_zero, List.set_cons_succ]
          refine heldTake (d := some 107) (op := .binOp BinOp.neq 3 (Operand.tmp 104) (Operand.tmp 106) 3) (g := some (13, true)) 18 (.bool false) rfl (by kernel_rfl) (by kernel_rfl) (by kernel_rfl) (by kernel_rfl) ?y18a HBR ?_
          case y18a => intro o' ho W hS; exact by simp only [execOp, ho]; go_simp; first | done | simp
          simp only [Act.put, List.setIfInBounds_toArray, List.set_cons_zero, List.set_cons_succ]
          refine heldTake (d := some 108) (op := .move (Operand.tmp 107)) (g := some (13, true)) 19 (.bool false) rfl (by kernel_rfl) (by kernel_rfl) (by kernel_rfl) (by kernel_rfl) ?y19a HBR ?_
          case y19a => intro o' ho W hS; exact by simp only [execOp, ho]; go_simp; try rfl
          simp only [Act.put, List.setIfInBounds_toArray, List.set_cons_zero, List.set_cons_succ]
          refine heldTake (d := some 109) (op := .move (Operand.tmp 11)) (g := some (19, false)) 20 ?v20a rfl (by kernel_rfl) (by kernel_rfl) (by kernel_rfl) (by kernel_rfl) ?y20a HBR ?_
          case y20a => intro o' ho W hS; simp only [execOp, ho]; go_simp; try rfl
          simp only [Act.put, List.setIfInBounds_toArray, List.set_cons_zero, List.set_cons_succ]
          refine heldTake (d := some 111) (op := .move (Operand.tmp 17)) (g := some (19, false)) 22 ?v22a rfl (by kernel_rfl) (by kernel_rfl) (by kernel_rfl) (by kernel_rfl) ?y22a HBR ?_
          case y22a => intro o' ho W hS; simp only [execOp, ho]; go_simp; try rfl
          simp only [Act.put, List.setIfInBounds_toArray, List.set_cons_zero, List.set_cons_succ]
          refine heldTake (d := some 112) (op := .fieldAddr 32 (Operand.tmp 18) 2) (g := some (19, false)) 23 ?v23a rfl (by kernel_rfl) (by kernel_rfl) (by kernel_rfl) (by kernel_rfl) ?y23a HBR ?_
          case y23a => intro o' ho W hS; simp only [execOp, ho]; go_simp; try rfl
          simp only [Act.put, List.setIfInBounds_toArray, List.set_cons_zero, List.set_cons_succ]
          refine heldTake (d := some 113) (op := .load 9 (Operand.tmp 112)) (g := some (19, false)) 24 ?v24a rfl (by kernel_rfl) (by kernel_rfl) (by kernel_rfl) (by kernel_rfl) ?y24a HBR ?_
          case y24a => intro o' ho W hS; obtain ⟨-, -, f2⟩ := ev_cells ((hS.block _ hpl).trans HCw6.out); simp only [execOp, ho]; go_simp; try rfl
          simp only [Act.put, List.setIfInBounds_toArray, List.set_cons_zero, List.set_cons_succ]
          refine heldTake (d := some 114) (op := .call { callee := Callee.builtin Builtin.len, args := #[Operand.tmp 113], argTypes := #[9] }) (g := some (19, false)) 25 ?v25a rfl (by kernel_rfl) (by kernel_rfl) (by kernel_rfl) (by kernel_rfl) ?y25a HBR ?_
          case y25a => intro o' ho W hS; simp only [execOp, ho]; go_simp; try rfl
          simp only [Act.put, List.setIfInBounds_toArray, List.set_cons_zero, List.set_cons_succ]
          refine heldTake (d := some 115) (op := .binOp BinOp.sub 3 (Operand.tmp 111) (Operand.tmp 114) 3) (g := some (19, false)) 26 (.int .i64 (z1 : Int)) rfl (by kernel_rfl) (by kernel_rfl) (by kernel_rfl) (by kernel_rfl) ?y26a HBR ?_
          case y26a => intro o' ho W hS; exact by simp only [execOp, ho]; go_simp; first | done | (rw [hz1]; done) | (rw [hw3]; done) | (rw [hz1, hw4]; done)
          simp only [Act.put, List.setIfInBounds_toArray, List.set_cons_zero, List.set_cons_succ]
          have hN6 := (HQ6.out.below HBR).N
          rw [HZ1.out] at hN6
          refine heldCall (d := some 110) (op := .call { callee := Callee.value (Operand.func 18), args := #[Operand.tmp 109], argTypes := #[23] }) (g := some (19, false)) 21 18 #[.pointer (some ⟨q, 0, none⟩)] rfl (by kernel_rfl) (by kernel_rfl) ?y21a ?_
          case y21a => intro o' ho; simp only [execOp, ho]; go_simp; try rfl
          refine (size_any hN6).mono ?_
          rintro e w8 ⟨rfl, rfl⟩
          refine ⟨_, rfl, HBR, ?_⟩
          simp only [Act.put, List.setIfInBounds_toArray, List.set_cons_zero, List.set_cons_succ]
          refine heldTake (d := some 116) (op := .binOp BinOp.neq 3 (Operand.tmp 110) (Operand.tmp 115) 3) (g := some (19, false)) 27 (.bool false) rfl (by kernel_rfl) (by kernel_rfl) (by kernel_rfl) (by kernel_rfl) ?y27a HBR ?_
          case y27a => intro o' ho W hS; exact by simp only [execOp, ho]; go_simp; first | done | simp
          simp only [Act.put, List.setIfInBounds_toArray, List.set_cons_zero, List.set_cons_succ]
          refine heldTake (d := some 117) (op := .pick (Operand.tmp 108) (Operand.const (Value.bool true)) (Operand.tmp 116)) (g := some (13, true)) 28 (.bool false) rfl (by kernel_rfl) (by kernel_rfl) (by kernel_rfl) (by kernel_rfl) ?y28a HBR ?_
          case y28a => intro o' ho W hS; exact by simp only [execOp, ho]; go_simp; try rfl
          simp only [Act.put, List.setIfInBounds_toArray, List.set_cons_zero, List.set_cons_succ]
          refine heldTake (d := some 118) (op := .move (Operand.tmp 117)) (g := some (13, true)) 29 (.bool false) rfl (by kernel_rfl) (by kernel_rfl) (by kernel_rfl) (by kernel_rfl) ?y29a HBR ?_
          case y29a => intro o' ho W hS; exact by simp only [execOp, ho]; go_simp; try rfl
          simp only [Act.put, List.setIfInBounds_toArray, List.set_cons_zero, List.set_cons_succ]
          refine heldTake (d := some 119) (op := .move (Operand.tmp 11)) (g := some (29, false)) 30 ?v30a rfl (by kernel_rfl) (by kernel_rfl) (by kernel_rfl) (by kernel_rfl) ?y30a HBR ?_
          case y30a => intro o' ho W hS; simp only [execOp, ho]; go_simp; try rfl
          simp only [Act.put, List.setIfInBounds_toArray, List.set_cons_zero, List.set_cons_succ]
          refine heldTake (d := some 120) (op := .fieldAddr 32 (Operand.tmp 18) 2) (g := some (29, false)) 31 ?v31a rfl (by kernel_rfl) (by kernel_rfl) (by kernel_rfl) (by kernel_rfl) ?y31a HBR ?_
          case y31a => intro o' ho W hS; simp only [execOp, ho]; go_simp; try rfl
          simp only [Act.put, List.setIfInBounds_toArray, List.set_cons_zero, List.set_cons_succ]
          refine heldTake (d := some 121) (op := .load 9 (Operand.tmp 120)) (g := some (29, false)) 32 ?v32a rfl (by kernel_rfl) (by kernel_rfl) (by kernel_rfl) (by kernel_rfl) ?y32a HBR ?_
          case y32a => intro o' ho W hS; obtain ⟨-, -, f2⟩ := ev_cells ((hS.block _ hpl).trans HCw6.out); simp only [execOp, ho]; go_simp; try rfl
          simp only [Act.put, List.setIfInBounds_toArray, List.set_cons_zero, List.set_cons_succ]
          refine heldTake (d := some 122) (op := .call { callee := Callee.builtin Builtin.len, args := #[Operand.tmp 121], argTypes := #[9] }) (g := some (29, false)) 33 ?v33a rfl (by kernel_rfl) (by kernel_rfl) (by kernel_rfl) (by kernel_rfl) ?y33a HBR ?_
          case y33a => intro o' ho W hS; simp only [execOp, ho]; go_simp; try rfl
          simp only [Act.put, List.setIfInBounds_toArray, List.set_cons_zero, List.set_cons_succ]
          refine heldCall (d := some 123) (op := .call { callee := Callee.value (Operand.func 15), args := #[Operand.tmp 119, Operand.tmp 122], argTypes := #[23, 3] }) (g := some (29, false)) 34 15 #[.pointer (some ⟨q, 0, none⟩), .int .i64 (s.size : Int)] rfl (by kernel_rfl) (by kernel_rfl) ?y34a ?_
          case y34a => intro o' ho; simp only [execOp, ho]; go_simp; try rfl
          refine (room_any (s.size : Int) true (HQ6.out.below HBR) HRT.out).mono ?_
          rintro e w9 ⟨rfl, HB9⟩
          have HBS : Below w6.heap.size w6 w9 := HBR.trans (HB9.out.mono HBR.size)
          refine ⟨_, rfl, HBS, ?_⟩
          simp only [Act.put, List.setIfInBounds_toArray, List.set_cons_zero, List.set_cons_succ]
          refine heldTake (d := some 124) (op := .unOp UnOp.not 4 (Operand.tmp 123)) (g := some (29, false)) 35 (.bool false) rfl (by kernel_rfl) (by kernel_rfl) (by kernel_rfl) (by kernel_rfl) ?y35a HBS ?_
          case y35a => intro o' ho W hS; exact by simp only [execOp, ho]; go_simp; try rfl
          simp only [Act.put, List.setIfInBounds_toArray, List.set_cons_zero, List.set_cons_succ]
          refine heldTake (d := some 125) (op := .pick (Operand.tmp 118) (Operand.const (Value.bool true)) (Operand.tmp 124)) (g := some (13, true)) 36 (.bool false) rfl (by kernel_rfl) (by kernel_rfl) (by kernel_rfl) (by kernel_rfl) ?y36a HBS ?_
          case y36a => intro o' ho W hS; exact by simp only [execOp, ho]; go_simp; try rfl
          simp only [Act.put, List.setIfInBounds_toArray, List.set_cons_zero, List.set_cons_succ]
          refine heldTake (d := some 126) (op := .pick (Operand.tmp 102) (Operand.tmp 125) (Operand.const (Value.bool false))) (g := some (11, false)) 37 (.bool false) rfl (by kernel_rfl) (by kernel_rfl) (by kernel_rfl) (by kernel_rfl) ?y37a HBS ?_
          case y37a => intro o' ho W hS; exact by simp only [execOp, ho]; go_simp; try rfl
          simp only [Act.put, List.setIfInBounds_toArray, List.set_cons_zero, List.set_cons_succ]
          refine heldTake (d := some 127) (op := .pick (Operand.tmp 100) (Operand.const (Value.bool true)) (Operand.tmp 126)) (g := none) 38 (.bool false) rfl (by kernel_rfl) (by kernel_rfl) (by kernel_rfl) (by kernel_rfl) ?y38a HBS ?_
          case y38a => intro o' ho W hS; exact by simp only [execOp, ho]; go_simp; try rfl
          simp only [Act.put, List.setIfInBounds_toArray, List.set_cons_zero, List.set_cons_succ]
          refine wpAnyH_done (by kernel_rfl) ?_ _
          refine NoPanic.normal ?_
          have HL9 := Sl.mk (HQ6.out.below HBS).N.L
          clear HBS HBR hN6 HB9
          by_cases hA : a ≤ (1 + (n1 : Int)) - (z : Int)
          · have hqA : (a ≤ (1 + (n1 : Int)) - (z : Int)) = True := eq_true hA
            by_cases hB : (m : Int) < 1 + (n0 : Int)
            · have hqB : ((m : Int) < 1 + (n0 : Int)) = True := eq_true hB
              go_wp2
              go_ret
              exact ⟨rfl, HL9.out⟩
            · have hqB : ((m : Int) < 1 + (n0 : Int)) = False := eq_false hB
              exact absurd HXX.out (by rw [decide_eq_false hB, Bool.and_false]; decide)
          · exact absurd HXX.out (by rw [decide_eq_false hA, Bool.false_and]; decide)
        | false =>
          obtain ⟨Rw, hRw⟩ : ∃ R, w6.drew = R := ⟨_, rfl⟩
          have HBR : Below w6.heap.size w6 Rw := by rw [← hRw]; exact (Below.refl _ _).drew
          refine wp_region_noPanic ?_
          refine wp_region_held (S := fun V => Below w6.heap.size w6 V) (by kernel_rfl) ?_
          change wpAnyH _ _ _ _ _ _ _ _ w6.drew
          rw [hRw]
          clear hRw
          refine heldTake (d := some 89) (op := .move (Operand.tmp 15)) (g := none) 0 (.bool false) rfl (by kernel_rfl) (by kernel_rfl) (by kernel_rfl) (by kernel_rfl) ?y0b HBR ?_
          case y0b => intro o' ho W hS; exact by simp only [execOp, ho]; go_simp; try rfl
          simp only [Act.put, List.setIfInBounds_toArray, List.set_cons_zero, List.set_cons_succ]
          refine heldTake (d := some 90) (op := .move (Operand.tmp 89)) (g := none) 1 (.bool false) rfl (by kernel_rfl) (by kernel_rfl) (by kernel_rfl) (by kernel_rfl) ?y1b HBR ?_
          case y1b => intro o' ho W hS; exact by simp only [execOp, ho]; go_simp; try rfl
          simp only [Act.put, List.setIfInBounds_toArray, List.set_cons_zero, List.set_cons_succ]
          refine heldSkip (d := some 91) (op := .move (Operand.tmp 14)) (g := some (1, true)) 2 rfl (by kernel_rfl) (by kernel_rfl) (by kernel_rfl) (by kernel_rfl) HBR ?_
          simp only [Act.put, List.setIfInBounds_toArray, List.set_cons_zero, List.set_cons_succ]
          refine heldSkip (d := some 92) (op := .unOp UnOp.not 4 (Operand.tmp 91)) (g := some (1, true)) 3 rfl (by kernel_rfl) (by kernel_rfl) (by kernel_rfl) (by kernel_rfl) HBR ?_
          simp only [Act.put, List.setIfInBounds_toArray, List.set_cons_zero, List.set_cons_succ]
          refine heldTake (d := some 93) (op := .pick (Operand.tmp 90) (Operand.tmp 92) (Operand.const (Value.bool false))) (g := none) 4 (.bool false) rfl (by kernel_rfl) (by kernel_rfl) (by kernel_rfl) (by kernel_rfl) ?y4b HBR ?_
          case y4b => intro o' ho W hS; exact by simp only [execOp, ho]; go_simp; try rfl
          simp only [Act.put, List.setIfInBounds_toArray, List.set_cons_zero, List.set_cons_succ]
          refine heldTake (d := some 94) (op := .move (Operand.tmp 93)) (g := none) 5 (.bool false) rfl (by kernel_rfl) (by kernel_rfl) (by kernel_rfl) (by kernel_rfl) ?y5b HBR ?_
          case y5b => intro o' ho W hS; exact by simp only [execOp, ho]; go_simp; try rfl
          simp only [Act.put, List.setIfInBounds_toArray, List.set_cons_zero, List.set_cons_succ]
          refine heldTake (d := some 95) (op := .move (Operand.tmp 19)) (g := some (5, false)) 6 (.bool true) rfl (by kernel_rfl) (by kernel_rfl) (by kernel_rfl) (by kernel_rfl) ?y6b HBR ?_
          case y6b => intro o' ho W hS; exact by simp only [execOp, ho]; go_simp; try rfl
          simp only [Act.put, List.setIfInBounds_toArray, List.set_cons_zero, List.set_cons_succ]
          refine heldTake (d := some 96) (op := .move (Operand.tmp 16)) (g := some (5, false)) 7 ?v7b rfl (by kernel_rfl) (by kernel_rfl) (by kernel_rfl) (by kernel_rfl) ?y7b HBR ?_
          case y7b => intro o' ho W hS; simp only [execOp, ho]; go_simp; try rfl
          simp only [Act.put, List.setIfInBounds_toArray, List.set_cons_zero, List.set_cons_succ]
          refine heldTake (d := some 97) (op := .binOp BinOp.gtr 3 (Operand.tmp 96) (Operand.const (Value.int IntKind.i64 0)) 3) (g := some (5, false)) 8 (.bool true) rfl (by kernel_rfl) (by kernel_rfl) (by kernel_rfl) (by kernel_rfl) ?y8b HBR ?_
          case y8b => intro o' ho W hS; exact by simp only [execOp, ho]; go_simp; try rfl
          simp only [Act.put, List.setIfInBounds_toArray, List.set_cons_zero, List.set_cons_succ]
          refine heldTake (d := some 98) (op := .binOp BinOp.neq 4 (Operand.tmp 95) (Operand.tmp 97) 4) (g := some (5, false)) 9 (.bool false) rfl (by kernel_rfl) (by kernel_rfl) (by kernel_rfl) (by kernel_rfl) ?y9b HBR ?_
          case y9b => intro o' ho W hS; exact by simp only [execOp, ho]; go_simp; try rfl
          simp only [Act.put, List.setIfInBounds_toArray, List.set_cons_zero, List.set_cons_succ]
          refine heldTake (d := some 99) (op := .pick (Operand.tmp 94) (Operand.const (Value.bool true)) (Operand.tmp 98)) (g := none) 10 (.bool false) rfl (by kernel_rfl) (by kernel_rfl) (by kernel_rfl) (by kernel_rfl) ?y10b HBR ?_
          case y10b => intro o' ho W hS; exact by simp only [execOp, ho]; go_simp; try rfl
          simp only [Act.put, List.setIfInBounds_toArray, List.set_cons_zero, List.set_cons_succ]
          refine heldTake (d := some 100) (op := .move (Operand.tmp 99)) (g := none) 11 (.bool false) rfl (by kernel_rfl) (by kernel_rfl) (by kernel_rfl) (by kernel_rfl) ?y11b HBR ?_
          case y11b => intro o' ho W hS; exact by simp only [execOp, ho]; go_simp; try rfl
          simp only [Act.put, List.setIfInBounds_toArray, List.set_cons_zero, List.set_cons_succ]
          refine heldTake (d := some 101) (op := .move (Operand.tmp 19)) (g := some (11, false)) 12 (.bool true) rfl (by kernel_rfl) (by kernel_rfl) (by kernel_rfl) (by kernel_rfl) ?y12b HBR ?_
          case y12b => intro o' ho W hS; exact by simp only [execOp, ho]; go_simp; try rfl
          simp only [Act.put, List.setIfInBounds_toArray, List.set_cons_zero, List.set_cons_succ]
          refine heldTake (d := some 102) (op := .move (Operand.tmp 101)) (g := some (11, false)) 13 (.bool true) rfl (by kernel_rfl) (by kernel_rfl) (by kernel_rfl) (by kernel_rfl) ?y13b HBR ?_
          case y13b => intro o' ho W hS; exact by simp only [execOp, ho]; go_simp; try rfl
          simp only [Act.put, List.setIfInBounds_toArray, List.set_cons_zero, List.set_cons_succ]
          refine heldTake (d := some 103) (op := .move (Operand.tmp 11)) (g := some (13, true)) 14 ?v14b rfl (by kernel_rfl) (by kernel_rfl) (by kernel_rfl) (by kernel_rfl) ?y14b HBR ?_
          case y14b => intro o' ho W hS; simp only [execOp, ho]; go_simp; try rfl
          simp only [Act.put, List.setIfInBounds_toArray, List.set_cons_zero, List.set_cons_succ]
          refine heldTake (d := some 105) (op := .move (Operand.tmp 16)) (g := some (13, true)) 16 ?v16b rfl (by kernel_rfl) (by kernel_rfl) (by kernel_rfl) (by kernel_rfl) ?y16b HBR ?_
          case y16b => intro o' ho W hS; simp only [execOp, ho]; go_simp; try rfl
          simp only [Act.put, List.setIfInBounds_toArray, List.set_cons_zero, List.set_cons_succ]
          refine heldTake (d := some 106) (op := .binOp BinOp.sub 3 (Operand.tmp 105) (Operand.const (Value.int IntKind.i64 1)) 3) (g := some (13, true)) 17 (.int .i64 (m1 : Int)) rfl (by kernel_rfl) (by kernel_rfl) (by kernel_rfl) (by kernel_rfl) ?y17b HBR ?_
          case y17b => intro o' ho W hS; exact by simp only [execOp, ho]; go_simp; first | done | (rw [hm1]; done) | (rw [hw1]; done) | (rw [hm1, hw2]; done)
          simp only [Act.put, List.setIfInBounds_toArray, List.set_cons_zero, List.set_cons_succ]
          refine heldCall (d := some 104) (op := .call { callee := Callee.value (Operand.func 17), args := #[Operand.tmp 103], argTypes := #[23] }) (g := some (13, true)) 15 17 #[.pointer (some ⟨q, 0, none⟩)] rfl (by kernel_rfl) (by kernel_rfl) ?y15b ?_
          case y15b => intro o' ho; simp only [execOp, ho]; go_simp; try rfl
          refine (len_any (n := m1) HM1.out (HQ6.out.below HBR).N).mono ?_
          rintro e w7 ⟨rfl, rfl⟩
          refine ⟨_, rfl, HBR, ?_⟩
          simp only [Act.put, List.setIfInBounds_toArray, List.set_cons_zero, List.set_cons_succ]
          refine heldTake (d := some 107) (op := .binOp BinOp.neq 3 (Operand.tmp 104) (Operand.tmp 106) 3) (g := some (13, true)) 18 (.bool false) rfl (by kernel_rfl) (by kernel_rfl) (by kernel_rfl) (by kernel_rfl) ?y18b HBR ?_
          case y18b => intro o' ho W hS; exact by simp only [execOp, ho]; go_simp; first | done | simp
          simp only [Act.put, List.setIfInBounds_toArray, List.set_cons_zero, List.set_cons_succ]
          refine heldTake (d := some 108) (op := .move (Operand.tmp 107)) (g := some (13, true)) 19 (.bool false) rfl (by kernel_rfl) (by kernel_rfl) (by kernel_rfl) (by kernel_rfl) ?y19b HBR ?_
          case y19b => intro o' ho W hS; exact by simp only [execOp, ho]; go_simp; try rfl
          simp only [Act.put, List.setIfInBounds_toArray, List.set_cons_zero, List.set_cons_succ]
          refine heldTake (d := some 109) (op := .move (Operand.tmp 11)) (g := some (19, false)) 20 ?v20b rfl (by kernel_rfl) (by kernel_rfl) (by kernel_rfl) (by kernel_rfl) ?y20b HBR ?_
          case y20b => intro o' ho W hS; simp only [execOp, ho]; go_simp; try rfl
          simp only [Act.put, List.setIfInBounds_toArray, List.set_cons_zero, List.set_cons_succ]
          refine heldTake (d := some 111) (op := .move (Operand.tmp 17)) (g := some (19, false)) 22 ?v22b rfl (by kernel_rfl) (by kernel_rfl) (by kernel_rfl) (by kernel_rfl) ?y22b HBR ?_
          case y22b => intro o' ho W hS; simp only [execOp, ho]; go_simp; try rfl
          simp only [Act.put, List.setIfInBounds_toArray, List.set_cons_zero, List.set_cons_succ]
          refine heldTake (d := some 112) (op := .fieldAddr 32 (Operand.tmp 18) 2) (g := some (19, false)) 23 ?v23b rfl (by kernel_rfl) (by kernel_rfl) (by kernel_rfl) (by kernel_rfl) ?y23b HBR ?_
          case y23b => intro o' ho W hS; simp only [execOp, ho]; go_simp; try rfl
          simp only [Act.put, List.setIfInBounds_toArray, List.set_cons_zero, List.set_cons_succ]
          refine heldTake (d := some 113) (op := .load 9 (Operand.tmp 112)) (g := some (19, false)) 24 ?v24b rfl (by kernel_rfl) (by kernel_rfl) (by kernel_rfl) (by kernel_rfl) ?y24b HBR ?_
          case y24b => intro o' ho W hS; obtain ⟨-, -, f2⟩ := ev_cells ((hS.block _ hpl).trans HCw6.out); simp only [execOp, ho]; go_simp; try rfl
          simp only [Act.put, List.setIfInBounds_toArray, List.set_cons_zero, List.set_cons_succ]
          refine heldTake (d := some 114) (op := .call { callee := Callee.builtin Builtin.len, args := #[Operand.tmp 113], argTypes := #[9] }) (g := some (19, false)) 25 ?v25b rfl (by kernel_rfl) (by kernel_rfl) (by kernel_rfl) (by kernel_rfl) ?y25b HBR ?_
          case y25b => intro o' ho W hS; simp only [execOp, ho]; go_simp; try rfl
          simp only [Act.put, List.setIfInBounds_toArray, List.set_cons_zero, List.set_cons_succ]
          refine heldTake (d := some 115) (op := .binOp BinOp.sub 3 (Operand.tmp 111) (Operand.tmp 114) 3) (g := some (19, false)) 26 (.int .i64 (z1 : Int)) rfl (by kernel_rfl) (by kernel_rfl) (by kernel_rfl) (by kernel_rfl) ?y26b HBR ?_
          case y26b => intro o' ho W hS; exact by simp only [execOp, ho]; go_simp; first | done | (rw [hz1]; done) | (rw [hw3]; done) | (rw [hz1, hw4]; done)
          simp only [Act.put, List.setIfInBounds_toArray, List.set_cons_zero, List.set_cons_succ]
          have hN6 := (HQ6.out.below HBR).N
          rw [HZ1.out] at hN6
          refine heldCall (d := some 110) (op := .call { callee := Callee.value (Operand.func 18), args := #[Operand.tmp 109], argTypes := #[23] }) (g := some (19, false)) 21 18 #[.pointer (some ⟨q, 0, none⟩)] rfl (by kernel_rfl) (by kernel_rfl) ?y21b ?_
          case y21b => intro o' ho; simp only [execOp, ho]; go_simp; try rfl
          refine (size_any hN6).mono ?_
          rintro e w8 ⟨rfl, rfl⟩
          refine ⟨_, rfl, HBR, ?_⟩
          simp only [Act.put, List.setIfInBounds_toArray, List.set_cons_zero, List.set_cons_succ]
          refine heldTake (d := some 116) (op := .binOp BinOp.neq 3 (Operand.tmp 110) (Operand.tmp 115) 3) (g := some (19, false)) 27 (.bool false) rfl (by kernel_rfl) (by kernel_rfl) (by kernel_rfl) (by kernel_rfl) ?y27b HBR ?_
          case y27b => intro o' ho W hS; exact by simp only [execOp, ho]; go_simp; first | done | simp
          simp only [Act.put, List.setIfInBounds_toArray, List.set_cons_zero, List.set_cons_succ]
          refine heldTake (d := some 117) (op := .pick (Operand.tmp 108) (Operand.const (Value.bool true)) (Operand.tmp 116)) (g := some (13, true)) 28 (.bool false) rfl (by kernel_rfl) (by kernel_rfl) (by kernel_rfl) (by kernel_rfl) ?y28b HBR ?_
          case y28b => intro o' ho W hS; exact by simp only [execOp, ho]; go_simp; try rfl
          simp only [Act.put, List.setIfInBounds_toArray, List.set_cons_zero, List.set_cons_succ]
          refine heldTake (d := some 118) (op := .move (Operand.tmp 117)) (g := some (13, true)) 29 (.bool false) rfl (by kernel_rfl) (by kernel_rfl) (by kernel_rfl) (by kernel_rfl) ?y29b HBR ?_
          case y29b => intro o' ho W hS; exact by simp only [execOp, ho]; go_simp; try rfl
          simp only [Act.put, List.setIfInBounds_toArray, List.set_cons_zero, List.set_cons_succ]
          refine heldTake (d := some 119) (op := .move (Operand.tmp 11)) (g := some (29, false)) 30 ?v30b rfl (by kernel_rfl) (by kernel_rfl) (by kernel_rfl) (by kernel_rfl) ?y30b HBR ?_
          case y30b => intro o' ho W hS; simp only [execOp, ho]; go_simp; try rfl
          simp only [Act.put, List.setIfInBounds_toArray, List.set_cons_zero, List.set_cons_succ]
          refine heldTake (d := some 120) (op := .fieldAddr 32 (Operand.tmp 18) 2) (g := some (29, false)) 31 ?v31b rfl (by kernel_rfl) (by kernel_rfl) (by kernel_rfl) (by kernel_rfl) ?y31b HBR ?_
          case y31b => intro o' ho W hS; simp only [execOp, ho]; go_simp; try rfl
          simp only [Act.put, List.setIfInBounds_toArray, List.set_cons_zero, List.set_cons_succ]
          refine heldTake (d := some 121) (op := .load 9 (Operand.tmp 120)) (g := some (29, false)) 32 ?v32b rfl (by kernel_rfl) (by kernel_rfl) (by kernel_rfl) (by kernel_rfl) ?y32b HBR ?_
          case y32b => intro o' ho W hS; obtain ⟨-, -, f2⟩ := ev_cells ((hS.block _ hpl).trans HCw6.out); simp only [execOp, ho]; go_simp; try rfl
          simp only [Act.put, List.setIfInBounds_toArray, List.set_cons_zero, List.set_cons_succ]
          refine heldTake (d := some 122) (op := .call { callee := Callee.builtin Builtin.len, args := #[Operand.tmp 121], argTypes := #[9] }) (g := some (29, false)) 33 ?v33b rfl (by kernel_rfl) (by kernel_rfl) (by kernel_rfl) (by kernel_rfl) ?y33b HBR ?_
          case y33b => intro o' ho W hS; simp only [execOp, ho]; go_simp; try rfl
          simp only [Act.put, List.setIfInBounds_toArray, List.set_cons_zero, List.set_cons_succ]
          refine heldCall (d := some 123) (op := .call { callee := Callee.value (Operand.func 15), args := #[Operand.tmp 119, Operand.tmp 122], argTypes := #[23, 3] }) (g := some (29, false)) 34 15 #[.pointer (some ⟨q, 0, none⟩), .int .i64 (s.size : Int)] rfl (by kernel_rfl) (by kernel_rfl) ?y34b ?_
          case y34b => intro o' ho; simp only [execOp, ho]; go_simp; try rfl
          refine (room_any (s.size : Int) true (HQ6.out.below HBR) HRT.out).mono ?_
          rintro e w9 ⟨rfl, HB9⟩
          have HBS : Below w6.heap.size w6 w9 := HBR.trans (HB9.out.mono HBR.size)
          refine ⟨_, rfl, HBS, ?_⟩
          simp only [Act.put, List.setIfInBounds_toArray, List.set_cons_zero, List.set_cons_succ]
          refine heldTake (d := some 124) (op := .unOp UnOp.not 4 (Operand.tmp 123)) (g := some (29, false)) 35 (.bool false) rfl (by kernel_rfl) (by kernel_rfl) (by kernel_rfl) (by kernel_rfl) ?y35b HBS ?_
          case y35b => intro o' ho W hS; exact by simp only [execOp, ho]; go_simp; try rfl
          simp only [Act.put, List.setIfInBounds_toArray, List.set_cons_zero, List.set_cons_succ]
          refine heldTake (d := some 125) (op := .pick (Operand.tmp 118) (Operand.const (Value.bool true)) (Operand.tmp 124)) (g := some (13, true)) 36 (.bool false) rfl (by kernel_rfl) (by kernel_rfl) (by kernel_rfl) (by kernel_rfl) ?y36b HBS ?_
          case y36b => intro o' ho W hS; exact by simp only [execOp, ho]; go_simp; try rfl
          simp only [Act.put, List.setIfInBounds_toArray, List.set_cons_zero, List.set_cons_succ]
          refine heldTake (d := some 126) (op := .pick (Operand.tmp 102) (Operand.tmp 125) (Operand.const (Value.bool false))) (g := some (11, false)) 37 (.bool false) rfl (by kernel_rfl) (by kernel_rfl) (by kernel_rfl) (by kernel_rfl) ?y37b HBS ?_
          case y37b => intro o' ho W hS; exact by simp only [execOp, ho]; go_simp; try rfl
          simp only [Act.put, List.setIfInBounds_toArray, List.set_cons_zero, List.set_cons_succ]
          refine heldTake (d := some 127) (op := .pick (Operand.tmp 100) (Operand.const (Value.bool true)) (Operand.tmp 126)) (g := none) 38 (.bool false) rfl (by kernel_rfl) (by kernel_rfl) (by kernel_rfl) (by kernel_rfl) ?y38b HBS ?_
          case y38b => intro o' ho W hS; exact by simp only [execOp, ho]; go_simp; try rfl
          simp only [Act.put, List.setIfInBounds_toArray, List.set_cons_zero, List.set_cons_succ]
          refine wpAnyH_done (by kernel_rfl) ?_ _
          refine NoPanic.normal ?_
          have HL9 := Sl.mk (HQ6.out.below HBS).N.L
          clear HBS HBR hN6 HB9
          by_cases hA : a ≤ (1 + (n1 : Int)) - (z : Int)
          · have hqA : (a ≤ (1 + (n1 : Int)) - (z : Int)) = True := eq_true hA
            by_cases hB : (m : Int) < 1 + (n0 : Int)
            · have hqB : ((m : Int) < 1 + (n0 : Int)) = True := eq_true hB
              obtain rfl : x = true := by rw [HXX.out, decide_eq_true hA, decide_eq_true hB]; rfl
              go_wp2
              go_ret
              exact ⟨rfl, HL9.out⟩
            · have hqB : ((m : Int) < 1 + (n0 : Int)) = False := eq_false hB
              obtain rfl : x = false := by rw [HXX.out, decide_eq_false hB, Bool.and_false]
              go_wp2
              go_ret
              exact ⟨rfl, HL9.out⟩
          · have hqA : (a ≤ (1 + (n1 : Int)) - (z : Int)) = False := eq_false hA
            obtain rfl : x = false := by rw [HXX.out, decide_eq_false hA, Bool.false_and]
            go_wp2
            go_ret
            exact ⟨rfl, HL9.out⟩
      | false =>
        have hnil : la = [] := by
          cases la with
          | nil => rfl
          | cons e r => exact absurd HIS.out (by simp)
        have hm0 : m = 0 := by rw [← HM.out, hnil]; rfl
        have hmp : ((m : Int) > 0) = False := eq_false (by omega)
        have hmp0 : (0 < m) = False := eq_false (by omega)
        clear hnil hm0
        go_upto_region 13 with fail
        cases y with
        | true =>
          obtain rfl : x = true := HXY.out rfl
          obtain ⟨Rw, hRw⟩ : ∃ R, w6.drew = R := ⟨_, rfl⟩
          have HBR : Below w6.heap.size w6 Rw := by rw [← hRw]; exact (Below.refl _ _).drew
          refine wp_region_noPanic ?_
          refine wp_region_held (S := fun V => Below w6.heap.size w6 V) (by kernel_rfl) ?_
          change wpAnyH _ _ _ _ _ _ _ _ w6.drew
          rw [hRw]
          clear hRw
          refine heldTake (d := some 89) (op := .move (Operand.tmp 15)) (g := none) 0 (.bool true) rfl (by kernel_rfl) (by kernel_rfl) (by kernel_rfl) (by kernel_rfl) ?y0c HBR ?_
          case y0c => intro o' ho W hS; exact by simp only [execOp, ho]; go_simp; try rfl
          simp only [Act.put, List.setIfInBounds_toArray, List.set_cons_zero, List.set_cons_succ]
          refine heldTake (d := some 90) (op := .move (Operand.tmp 89)) (g := none) 1 (.bool true) rfl (by kernel_rfl) (by kernel_rfl) (by kernel_rfl) (by kernel_rfl) ?y1c HBR ?_
          case y1c => intro o' ho W hS; exact by simp only [execOp, ho]; go_simp; try rfl
          simp only [Act.put, List.setIfInBounds_toArray, List.set_cons_zero, List.set_cons_succ]
          refine heldTake (d := some 91) (op := .move (Operand.tmp 14)) (g := some (1, true)) 2 (.bool true) rfl (by kernel_rfl) (by kernel_rfl) (by kernel_rfl) (by kernel_rfl) ?y2c HBR ?_
          case y2c => intro o' ho W hS; exact by simp only [execOp, ho]; go_simp; try rfl
          simp only [Act.put, List.setIfInBounds_toArray, List.set_cons_zero, List.set_cons_succ]
          refine heldTake (d := some 92) (op := .unOp UnOp.not 4 (Operand.tmp 91)) (g := some (1, true)) 3 (.bool false) rfl (by kernel_rfl) (by kernel_rfl) (by kernel_rfl) (by kernel_rfl) ?y3c HBR ?_
          case y3c => intro o' ho W hS; exact by simp only [execOp, ho]; go_simp; try rfl
          simp only [Act.put, List.setIfInBounds_toArray, List.set_cons_zero, List.set_cons_succ]
          refine heldTake (d := some 93) (op := .pick (Operand.tmp 90) (Operand.tmp 92) (Operand.const (Value.bool false))) (g := none) 4 (.bool false) rfl (by kernel_rfl) (by kernel_rfl) (by kernel_rfl) (by kernel_rfl) ?y4c HBR ?_
          case y4c => intro o' ho W hS; exact by simp only [execOp, ho]; go_simp; try rfl
          simp only [Act.put, List.setIfInBounds_toArray, List.set_cons_zero, List.set_cons_succ]
          refine heldTake (d := some 94) (op := .move (Operand.tmp 93)) (g := none) 5 (.bool false) rfl (by kernel_rfl) (by kernel_rfl) (by kernel_rfl) (by kernel_rfl) ?y5c HBR ?_
          case y5c => intro o' ho W hS; exact by simp only [execOp, ho]; go_simp; try rfl
          simp only [Act.put, List.setIfInBounds_toArray, List.set_cons_zero, List.set_cons_succ]
          refine heldTake (d := some 95) (op := .move (Operand.tmp 19)) (g := some (5, false)) 6 (.bool false) rfl (by kernel_rfl) (by kernel_rfl) (by kernel_rfl) (by kernel_rfl) ?y6c HBR ?_
          case y6c => intro o' ho W hS; exact by simp only [execOp, ho]; go_simp; try rfl
          simp only [Act.put, List.setIfInBounds_toArray, List.set_cons_zero, List.set_cons_succ]
          refine heldTake (d := some 96) (op := .move (Operand.tmp 16)) (g := some (5, false)) 7 ?v7c rfl (by kernel_rfl) (by kernel_rfl) (by kernel_rfl) (by kernel_rfl) ?y7c HBR ?_
          case y7c => intro o' ho W hS; simp only [execOp, ho]; go_simp; try rfl
          simp only [Act.put, List.setIfInBounds_toArray, List.set_cons_zero, List.set_cons_succ]
          refine heldTake (d := some 97) (op := .binOp BinOp.gtr 3 (Operand.tmp 96) (Operand.const (Value.int IntKind.i64 0)) 3) (g := some (5, false)) 8 (.bool false) rfl (by kernel_rfl) (by kernel_rfl) (by kernel_rfl) (by kernel_rfl) ?y8c HBR ?_
          case y8c => intro o' ho W hS; exact by simp only [execOp, ho]; go_simp; try rfl
          simp only [Act.put, List.setIfInBounds_toArray, List.set_cons_zero, List.set_cons_succ]
          refine heldTake (d := some 98) (op := .binOp BinOp.neq 4 (Operand.tmp 95) (Operand.tmp 97) 4) (g := some (5, false)) 9 (.bool false) rfl (by kernel_rfl) (by kernel_rfl) (by kernel_rfl) (by kernel_rfl) ?y9c HBR ?_
          case y9c => intro o' ho W hS; exact by simp only [execOp, ho]; go_simp; try rfl
          simp only [Act.put, List.setIfInBounds_toArray, List.set_cons_zero, List.set_cons_succ]
          refine heldTake (d := some 99) (op := .pick (Operand.tmp 94) (Operand.const (Value.bool true)) (Operand.tmp 98)) (g := none) 10 (.bool false) rfl (by kernel_rfl) (by kernel_rfl) (by kernel_rfl) (by kernel_rfl) ?y10c HBR ?_
          case y10c => intro o' ho W hS; exact by simp only [execOp, ho]; go_simp; try rfl
          simp only [Act.put, List.setIfInBounds_toArray, List.set_cons_zero, List.set_cons_succ]
          refine heldTake (d := some 100) (op := .move (Operand.tmp 99)) (g := none) 11 (.bool false) rfl (by kernel_rfl) (by kernel_rfl) (by kernel_rfl) (by kernel_rfl) ?y11c HBR ?_
          case y11c => intro o' ho W hS; exact by simp only [execOp, ho]; go_simp; try rfl
          simp only [Act.put, List.setIfInBounds_toArray, List.set_cons_zero, List.set_cons_succ]
          refine heldTake (d := some 101) (op := .move (Operand.tmp 19)) (g := some (11, false)) 12 (.bool false) rfl (by kernel_rfl) (by kernel_rfl) (by kernel_rfl) (by kernel_rfl) ?y12c HBR ?_
          case y12c => intro o' ho W hS; exact by simp only [execOp, ho]; go_simp; try rfl
          simp only [Act.put, List.setIfInBounds_toArray, List.set_cons_zero, List.set_cons_succ]
          refine heldTake (d := some 102) (op := .move (Operand.tmp 101)) (g := some (11, false)) 13 (.bool false) rfl (by kernel_rfl) (by kernel_rfl) (by kernel_rfl) (by kernel_rfl) ?y13c HBR ?_
          case y13c => intro o' ho W hS; exact by simp only [execOp, ho]; go_simp; try rfl
          simp only [Act.put, List.setIfInBounds_toArray, List.set_cons_zero, List.set_cons_succ]
          refine heldSkip (d := some 103) (op := .move (Operand.tmp 11)) (g := some (13, true)) 14 rfl (by kernel_rfl) (by kernel_rfl) (by kernel_rfl) (by kernel_rfl) HBR ?_
          simp only [Act.put, List.setIfInBounds_toArray, List.set_cons_zero, List.set_cons_succ]
          refine heldSkip (d := some 104) (op := .call { callee := Callee.value (Operand.func 17), args := #[Operand.tmp 103], argTypes := #[23] }) (g := some (13, true)) 15 rfl (by kernel_rfl) (by kernel_rfl) (by kernel_rfl) (by kernel_rfl) HBR ?_
          simp only [Act.put, List.setIfInBounds_toArray, List.set_cons_zero, List.set_cons_succ]
          refine heldSkip (d := some 105) (op := .move (Operand.tmp 16)) (g := some (13, true)) 16 rfl (by kernel_rfl) (by kernel_rfl) (by kernel_rfl) (by kernel_rfl) HBR ?_
          simp only [Act.put, List.setIfInBounds_toArray, List.set_cons_zero, List.set_cons_succ]
          refine heldSkip (d := some 106) (op := .binOp BinOp.sub 3 (Operand.tmp 105) (Operand.const (Value.int IntKind.i64 1)) 3) (g := some (13, true)) 17 rfl (by kernel_rfl) (by kernel_rfl) (by kernel_rfl) (by kernel_rfl) HBR ?_
          simp only [Act.put, List.setIfInBounds_toArray, List.set_cons_zero, List.set_cons_succ]
          refine heldSkip (d := some 107) (op := .binOp BinOp.neq 3 (Operand.tmp 104) (Operand.tmp 106) 3) (g := some (13, true)) 18 rfl (by kernel_rfl) (by kernel_rfl) (by kernel_rfl) (by kernel_rfl) HBR ?_
          simp only [Act.put, List.setIfInBounds_toArray, List.set_cons_zero, List.set_cons_succ]
          refine heldSkip (d := some 108) (op := .move (Operand.tmp 107)) (g := some (13, true)) 19 rfl (by kernel_rfl) (by kernel_rfl) (by kernel_rfl) (by kernel_rfl) HBR ?_
          simp only [Act.put, List.setIfInBounds_toArray, List.set_cons_zero, List.set_cons_succ]
          refine heldSkip (d := some 109) (op := .move (Operand.tmp 11)) (g := some (19, false)) 20 rfl (by kernel_rfl) (by kernel_rfl) (by kernel_rfl) (by kernel_rfl) HBR ?_
          simp only [Act.put, List.setIfInBounds_toArray, List.set_cons_zero, List.set_cons_succ]
          refine heldSkip (d := some 110) (op := .call { callee := Callee.value (Operand.func 18), args := #[Operand.tmp 109], argTypes := #[23] }) (g := some (19, false)) 21 rfl (by kernel_rfl) (by kernel_rfl) (by kernel_rfl) (by kernel_rfl) HBR ?_
          simp only [Act.put, List.setIfInBounds_toArray, List.set_cons_zero, List.set_cons_succ]
          refine heldSkip (d := some 111) (op := .move (Operand.tmp 17)) (g := some (19, false)) 22 rfl (by kernel_rfl) (by kernel_rfl) (by kernel_rfl) (by kernel_rfl) HBR ?_
          simp only [Act.put, List.setIfInBounds_toArray, List.set_cons_zero, List.set_cons_succ]
          refine heldSkip (d := some 112) (op := .fieldAddr 32 (Operand.tmp 18) 2) (g := some (19, false)) 23 rfl (by kernel_rfl) (by kernel_rfl) (by kernel_rfl) (by kernel_rfl) HBR ?_
          simp only [Act.put, List.setIfInBounds_toArray, List.set_cons_zero, List.set_cons_succ]
          refine heldSkip (d := some 113) (op := .load 9 (Operand.tmp 112)) (g := some (19, false)) 24 rfl (by kernel_rfl) (by kernel_rfl) (by kernel_rfl) (by kernel_rfl) HBR ?_
          simp only [Act.put, List.setIfInBounds_toArray, List.set_cons_zero, List.set_cons_succ]
          refine heldSkip (d := some 114) (op := .call { callee := Callee.builtin Builtin.len, args := #[Operand.tmp 113], argTypes := #[9] }) (g := some (19, false)) 25 rfl (by kernel_rfl) (by kernel_rfl) (by kernel_rfl) (by kernel_rfl) HBR ?_
          simp only [Act.put, List.setIfInBounds_toArray, List.set_cons_zero, List.set_cons_succ]
          refine heldSkip (d := some 115) (op := .binOp BinOp.sub 3 (Operand.tmp 111) (Operand.tmp 114) 3) (g := some (19, false)) 26 rfl (by kernel_rfl) (by kernel_rfl) (by kernel_rfl) (by kernel_rfl) HBR ?_
          simp only [Act.put, List.setIfInBounds_toArray, List.set_cons_zero, List.set_cons_succ]
          refine heldSkip (d := some 116) (op := .binOp BinOp.neq 3 (Operand.tmp 110) (Operand.tmp 115) 3) (g := some (19, false)) 27 rfl (by kernel_rfl) (by kernel_rfl) (by kernel_rfl) (by kernel_rfl) HBR ?_
          simp only [Act.put, List.setIfInBounds_toArray, List.set_cons_zero, List.set_cons_succ]
          refine heldSkip (d := some 117) (op := .pick (Operand.tmp 108) (Operand.const (Value.bool true)) (Operand.tmp 116)) (g := some (13, true)) 28 rfl (by kernel_rfl) (by kernel_rfl) (by kernel_rfl) (by kernel_rfl) HBR ?_
          simp only [Act.put, List.setIfInBounds_toArray, List.set_cons_zero, List.set_cons_succ]
          refine heldSkip (d := some 118) (op := .move (Operand.tmp 117)) (g := some (13, true)) 29 rfl (by kernel_rfl) (by kernel_rfl) (by kernel_rfl) (by kernel_rfl) HBR ?_
          simp only [Act.put, List.setIfInBounds_toArray, List.set_cons_zero, List.set_cons_succ]
          refine heldSkip (d := some 119) (op := .move (Operand.tmp 11)) (g := some (29, false)) 30 rfl (by kernel_rfl) (by kernel_rfl) (by kernel_rfl) (by kernel_rfl) HBR ?_
          simp only [Act.put, List.setIfInBounds_toArray, List.set_cons_zero, List.set_cons_succ]
          refine heldSkip (d := some 120) (op := .fieldAddr 32 (Operand.tmp 18) 2) (g := some (29, false)) 31 rfl (by kernel_rfl) (by kernel_rfl) (by kernel_rfl) (by kernel_rfl) HBR ?_
          simp only [Act.put, List.setIfInBounds_toArray, List.set_cons_zero, List.set_cons_succ]
          refine heldSkip (d := some 121) (op := .load 9 (Operand.tmp 120)) (g := some (29, false)) 32 rfl (by kernel_rfl) (by kernel_rfl) (by kernel_rfl) (by kernel_rfl) HBR ?_
          simp only [Act.put, List.setIfInBounds_toArray, List.set_cons_zero, List.set_cons_succ]
          refine heldSkip (d := some 122) (op := .call { callee := Callee.builtin Builtin.len, args := #[Operand.tmp 121], argTypes := #[9] }) (g := some (29, false)) 33 rfl (by kernel_rfl) (by kernel_rfl) (by kernel_rfl) (by kernel_rfl) HBR ?_
          simp only [Act.put, List.setIfInBounds_toArray, List.set_cons_zero, List.set_cons_succ]
          refine heldSkip (d := some 123) (op := .call { callee := Callee.value (Operand.func 15), args := #[Operand.tmp 119, Operand.tmp 122], argTypes := #[23, 3] }) (g := some (29, false)) 34 rfl (by kernel_rfl) (by kernel_rfl) (by kernel_rfl) (by kernel_rfl) HBR ?_
          simp only [Act.put, List.setIfInBounds_toArray, List.set_cons_zero, List.set_cons_succ]
          refine heldSkip (d := some 124) (op := .unOp UnOp.not 4 (Operand.tmp 123)) (g := some (29, false)) 35 rfl (by kernel_rfl) (by kernel_rfl) (by kernel_rfl) (by kernel_rfl) HBR ?_
          simp only [Act.put, List.setIfInBounds_toArray, List.set_cons_zero, List.set_cons_succ]
          refine heldSkip (d := some 125) (op := .pick (Operand.tmp 118) (Operand.const (Value.bool true)) (Operand.tmp 124)) (g := some (13, true)) 36 rfl (by kernel_rfl) (by kernel_rfl) (by kernel_rfl) (by kernel_rfl) HBR ?_
          simp only [Act.put, List.setIfInBounds_toArray, List.set_cons_zero, List.set_cons_succ]
          refine heldTake (d := some 126) (op := .pick (Operand.tmp 102) (Operand.tmp 125) (Operand.const (Value.bool false))) (g := some (11, false)) 37 (.bool false) rfl (by kernel_rfl) (by kernel_rfl) (by kernel_rfl) (by kernel_rfl) ?y37c HBR ?_
          case y37c => intro o' ho W hS; exact by simp only [execOp, ho]; go_simp; try rfl
          simp only [Act.put, List.setIfInBounds_toArray, List.set_cons_zero, List.set_cons_succ]
          refine heldTake (d := some 127) (op := .pick (Operand.tmp 100) (Operand.const (Value.bool true)) (Operand.tmp 126)) (g := none) 38 (.bool false) rfl (by kernel_rfl) (by kernel_rfl) (by kernel_rfl) (by kernel_rfl) ?y38c HBR ?_
          case y38c => intro o' ho W hS; exact by simp only [execOp, ho]; go_simp; try rfl
          simp only [Act.put, List.setIfInBounds_toArray, List.set_cons_zero, List.set_cons_succ]
          refine wpAnyH_done (by kernel_rfl) ?_ _
          refine NoPanic.normal ?_
          have HL9 := Sl.mk (HQ6.out.below HBR).N.L
          clear HBR
          by_cases hA : a ≤ (1 + (n1 : Int)) - (z : Int)
          · have hqA : (a ≤ (1 + (n1 : Int)) - (z : Int)) = True := eq_true hA
            by_cases hB : (m : Int) < 1 + (n0 : Int)
            · have hqB : ((m : Int) < 1 + (n0 : Int)) = True := eq_true hB
              go_wp2
              go_ret
              exact ⟨rfl, HL9.out⟩
            · have hqB : ((m : Int) < 1 + (n0 : Int)) = False := eq_false hB
              exact absurd HXX.out (by rw [decide_eq_false hB, Bool.and_false]; decide)
          · exact absurd HXX.out (by rw [decide_eq_false hA, Bool.false_and]; decide)
        | false =>
          obtain ⟨Rw, hRw⟩ : ∃ R, w6.drew = R := ⟨_, rfl⟩
          have HBR : Below w6.heap.size w6 Rw := by rw [← hRw]; exact (Below.refl _ _).drew
          refine wp_region_noPanic ?_
          refine wp_region_held (S := fun V => Below w6.heap.size w6 V) (by kernel_rfl) ?_
          change wpAnyH _ _ _ _ _ _ _ _ w6.drew
          rw [hRw]
          clear hRw
          refine heldTake (d := some 89) (op := .move (Operand.tmp 15)) (g := none) 0 (.bool false) rfl (by kernel_rfl) (by kernel_rfl) (by kernel_rfl) (by kernel_rfl) ?y0d HBR ?_
          case y0d => intro o' ho W hS; exact by simp only [execOp, ho]; go_simp; try rfl
          simp only [Act.put, List.setIfInBounds_toArray, List.set_cons_zero, List.set_cons_succ]
          refine heldTake (d := some 90) (op := .move (Operand.tmp 89)) (g := none) 1 (.bool false) rfl (by kernel_rfl) (by kernel_rfl) (by kernel_rfl) (by kernel_rfl) ?y1d HBR ?_
          case y1d => intro o' ho W hS; exact by simp only [execOp, ho]; go_simp; try rfl
          simp only [Act.put, List.setIfInBounds_toArray, List.set_cons_zero, List.set_cons_succ]
          refine heldSkip (d := some 91) (op := .move (Operand.tmp 14)) (g := some (1, true)) 2 rfl (by kernel_rfl) (by kernel_rfl) (by kernel_rfl) (by kernel_rfl) HBR ?_
          simp only [Act.put, List.setIfInBounds_toArray, List.set_cons_zero, List.set_cons_succ]
          refine heldSkip (d := some 92) (op := .unOp UnOp.not 4 (Operand.tmp 91)) (g := some (1, true)) 3 rfl (by kernel_rfl) (by kernel_rfl) (by kernel_rfl) (by kernel_rfl) HBR ?_
          simp only [Act.put, List.setIfInBounds_toArray, List.set_cons_zero, List.set_cons_succ]
          refine heldTake (d := some 93) (op := .pick (Operand.tmp 90) (Operand.tmp 92) (Operand.const (Value.bool false))) (g := none) 4 (.bool false) rfl (by kernel_rfl) (by kernel_rfl) (by kernel_rfl) (by kernel_rfl) ?y4d HBR ?_
          case y4d => intro o' ho W hS; exact by simp only [execOp, ho]; go_simp; try rfl
          simp only [Act.put, List.setIfInBounds_toArray, List.set_cons_zero, List.set_cons_succ]
          refine heldTake (d := some 94) (op := .move (Operand.tmp 93)) (g := none) 5 (.bool false) rfl (by kernel_rfl) (by kernel_rfl) (by kernel_rfl) (by kernel_rfl) ?y5d HBR ?_
          case y5d => intro o' ho W hS; exact by simp only [execOp, ho]; go_simp; try rfl
          simp only [Act.put, List.setIfInBounds_toArray, List.set_cons_zero, List.set_cons_succ]
          refine heldTake (d := some 95) (op := .move (Operand.tmp 19)) (g := some (5, false)) 6 (.bool false) rfl (by kernel_rfl) (by kernel_rfl) (by kernel_rfl) (by kernel_rfl) ?y6d HBR ?_
          case y6d => intro o' ho W hS; exact by simp only [execOp, ho]; go_simp; try rfl
          simp only [Act.put, List.setIfInBounds_toArray, List.set_cons_zero, List.set_cons_succ]
          refine heldTake (d := some 96) (op := .move (Operand.tmp 16)) (g := some (5, false)) 7 ?v7d rfl (by kernel_rfl) (by kernel_rfl) (by kernel_rfl) (by kernel_rfl) ?y7d HBR ?_
          case y7d => intro o' ho W hS; simp only [execOp, ho]; go_simp; try rfl
          simp only [Act.put, List.setIfInBounds_toArray, List.set_cons_zero, List.set_cons_succ]
          refine heldTake (d := some 97) (op := .binOp BinOp.gtr 3 (Operand.tmp 96) (Operand.const (Value.int IntKind.i64 0)) 3) (g := some (5, false)) 8 (.bool false) rfl (by kernel_rfl) (by kernel_rfl) (by kernel_rfl) (by kernel_rfl) ?y8d HBR ?_
          case y8d => intro o' ho W hS; exact by simp only [execOp, ho]; go_simp; try rfl
          simp only [Act.put, List.setIfInBounds_toArray, List.set_cons_zero, List.set_cons_succ]
          refine heldTake (d := some 98) (op := .binOp BinOp.neq 4 (Operand.tmp 95) (Operand.tmp 97) 4) (g := some (5, false)) 9 (.bool false) rfl (by kernel_rfl) (by kernel_rfl) (by kernel_rfl) (by kernel_rfl) ?y9d HBR ?_
          case y9d => intro o' ho W hS; exact by simp only [execOp, ho]; go_simp; try rfl
          simp only [Act.put, List.setIfInBounds_toArray, List.set_cons_zero, List.set_cons_succ]
          refine heldTake (d := some 99) (op := .pick (Operand.tmp 94) (Operand.const (Value.bool true)) (Operand.tmp 98)) (g := none) 10 (.bool false) rfl (by kernel_rfl) (by kernel_rfl) (by kernel_rfl) (by kernel_rfl) ?y10d HBR ?_
          case y10d => intro o' ho W hS; exact by simp only [execOp, ho]; go_simp; try rfl
          simp only [Act.put, List.setIfInBounds_toArray, List.set_cons_zero, List.set_cons_succ]
          refine heldTake (d := some 100) (op := .move (Operand.tmp 99)) (g := none) 11 (.bool false) rfl (by kernel_rfl) (by kernel_rfl) (by kernel_rfl) (by kernel_rfl) ?y11d HBR ?_
          case y11d => intro o' ho W hS; exact by simp only [execOp, ho]; go_simp; try rfl
          simp only [Act.put, List.setIfInBounds_toArray, List.set_cons_zero, List.set_cons_succ]
          refine heldTake (d := some 101) (op := .move (Operand.tmp 19)) (g := some (11, false)) 12 (.bool false) rfl (by kernel_rfl) (by kernel_rfl) (by kernel_rfl) (by kernel_rfl) ?y12d HBR ?_
          case y12d => intro o' ho W hS; exact by simp only [execOp, ho]; go_simp; try rfl
          simp only [Act.put, List.setIfInBounds_toArray, List.set_cons_zero, List.set_cons_succ]
          refine heldTake (d := some 102) (op := .move (Operand.tmp 101)) (g := some (11, false)) 13 (.bool false) rfl (by kernel_rfl) (by kernel_rfl) (by kernel_rfl) (by kernel_rfl) ?y13d HBR ?_
          case y13d => intro o' ho W hS; exact by simp only [execOp, ho]; go_simp; try rfl
          simp only [Act.put, List.setIfInBounds_toArray, List.set_cons_zero, List.set_cons_succ]
          refine heldSkip (d := some 103) (op := .move (Operand.tmp 11)) (g := some (13, true)) 14 rfl (by kernel_rfl) (by kernel_rfl) (by kernel_rfl) (by kernel_rfl) HBR ?_
          simp only [Act.put, List.setIfInBounds_toArray, List.set_cons_zero, List.set_cons_succ]
          refine heldSkip (d := some 104) (op := .call { callee := Callee.value (Operand.func 17), args := #[Operand.tmp 103], argTypes := #[23] }) (g := some (13, true)) 15 rfl (by kernel_rfl) (by kernel_rfl) (by kernel_rfl) (by kernel_rfl) HBR ?_
          simp only [Act.put, List.setIfInBounds_toArray, List.set_cons_zero, List.set_cons_succ]
          refine heldSkip (d := some 105) (op := .move (Operand.tmp 16)) (g := some (13, true)) 16 rfl (by kernel_rfl) (by kernel_rfl) (by kernel_rfl) (by kernel_rfl) HBR ?_
          simp only [Act.put, List.setIfInBounds_toArray, List.set_cons_zero, List.set_cons_succ]
          refine heldSkip (d := some 106) (op := .binOp BinOp.sub 3 (Operand.tmp 105) (Operand.const (Value.int IntKind.i64 1)) 3) (g := some (13, true)) 17 rfl (by kernel_rfl) (by kernel_rfl) (by kernel_rfl) (by kernel_rfl) HBR ?_
          simp only [Act.put, List.setIfInBounds_toArray, List.set_cons_zero, List.set_cons_succ]
          refine heldSkip (d := some 107) (op := .binOp BinOp.neq 3 (Operand.tmp 104) (Operand.tmp 106) 3) (g := some (13, true)) 18 rfl (by kernel_rfl) (by kernel_rfl) (by kernel_rfl) (by kernel_rfl) HBR ?_
          simp only [Act.put, List.setIfInBounds_toArray, List.set_cons_zero, List.set_cons_succ]
          refine heldSkip (d := some 108) (op := .move (Operand.tmp 107)) (g := some (13, true)) 19 rfl (by kernel_rfl) (by kernel_rfl) (by kernel_rfl) (by kernel_rfl) HBR ?_
          simp only [Act.put, List.setIfInBounds_toArray, List.set_cons_zero, List.set_cons_succ]
          refine heldSkip (d := some 109) (op := .move (Operand.tmp 11)) (g := some (19, false)) 20 rfl (by kernel_rfl) (by kernel_rfl) (by kernel_rfl) (by kernel_rfl) HBR ?_
          simp only [Act.put, List.setIfInBounds_toArray, List.set_cons_zero, List.set_cons_succ]
          refine heldSkip (d := some 110) (op := .call { callee := Callee.value (Operand.func 18), args := #[Operand.tmp 109], argTypes := #[23] }) (g := some (19, false)) 21 rfl (by kernel_rfl) (by kernel_rfl) (by kernel_rfl) (by kernel_rfl) HBR ?_
          simp only [Act.put, List.setIfInBounds_toArray, List.set_cons_zero, List.set_cons_succ]
          refine heldSkip (d := some 111) (op := .move (Operand.tmp 17)) (g := some (19, false)) 22 rfl (by kernel_rfl) (by kernel_rfl) (by kernel_rfl) (by kernel_rfl) HBR ?_
          simp only [Act.put, List.setIfInBounds_toArray, List.set_cons_zero, List.set_cons_succ]
          refine heldSkip (d := some 112) (op := .fieldAddr 32 (Operand.tmp 18) 2) (g := some (19, false)) 23 rfl (by kernel_rfl) (by kernel_rfl) (by kernel_rfl) (by kernel_rfl) HBR ?_
          simp only [Act.put, List.setIfInBounds_toArray, List.set_cons_zero, List.set_cons_succ]
          refine heldSkip (d := some 113) (op := .load 9 (Operand.tmp 112)) (g := some (19, false)) 24 rfl (by kernel_rfl) (by kernel_rfl) (by kernel_rfl) (by kernel_rfl) HBR ?_
          simp only [Act.put, List.setIfInBounds_toArray, List.set_cons_zero, List.set_cons_succ]
          refine heldSkip (d := some 114) (op := .call { callee := Callee.builtin Builtin.len, args := #[Operand.tmp 113], argTypes := #[9] }) (g := some (19, false)) 25 rfl (by kernel_rfl) (by kernel_rfl) (by kernel_rfl) (by kernel_rfl) HBR ?_
          simp only [Act.put, List.setIfInBounds_toArray, List.set_cons_zero, List.set_cons_succ]
          refine heldSkip (d := some 115) (op := .binOp BinOp.sub 3 (Operand.tmp 111) (Operand.tmp 114) 3) (g := some (19, false)) 26 rfl (by kernel_rfl) (by kernel_rfl) (by kernel_rfl) (by kernel_rfl) HBR ?_
          simp only [Act.put, List.setIfInBounds_toArray, List.set_cons_zero, List.set_cons_succ]
          refine heldSkip (d := some 116) (op := .binOp BinOp.neq 3 (Operand.tmp 110) (Operand.tmp 115) 3) (g := some (19, false)) 27 rfl (by kernel_rfl) (by kernel_rfl) (by kernel_rfl) (by kernel_rfl) HBR ?_
          simp only [Act.put, List.setIfInBounds_toArray, List.set_cons_zero, List.set_cons_succ]
          refine heldSkip (d := some 117) (op := .pick (Operand.tmp 108) (Operand.const (Value.bool true)) (Operand.tmp 116)) (g := some (13, true)) 28 rfl (by kernel_rfl) (by kernel_rfl) (by kernel_rfl) (by kernel_rfl) HBR ?_
          simp only [Act.put, List.setIfInBounds_toArray, List.set_cons_zero, List.set_cons_succ]
          refine heldSkip (d := some 118) (op := .move (Operand.tmp 117)) (g := some (13, true)) 29 rfl (by kernel_rfl) (by kernel_rfl) (by kernel_rfl) (by kernel_rfl) HBR ?_
          simp only [Act.put, List.setIfInBounds_toArray, List.set_cons_zero, List.set_cons_succ]
          refine heldSkip (d := some 119) (op := .move (Operand.tmp 11)) (g := some (29, false)) 30 rfl (by kernel_rfl) (by kernel_rfl) (by kernel_rfl) (by kernel_rfl) HBR ?_
          simp only [Act.put, List.setIfInBounds_toArray, List.set_cons_zero, List.set_cons_succ]
          refine heldSkip (d := some 120) (op := .fieldAddr 32 (Operand.tmp 18) 2) (g := some (29, false)) 31 rfl (by kernel_rfl) (by kernel_rfl) (by kernel_rfl) (by kernel_rfl) HBR ?_
          simp only [Act.put, List.setIfInBounds_toArray, List.set_cons_zero, List.set_cons_succ]
          refine heldSkip (d := some 121) (op := .load 9 (Operand.tmp 120)) (g := some (29, false)) 32 rfl (by kernel_rfl) (by kernel_rfl) (by kernel_rfl) (by kernel_rfl) HBR ?_
          simp only [Act.put, List.setIfInBounds_toArray, List.set_cons_zero, List.set_cons_succ]
          refine heldSkip (d := some 122) (op := .call { callee := Callee.builtin Builtin.len, args := #[Operand.tmp 121], argTypes := #[9] }) (g := some (29, false)) 33 rfl (by kernel_rfl) (by kernel_rfl) (by kernel_rfl) (by kernel_rfl) HBR ?_
          simp only [Act.put, List.setIfInBounds_toArray, List.set_cons_zero, List.set_cons_succ]
          refine heldSkip (d := some 123) (op := .call { callee := Callee.value (Operand.func 15), args := #[Operand.tmp 119, Operand.tmp 122], argTypes := #[23, 3] }) (g := some (29, false)) 34 rfl (by kernel_rfl) (by kernel_rfl) (by kernel_rfl) (by kernel_rfl) HBR ?_
          simp only [Act.put, List.setIfInBounds_toArray, List.set_cons_zero, List.set_cons_succ]
          refine heldSkip (d := some 124) (op := .unOp UnOp.not 4 (Operand.tmp 123)) (g := some (29, false)) 35 rfl (by kernel_rfl) (by kernel_rfl) (by kernel_rfl) (by kernel_rfl) HBR ?_
          simp only [Act.put, List.setIfInBounds_toArray, List.set_cons_zero, List.set_cons_succ]
          refine heldSkip (d := some 125) (op := .pick (Operand.tmp 118) (Operand.const (Value.bool true)) (Operand.tmp 124)) (g := some (13, true)) 36 rfl (by kernel_rfl) (by kernel_rfl) (by kernel_rfl) (by kernel_rfl) HBR ?_
          simp only [Act.put, List.setIfInBounds_toArray, List.set_cons_zero, List.set_cons_succ]
          refine heldTake (d := some 126) (op := .pick (Operand.tmp 102) (Operand.tmp 125) (Operand.const (Value.bool false))) (g := some (11, false)) 37 (.bool false) rfl (by kernel_rfl) (by kernel_rfl) (by kernel_rfl) (by kernel_rfl) ?y37d HBR ?_
          case y37d => intro o' ho W hS; exact by simp only [execOp, ho]; go_simp; try rfl
          simp only [Act.put, List.setIfInBounds_toArray, List.set_cons_zero, List.set_cons_succ]
          refine heldTake (d := some 127) (op := .pick (Operand.tmp 100) (Operand.const (Value.bool true)) (Operand.tmp 126)) (g := none) 38 (.bool false) rfl (by kernel_rfl) (by kernel_rfl) (by kernel_rfl) (by kernel_rfl) ?y38d HBR ?_
          case y38d => intro o' ho W hS; exact by simp only [execOp, ho]; go_simp; try rfl
          simp only [Act.put, List.setIfInBounds_toArray, List.set_cons_zero, List.set_cons_succ]
          refine wpAnyH_done (by kernel_rfl) ?_ _
          refine NoPanic.normal ?_
          have HL9 := Sl.mk (HQ6.out.below HBR).N.L
          clear HBR
          by_cases hA : a ≤ (1 + (n1 : Int)) - (z : Int)
          · have hqA : (a ≤ (1 + (n1 : Int)) - (z : Int)) = True := eq_true hA
            by_cases hB : (m : Int) < 1 + (n0 : Int)
            · have hqB : ((m : Int) < 1 + (n0 : Int)) = True := eq_true hB
              obtain rfl : x = true := by rw [HXX.out, decide_eq_true hA, decide_eq_true hB]; rfl
              go_wp2
              go_ret
              exact ⟨rfl, HL9.out⟩
            · have hqB : ((m : Int) < 1 + (n0 : Int)) = False := eq_false hB
              obtain rfl : x = false := by rw [HXX.out, decide_eq_false hB, Bool.and_false]
              go_wp2
              go_ret
              exact ⟨rfl, HL9.out⟩
          · have hqA : (a ≤ (1 + (n1 : Int)) - (z : Int)) = False := eq_false hA
            obtain rfl : x = false := by rw [HXX.out, decide_eq_false hA, Bool.false_and]
            go_wp2
            go_ret
            exact ⟨rfl, HL9.out⟩
end Go.Proofs.Ytflnmjiopeoodaa.Que
