/- QueueOrder's walk. -/
import Derived.Test.YtflnmjiopeoodaaQI
set_option maxRecDepth 100000
namespace Go.Proofs.Ytflnmjiopeoodaa.Que
open Go.RowKit Evt QueuePlain
open MsgPlain (Ev)

set_option maxHeartbeats 16000000 in
theorem order_walk (v : Value) (l : List Ev) (w : World) (hv : EvsAt w v l) (ok : ∀ e ∈ l, EvOk e) (ml : l.length ≤ maxLen) : Calls Try.prog 7 #[v] w fun e w' => e = .returned (.bool true) ∧ Below w.heap.size w w' := by
  have N1 := new_yes w w 1024 4194304 (by omega) (Below.refl _ _)
  obtain ⟨q, hq⟩ : ∃ q, w.heap.size = q := ⟨_, rfl⟩
  have HQQ := Sl.mk hq
  obtain ⟨a, cap, rfl⟩ := hv.slice
  have HV := Sl.mk hv
  have HOK := Sl.mk ok
  obtain ⟨n, hn⟩ : ∃ n, l.length = n := ⟨_, rfl⟩
  have HN := Sl.mk hn
  rw [hn] at HV ml ⊢
  have hn9 : n ≤ 9223372036854775807 := by unfold maxLen at ml; omega
  clear hv ok hn ml
  by_cases hgt : n > 30
  · have hq30 : ((n : Int) > 30) = True := eq_true (by omega)
    go_enter Try.func7, Try.ntmps7
    go_wp2_with fail
    refine N1.mono ?_
    rintro e w1 ⟨rfl, HQ1, HB1⟩
    clear N1
    rw [hq] at HQ1 ⊢
    have A1 := awake_below w w1 HQ1.out.N.L
    go_wp2_with fail
    refine A1.mono ?_
    rintro e w2 ⟨rfl, HB2⟩
    clear A1
    have A2 := awake_below w w2 HB2.out
    go_wp2_with fail
    refine A2.mono ?_
    rintro e w3 ⟨rfl, HB3⟩
    clear A2
    go_wp2
    go_ret
    exact ⟨rfl, HB3.out⟩
  have hq30 : ((n : Int) > 30) = False := eq_false (by omega)
  go_enter Try.func7, Try.ntmps7
  go_wp2_with fail
  refine N1.mono ?_
  rintro e w1 ⟨rfl, HQ1, HB1⟩
  clear N1
  rw [hq] at HQ1 ⊢
  have A1 := awake_any w1
  go_wp2_with fail
  refine A1.mono ?_
  rintro e w2 ⟨rfl, HB2⟩
  clear A1
  have HQ2 := Sl.mk (HQ1.out.below HB2.out)
  clear HQ1 HB1 HB2 hq
  go_wp2
  go_loopw [5, 6] (fun y i wr => ∃ (k r : Nat) (u : Value), y = .int .i64 (r : Int) ∧ i = .int .i64 (k : Int) ∧ k ≤ n ∧ r ≤ 300 * k ∧ Sl (size (l.take k) = r) ∧ Sl (Qu w wr q u 1024 4194304 (l.take k))) (fun _ i _ => n - (intOf i).toNat)
  case atStart => exact ⟨0, 0, _, rfl, rfl, Nat.zero_le _, Nat.zero_le _, ⟨rfl⟩, HQ2⟩
  case round =>
    obtain ⟨k, r, u, rfl, rfl, hk, hrk, HR, HQ⟩ := hrel
    by_cases hkn : k < n
    · have hlt : ((k : Int) < (n : Int)) = True := eq_true (by omega)
      have hkl : k < l.length := by rw [HN.out]; exact hkn
      obtain ⟨sb, so, rfl⟩ := HV.out.cap.2.2 (by omega)
      obtain ⟨o, c, s, he⟩ := ev_parts HOK.out k hkl
      obtain ⟨c0, c1, c2⟩ := ev_cells_at (HV.out.below HQ.out.N.L) k hkl he
      by_cases h3 : s.size > 300
      · have hq3 : ((s.size : Int) > 300) = True := eq_true (by omega)
        clear he
        go_wp2
        go_ret
        exact ⟨rfl, HQ.out.N.L⟩
      · have hq3 : ((s.size : Int) > 300) = False := eq_false (by omega)
        have hs300 : s.size ≤ 300 := by omega
        have hp : put 1024 4194304 (l.take k) ⟨o, c, bytes s⟩ = (l.take (k + 1), true) := by
          rw [ev_take l k hkl, he]
          refine put_yes (room_iff.2 ?_)
          show ((l.take k).length : Int) < 1024 ∧ (0 : Int) ≤ ((bytes s).length : Int) ∧ ((bytes s).length : Int) ≤ 4194304 ∧ (size (l.take k) : Int) + ((bytes s).length : Int) ≤ 4194304
          rw [List.length_take, bytes_length, HR.out]
          omega
        have hs1 : size (l.take (k + 1)) = r + s.size := by rw [ev_take l k hkl, he, size_append, HR.out, size_of]
        have HS1 := Sl.mk hs1
        have P := put_any o c s true HQ.out (by omega) hp
        clear he hp hs1 h3
        go_wp2_with fail
        refine P.mono ?_
        rintro e w5 ⟨u5, rfl, HQ5, HG5⟩
        clear P
        clear HG5
        have HN5 := HQ5.out.N
        rw [HS1.out] at HN5
        have LL := len_any (n := k + 1) (by rw [List.length_take, HN.out]; omega) HN5
        have SS := size_any HN5
        clear HN5 c0 c1 c2
        go_wp2_with fail
        refine LL.mono ?_
        rintro e w6 ⟨rfl, rfl⟩
        clear LL
        go_wp2_with fail
        refine SS.mono ?_
        rintro e w7 ⟨rfl, rfl⟩
        clear SS
        go_wp2
        exact ⟨⟨k + 1, r + s.size, _, by go_num, by go_num, by omega, by omega, HS1, HQ5⟩, by simp [intOf]; omega⟩
    · obtain rfl : k = n := by omega
      have hlt : ((k : Int) < (k : Int)) = False := eq_false (by omega)
      have hall : l.take k = l := List.take_of_length_le (by rw [HN.out]; exact Nat.le_refl _)
      have hR := HR.out
      have hQ := HQ.out
      rw [hall] at hR hQ
      have HR0 : Sl (size (l.drop 0) = r) := ⟨hR⟩
      have HQ0 : Sl (Qu w wr q u 1024 4194304 (l.drop 0)) := ⟨hQ⟩
      clear HR HQ hR hQ hall
      go_wp2
      go_loopw [5, 7] (fun y i wr => ∃ (j r : Nat) (u : Value), y = .int .i64 (r : Int) ∧ i = .int .i64 (j : Int) ∧ j ≤ k ∧ r ≤ 9000 ∧ Sl (size (l.drop j) = r) ∧ Sl (Qu w wr q u 1024 4194304 (l.drop j))) (fun _ i _ => k - (intOf i).toNat)
      case atStart => exact ⟨0, r, _, rfl, rfl, Nat.zero_le _, by omega, HR0, HQ0⟩
      case round =>
        clear HR0 HQ0 hrk
        obtain ⟨j, r, u, rfl, rfl, hj, hrj, HR, HQ⟩ := hrel
        by_cases hjk : j < k
        · have hlt2 : ((j : Int) < (k : Int)) = True := eq_true (by omega)
          have hjl : j < l.length := by rw [HN.out]; exact hjk
          obtain ⟨sb, so, rfl⟩ := HV.out.cap.2.2 (by omega)
          obtain ⟨o, c, s, he⟩ := ev_parts HOK.out j hjl
          have hdr := ev_drop l j hjl
          rw [he] at hdr
          have hsz : s.size + size (l.drop (j + 1)) = r := by rw [← HR.out, hdr, size_cons]; show s.size + _ = (bytes s).length + _; rw [bytes_length]
          obtain ⟨r2, hr2⟩ : ∃ r2, size (l.drop (j + 1)) = r2 := ⟨_, rfl⟩
          rw [hr2] at hsz
          have HS2 := Sl.mk hr2
          have T := take_any o c s true HQ.out (by rw [hdr, hd_cons]; exact evV_of o c s) (by rw [hdr]; rfl)
          rw [show (l.drop j).tail = l.drop (j + 1) from by rw [hdr]; rfl] at T
          have HE := Sl.mk he
          have hrs : r - s.size = r2 := by omega
          have hrs2 : IntKind.i64.wrap ((r : Int) - (s.size : Int)) = (r2 : Int) := by rw [IntKind.wrap_i64]; omega
          have hrs3 : wrap64 ((r : Int) - (s.size : Int)) = (r2 : Int) := by unfold wrap64; omega
          have hrs4 : (r : Int) - (s.size : Int) = (r2 : Int) := by omega
          have hsr : s.size ≤ r := by omega
          clear he hdr hr2
          go_wp2_with fail
          refine T.mono ?_
          rintro e w5 ⟨u5, rfl, HQ5, HG5⟩
          clear T
          clear HG5
          obtain ⟨w60, hww60, HBw60, hbw60⟩ := box_ev w5
          obtain ⟨w6, hww6, HBw6, HCw6⟩ := set_ev hbw60 HBw60.out (Nat.le_refl _) #[.int .i64 o, .int .i64 c, .string s]
          have HIw6 : (Try.prog.info? 32).map (·.size) = some (#[Value.int .i64 o, .int .i64 c, .string s]).size := ev_info rfl
          go_upto_region 17 with (refine wpList_store_row rfl 32 (.tmp 8) (.tmp 82) rfl w5.heap.size #[.int .i64 o, .int .i64 c, .string s] rfl rfl 32 #[.int .i64 0, .int .i64 0, .string { data := #[] }] hbw60 HIw6 rfl (ev_all _ _ _) ?_)
          (try rw [hww6])
          clear hww60 hww6 hbw60 HBw60 HIw6
          have HX6 := Sl.mk (HQ5.out.beside HCw6.out)
          have HQ6 := Sl.mk (HQ5.out.below HBw6.out)
          obtain ⟨x, hx⟩ : ∃ x, w5.heap.size = x := ⟨_, rfl⟩
          rw [hx] at HX6 HCw6 ⊢
          clear hx HBw6 HQ5
          have hv6 := HV.out.below HQ6.out.N.L
          obtain ⟨c0, c1, c2⟩ := ev_cells_at hv6 j hjl HE.out
          have HV6 := Sl.mk hv6
          clear hv6
          go_upto_region 18 with fail
          clear c0 c1 c2
          have hxl : x < w6.heap.size := (Array.getElem?_eq_some_iff.1 HCw6.out).1
          obtain ⟨Rw, hRw⟩ : ∃ R, w6.drew = R := ⟨_, rfl⟩
          have HBR : Below w6.heap.size w6 Rw := by rw [← hRw]; exact (Below.refl _ _).drew
          refine wp_region_noPanic ?_
          refine wp_region_held (S := fun V => Below w6.heap.size w6 V) (by kernel_rfl) ?_
          change wpAnyH _ _ _ _ _ _ _ _ w6.drew
          rw [hRw]
          clear hRw
          refine heldTake (d := some 92) (op := .load 32 (Operand.tmp 8)) (g := none) 0 ?v0 rfl (by kernel_rfl) (by kernel_rfl) (by kernel_rfl) (by kernel_rfl) ?y0 HBR ?_
          case y0 => intro o' ho W hS; obtain ⟨f0, f1, f2⟩ := ev_cells ((hS.block _ hxl).trans HCw6.out); simp only [execOp, ho]; go_simp; try rfl
          simp only [Act.put, List.setIfInBounds_toArray, List.set_cons_zero, List.set_cons_succ]
          refine heldTake (d := some 93) (op := .move (Operand.tmp 0)) (g := none) 1 ?v1 rfl (by kernel_rfl) (by kernel_rfl) (by kernel_rfl) (by kernel_rfl) ?y1 HBR ?_
          case y1 => intro o' ho W hS; simp only [execOp, ho]; go_simp; try rfl
          simp only [Act.put, List.setIfInBounds_toArray, List.set_cons_zero, List.set_cons_succ]
          refine heldTake (d := some 94) (op := .move (Operand.tmp 7)) (g := none) 2 ?v2 rfl (by kernel_rfl) (by kernel_rfl) (by kernel_rfl) (by kernel_rfl) ?y2 HBR ?_
          case y2 => intro o' ho W hS; simp only [execOp, ho]; go_simp; try rfl
          simp only [Act.put, List.setIfInBounds_toArray, List.set_cons_zero, List.set_cons_succ]
          refine heldTake (d := some 95) (op := .indexAddr 28 (Operand.tmp 93) (Operand.tmp 94)) (g := none) 3 ?v3 rfl (by kernel_rfl) (by kernel_rfl) (by kernel_rfl) (by kernel_rfl) ?y3 HBR ?_
          case y3 => intro o' ho W hS; simp only [execOp, ho]; go_simp; try rfl
          simp only [Act.put, List.setIfInBounds_toArray, List.set_cons_zero, List.set_cons_succ]
          refine heldTake (d := some 96) (op := .load 32 (Operand.tmp 95)) (g := none) 4 ?v4 rfl (by kernel_rfl) (by kernel_rfl) (by kernel_rfl) (by kernel_rfl) ?y4 HBR ?_
          case y4 => intro o' ho W hS; obtain ⟨f0, f1, f2⟩ := ev_cells_at (HV6.out.below hS) j hjl HE.out; simp only [execOp, ho]; go_simp; try rfl
          simp only [Act.put, List.setIfInBounds_toArray, List.set_cons_zero, List.set_cons_succ]
          refine heldTake (d := some 97) (op := .binOp BinOp.neq 32 (Operand.tmp 92) (Operand.tmp 96) 32) (g := none) 5 (.bool false) rfl (by kernel_rfl) (by kernel_rfl) (by kernel_rfl) (by kernel_rfl) ?y5 HBR ?_
          case y5 => intro o' ho W hS; exact by simp only [execOp, ho]; go_simp; first | done | simp [binOp, Op.equal, Op.maxDepth, ev_same o c s W]
          simp only [Act.put, List.setIfInBounds_toArray, List.set_cons_zero, List.set_cons_succ]
          refine heldTake (d := some 98) (op := .move (Operand.tmp 97)) (g := none) 6 (.bool false) rfl (by kernel_rfl) (by kernel_rfl) (by kernel_rfl) (by kernel_rfl) ?y6 HBR ?_
          case y6 => intro o' ho W hS; exact by simp only [execOp, ho]; go_simp
          simp only [Act.put, List.setIfInBounds_toArray, List.set_cons_zero, List.set_cons_succ]
          refine heldTake (d := some 99) (op := .move (Operand.tmp 9)) (g := some (6, false)) 7 (.bool true) rfl (by kernel_rfl) (by kernel_rfl) (by kernel_rfl) (by kernel_rfl) ?y7 HBR ?_
          case y7 => intro o' ho W hS; exact by simp only [execOp, ho]; go_simp; try rfl
          simp only [Act.put, List.setIfInBounds_toArray, List.set_cons_zero, List.set_cons_succ]
          refine heldTake (d := some 100) (op := .unOp UnOp.not 4 (Operand.tmp 99)) (g := some (6, false)) 8 (.bool false) rfl (by kernel_rfl) (by kernel_rfl) (by kernel_rfl) (by kernel_rfl) ?y8 HBR ?_
          case y8 => intro o' ho W hS; exact by simp only [execOp, ho]; go_simp; try rfl
          simp only [Act.put, List.setIfInBounds_toArray, List.set_cons_zero, List.set_cons_succ]
          refine heldTake (d := some 101) (op := .pick (Operand.tmp 98) (Operand.const (Value.bool true)) (Operand.tmp 100)) (g := none) 9 (.bool false) rfl (by kernel_rfl) (by kernel_rfl) (by kernel_rfl) (by kernel_rfl) ?y9 HBR ?_
          case y9 => intro o' ho W hS; exact by simp only [execOp, ho]; go_simp; try rfl
          simp only [Act.put, List.setIfInBounds_toArray, List.set_cons_zero, List.set_cons_succ]
          refine heldTake (d := some 102) (op := .move (Operand.tmp 101)) (g := none) 10 (.bool false) rfl (by kernel_rfl) (by kernel_rfl) (by kernel_rfl) (by kernel_rfl) ?y10 HBR ?_
          case y10 => intro o' ho W hS; exact by simp only [execOp, ho]; go_simp; try rfl
          simp only [Act.put, List.setIfInBounds_toArray, List.set_cons_zero, List.set_cons_succ]
          refine heldTake (d := some 103) (op := .move (Operand.tmp 3)) (g := some (10, false)) 11 ?v11 rfl (by kernel_rfl) (by kernel_rfl) (by kernel_rfl) (by kernel_rfl) ?y11 HBR ?_
          case y11 => intro o' ho W hS; simp only [execOp, ho]; go_simp; try rfl
          simp only [Act.put, List.setIfInBounds_toArray, List.set_cons_zero, List.set_cons_succ]
          refine heldTake (d := some 105) (op := .move (Operand.tmp 0)) (g := some (10, false)) 13 ?v13 rfl (by kernel_rfl) (by kernel_rfl) (by kernel_rfl) (by kernel_rfl) ?y13 HBR ?_
          case y13 => intro o' ho W hS; simp only [execOp, ho]; go_simp; try rfl
          simp only [Act.put, List.setIfInBounds_toArray, List.set_cons_zero, List.set_cons_succ]
          refine heldTake (d := some 106) (op := .call { callee := Callee.builtin Builtin.len, args := #[Operand.tmp 105], argTypes := #[28] }) (g := some (10, false)) 14 ?v14 rfl (by kernel_rfl) (by kernel_rfl) (by kernel_rfl) (by kernel_rfl) ?y14 HBR ?_
          case y14 => intro o' ho W hS; simp only [execOp, ho]; go_simp; try rfl
          simp only [Act.put, List.setIfInBounds_toArray, List.set_cons_zero, List.set_cons_succ]
          refine heldTake (d := some 107) (op := .move (Operand.tmp 7)) (g := some (10, false)) 15 ?v15 rfl (by kernel_rfl) (by kernel_rfl) (by kernel_rfl) (by kernel_rfl) ?y15 HBR ?_
          case y15 => intro o' ho W hS; simp only [execOp, ho]; go_simp; try rfl
          simp only [Act.put, List.setIfInBounds_toArray, List.set_cons_zero, List.set_cons_succ]
          refine heldTake (d := some 108) (op := .binOp BinOp.sub 3 (Operand.tmp 106) (Operand.tmp 107) 3) (g := some (10, false)) 16 (.int .i64 ((k : Int) - (j : Int))) rfl (by kernel_rfl) (by kernel_rfl) (by kernel_rfl) (by kernel_rfl) ?y16 HBR ?_
          case y16 => intro o' ho W hS; exact by simp only [execOp, ho]; go_simp; first | done | (rw [IntKind.wrap_i64]; omega)
          simp only [Act.put, List.setIfInBounds_toArray, List.set_cons_zero, List.set_cons_succ]
          refine heldTake (d := some 109) (op := .binOp BinOp.sub 3 (Operand.tmp 108) (Operand.const (Value.int IntKind.i64 1)) 3) (g := some (10, false)) 17 (.int .i64 ((k : Int) - (j : Int) - 1)) rfl (by kernel_rfl) (by kernel_rfl) (by kernel_rfl) (by kernel_rfl) ?y17 HBR ?_
          case y17 => intro o' ho W hS; exact by simp only [execOp, ho]; go_simp; first | done | (rw [IntKind.wrap_i64]; omega)
          simp only [Act.put, List.setIfInBounds_toArray, List.set_cons_zero, List.set_cons_succ]
          have HQR := Sl.mk (HQ6.out.below HBR)
          have hNR := HQR.out.N
          rw [HS2.out] at hNR
          have HNR := Sl.mk hNR
          clear hNR
          have hne : (((k - (j + 1) : Nat) : Int) != (k : Int) - (j : Int) - 1) = false := by rw [bne_eq_false_iff_eq]; omega
          refine heldCall (d := some 104) (op := .call { callee := Callee.value (Operand.func 17), args := #[Operand.tmp 103], argTypes := #[23] }) (g := some (10, false)) 12 17 #[.pointer (some ⟨q, 0, none⟩)] rfl (by kernel_rfl) (by kernel_rfl) ?y12 ?_
          case y12 => intro o' ho; simp only [execOp, ho]; go_simp; try rfl
          refine (len_any (n := k - (j + 1)) (by rw [List.length_drop, HN.out]) HNR.out).mono ?_
          rintro e w7 ⟨rfl, rfl⟩
          refine ⟨_, rfl, HBR, ?_⟩
          simp only [Act.put, List.setIfInBounds_toArray, List.set_cons_zero, List.set_cons_succ]
          refine heldTake (d := some 110) (op := .binOp BinOp.neq 3 (Operand.tmp 104) (Operand.tmp 109) 3) (g := some (10, false)) 18 (.bool false) rfl (by kernel_rfl) (by kernel_rfl) (by kernel_rfl) (by kernel_rfl) ?y18 HBR ?_
          case y18 => intro o' ho W hS; exact by simp only [execOp, ho]; go_simp; first | done | omega | (rw [hne]; done) | (simp [hne]; done) | skip
          simp only [Act.put, List.setIfInBounds_toArray, List.set_cons_zero, List.set_cons_succ]
          refine heldTake (d := some 111) (op := .pick (Operand.tmp 102) (Operand.const (Value.bool true)) (Operand.tmp 110)) (g := none) 19 (.bool false) rfl (by kernel_rfl) (by kernel_rfl) (by kernel_rfl) (by kernel_rfl) ?y19 HBR ?_
          case y19 => intro o' ho W hS; exact by simp only [execOp, ho]; go_simp; try rfl
          simp only [Act.put, List.setIfInBounds_toArray, List.set_cons_zero, List.set_cons_succ]
          refine heldTake (d := some 112) (op := .move (Operand.tmp 111)) (g := none) 20 (.bool false) rfl (by kernel_rfl) (by kernel_rfl) (by kernel_rfl) (by kernel_rfl) ?y20 HBR ?_
          case y20 => intro o' ho W hS; exact by simp only [execOp, ho]; go_simp; try rfl
          simp only [Act.put, List.setIfInBounds_toArray, List.set_cons_zero, List.set_cons_succ]
          refine heldTake (d := some 113) (op := .move (Operand.tmp 3)) (g := some (20, false)) 21 ?v21 rfl (by kernel_rfl) (by kernel_rfl) (by kernel_rfl) (by kernel_rfl) ?y21 HBR ?_
          case y21 => intro o' ho W hS; simp only [execOp, ho]; go_simp; try rfl
          simp only [Act.put, List.setIfInBounds_toArray, List.set_cons_zero, List.set_cons_succ]
          refine heldTake (d := some 115) (op := .move (Operand.tmp 5)) (g := some (20, false)) 23 ?v23 rfl (by kernel_rfl) (by kernel_rfl) (by kernel_rfl) (by kernel_rfl) ?y23 HBR ?_
          case y23 => intro o' ho W hS; simp only [execOp, ho]; go_simp; try rfl
          simp only [Act.put, List.setIfInBounds_toArray, List.set_cons_zero, List.set_cons_succ]
          refine heldCall (d := some 114) (op := .call { callee := Callee.value (Operand.func 18), args := #[Operand.tmp 113], argTypes := #[23] }) (g := some (20, false)) 22 18 #[.pointer (some ⟨q, 0, none⟩)] rfl (by kernel_rfl) (by kernel_rfl) ?y22 ?_
          case y22 => intro o' ho; simp only [execOp, ho]; go_simp; try rfl
          refine (size_any HNR.out).mono ?_
          rintro e w8 ⟨rfl, rfl⟩
          refine ⟨_, rfl, HBR, ?_⟩
          simp only [Act.put, List.setIfInBounds_toArray, List.set_cons_zero, List.set_cons_succ]
          refine heldTake (d := some 116) (op := .binOp BinOp.neq 3 (Operand.tmp 114) (Operand.tmp 115) 3) (g := some (20, false)) 24 (.bool false) rfl (by kernel_rfl) (by kernel_rfl) (by kernel_rfl) (by kernel_rfl) ?y24 HBR ?_
          case y24 => intro o' ho W hS; exact by simp only [execOp, ho]; go_simp; first | done | simp
          simp only [Act.put, List.setIfInBounds_toArray, List.set_cons_zero, List.set_cons_succ]
          refine heldTake (d := some 117) (op := .pick (Operand.tmp 112) (Operand.const (Value.bool true)) (Operand.tmp 116)) (g := none) 25 (.bool false) rfl (by kernel_rfl) (by kernel_rfl) (by kernel_rfl) (by kernel_rfl) ?y25 HBR ?_
          case y25 => intro o' ho W hS; exact by simp only [execOp, ho]; go_simp; try rfl
          simp only [Act.put, List.setIfInBounds_toArray, List.set_cons_zero, List.set_cons_succ]
          refine wpAnyH_done (by kernel_rfl) ?_ _
          refine NoPanic.normal ?_
          clear HBR HNR
          go_wp2
          exact ⟨⟨j + 1, r2, _, by go_num, by go_num, by omega, by omega, HS2, HQR⟩, by simp [intOf]; omega⟩
        · obtain rfl : j = k := by omega
          have hlt2 : ((j : Int) < (j : Int)) = False := eq_false (by omega)
          have hnil : l.drop j = [] := List.drop_eq_nil_of_le (by rw [HN.out]; exact Nat.le_refl _)
          have hQ := HQ.out
          rw [hnil] at hQ
          have T := take_any 0 0 { data := #[] } false hQ evV_nil rfl
          clear hnil hQ HR HQ
          go_wp2_with fail
          refine T.mono ?_
          rintro e w5 ⟨u5, rfl, HQ5, HG5⟩
          clear T
          clear HG5
          obtain ⟨w60, hww60, HBw60, hbw60⟩ := box_ev w5
          obtain ⟨w6, hww6, HBw6, HCw6⟩ := set_ev hbw60 HBw60.out (Nat.le_refl _) #[.int .i64 0, .int .i64 0, .string { data := #[] }]
          have HIw6 : (Try.prog.info? 32).map (·.size) = some (#[Value.int .i64 0, .int .i64 0, .string { data := #[] }]).size := ev_info rfl
          go_upto_region 21 with (refine wpList_store_row rfl 32 (.tmp 10) (.tmp 121) rfl w5.heap.size #[.int .i64 0, .int .i64 0, .string { data := #[] }] rfl rfl 32 #[.int .i64 0, .int .i64 0, .string { data := #[] }] hbw60 HIw6 rfl (ev_all _ _ _) ?_)
          (try rw [hww6])
          clear hww60 hww6 hbw60 HBw60 HIw6
          have HQ6 := Sl.mk (HQ5.out.below HBw6.out)
          have SS := size_any (n := 0) (l := []) HQ6.out.N
          go_wp2_with fail
          refine SS.mono ?_
          rintro e w7 ⟨rfl, rfl⟩
          clear SS
          go_wp2
          go_ret
          exact ⟨rfl, HQ6.out.N.L⟩
end Go.Proofs.Ytflnmjiopeoodaa.Que
