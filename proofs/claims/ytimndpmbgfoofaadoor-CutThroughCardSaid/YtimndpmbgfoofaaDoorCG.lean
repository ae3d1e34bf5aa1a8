/- cut: Join: the message of frames. -/
import Derived.Test.YtimndpmbgfoofaaDoorCF
set_option maxRecDepth 100000
namespace Go.Proofs.YtimndpmbgfoofaaDoor.Cut
open Go.RowKit MaskPlain Mas Fra Stm CutPlain
open FramePlain (Fr Fr0 form chk ctl zero4)

theorem conv_run {W : World} {ev : Operand → Value} {o : Oper} {x : Operand} {v : Value} {s : ByteArray} (ho : o.op = .convert 36 9 x) (hx : ev x = v) (h : (convert 36 9 v).run Tryd.prog W = .ok (.string s) W) : (execOp ev o).run Tryd.prog W = .ok (.value (.string s)) W := by
  unfold execOp
  simp only [ho, hx, Sem.run_bind, h, Result.andThen_ok, Sem.run_pure]
theorem dataOf_take (fs : List Fr) (k : Nat) (h : k < fs.length) : dataOf (fs.take (k + 1)) = dataOf (fs.take k) ++ (fs.getD k Fr0).data := by
  rw [fr_take fs k h, dataOf_append]; simp [dataOf]
theorem dataOf_take_le (fs : List Fr) (k : Nat) : (dataOf (fs.take k)).length ≤ (dataOf fs).length := by
  have h := congrArg List.length (dataOf_append (fs.take k) (fs.drop k))
  rw [List.take_append_drop, List.length_append] at h
  omega
set_option maxHeartbeats 8000000 in
theorem join_any (fs : List Fr) (v : Value) (w : World) (hv : FrsAt w v fs) (ok : ∀ f ∈ fs, FrOk f) (hm : fs.length ≤ 1000000) (hz : (dataOf fs).length ≤ 1000000) :
    Calls Tryd.prog 17 #[v] w fun e w' => e = .returned (.tuple #[.int .i64 (join fs).1, .string (strOf (join fs).2.1), .bool (join fs).2.2]) ∧ Sl (Below w.heap.size w w') := by
  obtain ⟨r, hr⟩ : ∃ r, okJ true fs = r := ⟨_, rfl⟩
  have hw := fun W hv => whole_any fs v W hv ok hm r hr
  have hv0 := hv
  obtain ⟨a, c, rfl⟩ := hv.slice
  have HV := Sl.mk hv
  have HOK := Sl.mk ok
  have HZ := Sl.mk hz
  have hW1 := hw w hv0
  have HRR := Sl.mk hr
  obtain ⟨n, hn⟩ : ∃ n, fs.length = n := ⟨_, rfl⟩
  have HN := Sl.mk hn
  rw [hn] at HV hW1 hm ⊢
  cases r with
  | false =>
    have HF : Sl (join fs = (0, [], false)) := ⟨by unfold join; rw [if_neg (by rw [hr]; decide)]⟩
    clear hv hv0 ok hz hw hn hr
    go_enter Tryd.func17, Tryd.ntmps17
    go_wp2_with fail
    refine hW1.mono ?_
    rintro e w1 ⟨rfl, HB1⟩
    clear hW1
    go_wp2
    go_ret3
    exact ⟨by rw [HF.out]; rfl, HB1⟩
  | true =>
  have hp : 0 < n := by rw [← hn]; exact List.length_pos_iff.2 (okJ_ne hr)
  have HF : Sl (join fs = ((fs.getD 0 Fr0).op, dataOf fs, true)) := ⟨by unfold join; rw [if_pos hr]⟩
  clear hv hv0 ok hz hw hn hr
  go_enter Tryd.func17, Tryd.ntmps17
  go_wp2_with fail
  refine hW1.mono ?_
  rintro e w1 ⟨rfl, HB1⟩
  clear hW1
  go_wp2
  go_loopw [5, 17] (fun y i wr => ∃ (k : Nat) (r : Nat), y = .int .i64 (r : Int) ∧ i = .int .i64 (k : Int) ∧ k ≤ n ∧ r ≤ 1000000 ∧ Sl (r = (dataOf (fs.take k)).length) ∧ Sl (Below w.heap.size w wr)) (fun _ i _ => n - (intOf i).toNat)
  case atStart => exact ⟨0, 0, rfl, rfl, Nat.zero_le _, Nat.zero_le _, ⟨rfl⟩, HB1⟩
  case round =>
    obtain ⟨k, r, rfl, rfl, hk, hr, HS, HB⟩ := hrel
    by_cases hkn : k < n
    · have hlt : ((k : Int) < (n : Int)) = True := eq_true (by omega)
      have hkf : k < fs.length := by rw [HN.out]; exact hkn
      obtain ⟨sb, so, rfl⟩ := HV.out.cap.2 (by omega)
      obtain ⟨fin, op, m, ka, kb, kc, kd, s, hf, hcv, hsm, hmem⟩ := fr_at HOK.out k hkf
      obtain ⟨c0, c1, c2, c3, c4, c5, c6, c7⟩ := (HV.out.below HB.out).at8 k hkf hcv
      have HI := fr_info (cs := #[.bool fin, .int .i64 op, .bool m, .int .u8 ((ka : Nat) : Int), .int .u8 ((kb : Nat) : Int), .int .u8 ((kc : Nat) : Int), .int .u8 ((kd : Nat) : Int), .string s]) rfl
      have HS2 : Sl (r + s.size = (dataOf (fs.take (k + 1))).length) := ⟨by rw [dataOf_take fs k hkf, List.length_append, hf, ← HS.out]; show r + s.size = r + (bytes s).length; rw [bytes_length]⟩
      have hrz : r + s.size ≤ 1000000 := by have := HS2.out; have h2 := dataOf_take_le fs (k + 1); have := HZ.out; omega
      have z1 : IntKind.i64.wrap ((r : Int) + (s.size : Int)) = ((r + s.size : Nat) : Int) := by rw [IntKind.wrap_i64]; omega
      clear hf hcv hsm hmem hkf
      obtain ⟨X, hX, HBX, HFX⟩ := laid_fv wr #[.bool fin, .int .i64 op, .bool m, .int .u8 ((ka : Nat) : Int), .int .u8 ((kb : Nat) : Int), .int .u8 ((kc : Nat) : Int), .int .u8 ((kd : Nat) : Int), .string s]
      go_upto_region 7 with (refine wpList_store_row rfl 44 (.tmp 7) (.tmp 20) rfl wr.heap.size #[.bool fin, .int .i64 op, .bool m, .int .u8 ((ka : Nat) : Int), .int .u8 ((kb : Nat) : Int), .int .u8 ((kc : Nat) : Int), .int .u8 ((kd : Nat) : Int), .string s] rfl rfl 44 #[.bool false, .int .i64 0, .bool false, .int .u8 0, .int .u8 0, .int .u8 0, .int .u8 0, .string { data := #[] }] (bx_new wr _) HI rfl (fr_all _ _ _ _ _ _ _ _) ?_)
      (try rw [hX])
      clear hX
      have HBX2 : Sl (Below w.heap.size w X) := ⟨HB.out.trans (HBX.out.mono HB.out.size)⟩
      clear c0 c1 c2 c3 c4 c5 c6 c7 HBX
      obtain ⟨a0, a1, a2, a3, a4, a5, a6, a7⟩ := bx8 HFX.out
      go_wp2
      exact ⟨⟨k + 1, r + s.size, rfl, by go_num, by omega, hrz, HS2, HBX2⟩, by simp [intOf]; omega⟩
    · obtain rfl : k = n := by omega
      have hlt : ((k : Int) < (k : Int)) = False := eq_false (by omega)
      have GM := gatherer_any r (by omega) w wr HB.out
      go_wp2_with fail
      refine GM.mono ?_
      rintro e w4 ⟨q, v0, rfl, HG0, _⟩
      clear GM HS HB
      go_wp2
      go_loopw [34] (fun i wr => ∃ (j : Nat) (v1 : Value), i = .int .i64 (j : Int) ∧ j ≤ k ∧ Sl (Gath w wr q v1 (dataOf (fs.take j)))) (fun i _ => k - (intOf i).toNat)
      case atStart => exact ⟨0, v0, rfl, Nat.zero_le _, HG0⟩
      case round =>
        obtain ⟨j, v1, rfl, hj, HGA⟩ := hrel
        obtain ⟨sb, so, rfl⟩ := HV.out.cap.2 hp
        by_cases hjk : j < k
        · have hlt : ((j : Int) < (k : Int)) = True := eq_true (by omega)
          have hkf : j < fs.length := by rw [HN.out]; exact hjk
          obtain ⟨fin, op, m, ka, kb, kc, kd, s, hf, hcv, hsm, hmem⟩ := fr_at HOK.out j hkf
          obtain ⟨c0, c1, c2, c3, c4, c5, c6, c7⟩ := (HV.out.below HGA.out.L).at8 j hkf hcv
          have HI := fr_info (cs := #[.bool fin, .int .i64 op, .bool m, .int .u8 ((ka : Nat) : Int), .int .u8 ((kb : Nat) : Int), .int .u8 ((kc : Nat) : Int), .int .u8 ((kd : Nat) : Int), .string s]) rfl
          have HT : Sl (dataOf (fs.take (j + 1)) = dataOf (fs.take j) ++ bytes s) := ⟨by rw [dataOf_take fs j hkf, hf]⟩
          have HTL : Sl ((dataOf (fs.take j)).length + (bytes s).length ≤ 1000000) := ⟨by
            have h1 := congrArg List.length HT.out
            rw [List.length_append] at h1
            have h2 := dataOf_take_le fs (j + 1)
            have := HZ.out
            omega⟩
          clear hf hcv hsm hmem hkf
          obtain ⟨X, hX, HBX, HFX⟩ := laid_fv wr #[.bool fin, .int .i64 op, .bool m, .int .u8 ((ka : Nat) : Int), .int .u8 ((kb : Nat) : Int), .int .u8 ((kc : Nat) : Int), .int .u8 ((kd : Nat) : Int), .string s]
          go_upto_region 13 with (refine wpList_store_row rfl 44 (.tmp 11) (.tmp 37) rfl wr.heap.size #[.bool fin, .int .i64 op, .bool m, .int .u8 ((ka : Nat) : Int), .int .u8 ((kb : Nat) : Int), .int .u8 ((kc : Nat) : Int), .int .u8 ((kd : Nat) : Int), .string s] rfl rfl 44 #[.bool false, .int .i64 0, .bool false, .int .u8 0, .int .u8 0, .int .u8 0, .int .u8 0, .string { data := #[] }] (bx_new wr _) HI rfl (fr_all _ _ _ _ _ _ _ _) ?_)
          (try rw [hX])
          clear hX
          have HGX := Sl.mk (HGA.out.below HBX.out)
          clear c0 c1 c2 c3 c4 c5 c6 c7 HBX HGA
          obtain ⟨a0, a1, a2, a3, a4, a5, a6, a7⟩ := bx8 HFX.out
          obtain ⟨cc, W2, hcv2, HS2, HX2⟩ := conv_str s X
          have HG2 := Sl.mk (HGX.out.below HX2.out)
          have GA := gather_any HG2.out HS2.out HTL.out
          clear HX2 HGX HFX
          go_wp2_with fail
          refine GA.mono ?_
          rintro e w3 ⟨v2, rfl, HG3⟩
          rw [← HT.out] at HG3
          clear GA HG2 HS2 a0 a1 a2 a3 a4 a5 a6 a7 hcv2
          go_wp2
          exact ⟨⟨j + 1, v2, by go_num, by omega, HG3⟩, by simp [intOf]; omega⟩
        · obtain rfl : j = k := by omega
          have hlt : ((j : Int) < (j : Int)) = False := eq_false (by omega)
          have HT : Sl (fs.take j = fs) := ⟨List.take_of_length_le (by rw [HN.out]; exact Nat.le_refl _)⟩
          rw [HT.out] at HGA
          obtain ⟨fin, op, m, ka, kb, kc, kd, s, hf, hcv, hsm, hmem⟩ := fr_at HOK.out 0 (by rw [HN.out]; exact hp)
          obtain ⟨c0, c1, c2, c3, c4, c5, c6, c7⟩ := (HV.out.below HGA.out.L).at8 0 (by rw [HN.out]; exact hp) hcv
          simp only [Nat.zero_mul, Nat.add_zero] at c0 c1 c2 c3 c4 c5 c6 c7
          have HFO : Sl (join fs = (op, dataOf fs, true)) := ⟨by rw [HF.out, hf]⟩
          have hjp : (0 : Int) < (j : Int) := by omega
          clear hf hcv hsm hmem c0 c2 c3 c4 c5 c6 c7
          go_upto_region 15 with fail
          obtain ⟨Rw, hRw⟩ : ∃ R, wr.drew = R := ⟨_, rfl⟩
          have HBR : Below wr.heap.size wr Rw := by rw [← hRw]; exact (Below.refl _ _).drew
          refine wp_region_noPanic ?_
          refine wp_region_held (S := fun V => Below wr.heap.size wr V) (by kernel_rfl) ?_
          change wpAnyH _ _ _ _ _ _ _ _ wr.drew
          rw [hRw]
          clear hRw
          refine heldTake (d := some 44) (op := .move (Operand.tmp 0)) (g := none) 0 ?v0 rfl (by kernel_rfl) (by kernel_rfl) (by kernel_rfl) (by kernel_rfl) ?y0 HBR ?_
          case y0 => intro o' ho W hS; simp only [execOp, ho]; go_simp; try rfl
          simp only [Act.put, List.setIfInBounds_toArray, List.set_cons_zero, List.set_cons_succ]
          refine heldTake (d := some 45) (op := .indexAddr 23 (Operand.tmp 44) (Operand.const (Value.int IntKind.i64 0))) (g := none) 1 ?v1 rfl (by kernel_rfl) (by kernel_rfl) (by kernel_rfl) (by kernel_rfl) ?y1 HBR ?_
          case y1 => intro o' ho W hS; simp only [execOp, ho]; go_simp; try rfl
          simp only [Act.put, List.setIfInBounds_toArray, List.set_cons_zero, List.set_cons_succ]
          refine heldTake (d := some 46) (op := .fieldAddr 44 (Operand.tmp 45) 1) (g := none) 2 ?v2 rfl (by kernel_rfl) (by kernel_rfl) (by kernel_rfl) (by kernel_rfl) ?y2 HBR ?_
          case y2 => intro o' ho W hS; simp only [execOp, ho]; go_simp; try rfl
          simp only [Act.put, List.setIfInBounds_toArray, List.set_cons_zero, List.set_cons_succ]
          refine heldTake (d := some 47) (op := .load 3 (Operand.tmp 46)) (g := none) 3 ?v3 rfl (by kernel_rfl) (by kernel_rfl) (by kernel_rfl) (by kernel_rfl) ?y3 HBR ?_
          case y3 => intro o' ho W hS; have hcx : W.cell? ⟨sb, so + 1, none⟩ = some (.int .i64 op) := (hS.cell (block_lt_of_cell c1)).trans c1; simp only [execOp, ho]; go_simp; try rfl
          simp only [Act.put, List.setIfInBounds_toArray, List.set_cons_zero, List.set_cons_succ]
          refine heldTake (d := some 48) (op := .move (Operand.tmp 9)) (g := none) 4 ?v4 rfl (by kernel_rfl) (by kernel_rfl) (by kernel_rfl) (by kernel_rfl) ?y4 HBR ?_
          case y4 => intro o' ho W hS; simp only [execOp, ho]; go_simp; try rfl
          simp only [Act.put, List.setIfInBounds_toArray, List.set_cons_zero, List.set_cons_succ]
          refine heldCall (d := some 49) (op := .call { callee := Callee.value (Operand.tmp 48), args := #[], argTypes := #[] }) (g := none) 5 43 #[.pointer (some ⟨q, 0, none⟩)] rfl (by kernel_rfl) (by kernel_rfl) ?y5 ?_
          case y5 => intro o' ho; simp only [execOp, ho]; go_simp; try rfl
          refine (gall_any (HGA.out.below HBR)).mono ?_
          rintro e w5 ⟨rfl, rfl⟩
          refine ⟨_, rfl, HBR, ?_⟩
          simp only [Act.put, List.setIfInBounds_toArray, List.set_cons_zero, List.set_cons_succ]
          refine heldTake (d := some 50) (op := .convert 36 9 (Operand.tmp 49)) (g := none) 6 (.string (strOf (dataOf fs))) rfl (by kernel_rfl) (by kernel_rfl) (by kernel_rfl) (by kernel_rfl) ?y6 HBR ?_
          case y6 => intro o' ho W hS; exact conv_run ho (by rfl) ((HGA.out.below hS).conv)
          simp only [Act.put, List.setIfInBounds_toArray, List.set_cons_zero, List.set_cons_succ]
          refine heldTake (d := some 2) (op := .assign (Operand.tmp 47)) (g := none) 7 ?v7 rfl (by kernel_rfl) (by kernel_rfl) (by kernel_rfl) (by kernel_rfl) ?y7 HBR ?_
          case y7 => intro o' ho W hS; simp only [execOp, ho]; go_simp; try rfl
          simp only [Act.put, List.setIfInBounds_toArray, List.set_cons_zero, List.set_cons_succ]
          refine heldTake (d := some 3) (op := .assign (Operand.tmp 50)) (g := none) 8 ?v8 rfl (by kernel_rfl) (by kernel_rfl) (by kernel_rfl) (by kernel_rfl) ?y8 HBR ?_
          case y8 => intro o' ho W hS; simp only [execOp, ho]; go_simp; try rfl
          simp only [Act.put, List.setIfInBounds_toArray, List.set_cons_zero, List.set_cons_succ]
          refine heldTake (d := some 4) (op := .assign (Operand.const (Value.bool true))) (g := none) 9 ?v9 rfl (by kernel_rfl) (by kernel_rfl) (by kernel_rfl) (by kernel_rfl) ?y9 HBR ?_
          case y9 => intro o' ho W hS; simp only [execOp, ho]; go_simp; try rfl
          simp only [Act.put, List.setIfInBounds_toArray, List.set_cons_zero, List.set_cons_succ]
          refine wpAnyH_done (by kernel_rfl) ?_ _
          refine NoPanic.normal ?_
          have HBF : Sl (Below w.heap.size w Rw) := ⟨HGA.out.L.trans (HBR.mono HGA.out.L.size)⟩
          go_wp2
          go_ret3
          exact ⟨by rw [HFO.out]; rfl, HBF⟩
end Go.Proofs.YtimndpmbgfoofaaDoor.Cut
