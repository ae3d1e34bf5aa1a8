/- MsgMasks' walk. -/
import Derived.Test.YtpbfabcjkhlanaaDoorMJ
import Derived.Test.YtpbfabcjkhlanaaDoorK4
set_option maxRecDepth 100000
namespace Go.Proofs.YtpbfabcjkhlanaaDoor.Msg
open Go.RowKit UtfPlain MsgPlain Fra Utf Cls
open FramePlain (Fr Fr0 form chk ctl zero4 form_cases)
open ClosePlain (getC)

theorem FrsAt.range {W : World} {sb so n cap : Nat} {fs : List Fr} (h : FrsAt W (.slice (some ⟨sb, so, none⟩) n cap) fs) (i : Nat) (hi : i < fs.length) : W.rangeAt sb (so + i * 8) (cv (fs.getD i Fr0)) := fun j u hu => by
  obtain ⟨a, cap', sb', so', he, _, h3, h4⟩ := h
  injection he with e1 e2 e3
  rw [h3 (by omega)] at e1
  injection e1 with e1
  injection e1 with e4 e5
  subst e4 e5
  have hj : j < 8 := by have := (List.getElem?_eq_some_iff.1 hu).1; simpa [cv] using this
  rw [h4 i hi j hj]; exact hu
theorem load_mid {W : World} {ev : Operand → Value} {o : Oper} {x : Operand} {b i : Nat} {cs : List Value} (ho : o.op = .load 35 x) (hx : ev x = .pointer (some ⟨b, i, none⟩)) (hs : cs.length = 8) (h : W.rangeAt b i cs) : (execOp ev o).run Tryd.prog W = .ok (.value (.agg cs.toArray)) W := by
  unfold execOp
  simp only [ho, hx, Instr.loadAt, Instr.sureAddr, Sem.run_bind, Sem.run_pure, Result.andThen_ok, run_loadVar_mid (P := Tryd.prog) W b i 35 cs _ h Tryd.underlying35 rfl (by rw [hs]; kernel_rfl)]
theorem range_below {w W : World} {b i : Nat} {cs : List Value} (h : w.rangeAt b i cs) (hB : Below w.heap.size w W) : W.rangeAt b i cs := fun j u hu => by
  have h2 := h j u hu
  rw [hB.cell (p := ⟨b, i + j, none⟩) (block_lt_of_cell h2)]; exact h2
/-- Two boxes for a frame, made in one order or the other. -/
theorem boxed (R : World) (cs : Array Value) (q1 q2 : Nat) (hq : (q1 = R.heap.size ∧ q2 = R.heap.size + 1) ∨ (q1 = R.heap.size + 1 ∧ q2 = R.heap.size)) :
    ∃ B C D, ((R.alloc (.cells #[.bool false, .int .i64 0, .bool false, .int .u8 0, .int .u8 0, .int .u8 0, .int .u8 0, .string { data := #[] }] 35)).alloc (.cells #[.bool false, .int .i64 0, .bool false, .int .u8 0, .int .u8 0, .int .u8 0, .int .u8 0, .string { data := #[] }] 35)) = B ∧ B.setRow q1 cs = C ∧ C.setRow q2 cs = D ∧ B.heap[q1]? = some (.cells #[.bool false, .int .i64 0, .bool false, .int .u8 0, .int .u8 0, .int .u8 0, .int .u8 0, .string { data := #[] }] 35 (0, 0)) ∧ C.heap[q2]? = some (.cells #[.bool false, .int .i64 0, .bool false, .int .u8 0, .int .u8 0, .int .u8 0, .int .u8 0, .string { data := #[] }] 35 (0, 0)) ∧
      Below R.heap.size R B ∧ Below R.heap.size R C ∧ Below R.heap.size R D ∧ D.heap[q1]? = some (.cells cs 35 (0, 0)) ∧ D.heap[q2]? = some (.cells cs 35 (0, 0)) := by
  obtain ⟨A, hA⟩ : ∃ A, R.alloc (.cells #[.bool false, .int .i64 0, .bool false, .int .u8 0, .int .u8 0, .int .u8 0, .int .u8 0, .string { data := #[] }] 35) = A := ⟨_, rfl⟩
  have hs : A.heap.size = R.heap.size + 1 := by rw [← hA]; exact alloc_size _ _
  have h0 : A.heap[R.heap.size]? = some (.cells #[.bool false, .int .i64 0, .bool false, .int .u8 0, .int .u8 0, .int .u8 0, .int .u8 0, .string { data := #[] }] 35 (0, 0)) := by rw [← hA]; exact alloc_new _ _ _ rfl
  have hBA : Below R.heap.size R A := by rw [← hA]; exact (Below.refl _ _).alloc (Nat.le_refl _) _
  obtain ⟨B, hB⟩ : ∃ B, A.alloc (.cells #[.bool false, .int .i64 0, .bool false, .int .u8 0, .int .u8 0, .int .u8 0, .int .u8 0, .string { data := #[] }] 35) = B := ⟨_, rfl⟩
  have h1 : B.heap[R.heap.size]? = some (.cells #[.bool false, .int .i64 0, .bool false, .int .u8 0, .int .u8 0, .int .u8 0, .int .u8 0, .string { data := #[] }] 35 (0, 0)) := by rw [← hB, alloc_old _ _ _ (by omega)]; exact h0
  have h2 : B.heap[R.heap.size + 1]? = some (.cells #[.bool false, .int .i64 0, .bool false, .int .u8 0, .int .u8 0, .int .u8 0, .int .u8 0, .string { data := #[] }] 35 (0, 0)) := by rw [← hB]; exact alloc_new _ _ _ hs.symm
  have hBB : Below R.heap.size R B := by rw [← hB]; exact hBA.alloc (by omega) _
  have hb : ∀ q, (q = R.heap.size ∨ q = R.heap.size + 1) → B.heap[q]? = some (.cells #[.bool false, .int .i64 0, .bool false, .int .u8 0, .int .u8 0, .int .u8 0, .int .u8 0, .string { data := #[] }] 35 (0, 0)) := fun q hq => hq.elim (fun e => by rw [e]; exact h1) (fun e => by rw [e]; exact h2)
  have k1 : q1 ≠ q2 := by omega
  have c2 : (B.setRow q1 cs).heap[q2]? = some (.cells #[.bool false, .int .i64 0, .bool false, .int .u8 0, .int .u8 0, .int .u8 0, .int .u8 0, .string { data := #[] }] 35 (0, 0)) := by rw [setRow_other _ _ _ _ (Ne.symm k1)]; exact hb q2 (by omega)
  refine ⟨B, _, _, by rw [hA, hB], rfl, rfl, hb q1 (by omega), c2, hBB, below_setRow hBB (by omega) _, below_setRow (below_setRow hBB (by omega) _) (by omega) _, ?_, setRow_heap _ _ _ _ _ _ c2⟩
  rw [setRow_other _ _ _ _ k1]
  exact setRow_heap _ _ _ _ _ _ (hb q1 (by omega))
theorem store_key4 {W : World} {ev : Operand → Value} {o : Oper} {x y : Operand} {b : Nat} {c0 c1 c2 c3 c4 c5 c6 c7 : Value} {cells : Array Value} (ho : o.op = .store 33 x y) (hx : ev x = .pointer (some ⟨b, 3, none⟩)) (hy : ev y = .agg cells) (h : W.heap[b]? = some (.cells #[c0, c1, c2, c3, c4, c5, c6, c7] 35 (0, 0))) (hs : cells.size = 4) (h1 : cells.all (·.oneCell') = true) :
    (execOp ev o).run Tryd.prog W = .ok .skip (W.setCells b 3 cells.toList) := by
  have ht : W.there b 3 cells.size := by
    rw [hs]
    obtain ⟨_, _, _, d3, d4, d5, d6, _⟩ := bx8 h
    intro j hj
    match j, hj with
    | 0, _ => exact ⟨by rw [d3]; rfl, frozen_of_row _ _ _ _ _ h⟩
    | 1, _ => exact ⟨by rw [d4]; rfl, frozen_of_row _ _ _ _ _ h⟩
    | 2, _ => exact ⟨by rw [d5]; rfl, frozen_of_row _ _ _ _ _ h⟩
    | 3, _ => exact ⟨by rw [d6]; rfl, frozen_of_row _ _ _ _ _ h⟩
  unfold execOp
  simp only [ho, hx, hy, Sem.run_bind, Sem.run_pure, Result.andThen_ok, run_storeAt_mid (P := Tryd.prog) W b 3 33 cells ht (by rw [hs]; kernel_rfl) h1]
theorem key4 {W : World} {g : Nat} {c0 c1 c2 c3 : Value} (h : W.heap[g]? = some (.cells #[c0, c1, c2, c3] 33 (0, 0))) : W.cell? ⟨g, 0, none⟩ = some c0 ∧ W.cell? ⟨g, 1, none⟩ = some c1 ∧ W.cell? ⟨g, 2, none⟩ = some c2 ∧ W.cell? ⟨g, 3, none⟩ = some c3 := by
  refine ⟨?_, ?_, ?_, ?_⟩ <;> (rw [cell_of_row _ _ _ _ _ _ h]; rfl)
/-- A box whose mask and key are written. -/
theorem rekeyed {W : World} {b : Nat} {fin m m' : Bool} {op : Int} {ka kb kc kd : Nat} {s : ByteArray} (x0 x1 x2 x3 : Int) (h : W.heap[b]? = some (.cells #[.bool fin, .int .i64 op, .bool m, .int .u8 ((ka : Nat) : Int), .int .u8 ((kb : Nat) : Int), .int .u8 ((kc : Nat) : Int), .int .u8 ((kd : Nat) : Int), .string s] 35 (0, 0))) :
    ((W.setCell ⟨b, 2, none⟩ (.bool m')).setCells b 3 [.int .u8 x0, .int .u8 x1, .int .u8 x2, .int .u8 x3]).heap[b]? = some (.cells #[.bool fin, .int .i64 op, .bool m', .int .u8 x0, .int .u8 x1, .int .u8 x2, .int .u8 x3, .string s] 35 (0, 0)) ∧ W.grownBy ((W.setCell ⟨b, 2, none⟩ (.bool m')).setCells b 3 [.int .u8 x0, .int .u8 x1, .int .u8 x2, .int .u8 x3]) (some b) := by
  refine ⟨?_, grown_trans (grown_setCell _ _ _ _) (grown_setCells b _ 3 _)⟩
  simp only [World.setCells]
  rw [heap_setCell_same _ _ _ _ _ _ (heap_setCell_same _ _ _ _ _ _ (heap_setCell_same _ _ _ _ _ _ (heap_setCell_same _ _ _ _ _ _ (heap_setCell_same _ _ _ _ _ _ h))))]
  rfl
set_option maxHeartbeats 16000000 in
theorem masks_walk (v : Value) (l : List Fr) (key : List Nat) (w : World) (hg : Utf.Globs w) (hv : FrsAt w v l) (ok : ∀ f ∈ l, FrOk f) (ml : l.length ≤ maxLen) (lk : key.length = 4) (sk : Small 256 key) : Calls Tryd.prog 7 #[v, .agg (u8s key).toArray] w fun e w' => e = .returned (.bool true) ∧ Below w.heap.size w w' := by
  obtain ⟨x0, x1, x2, x3, rfl⟩ : ∃ x0 x1 x2 x3, key = [x0, x1, x2, x3] := by
    match key, lk with
    | [x0, x1, x2, x3], _ => exact ⟨x0, x1, x2, x3, rfl⟩
  obtain ⟨wK, hwK⟩ : ∃ V, w.alloc (.cells (u8s [x0, x1, x2, x3]).toArray 33) = V := ⟨_, rfl⟩
  have HBK : Sl (Below w.heap.size w wK) := ⟨by rw [← hwK]; exact (Below.refl _ _).alloc (Nat.le_refl _) _⟩
  have HKK : Sl (wK.heap[w.heap.size]? = some (.cells #[.int .u8 (x0 : Int), .int .u8 (x1 : Int), .int .u8 (x2 : Int), .int .u8 (x3 : Int)] 33 (0, 0))) := ⟨by rw [← hwK]; exact alloc_new _ _ _ rfl⟩
  have hw2 : w.alloc (.cells #[.int .u8 (x0 : Int), .int .u8 (x1 : Int), .int .u8 (x2 : Int), .int .u8 (x3 : Int)] 33) = wK := hwK
  show Calls Tryd.prog 7 #[v, .agg #[.int .u8 (x0 : Int), .int .u8 (x1 : Int), .int .u8 (x2 : Int), .int .u8 (x3 : Int)]] w _
  have HG : Sl (Utf.Globs wK) := ⟨hg.below HBK.out hg.size⟩
  have N0 := new_yes 200 wK wK (Below.refl _ _) (by omega)
  have HI := ev_info (cs := #[.int .i64 0, .int .i64 0, .string { data := #[] }]) rfl
  obtain ⟨a, cap, rfl⟩ := hv.slice
  have HV : Sl (FrsAt wK (.slice a l.length cap) l) := ⟨hv.below HBK.out⟩
  have HOK := Sl.mk ok
  have HML := Sl.mk ml
  have HSK := Sl.mk sk
  obtain ⟨n, hn⟩ : ∃ n, l.length = n := ⟨_, rfl⟩
  have HN := Sl.mk hn
  rw [hn] at HV ⊢
  obtain ⟨fw, hfw⟩ : ∃ b, fewF l = b := ⟨_, rfl⟩
  have HFW := Sl.mk hfw
  clear hg hv ok ml hn hfw lk sk hwK
  cases fw with
  | false =>
    go_enter Tryd.func7, Tryd.ntmps7
    go_wp2_with fail
    refine N0.mono ?_
    rintro e w1 ⟨rfl, HS1, _⟩
    clear N0 hw2
    have N1 := new_yes 200 wK w1 HS1.out.m.L (by omega)
    go_wp2_with fail
    refine N1.mono ?_
    rintro e w2 ⟨rfl, HS2, HB2⟩
    clear N1
    have HP2 := Sl.mk (Pair.new HS1.out HB2.out HS2.out)
    have A3 := awake_any w2 (HG.out.below HP2.out.one.m.L HG.out.size)
    go_wp2_with fail
    refine A3.mono ?_
    rintro e w3 ⟨rfl, HB3⟩
    have HP3 := Sl.mk (HP2.out.below HB3.out)
    clear A3 HS1 HS2 HB2 HB3 HP2
    have HF := few_any l _ w3 (HV.out.below HP3.out.one.m.L) HML.out
    rw [HFW.out] at HF
    go_wp2_with fail
    refine HF.mono ?_
    rintro e w4 ⟨rfl, rfl⟩
    clear HF
    have A4 := awake_any w3 (HG.out.below HP3.out.one.m.L HG.out.size)
    go_wp2_with fail
    refine A4.mono ?_
    rintro e w5 ⟨rfl, HB4⟩
    have HL := Sl.mk (HBK.out.trans ((HP3.out.one.m.L.trans (HB4.out.mono HP3.out.one.m.L.size)).mono HBK.out.size))
    go_wp2
    go_ret
    exact ⟨rfl, HL.out⟩
  | true =>
    go_enter Tryd.func7, Tryd.ntmps7
    go_wp2_with fail
    refine N0.mono ?_
    rintro e w1 ⟨rfl, HS1, _⟩
    clear N0 hw2
    have N1 := new_yes 200 wK w1 HS1.out.m.L (by omega)
    go_wp2_with fail
    refine N1.mono ?_
    rintro e w2 ⟨rfl, HS2, HB2⟩
    clear N1
    have HP2 := Sl.mk (Pair.new HS1.out HB2.out HS2.out)
    have A3 := awake_any w2 (HG.out.below HP2.out.one.m.L HG.out.size)
    go_wp2_with fail
    refine A3.mono ?_
    rintro e w3 ⟨rfl, HB3⟩
    have HP3 := Sl.mk (HP2.out.below HB3.out)
    clear A3 HS1 HS2 HB2 HB3 HP2
    have HF := few_any l _ w3 (HV.out.below HP3.out.one.m.L) HML.out
    rw [HFW.out] at HF
    go_wp2_with fail
    refine HF.mono ?_
    rintro e w4 ⟨rfl, rfl⟩
    clear HF
    have HFA := Sl.mk (few_all HFW.out)
    obtain ⟨b2, hb2⟩ : ∃ b2, w1.heap.size = b2 := ⟨_, rfl⟩
    rw [hb2] at HP3
    go_wp2
    go_loopw [9] (fun i wr => ∃ (k : Nat) (st : Ms) (x y x' y' : Value), i = .int .i64 (k : Int) ∧ k ≤ n ∧ Sl (Pair wK wr wK.heap.size 200 st x y b2 200 st x' y')) (fun i _ => n - (intOf i).toNat)
    case atStart => exact ⟨0, _, _, _, _, _, rfl, Nat.zero_le _, HP3⟩
    case round =>
      obtain ⟨k, st, x, y, x', y', rfl, hk, HP⟩ := hrel
      by_cases hkn : k < n
      · have hlt : ((k : Int) < (n : Int)) = True := eq_true (by omega)
        have hkl : k < l.length := by rw [HN.out]; exact hkn
        obtain ⟨sb, so, rfl⟩ := HV.out.cap.2 (by omega)
        obtain ⟨fin, op, m, ka, kb, kc, kd, s, hf, hcv, hsm, hmem⟩ := fr_at HOK.out k hkl
        have hn9 : n ≤ 9223372036854775807 := by have := HFA.out.2; rw [HN.out] at this; omega
        have HRG : Sl (wr.rangeAt sb (so + k * 8) (cv (l.getD k Fr0))) := ⟨(HV.out.below HP.out.one.m.L).range k hkl⟩
        have HCV := Sl.mk hcv
        have HSZ : Sl (s.size ≤ 100000) := ⟨strOf_le (by have := HFA.out.1 _ hmem; rw [hf] at this; exact this)⟩
        obtain ⟨⟨st', ev⟩, hr⟩ : ∃ r, MsgPlain.take 200 st (⟨fin, op, false, [0, 0, 0, 0], bytes s⟩ : Fr) = r := ⟨_, rfl⟩
        have HR1 := Sl.mk hr
        have HR2 : Sl (MsgPlain.take 200 st (⟨fin, op, true, [x0, x1, x2, x3], bytes s⟩ : Fr) = (st', ev)) := ⟨by rw [take_mask]; exact hr⟩
        obtain ⟨eo, ec, et, hev⟩ := evO_any ev
        have HEV := Sl.mk hev
        obtain ⟨d, hd⟩ : ∃ d, ev.isSome = d := ⟨_, rfl⟩
        have HD := Sl.mk hd
        have hsame := ev_same eo ec et
        have HIE := ev_info (cs := #[.int .i64 eo, .int .i64 ec, .string et]) rfl
        have hdd : (d != d) = false := by simp
        have hkk : ((st'.err : Int) != (st'.err : Int)) = false := by simp
        clear hf hcv hsm hmem hr hev hd
        go_upto_region 8 with fail
        obtain ⟨Rw, hRw⟩ : ∃ R, wr.drew = R := ⟨_, rfl⟩
        have HBR : Below wr.heap.size wr Rw := by rw [← hRw]; exact (Below.refl _ _).drew
        refine wp_region_noPanic ?_
        refine wp_region_held (S := fun V => Below wr.heap.size wr V) (by kernel_rfl) ?_
        change wpAnyH _ _ _ _ _ _ _ _ wr.drew
        rw [hRw]
        clear hRw
        refine heldTake (d := some 56) (op := .move (Operand.tmp 0)) (g := none) 0 ?v0 rfl (by kernel_rfl) (by kernel_rfl) (by kernel_rfl) (by kernel_rfl) ?y0 HBR ?_
        case y0 => intro o' ho W hS; simp only [execOp, ho]; go_simp; try rfl
        simp only [Act.put, List.setIfInBounds_toArray, List.set_cons_zero, List.set_cons_succ]
        refine heldTake (d := some 57) (op := .move (Operand.tmp 9)) (g := none) 1 ?v1 rfl (by kernel_rfl) (by kernel_rfl) (by kernel_rfl) (by kernel_rfl) ?y1 HBR ?_
        case y1 => intro o' ho W hS; simp only [execOp, ho]; go_simp; try rfl
        simp only [Act.put, List.setIfInBounds_toArray, List.set_cons_zero, List.set_cons_succ]
        refine heldTake (d := some 58) (op := .indexAddr 23 (Operand.tmp 56) (Operand.tmp 57)) (g := none) 2 ?v2 rfl (by kernel_rfl) (by kernel_rfl) (by kernel_rfl) (by kernel_rfl) ?y2 HBR ?_
        case y2 => intro o' ho W hS; simp only [execOp, ho]; go_simp; try rfl
        simp only [Act.put, List.setIfInBounds_toArray, List.set_cons_zero, List.set_cons_succ]
        refine heldTake (d := some 59) (op := .load 35 (Operand.tmp 58)) (g := none) 3 (.agg (cv (l.getD k Fr0)).toArray) rfl (by kernel_rfl) (by kernel_rfl) (by kernel_rfl) (by kernel_rfl) ?y3 HBR ?_
        case y3 => intro o' ho W hS; exact load_mid ho (by rfl) (by simp [cv]) (range_below HRG.out hS)
        simp only [Act.put, List.setIfInBounds_toArray, List.set_cons_zero, List.set_cons_succ]
        refine heldTake (d := some 60) (op := .move (Operand.tmp 0)) (g := none) 4 ?v4 rfl (by kernel_rfl) (by kernel_rfl) (by kernel_rfl) (by kernel_rfl) ?y4 HBR ?_
        case y4 => intro o' ho W hS; simp only [execOp, ho]; go_simp; try rfl
        simp only [Act.put, List.setIfInBounds_toArray, List.set_cons_zero, List.set_cons_succ]
        refine heldTake (d := some 61) (op := .move (Operand.tmp 9)) (g := none) 5 ?v5 rfl (by kernel_rfl) (by kernel_rfl) (by kernel_rfl) (by kernel_rfl) ?y5 HBR ?_
        case y5 => intro o' ho W hS; simp only [execOp, ho]; go_simp; try rfl
        simp only [Act.put, List.setIfInBounds_toArray, List.set_cons_zero, List.set_cons_succ]
        refine heldTake (d := some 62) (op := .indexAddr 23 (Operand.tmp 60) (Operand.tmp 61)) (g := none) 6 ?v6 rfl (by kernel_rfl) (by kernel_rfl) (by kernel_rfl) (by kernel_rfl) ?y6 HBR ?_
        case y6 => intro o' ho W hS; simp only [execOp, ho]; go_simp; try rfl
        simp only [Act.put, List.setIfInBounds_toArray, List.set_cons_zero, List.set_cons_succ]
        refine heldTake (d := some 63) (op := .load 35 (Operand.tmp 62)) (g := none) 7 (.agg (cv (l.getD k Fr0)).toArray) rfl (by kernel_rfl) (by kernel_rfl) (by kernel_rfl) (by kernel_rfl) ?y7 HBR ?_
        case y7 => intro o' ho W hS; exact load_mid ho (by rfl) (by simp [cv]) (range_below HRG.out hS)
        simp only [Act.put, List.setIfInBounds_toArray, List.set_cons_zero, List.set_cons_succ]
        rw [HCV.out]
        obtain ⟨Aw, hAw⟩ : ∃ V, Rw.alloc (.cells #[.bool false, .int .i64 0, .bool false, .int .u8 0, .int .u8 0, .int .u8 0, .int .u8 0, .string { data := #[] }] 35) = V := ⟨_, rfl⟩
        have hAs : Aw.heap.size = Rw.heap.size + 1 := by rw [← hAw]; exact alloc_size _ _
        have sA : Below wr.heap.size wr Aw := by rw [← hAw]; exact HBR.alloc HBR.size _
        refine heldTwo (di := some 10) (opi := .alloc 35) (gi := none) (ti := 0) (dj := some 11) (opj := .alloc 35) (gj := none) (tj := 0) 8 9 (.pointer (some ⟨Rw.heap.size, 0, none⟩)) Aw (.pointer (some ⟨Rw.heap.size, 0, none⟩)) Aw rfl rfl (by kernel_rfl) (by kernel_rfl) (by kernel_rfl) ?y8a ?y9a sA sA ?first ?second
        case y8a => intro o' ho ht; simp only [execOp, ho]; go_simp; first | done | rw [hAw] | rfl
        case y9a => intro o' ho ht; simp only [execOp, ho]; go_simp; first | done | rw [hAw] | rfl
        case first =>
          simp only [Act.put, List.setIfInBounds_toArray, List.set_cons_zero, List.set_cons_succ]
          obtain ⟨Bf, Cf, Df, hB, hC, hD, q1B, q2C, bB, bC, bD, q1D, q2D⟩ := boxed Rw #[.bool fin, .int .i64 op, .bool m, .int .u8 ((ka : Nat) : Int), .int .u8 ((kb : Nat) : Int), .int .u8 ((kc : Nat) : Int), .int .u8 ((kd : Nat) : Int), .string s] (Rw.heap.size) (Aw.heap.size) (.inl ⟨rfl, hAs⟩)
          rw [hAw] at hB
          have sB : Below wr.heap.size wr Bf := HBR.trans (bB.mono HBR.size)
          have sC : Below wr.heap.size wr Cf := HBR.trans (bC.mono HBR.size)
          have sD : Below wr.heap.size wr Df := HBR.trans (bD.mono HBR.size)
          refine heldRunT (d := some 11) (op := .alloc 35) (g := none) (t := 0) 9 (.pointer (some ⟨Aw.heap.size, 0, none⟩)) Bf rfl (by kernel_rfl) (by kernel_rfl) ?y9f sB ?_
          case y9f => intro o' ho _; simp only [execOp, ho]; go_simp; first | done | (rw [hB]) | rfl
          simp only [Act.put, List.setIfInBounds_toArray, List.set_cons_zero, List.set_cons_succ]
          refine heldStore (d := none) (op := .store 35 (Operand.tmp 10) (Operand.tmp 59)) (g := none) (t := 0) 10 Cf rfl (by kernel_rfl) (by kernel_rfl) ?y10f sC ?_
          case y10f => intro o' ho ht; rw [← hC]; exact store8 ho (by rfl) (by rfl) q1B ⟨rfl, rfl⟩ (fr_all _ _ _ _ _ _ _ _)
          simp only [Act.put]
          refine heldStore (d := none) (op := .store 35 (Operand.tmp 11) (Operand.tmp 63)) (g := none) (t := 0) 11 Df rfl (by kernel_rfl) (by kernel_rfl) ?y11f sD ?_
          case y11f => intro o' ho ht; rw [← hD]; exact store8 ho (by rfl) (by rfl) q2C ⟨rfl, rfl⟩ (fr_all _ _ _ _ _ _ _ _)
          simp only [Act.put]
          refine wpAnyH_done (by kernel_rfl) ?_ _
          refine NoPanic.normal ?_
          have HSD := Sl.mk sD
          have HQ1 := Sl.mk q1D
          have HQ2 := Sl.mk q2D
          have HQL : Sl (wr.heap.size ≤ Rw.heap.size ∧ wr.heap.size ≤ Aw.heap.size ∧ Rw.heap.size ≠ Aw.heap.size) := ⟨by have := HBR.size; omega, by have := HBR.size; omega, by omega⟩
          clear hB hC hD q1B q2C bB bC bD q1D q2D sB sC sD HBR
          obtain ⟨q1, hq1⟩ : ∃ q, Rw.heap.size = q := ⟨_, rfl⟩
          obtain ⟨q2, hq2⟩ : ∃ q, Aw.heap.size = q := ⟨_, rfl⟩
          rw [hq1] at HQ1 HQL ⊢
          rw [hq2] at HQ2 HQL ⊢
          clear hq1 hq2 hAw hAs sA
          obtain ⟨a0, a1, a2, a3, a4, a5, a6, a7⟩ := bx8 HQ1.out
          have g2 : Df.frozen? ⟨q1, 2, none⟩ = false := frozen_of_row _ _ _ _ _ HQ1.out
          have g3 : Df.frozen? ⟨q1, 3, none⟩ = false := frozen_of_row _ _ _ _ _ HQ1.out
          have g4 : Df.frozen? ⟨q1, 4, none⟩ = false := frozen_of_row _ _ _ _ _ HQ1.out
          have g5 : Df.frozen? ⟨q1, 5, none⟩ = false := frozen_of_row _ _ _ _ _ HQ1.out
          have g6 : Df.frozen? ⟨q1, 6, none⟩ = false := frozen_of_row _ _ _ _ _ HQ1.out
          obtain ⟨hq1E, hgE⟩ := rekeyed (m' := false) 0 0 0 0 HQ1.out
          simp only [World.setCells] at hq1E hgE
          obtain ⟨E, hE⟩ : ∃ V, ((((Df.setCell ⟨q1, 2, none⟩ (.bool false)).setCell ⟨q1, 3, none⟩ (.int .u8 0)).setCell ⟨q1, 3 + 1, none⟩ (.int .u8 0)).setCell ⟨q1, 3 + 1 + 1, none⟩ (.int .u8 0)).setCell ⟨q1, 3 + 1 + 1 + 1, none⟩ (.int .u8 0) = V := ⟨_, rfl⟩
          rw [hE] at hq1E hgE
          have hE2 : ((((Df.setCell ⟨q1, 2, none⟩ (.bool false)).setCell ⟨q1, 3, none⟩ (.int .u8 0)).setCell ⟨q1, 4, none⟩ (.int .u8 0)).setCell ⟨q1, 5, none⟩ (.int .u8 0)).setCell ⟨q1, 6, none⟩ (.int .u8 0) = E := hE
          have HQ1E := Sl.mk hq1E
          have HSE : Sl (Below wr.heap.size wr E) := ⟨HSD.out.grown hgE HSD.out.size (fun k hk => by injection hk with hk; rw [← hk]; exact HQL.out.1)⟩
          have HQ2E : Sl (E.heap[q2]? = some (.cells #[.bool fin, .int .i64 op, .bool m, .int .u8 ((ka : Nat) : Int), .int .u8 ((kb : Nat) : Int), .int .u8 ((kc : Nat) : Int), .int .u8 ((kd : Nat) : Int), .string s] 35 (0, 0))) := ⟨by rw [hgE.block q2 (Array.getElem?_eq_some_iff.1 HQ2.out).1 (fun e => HQL.out.2.2 (by injection e with e; exact e.symm))]; exact HQ2.out⟩
          clear hq1E hgE hE
          go_upto_region 10 with fail
          (try rw [hE2])
          clear hE2 a0 a1 a2 a3 a4 a5 a6 a7 g2 g3 g4 g5 g6 HQ1 HQ2 HSD
          have hKE : E.heap[w.heap.size]? = some (.cells #[.int .u8 (x0 : Int), .int .u8 (x1 : Int), .int .u8 (x2 : Int), .int .u8 (x3 : Int)] 33 (0, 0)) := by
            have h1 := (Array.getElem?_eq_some_iff.1 HKK.out).1
            have h2 := HP.out.one.m.L
            rw [HSE.out.block _ (by have := h2.size; omega), h2.block _ h1]; exact HKK.out
          obtain ⟨Ry, hRy⟩ : ∃ R, E.drew = R := ⟨_, rfl⟩
          have HBY : Below E.heap.size E Ry := by rw [← hRy]; exact (Below.refl _ _).drew
          refine wp_region_noPanic ?_
          refine wp_region_held (S := fun V => V.heap[w.heap.size]? = some (.cells #[.int .u8 (x0 : Int), .int .u8 (x1 : Int), .int .u8 (x2 : Int), .int .u8 (x3 : Int)] 33 (0, 0))) (by kernel_rfl) ?_
          change wpAnyH _ _ _ _ _ _ _ _ E.drew
          rw [hRy]
          clear hRy
          have HS0 := below_key hKE HBY
          have q2Y := below_key HQ2E.out HBY
          have q1Y := below_key HQ1E.out HBY
          have sY : Below wr.heap.size wr Ry := HSE.out.trans (HBY.mono HSE.out.size)
          refine heldTake (d := some 67) (op := .load 33 (Operand.tmp 3)) (g := none) 0 ?v0yf rfl (by kernel_rfl) (by kernel_rfl) (by kernel_rfl) (by kernel_rfl) ?y0yf HS0 ?_
          case y0yf => intro o' ho W hS; obtain ⟨k0, k1, k2, k3⟩ := key4 hS; simp only [execOp, ho]; go_simp; try rfl
          simp only [Act.put, List.setIfInBounds_toArray, List.set_cons_zero, List.set_cons_succ]
          refine heldTake (d := some 68) (op := .fieldAddr 35 (Operand.tmp 11) 2) (g := none) 1 ?v1yf rfl (by kernel_rfl) (by kernel_rfl) (by kernel_rfl) (by kernel_rfl) ?y1yf HS0 ?_
          case y1yf => intro o' ho W hS; simp only [execOp, ho]; go_simp; try rfl
          simp only [Act.put, List.setIfInBounds_toArray, List.set_cons_zero, List.set_cons_succ]
          obtain ⟨G, hG⟩ : ∃ V, Ry.setCell ⟨q2, 2, none⟩ (.bool true) = V := ⟨_, rfl⟩
          have hKq : w.heap.size ≠ q2 := by
            have h1 := (Array.getElem?_eq_some_iff.1 HKK.out).1
            have h2 := HP.out.one.m.L.size
            have h3 := HQL.out.2.1
            omega
          have HSG : G.heap[w.heap.size]? = some (.cells #[.int .u8 (x0 : Int), .int .u8 (x1 : Int), .int .u8 (x2 : Int), .int .u8 (x3 : Int)] 33 (0, 0)) := by rw [← hG, heap_setCell_other _ _ _ _ hKq]; exact HS0
          obtain ⟨_, _, y2, _, _, _, _, _⟩ := bx8 q2Y
          have fz2 : Ry.frozen? ⟨q2, 2, none⟩ = false := frozen_of_row _ _ _ _ _ q2Y
          refine heldStore (d := none) (op := .store 4 (Operand.tmp 68) (Operand.const (Value.bool true))) (g := none) (t := 0) 2 G rfl (by kernel_rfl) (by kernel_rfl) ?y2yf HSG ?_
          case y2yf => intro o' ho ht; rw [← hG]; simp only [execOp, ho]; go_simp; try rfl
          simp only [Act.put]
          refine heldTake (d := some 69) (op := .fieldAddr 35 (Operand.tmp 11) 3) (g := none) 3 ?v3yf rfl (by kernel_rfl) (by kernel_rfl) (by kernel_rfl) (by kernel_rfl) ?y3yf HSG ?_
          case y3yf => intro o' ho W hS; simp only [execOp, ho]; go_simp; try rfl
          simp only [Act.put, List.setIfInBounds_toArray, List.set_cons_zero, List.set_cons_succ]
          have hGq : G.heap[q2]? = some (.cells #[.bool fin, .int .i64 op, .bool true, .int .u8 ((ka : Nat) : Int), .int .u8 ((kb : Nat) : Int), .int .u8 ((kc : Nat) : Int), .int .u8 ((kd : Nat) : Int), .string s] 35 (0, 0)) := by
            rw [← hG, heap_setCell_same _ _ _ _ _ _ q2Y]; rfl
          obtain ⟨hq2H, hgH⟩ := rekeyed (m' := true) (x0 : Int) (x1 : Int) (x2 : Int) (x3 : Int) q2Y
          rw [hG] at hq2H hgH
          obtain ⟨H, hH⟩ : ∃ V, G.setCells q2 3 [.int .u8 (x0 : Int), .int .u8 (x1 : Int), .int .u8 (x2 : Int), .int .u8 (x3 : Int)] = V := ⟨_, rfl⟩
          rw [hH] at hq2H hgH
          have HSH : H.heap[w.heap.size]? = some (.cells #[.int .u8 (x0 : Int), .int .u8 (x1 : Int), .int .u8 (x2 : Int), .int .u8 (x3 : Int)] 33 (0, 0)) := by rw [hgH.block _ (Array.getElem?_eq_some_iff.1 HS0).1 (fun e => hKq (by injection e))]; exact HS0
          refine heldStore (d := none) (op := .store 33 (Operand.tmp 69) (Operand.tmp 67)) (g := none) (t := 0) 4 H rfl (by kernel_rfl) (by kernel_rfl) ?y4yf HSH ?_
          case y4yf => intro o' ho ht; rw [← hH]; exact store_key4 ho (by rfl) (by rfl) hGq rfl (by simp [Value.oneCell'])
          simp only [Act.put]
          refine wpAnyH_done (by kernel_rfl) ?_ _
          refine NoPanic.normal ?_
          have HQ2H := Sl.mk hq2H
          have HQ1H : Sl (H.heap[q1]? = some (.cells #[.bool fin, .int .i64 op, .bool false, .int .u8 0, .int .u8 0, .int .u8 0, .int .u8 0, .string s] 35 (0, 0))) := ⟨by rw [hgH.block q1 (Array.getElem?_eq_some_iff.1 q1Y).1 (fun e => HQL.out.2.2 (by injection e))]; exact q1Y⟩
          have HPH : Sl (Pair wK H wK.heap.size 200 st x y b2 200 st x' y') := ⟨HP.out.below (sY.grown hgH sY.size (fun k hk => by injection hk with hk; rw [← hk]; exact HQL.out.2.1))⟩
          clear hKE HBY HS0 q2Y q1Y sY hG hKq HSG y2 fz2 hGq hq2H hgH hH HSH HQ1E HQ2E HSE
          obtain ⟨a0, a1, a2, a3, a4, a5, a6, a7⟩ := bx8 HQ1H.out
          have T1 := take_ex HPH.out.one HG.out fin op false 0 0 0 0 s small0 HSZ.out _ rfl st' ev HR1.out eo ec et HEV.out d HD.out (st'.err : Int) rfl
          go_wp2_with fail
          refine T1.mono ?_
          rintro e w5 ⟨v5, p5, rfl, HS5, HX5⟩
          clear T1
          clear a0 a1 a2 a3 a4 a5 a6 a7
          have HP5 := Sl.mk (HPH.out.go HS5.out HX5.out)
          have HQ25 : Sl (w5.heap[q2]? = some (.cells #[.bool fin, .int .i64 op, .bool true, .int .u8 (x0 : Int), .int .u8 (x1 : Int), .int .u8 (x2 : Int), .int .u8 (x3 : Int), .string s] 35 (0, 0))) := ⟨HP.out.one.keeps HQL.out.2.1 HQ2H.out HX5.out⟩
          have HL5 : Sl (wr.heap.size ≤ w5.heap.size) := ⟨Nat.le_trans (Nat.le_of_lt (Nat.lt_of_le_of_lt HQL.out.1 (Array.getElem?_eq_some_iff.1 HQ1H.out).1)) HX5.out.kept.size⟩
          clear HS5 HX5 HPH HQ2H HQ1H
          obtain ⟨V5, hV5, HBV5, HEV5⟩ := laid_ev w5 #[.int .i64 eo, .int .i64 ec, .string et]
          go_upto_region 12 with (refine wpList_store_row rfl 30 (.tmp 12) (.tmp 74) rfl w5.heap.size #[.int .i64 eo, .int .i64 ec, .string et] rfl rfl 30 #[.int .i64 0, .int .i64 0, .string { data := #[] }] (ev_new w5) HIE rfl (ev_all _ _ _) ?_)
          (try rw [hV5])
          clear hV5
          have HP6 := Sl.mk (HP5.out.below HBV5.out)
          have HQ26 := Sl.mk (below_key HQ25.out HBV5.out)
          clear HP5 HQ25 HBV5
          obtain ⟨a0, a1, a2, a3, a4, a5, a6, a7⟩ := bx8 HQ26.out
          have T2 := take_ex HP6.out.two HG.out fin op true x0 x1 x2 x3 s HSK.out HSZ.out _ rfl st' ev HR2.out eo ec et HEV.out d HD.out (st'.err : Int) rfl
          go_wp2_with fail
          refine T2.mono ?_
          rintro e w7 ⟨v7, p7, rfl, HS7, HX7⟩
          clear T2
          clear a0 a1 a2 a3 a4 a5 a6 a7
          have HP7 := Sl.mk (HP6.out.symm.go HS7.out HX7.out).symm
          have HE7 := Sl.mk (HP.out.two.keeps HL5.out HEV5.out HX7.out)
          clear HS7 HX7 HP6 HQ26 HEV5
          obtain ⟨V7, hV7, HBV7, HEV7⟩ := laid_ev w7 #[.int .i64 eo, .int .i64 ec, .string et]
          go_upto_region 13 with (refine wpList_store_row rfl 30 (.tmp 15) (.tmp 81) rfl w7.heap.size #[.int .i64 eo, .int .i64 ec, .string et] rfl rfl 30 #[.int .i64 0, .int .i64 0, .string { data := #[] }] (ev_new w7) HIE rfl (ev_all _ _ _) ?_)
          (try rw [hV7])
          clear hV7
          have HP8 := Sl.mk (HP7.out.below HBV7.out)
          have HE8 := Sl.mk (below_key HE7.out HBV7.out)
          clear HP7 HE7 HBV7
          obtain ⟨a0, a1, a2⟩ := ev_cells HE8.out
          obtain ⟨b0, b1, c2⟩ := ev_cells HEV7.out
          have P1 := part_any HP8.out.one.m st'.text.length rfl
          have P2 := part_any HP8.out.two.m st'.text.length rfl
          have hll : (((st'.text.length : Nat) : Int) != ((st'.text.length : Nat) : Int)) = false := by simp
          go_wp2_with fail
          refine P1.mono ?_
          rintro e w9 ⟨rfl, rfl⟩
          clear P1
          go_wp2_with fail
          refine P2.mono ?_
          rintro e w10 ⟨rfl, rfl⟩
          clear P2
          go_wp2
          exact ⟨⟨k + 1, _, _, _, _, _, by go_num, by omega, HP8⟩, by simp [intOf]; omega⟩
        case second =>
          simp only [Act.put, List.setIfInBounds_toArray, List.set_cons_zero, List.set_cons_succ]
          obtain ⟨Bs, Cs, Ds, hB, hC, hD, q1B, q2C, bB, bC, bD, q1D, q2D⟩ := boxed Rw #[.bool fin, .int .i64 op, .bool m, .int .u8 ((ka : Nat) : Int), .int .u8 ((kb : Nat) : Int), .int .u8 ((kc : Nat) : Int), .int .u8 ((kd : Nat) : Int), .string s] (Aw.heap.size) (Rw.heap.size) (.inr ⟨hAs, rfl⟩)
          rw [hAw] at hB
          have sB : Below wr.heap.size wr Bs := HBR.trans (bB.mono HBR.size)
          have sC : Below wr.heap.size wr Cs := HBR.trans (bC.mono HBR.size)
          have sD : Below wr.heap.size wr Ds := HBR.trans (bD.mono HBR.size)
          refine heldRunT (d := some 10) (op := .alloc 35) (g := none) (t := 0) 8 (.pointer (some ⟨Aw.heap.size, 0, none⟩)) Bs rfl (by kernel_rfl) (by kernel_rfl) ?y8s sB ?_
          case y8s => intro o' ho _; simp only [execOp, ho]; go_simp; first | done | (rw [hB]) | rfl
          simp only [Act.put, List.setIfInBounds_toArray, List.set_cons_zero, List.set_cons_succ]
          refine heldStore (d := none) (op := .store 35 (Operand.tmp 10) (Operand.tmp 59)) (g := none) (t := 0) 10 Cs rfl (by kernel_rfl) (by kernel_rfl) ?y10s sC ?_
          case y10s => intro o' ho ht; rw [← hC]; exact store8 ho (by rfl) (by rfl) q1B ⟨rfl, rfl⟩ (fr_all _ _ _ _ _ _ _ _)
          simp only [Act.put]
          refine heldStore (d := none) (op := .store 35 (Operand.tmp 11) (Operand.tmp 63)) (g := none) (t := 0) 11 Ds rfl (by kernel_rfl) (by kernel_rfl) ?y11s sD ?_
          case y11s => intro o' ho ht; rw [← hD]; exact store8 ho (by rfl) (by rfl) q2C ⟨rfl, rfl⟩ (fr_all _ _ _ _ _ _ _ _)
          simp only [Act.put]
          refine wpAnyH_done (by kernel_rfl) ?_ _
          refine NoPanic.normal ?_
          have HSD := Sl.mk sD
          have HQ1 := Sl.mk q1D
          have HQ2 := Sl.mk q2D
          have HQL : Sl (wr.heap.size ≤ Aw.heap.size ∧ wr.heap.size ≤ Rw.heap.size ∧ Aw.heap.size ≠ Rw.heap.size) := ⟨by have := HBR.size; omega, by have := HBR.size; omega, by omega⟩
          clear hB hC hD q1B q2C bB bC bD q1D q2D sB sC sD HBR
          obtain ⟨q1, hq1⟩ : ∃ q, Aw.heap.size = q := ⟨_, rfl⟩
          obtain ⟨q2, hq2⟩ : ∃ q, Rw.heap.size = q := ⟨_, rfl⟩
          rw [hq1] at HQ1 HQL ⊢
          rw [hq2] at HQ2 HQL ⊢
          clear hq1 hq2 hAw hAs sA
          obtain ⟨a0, a1, a2, a3, a4, a5, a6, a7⟩ := bx8 HQ1.out
          have g2 : Ds.frozen? ⟨q1, 2, none⟩ = false := frozen_of_row _ _ _ _ _ HQ1.out
          have g3 : Ds.frozen? ⟨q1, 3, none⟩ = false := frozen_of_row _ _ _ _ _ HQ1.out
          have g4 : Ds.frozen? ⟨q1, 4, none⟩ = false := frozen_of_row _ _ _ _ _ HQ1.out
          have g5 : Ds.frozen? ⟨q1, 5, none⟩ = false := frozen_of_row _ _ _ _ _ HQ1.out
          have g6 : Ds.frozen? ⟨q1, 6, none⟩ = false := frozen_of_row _ _ _ _ _ HQ1.out
          obtain ⟨hq1E, hgE⟩ := rekeyed (m' := false) 0 0 0 0 HQ1.out
          simp only [World.setCells] at hq1E hgE
          obtain ⟨E, hE⟩ : ∃ V, ((((Ds.setCell ⟨q1, 2, none⟩ (.bool false)).setCell ⟨q1, 3, none⟩ (.int .u8 0)).setCell ⟨q1, 3 + 1, none⟩ (.int .u8 0)).setCell ⟨q1, 3 + 1 + 1, none⟩ (.int .u8 0)).setCell ⟨q1, 3 + 1 + 1 + 1, none⟩ (.int .u8 0) = V := ⟨_, rfl⟩
          rw [hE] at hq1E hgE
          have hE2 : ((((Ds.setCell ⟨q1, 2, none⟩ (.bool false)).setCell ⟨q1, 3, none⟩ (.int .u8 0)).setCell ⟨q1, 4, none⟩ (.int .u8 0)).setCell ⟨q1, 5, none⟩ (.int .u8 0)).setCell ⟨q1, 6, none⟩ (.int .u8 0) = E := hE
          have HQ1E := Sl.mk hq1E
          have HSE : Sl (Below wr.heap.size wr E) := ⟨HSD.out.grown hgE HSD.out.size (fun k hk => by injection hk with hk; rw [← hk]; exact HQL.out.1)⟩
          have HQ2E : Sl (E.heap[q2]? = some (.cells #[.bool fin, .int .i64 op, .bool m, .int .u8 ((ka : Nat) : Int), .int .u8 ((kb : Nat) : Int), .int .u8 ((kc : Nat) : Int), .int .u8 ((kd : Nat) : Int), .string s] 35 (0, 0))) := ⟨by rw [hgE.block q2 (Array.getElem?_eq_some_iff.1 HQ2.out).1 (fun e => HQL.out.2.2 (by injection e with e; exact e.symm))]; exact HQ2.out⟩
          clear hq1E hgE hE
          go_upto_region 10 with fail
          (try rw [hE2])
          clear hE2 a0 a1 a2 a3 a4 a5 a6 a7 g2 g3 g4 g5 g6 HQ1 HQ2 HSD
          have hKE : E.heap[w.heap.size]? = some (.cells #[.int .u8 (x0 : Int), .int .u8 (x1 : Int), .int .u8 (x2 : Int), .int .u8 (x3 : Int)] 33 (0, 0)) := by
            have h1 := (Array.getElem?_eq_some_iff.1 HKK.out).1
            have h2 := HP.out.one.m.L
            rw [HSE.out.block _ (by have := h2.size; omega), h2.block _ h1]; exact HKK.out
          obtain ⟨Ry, hRy⟩ : ∃ R, E.drew = R := ⟨_, rfl⟩
          have HBY : Below E.heap.size E Ry := by rw [← hRy]; exact (Below.refl _ _).drew
          refine wp_region_noPanic ?_
          refine wp_region_held (S := fun V => V.heap[w.heap.size]? = some (.cells #[.int .u8 (x0 : Int), .int .u8 (x1 : Int), .int .u8 (x2 : Int), .int .u8 (x3 : Int)] 33 (0, 0))) (by kernel_rfl) ?_
          change wpAnyH _ _ _ _ _ _ _ _ E.drew
          rw [hRy]
          clear hRy
          have HS0 := below_key hKE HBY
          have q2Y := below_key HQ2E.out HBY
          have q1Y := below_key HQ1E.out HBY
          have sY : Below wr.heap.size wr Ry := HSE.out.trans (HBY.mono HSE.out.size)
          refine heldTake (d := some 67) (op := .load 33 (Operand.tmp 3)) (g := none) 0 ?v0ys rfl (by kernel_rfl) (by kernel_rfl) (by kernel_rfl) (by kernel_rfl) ?y0ys HS0 ?_
          case y0ys => intro o' ho W hS; obtain ⟨k0, k1, k2, k3⟩ := key4 hS; simp only [execOp, ho]; go_simp; try rfl
          simp only [Act.put, List.setIfInBounds_toArray, List.set_cons_zero, List.set_cons_succ]
          refine heldTake (d := some 68) (op := .fieldAddr 35 (Operand.tmp 11) 2) (g := none) 1 ?v1ys rfl (by kernel_rfl) (by kernel_rfl) (by kernel_rfl) (by kernel_rfl) ?y1ys HS0 ?_
          case y1ys => intro o' ho W hS; simp only [execOp, ho]; go_simp; try rfl
          simp only [Act.put, List.setIfInBounds_toArray, List.set_cons_zero, List.set_cons_succ]
          obtain ⟨G, hG⟩ : ∃ V, Ry.setCell ⟨q2, 2, none⟩ (.bool true) = V := ⟨_, rfl⟩
          have hKq : w.heap.size ≠ q2 := by
            have h1 := (Array.getElem?_eq_some_iff.1 HKK.out).1
            have h2 := HP.out.one.m.L.size
            have h3 := HQL.out.2.1
            omega
          have HSG : G.heap[w.heap.size]? = some (.cells #[.int .u8 (x0 : Int), .int .u8 (x1 : Int), .int .u8 (x2 : Int), .int .u8 (x3 : Int)] 33 (0, 0)) := by rw [← hG, heap_setCell_other _ _ _ _ hKq]; exact HS0
          obtain ⟨_, _, y2, _, _, _, _, _⟩ := bx8 q2Y
          have fz2 : Ry.frozen? ⟨q2, 2, none⟩ = false := frozen_of_row _ _ _ _ _ q2Y
          refine heldStore (d := none) (op := .store 4 (Operand.tmp 68) (Operand.const (Value.bool true))) (g := none) (t := 0) 2 G rfl (by kernel_rfl) (by kernel_rfl) ?y2ys HSG ?_
          case y2ys => intro o' ho ht; rw [← hG]; simp only [execOp, ho]; go_simp; try rfl
          simp only [Act.put]
          refine heldTake (d := some 69) (op := .fieldAddr 35 (Operand.tmp 11) 3) (g := none) 3 ?v3ys rfl (by kernel_rfl) (by kernel_rfl) (by kernel_rfl) (by kernel_rfl) ?y3ys HSG ?_
          case y3ys => intro o' ho W hS; simp only [execOp, ho]; go_simp; try rfl
          simp only [Act.put, List.setIfInBounds_toArray, List.set_cons_zero, List.set_cons_succ]
          have hGq : G.heap[q2]? = some (.cells #[.bool fin, .int .i64 op, .bool true, .int .u8 ((ka : Nat) : Int), .int .u8 ((kb : Nat) : Int), .int .u8 ((kc : Nat) : Int), .int .u8 ((kd : Nat) : Int), .string s] 35 (0, 0)) := by
            rw [← hG, heap_setCell_same _ _ _ _ _ _ q2Y]; rfl
          obtain ⟨hq2H, hgH⟩ := rekeyed (m' := true) (x0 : Int) (x1 : Int) (x2 : Int) (x3 : Int) q2Y
          rw [hG] at hq2H hgH
          obtain ⟨H, hH⟩ : ∃ V, G.setCells q2 3 [.int .u8 (x0 : Int), .int .u8 (x1 : Int), .int .u8 (x2 : Int), .int .u8 (x3 : Int)] = V := ⟨_, rfl⟩
          rw [hH] at hq2H hgH
          have HSH : H.heap[w.heap.size]? = some (.cells #[.int .u8 (x0 : Int), .int .u8 (x1 : Int), .int .u8 (x2 : Int), .int .u8 (x3 : Int)] 33 (0, 0)) := by rw [hgH.block _ (Array.getElem?_eq_some_iff.1 HS0).1 (fun e => hKq (by injection e))]; exact HS0
          refine heldStore (d := none) (op := .store 33 (Operand.tmp 69) (Operand.tmp 67)) (g := none) (t := 0) 4 H rfl (by kernel_rfl) (by kernel_rfl) ?y4ys HSH ?_
          case y4ys => intro o' ho ht; rw [← hH]; exact store_key4 ho (by rfl) (by rfl) hGq rfl (by simp [Value.oneCell'])
          simp only [Act.put]
          refine wpAnyH_done (by kernel_rfl) ?_ _
          refine NoPanic.normal ?_
          have HQ2H := Sl.mk hq2H
          have HQ1H : Sl (H.heap[q1]? = some (.cells #[.bool fin, .int .i64 op, .bool false, .int .u8 0, .int .u8 0, .int .u8 0, .int .u8 0, .string s] 35 (0, 0))) := ⟨by rw [hgH.block q1 (Array.getElem?_eq_some_iff.1 q1Y).1 (fun e => HQL.out.2.2 (by injection e))]; exact q1Y⟩
          have HPH : Sl (Pair wK H wK.heap.size 200 st x y b2 200 st x' y') := ⟨HP.out.below (sY.grown hgH sY.size (fun k hk => by injection hk with hk; rw [← hk]; exact HQL.out.2.1))⟩
          clear hKE HBY HS0 q2Y q1Y sY hG hKq HSG y2 fz2 hGq hq2H hgH hH HSH HQ1E HQ2E HSE
          obtain ⟨a0, a1, a2, a3, a4, a5, a6, a7⟩ := bx8 HQ1H.out
          have T1 := take_ex HPH.out.one HG.out fin op false 0 0 0 0 s small0 HSZ.out _ rfl st' ev HR1.out eo ec et HEV.out d HD.out (st'.err : Int) rfl
          go_wp2_with fail
          refine T1.mono ?_
          rintro e w5 ⟨v5, p5, rfl, HS5, HX5⟩
          clear T1
          clear a0 a1 a2 a3 a4 a5 a6 a7
          have HP5 := Sl.mk (HPH.out.go HS5.out HX5.out)
          have HQ25 : Sl (w5.heap[q2]? = some (.cells #[.bool fin, .int .i64 op, .bool true, .int .u8 (x0 : Int), .int .u8 (x1 : Int), .int .u8 (x2 : Int), .int .u8 (x3 : Int), .string s] 35 (0, 0))) := ⟨HP.out.one.keeps HQL.out.2.1 HQ2H.out HX5.out⟩
          have HL5 : Sl (wr.heap.size ≤ w5.heap.size) := ⟨Nat.le_trans (Nat.le_of_lt (Nat.lt_of_le_of_lt HQL.out.1 (Array.getElem?_eq_some_iff.1 HQ1H.out).1)) HX5.out.kept.size⟩
          clear HS5 HX5 HPH HQ2H HQ1H
          obtain ⟨V5, hV5, HBV5, HEV5⟩ := laid_ev w5 #[.int .i64 eo, .int .i64 ec, .string et]
          go_upto_region 12 with (refine wpList_store_row rfl 30 (.tmp 12) (.tmp 74) rfl w5.heap.size #[.int .i64 eo, .int .i64 ec, .string et] rfl rfl 30 #[.int .i64 0, .int .i64 0, .string { data := #[] }] (ev_new w5) HIE rfl (ev_all _ _ _) ?_)
          (try rw [hV5])
          clear hV5
          have HP6 := Sl.mk (HP5.out.below HBV5.out)
          have HQ26 := Sl.mk (below_key HQ25.out HBV5.out)
          clear HP5 HQ25 HBV5
          obtain ⟨a0, a1, a2, a3, a4, a5, a6, a7⟩ := bx8 HQ26.out
          have T2 := take_ex HP6.out.two HG.out fin op true x0 x1 x2 x3 s HSK.out HSZ.out _ rfl st' ev HR2.out eo ec et HEV.out d HD.out (st'.err : Int) rfl
          go_wp2_with fail
          refine T2.mono ?_
          rintro e w7 ⟨v7, p7, rfl, HS7, HX7⟩
          clear T2
          clear a0 a1 a2 a3 a4 a5 a6 a7
          have HP7 := Sl.mk (HP6.out.symm.go HS7.out HX7.out).symm
          have HE7 := Sl.mk (HP.out.two.keeps HL5.out HEV5.out HX7.out)
          clear HS7 HX7 HP6 HQ26 HEV5
          obtain ⟨V7, hV7, HBV7, HEV7⟩ := laid_ev w7 #[.int .i64 eo, .int .i64 ec, .string et]
          go_upto_region 13 with (refine wpList_store_row rfl 30 (.tmp 15) (.tmp 81) rfl w7.heap.size #[.int .i64 eo, .int .i64 ec, .string et] rfl rfl 30 #[.int .i64 0, .int .i64 0, .string { data := #[] }] (ev_new w7) HIE rfl (ev_all _ _ _) ?_)
          (try rw [hV7])
          clear hV7
          have HP8 := Sl.mk (HP7.out.below HBV7.out)
          have HE8 := Sl.mk (below_key HE7.out HBV7.out)
          clear HP7 HE7 HBV7
          obtain ⟨a0, a1, a2⟩ := ev_cells HE8.out
          obtain ⟨b0, b1, c2⟩ := ev_cells HEV7.out
          have P1 := part_any HP8.out.one.m st'.text.length rfl
          have P2 := part_any HP8.out.two.m st'.text.length rfl
          have hll : (((st'.text.length : Nat) : Int) != ((st'.text.length : Nat) : Int)) = false := by simp
          go_wp2_with fail
          refine P1.mono ?_
          rintro e w9 ⟨rfl, rfl⟩
          clear P1
          go_wp2_with fail
          refine P2.mono ?_
          rintro e w10 ⟨rfl, rfl⟩
          clear P2
          go_wp2
          exact ⟨⟨k + 1, _, _, _, _, _, by go_num, by omega, HP8⟩, by simp [intOf]; omega⟩
      · obtain rfl : k = n := by omega
        have hlt : ((k : Int) < (k : Int)) = False := eq_false (by omega)
        have HL : Sl (Below w.heap.size w wr) := ⟨HBK.out.trans (HP.out.one.m.L.mono HBK.out.size)⟩
        have hoo : (st.over == st.over) = true := by simp
        have hee : ((st.err : Int) == (st.err : Int)) = true := by simp
        have O1 := over_any HP.out.one.m
        have O2 := over_any HP.out.two.m
        have E1 := err_any HP.out.one.m
        have E2 := err_any HP.out.two.m
        go_wp2_with fail
        refine O1.mono ?_
        rintro e w5 ⟨rfl, rfl⟩
        clear O1
        go_wp2_with fail
        refine O2.mono ?_
        rintro e w6 ⟨rfl, rfl⟩
        clear O2
        go_wp2_with fail
        refine E1.mono ?_
        rintro e w7 ⟨rfl, rfl⟩
        clear E1
        go_wp2_with fail
        refine E2.mono ?_
        rintro e w8 ⟨rfl, rfl⟩
        clear E2
        go_wp2
        go_ret
        exact ⟨rfl, HL.out⟩
end Go.Proofs.YtpbfabcjkhlanaaDoor.Msg
