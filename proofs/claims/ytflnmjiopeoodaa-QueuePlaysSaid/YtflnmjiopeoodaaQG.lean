/- queue: Peek, Take. -/
import Derived.Test.YtflnmjiopeoodaaQF
set_option maxRecDepth 100000
namespace Go.Proofs.Ytflnmjiopeoodaa.Que
open Go.RowKit Evt QueuePlain
open MsgPlain (Ev)

theorem first_any {w0 W : World} {q : Nat} {v : Value} {count bytes' : Int} {m : Nat} {l : List Ev} (o c : Int) (s : ByteArray) (b : Bool) (h : QuN w0 W q v count bytes' m l) (hl : l.length ≤ 1000000) (hh : evV (hd l) = .agg #[.int .i64 o, .int .i64 c, .string s]) (hb : (!l.isEmpty) = b) :
    Calls Try.prog 23 #[.pointer (some ⟨q, 3, none⟩)] W fun e w' => e = .returned (.tuple #[.agg #[.int .i64 o, .int .i64 c, .string s], .bool b]) ∧ Sl (Below W.heap.size W w') := by
  cases l with
  | nil =>
    have := first_none h
    rw [← hh, ← hb]
    unfold evV hd
    simp only [List.headD_nil, Ev0, str_nil]
    exact this
  | cons x r =>
    have := first_some h (Nat.le_of_succ_le hl)
    rw [← hh, ← hb]
    exact this
theorem hd_size (l : List Ev) : (hd l).data.length ≤ size l := by
  cases l with
  | nil => exact Nat.zero_le _
  | cons e l => rw [size_cons]; exact Nat.le_add_right _ _
theorem tail_size (l : List Ev) : size l.tail = size l - (hd l).data.length := by
  cases l with
  | nil => rfl
  | cons e l => rw [size_cons, Nat.add_comm]; exact (Nat.add_sub_cancel ..).symm
theorem Qu.data {w0 W : World} {q : Nat} {v : Value} {count bytes' : Int} {l : List Ev} (h : Qu w0 W q v count bytes' l) : (hd l).data.length ≤ 1000000 := by
  cases l with
  | nil => exact Nat.zero_le _
  | cons e l => exact h.Z e List.mem_cons_self
theorem evV_str {e : Ev} {o c : Int} {s : ByteArray} (h : evV e = .agg #[.int .i64 o, .int .i64 c, .string s]) : s.size = e.data.length := by
  unfold evV at h
  injection h with h
  injection h with h
  injection h with _ h
  injection h with _ h
  injection h with h _
  injection h with h
  rw [← h, strOf_size]
set_option maxHeartbeats 4000000 in
theorem peek_any {w0 W : World} {q : Nat} {v : Value} {count bytes' : Int} {l : List Ev} (o c : Int) (s : ByteArray) (b : Bool) (h : Qu w0 W q v count bytes' l) (hh : evV (hd l) = .agg #[.int .i64 o, .int .i64 c, .string s]) (hb : (!l.isEmpty) = b) :
    Calls Try.prog 14 #[.pointer (some ⟨q, 0, none⟩)] W fun e w' => e = .returned (.tuple #[.agg #[.int .i64 o, .int .i64 c, .string s], .bool b]) ∧ Sl (Below W.heap.size W w') := by
  have HS : Sl (s.size ≤ 1000000) := ⟨by rw [evV_str hh]; exact h.data⟩
  have HM := Sl.mk h.most
  obtain ⟨wa, hwa, HBa, ha⟩ := box_ev W
  have HA := Sl.mk ha
  have HQa := Sl.mk (h.below HBa.out)
  have F := first_any o c s b HQa.out.N (by have := HM.out; omega) hh hb
  clear h hh hb ha
  go_enter Try.func14, Try.ntmps14
  go_upto_region 1 with fail
  go_wp2_with fail
  refine F.mono ?_
  rintro e w1 ⟨rfl, HB1⟩
  clear F
  have HA1 := Sl.mk (below_key HA.out HB1.out)
  obtain ⟨wb, hwb, HBb, hb1⟩ := box_ev w1
  have HA2 := Sl.mk (below_key HA1.out HBb.out)
  obtain ⟨wc, hwc, HBc, HCc⟩ := set_ev hb1 HBb.out (Nat.le_refl _) #[.int .i64 o, .int .i64 c, .string s]
  have HA3 := Sl.mk (below_key HA1.out HBc.out)
  have HI : (Try.prog.info? 32).map (·.size) = some (#[Value.int .i64 o, .int .i64 c, .string s]).size := ev_info rfl
  go_upto_region 2 with (refine wpList_store_row rfl 32 (.tmp 4) (.tmp 11) rfl w1.heap.size #[.int .i64 o, .int .i64 c, .string s] rfl rfl 32 #[.int .i64 0, .int .i64 0, .string { data := #[] }] hb1 HI rfl (ev_all _ _ _) ?_)
  (try rw [hwc])
  clear hwb hwc hb1 HBb HA2
  have HQc := Sl.mk ((HQa.out.below HB1.out).below HBc.out)
  have HBac : Sl (Below W.heap.size W wc) := ⟨HBa.out.trans ((HB1.out.trans (HBc.out.mono HB1.out.size)).mono HBa.out.size)⟩
  have HLT : Sl (W.heap.size < w1.heap.size) := ⟨(Array.getElem?_eq_some_iff.1 HA1.out).1⟩
  have hc := HCc.out
  obtain ⟨-, -, d2⟩ := ev_cells hc
  have CC := clone_any s wc HS.out
  clear hc
  go_wp2_with fail
  refine CC.mono ?_
  rintro e w2 ⟨rfl, HB2⟩
  clear CC d2
  have hc2 := below_key HCc.out HB2.out
  have fz : w2.frozen? ⟨w1.heap.size, 2, none⟩ = false := frozen_of_row _ _ _ _ _ hc2
  obtain ⟨d0, d1, d2⟩ := ev_cells hc2
  have hw2 : w2.setCell ⟨w1.heap.size, 2, none⟩ (.string s) = w2 := setCell_self hc2 rfl
  go_upto_region 3 with fail
  (try rw [hw2])
  clear hw2 fz
  have hA4 := below_key HA3.out HB2.out
  have HBw2 : Sl (Below W.heap.size W w2) := ⟨HBac.out.trans (HB2.out.mono HBac.out.size)⟩
  obtain ⟨we, hwe, HBe, HCe⟩ := set_ev hA4 HBw2.out (Nat.le_refl _) #[.int .i64 o, .int .i64 c, .string s]
  go_wp2_with (refine wpList_store_row rfl 32 (.tmp 2) (.tmp 17) rfl W.heap.size #[.int .i64 o, .int .i64 c, .string s] rfl rfl 32 #[.int .i64 0, .int .i64 0, .string { data := #[] }] hA4 HI rfl (ev_all _ _ _) ?_)
  (try simp only [Exit.inBlock, Exit.then])
  refine bodyPost_ret (ret_ev rfl _ _ W.heap.size _ rfl HCe.out rfl) rfl ?_
  exact ⟨rfl, HBe⟩
set_option maxHeartbeats 4000000 in
theorem take_any {w0 W : World} {q : Nat} {v : Value} {count bytes' : Int} {l : List Ev} (o c : Int) (s : ByteArray) (b : Bool) (h : Qu w0 W q v count bytes' l) (hh : evV (hd l) = .agg #[.int .i64 o, .int .i64 c, .string s]) (hb : (!l.isEmpty) = b) :
    Calls Try.prog 13 #[.pointer (some ⟨q, 0, none⟩)] W fun e w' => ∃ v', e = .returned (.tuple #[.agg #[.int .i64 o, .int .i64 c, .string s], .bool b]) ∧ Sl (Qu w0 w' q v' count bytes' l.tail) ∧ Sl (Goes W w' q v v') := by
  have HS : Sl (s.size ≤ 1000000) := ⟨by rw [evV_str hh]; exact h.data⟩
  have HM := Sl.mk h.most
  obtain ⟨wa, hwa, HBa, ha⟩ := box_ev W
  have HA := Sl.mk ha
  have HQa := Sl.mk (h.below HBa.out)
  have F := first_any o c s b HQa.out.N (by have := HM.out; omega) hh hb
  have HSS : Sl (s.size ≤ size l ∧ size l.tail = size l - s.size) := ⟨by rw [evV_str hh]; exact ⟨hd_size l, tail_size l⟩⟩
  have HIW : Sl (Within count bytes' l.tail) := ⟨by
    have := h.I
    cases l with
    | nil => exact this
    | cons e l => exact tail_within this⟩
  have HZZ : Sl (∀ e ∈ l.tail, e.data.length ≤ 1000000) := ⟨fun e he => h.Z e (List.mem_of_mem_tail he)⟩
  have HLW : Sl (w0.heap.size ≤ W.heap.size) := ⟨h.N.L.size⟩
  have HC := Sl.mk h.C
  have HD := Sl.mk h.D
  have hqn : Sl (q < W.heap.size) := ⟨h.N.lt⟩
  have hvn : Sl (∀ k, W.heap.size ≤ k → ¬ Mine q v k) := ⟨fun k hk e => Nat.lt_irrefl _ (Nat.lt_of_lt_of_le (h.N.own e).2 hk)⟩
  clear h hh hb ha
  go_enter Try.func13, Try.ntmps13
  go_upto_region 1 with fail
  go_wp2_with fail
  refine F.mono ?_
  rintro e w1 ⟨rfl, HB1⟩
  clear F
  have HA1 := Sl.mk (below_key HA.out HB1.out)
  obtain ⟨wb, hwb, HBb, hb1⟩ := box_ev w1
  have HA2 := Sl.mk (below_key HA1.out HBb.out)
  obtain ⟨wc, hwc, HBc, HCc⟩ := set_ev hb1 HBb.out (Nat.le_refl _) #[.int .i64 o, .int .i64 c, .string s]
  have HA3 := Sl.mk (below_key HA1.out HBc.out)
  have HI : (Try.prog.info? 32).map (·.size) = some (#[Value.int .i64 o, .int .i64 c, .string s]).size := ev_info rfl
  go_upto_region 2 with (refine wpList_store_row rfl 32 (.tmp 4) (.tmp 11) rfl w1.heap.size #[.int .i64 o, .int .i64 c, .string s] rfl rfl 32 #[.int .i64 0, .int .i64 0, .string { data := #[] }] hb1 HI rfl (ev_all _ _ _) ?_)
  (try rw [hwc])
  clear hwb hwc hb1 HBb HA2
  have HQc := Sl.mk ((HQa.out.below HB1.out).below HBc.out)
  have HBac : Sl (Below W.heap.size W wc) := ⟨HBa.out.trans ((HB1.out.trans (HBc.out.mono HB1.out.size)).mono HBa.out.size)⟩
  have HLT : Sl (W.heap.size < w1.heap.size) := ⟨(Array.getElem?_eq_some_iff.1 HA1.out).1⟩
  have LD := ldrop_any HQc.out.N (by have := HM.out; omega)
  go_wp2_with fail
  refine LD.mono ?_
  rintro e w4 ⟨v4, rfl, HQ4, HG4⟩
  clear LD
  have hck : ∀ k, k < wc.heap.size → W.heap.size ≤ k → w4.heap[k]? = wc.heap[k]? := fun k h1 h2 => HG4.out.kept.block k h1 (hvn.out k h2)
  have HC4 : Sl (w4.heap[w1.heap.size]? = some (.cells #[.int .i64 o, .int .i64 c, .string s] 32 (0, 0))) := ⟨by rw [hck _ (Array.getElem?_eq_some_iff.1 HCc.out).1 (Nat.le_of_lt HLT.out)]; exact HCc.out⟩
  have HA4 : Sl (w4.heap[W.heap.size]? = some (.cells #[.int .i64 0, .int .i64 0, .string { data := #[] }] 32 (0, 0))) := ⟨by rw [hck _ (Array.getElem?_eq_some_iff.1 HA3.out).1 (Nat.le_refl _)]; exact HA3.out⟩
  have HG5 := Sl.mk ((Goes.below q v HBac.out).trans HG4.out)
  have hmn : ∀ k, Mine q v4 k → ¬ k = W.heap.size := fun k hk e => by
    rcases HG4.out.mine k hk with h1 | h1
    · exact hvn.out k (Nat.le_of_eq e.symm) h1
    · have := HLT.out; have := HBc.out.size; omega
  have HMN := Sl.mk hmn
  clear hmn
  clear hck HG4 HCc HA3 HQc HBac
  obtain ⟨m, hm⟩ : ∃ m, size l = m := ⟨_, rfl⟩
  rw [hm] at HQ4 HSS HM
  obtain ⟨k, hk⟩ : ∃ k, m - s.size = k := ⟨_, rfl⟩
  rw [hk] at HSS
  have hm1 : m ≤ 4194304 := HM.out.2
  have hm2 : s.size ≤ m := HSS.out.1
  have hwk : IntKind.i64.wrap ((m : Int) - (s.size : Int)) = (k : Int) := by rw [IntKind.wrap_i64]; omega
  have hwr : wrap64 ((m : Int) - (s.size : Int)) = (k : Int) := by unfold wrap64; omega
  have hwk2 : IntKind.i64.wrap (k : Int) = (k : Int) := by rw [IntKind.wrap_i64]; omega
  have hsb : (m : Int) - (s.size : Int) = (k : Int) := by omega
  have hqw := HQ4.out.lt
  have hCa : w1.heap.size < w4.heap.size := (Array.getElem?_eq_some_iff.1 HC4.out).1
  obtain ⟨-, -, c2, -⟩ := HQ4.out.cells
  go_upto_region 3 with fail
  obtain ⟨Rw, hRw⟩ : ∃ R, w4.drew = R := ⟨_, rfl⟩
  have HBR : Below w4.heap.size w4 Rw := by rw [← hRw]; exact (Below.refl _ _).drew
  refine wp_region_noPanic ?_
  refine last_begin (S := fun V => V.cell? ⟨q, 2, none⟩ = some (.int .i64 (m : Int)) ∧ V.heap[w1.heap.size]? = some (.cells #[.int .i64 o, .int .i64 c, .string s] 32 (0, 0))) (D := fun k => k == 10) (by kernel_rfl) ?_
  change wpAnyL _ _ _ _ _ _ _ _ _ w4.drew
  rw [hRw]
  clear hRw
  have HS0 : Rw.cell? ⟨q, 2, none⟩ = some (.int .i64 (m : Int)) ∧ Rw.heap[w1.heap.size]? = some (.cells #[.int .i64 o, .int .i64 c, .string s] 32 (0, 0)) := ⟨(HBR.cell (p := ⟨q, 2, none⟩) hqw).trans c2, (HBR.block _ hCa).trans HC4.out⟩
  refine last_pure (d := some 17) (op := .move (Operand.tmp 0)) (g := none) 0 ?v0 rfl (by kernel_rfl) (by kernel_rfl) (by kernel_rfl) (by kernel_rfl) rfl ?y0 HS0 ?_
  case y0 => intro o' ho W; simp only [execOp, ho]; go_simp; try rfl
  simp only [Act.put, List.setIfInBounds_toArray, List.set_cons_zero, List.set_cons_succ]
  refine last_pure (d := some 18) (op := .nilCheck (Operand.tmp 17)) (g := none) 1 ?v1 rfl (by kernel_rfl) (by kernel_rfl) (by kernel_rfl) (by kernel_rfl) rfl ?y1 HS0 ?_
  case y1 => intro o' ho W; simp only [execOp, ho]; go_simp; try rfl
  simp only [Act.put, List.setIfInBounds_toArray, List.set_cons_zero, List.set_cons_succ]
  refine last_pure (d := some 19) (op := .fieldAddr 56 (Operand.tmp 18) 2) (g := none) 2 ?v2 rfl (by kernel_rfl) (by kernel_rfl) (by kernel_rfl) (by kernel_rfl) rfl ?y2 HS0 ?_
  case y2 => intro o' ho W; simp only [execOp, ho]; go_simp; try rfl
  simp only [Act.put, List.setIfInBounds_toArray, List.set_cons_zero, List.set_cons_succ]
  refine last_take (d := some 20) (op := .load 3 (Operand.tmp 19)) (g := none) 3 ?v3 rfl (by kernel_rfl) (by kernel_rfl) (by kernel_rfl) (by kernel_rfl) (by kernel_rfl) ?y3 HS0 ?_
  case y3 => intro o' ho W hS; have hc := hS.1; simp only [execOp, ho]; go_simp; try rfl
  simp only [Act.put, List.setIfInBounds_toArray, List.set_cons_zero, List.set_cons_succ]
  refine last_pure (d := some 21) (op := .fieldAddr 32 (Operand.tmp 4) 2) (g := none) 4 ?v4 rfl (by kernel_rfl) (by kernel_rfl) (by kernel_rfl) (by kernel_rfl) rfl ?y4 HS0 ?_
  case y4 => intro o' ho W; simp only [execOp, ho]; go_simp; try rfl
  simp only [Act.put, List.setIfInBounds_toArray, List.set_cons_zero, List.set_cons_succ]
  refine last_take (d := some 22) (op := .load 9 (Operand.tmp 21)) (g := none) 5 ?v5 rfl (by kernel_rfl) (by kernel_rfl) (by kernel_rfl) (by kernel_rfl) (by kernel_rfl) ?y5 HS0 ?_
  case y5 => intro o' ho W hS; obtain ⟨-, -, f2⟩ := ev_cells hS.2; simp only [execOp, ho]; go_simp; try rfl
  simp only [Act.put, List.setIfInBounds_toArray, List.set_cons_zero, List.set_cons_succ]
  refine last_pure (d := some 23) (op := .call { callee := Callee.builtin Builtin.len, args := #[Operand.tmp 22], argTypes := #[9] }) (g := none) 6 ?v6 rfl (by kernel_rfl) (by kernel_rfl) (by kernel_rfl) (by kernel_rfl) rfl ?y6 HS0 ?_
  case y6 => intro o' ho W; simp only [execOp, ho]; go_simp; try rfl
  simp only [Act.put, List.setIfInBounds_toArray, List.set_cons_zero, List.set_cons_succ]
  refine last_pure (d := some 24) (op := .binOp BinOp.sub 3 (Operand.tmp 20) (Operand.tmp 23) 3) (g := none) 7 (.int .i64 (k : Int)) rfl (by kernel_rfl) (by kernel_rfl) (by kernel_rfl) (by kernel_rfl) rfl ?y7 HS0 ?_
  case y7 => intro o' ho W; exact by simp only [execOp, ho]; go_simp; first | done | (rw [hwr]; done) | (rw [hwk]; done) | (rw [hsb]; done) | (rw [hsb, hwk2]; done) | (rw [hwk2]; done) | simp [hwr] | rfl
  simp only [Act.put, List.setIfInBounds_toArray, List.set_cons_zero, List.set_cons_succ]
  refine last_pure (d := some 25) (op := .nilCheck (Operand.tmp 17)) (g := none) 8 ?v8 rfl (by kernel_rfl) (by kernel_rfl) (by kernel_rfl) (by kernel_rfl) rfl ?y8 HS0 ?_
  case y8 => intro o' ho W; simp only [execOp, ho]; go_simp; try rfl
  simp only [Act.put, List.setIfInBounds_toArray, List.set_cons_zero, List.set_cons_succ]
  refine last_pure (d := some 26) (op := .fieldAddr 56 (Operand.tmp 25) 2) (g := none) 9 ?v9 rfl (by kernel_rfl) (by kernel_rfl) (by kernel_rfl) (by kernel_rfl) rfl ?y9 HS0 ?_
  case y9 => intro o' ho W; simp only [execOp, ho]; go_simp; try rfl
  simp only [Act.put, List.setIfInBounds_toArray, List.set_cons_zero, List.set_cons_succ]
  have HQR := HQ4.out.below HBR
  obtain ⟨HQ7, HG7⟩ := HQR.resize k
  have hcq : Rw.cell? ⟨q, 2, none⟩ = some (.int .i64 (m : Int)) := HS0.1
  have hfq : Rw.frozen? ⟨q, 2, none⟩ = false := HQR.froz 2
  refine last_store (d := none) (op := .store 3 (Operand.tmp 26) (Operand.tmp 24)) (g := none) (t := 0) 10 (Rw.setCell ⟨q, 2, none⟩ (.int .i64 (k : Int))) rfl (by kernel_rfl) (by kernel_rfl) ?y10 (by kernel_rfl) ?_
  case y10 => intro o' ho ht; simp only [execOp, ho]; go_simp; try rfl
  simp only [Act.put]
  refine last_done (by kernel_rfl) ?_ _
  refine NoPanic.normal ?_
  obtain ⟨w6, hw6⟩ : ∃ V, Rw.setCell ⟨q, 2, none⟩ (.int .i64 (k : Int)) = V := ⟨_, rfl⟩
  rw [hw6] at HQ7 HG7
  (try rw [hw6])
  have HG8 := Sl.mk (HG5.out.trans ((Goes.below q v4 HBR).trans HG7))
  have HQ8 := Sl.mk HQ7
  have g6 : Rw.grownBy w6 (some q) := by rw [← hw6]; exact grown_setCell _ _ _ _
  have hC6 : w6.heap[w1.heap.size]? = some (.cells #[.int .i64 o, .int .i64 c, .string s] 32 (0, 0)) := by rw [g6.block _ (Array.getElem?_eq_some_iff.1 HS0.2).1 (fun e => by injection e with e; have := hqn.out; have := HLT.out; omega)]; exact HS0.2
  have hAR := below_key HA4.out HBR
  have hA6 : w6.heap[W.heap.size]? = some (.cells #[.int .i64 0, .int .i64 0, .string { data := #[] }] 32 (0, 0)) := by rw [g6.block _ (Array.getElem?_eq_some_iff.1 hAR).1 (fun e => by injection e with e; have := hqn.out; omega)]; exact hAR
  obtain ⟨d0, d1, d2⟩ := ev_cells hC6
  have hgs := grown_setRow w6 W.heap.size #[.int .i64 o, .int .i64 c, .string s]
  obtain ⟨we, hwe⟩ : ∃ V, w6.setRow W.heap.size #[.int .i64 o, .int .i64 c, .string s] = V := ⟨_, rfl⟩
  rw [hwe] at hgs
  have HCe : Sl (we.heap[W.heap.size]? = some (.cells #[.int .i64 o, .int .i64 c, .string s] 32 (0, 0))) := ⟨by rw [← hwe]; exact setRow_heap _ _ _ _ _ _ hA6⟩
  have hkp : Kept (fun k => k = W.heap.size) w6 we := Kept.grown hgs (fun k e => by injection e with e; exact e.symm)
  have hL6 : Below w0.heap.size w0 we := hkp.up HQ8.out.L (fun k e => by rw [e]; exact HLW.out) HQ8.out.L.size
  have HQE : Sl (Qu w0 we q v4 count bytes' l.tail) := ⟨⟨by rw [HSS.out.2]; exact HQ8.out.stay hkp HMN.out hL6, HC.out, HD.out, HIW.out, HZZ.out⟩⟩
  have HGE : Sl (Goes W we q v v4) := ⟨⟨HG8.out.kept.trans hkp (fun j hj e => by omega), HG8.out.mine⟩⟩
  clear HQ8 HG8 hL6 hkp hgs g6 hAR HS0 HQ7 HG7 HQR hcq hfq HQ4 HG5 HC4 HA4 c2 HBR hC6
  go_wp2_with (refine wpList_store_row rfl 32 (.tmp 2) (.tmp 27) rfl W.heap.size #[.int .i64 o, .int .i64 c, .string s] rfl rfl 32 #[.int .i64 0, .int .i64 0, .string { data := #[] }] hA6 HI rfl (ev_all _ _ _) ?_)
  (try simp only [Exit.inBlock, Exit.then])
  refine bodyPost_ret (ret_ev rfl _ _ W.heap.size _ rfl HCe.out rfl) rfl ?_
  exact ⟨_, rfl, HQE, HGE⟩
end Go.Proofs.Ytflnmjiopeoodaa.Que
