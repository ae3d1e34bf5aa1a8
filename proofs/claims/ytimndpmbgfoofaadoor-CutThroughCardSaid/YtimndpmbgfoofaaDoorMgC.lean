/- msg: Take. -/
import Derived.Test.YtimndpmbgfoofaaDoorMgB
import Derived.Laws.StructEq
set_option maxRecDepth 100000
namespace Go.Proofs.YtimndpmbgfoofaaDoor.Msg
open Go.RowKit UtfPlain MsgPlain Fra Utf Cls
open FramePlain (Fr form chk ctl zero4 form_cases)
open ClosePlain (getC)

/-- What Take answers, as a value. -/
def tookV (r : Ms × Option Ev) : Value := .tuple #[evO r.2, .bool r.2.isSome, .int .i64 (r.1.err : Int)]
theorem ret_took {fn : Func} {p u x : Tmp} (h : fn.results = #[.cell p 57, .tmp u, .tmp x]) (tmps : Array Value) (w : World) (g : Nat) (t : TypeId) (cs : Array Value) (fr : Nat × Nat)
    (hp : tmps.getD p undef = .pointer (some ⟨g, 0, none⟩)) (hg : w.heap[g]? = some (.cells cs t fr)) (hs : cs.size = 3) :
    (results fn tmps).run Tryd.prog w = .ok (.tuple #[.agg cs, tmps.getD u undef, tmps.getD x undef]) w := by
  have hi : (Tryd.prog.info? 57).map (·.size) = some cs.size := ev_info hs
  have hp' : tmps[p]?.getD undef = .pointer (some ⟨g, 0, none⟩) := by simpa using hp
  simp only [results, h]
  simp [Result.andThen, hp', asAddr, run_loadVar_row (P := Tryd.prog) w g t 57 cs fr _ hg Tryd.underlying57 rfl hi]
theorem ev_eta (cs : Array Value) (op code : Int) (s : ByteArray) (h : cs = #[.int .i64 op, .int .i64 code, .string s]) : cs.size = 3 := by rw [h]; rfl
theorem tell_no (n : FuncId) (cs : Array Value) (V : World) : (binOp BinOp.eql 91 (Value.func (Fn.func n) #[] cs) Value.nilFunc).run Tryd.prog V = .ok (.bool false) V := by kernel_rfl
theorem tell_yes (V : World) : (binOp BinOp.eql 91 Value.nilFunc Value.nilFunc).run Tryd.prog V = .ok (.bool true) V := by kernel_rfl
/-- What is told is laid in a block beside the machine. -/
theorem took_on {w0 W w3 : World} {b q : Nat} {most op : Int} {text : List Nat} {o : Option St} {err : Nat} {over : Bool} {v p v' p' : Value} {t : TypeId} {old : Array Value} (hm : Mac w0 w3 b most op text o err over v' p') (hg : Goes W w3 b v p v' p') (_ : w3.heap[q]? = some (.cells old t (0, 0))) (hn : ∀ k, Mine b v' p' k → k ≠ q) (hl : W.heap.size ≤ q) (h0 : w0.heap.size ≤ W.heap.size) (cs : Array Value) :
    Mac w0 (w3.setRow q cs) b most op text o err over v' p' ∧ Goes W (w3.setRow q cs) b v p v' p' := by
  have hk : Kept (fun k => k = q) w3 (w3.setRow q cs) := .grown (grown_setRow w3 q cs) (fun k hk => by injection hk with hk; exact hk.symm)
  refine ⟨hm.stay hk hn ?_, ⟨hg.kept.trans hk (fun j hj e => ?_), hg.mine⟩⟩
  · refine below_setRow hm.L ?_ _
    omega
  · omega
section
variable {w0 W : World} {b : Nat} {most : Int} {st : Ms} {v p : Value}
set_option maxHeartbeats 2000000 in
theorem take_any (h : MacS w0 W b most st v p) (hg : Utf.Globs w0) (fin : Bool) (op : Int) (m : Bool) (ka kb kc kd : Nat) (s : ByteArray) (hk : Small 256 [ka, kb, kc, kd]) (hs : s.size ≤ 100000) :
    Calls Tryd.prog 25 #[.pointer (some ⟨b, 0, none⟩), (.agg #[.bool fin, .int .i64 op, .bool m, .int .u8 ((ka : Nat) : Int), .int .u8 ((kb : Nat) : Int), .int .u8 ((kc : Nat) : Int), .int .u8 ((kd : Nat) : Int), .string s])] W fun e w' => ∃ v' p', e = .returned (tookV (MsgPlain.take most st (⟨fin, op, m, [ka, kb, kc, kd], bytes s⟩ : Fr))) ∧
      Sl (MacS w0 w' b most (MsgPlain.take most st (⟨fin, op, m, [ka, kb, kc, kd], bytes s⟩ : Fr)).1 v' p') ∧ Sl (Goes W w' b v p v' p') := by
  obtain ⟨r, hr⟩ : ∃ r, MsgPlain.take most st (⟨fin, op, m, [ka, kb, kc, kd], bytes s⟩ : Fr) = r := ⟨_, rfl⟩
  have HFit : Sl (Fit most r.1) := ⟨by rw [← hr]; exact fit_take (by have := h.lo; omega) h.f (bytes_small s)⟩
  rw [hr]
  obtain ⟨W1, hW1⟩ : ∃ V, W.alloc (.cells #[.bool fin, .int .i64 op, .bool m, .int .u8 ((ka : Nat) : Int), .int .u8 ((kb : Nat) : Int), .int .u8 ((kc : Nat) : Int), .int .u8 ((kd : Nat) : Int), .string s] 44) = V := ⟨_, rfl⟩
  obtain ⟨W2, hW2⟩ : ∃ V, W1.alloc (.cells #[.int .i64 0, .int .i64 0, .string { data := #[] }] 57) = V := ⟨_, rfl⟩
  obtain ⟨g, hgs⟩ : ∃ g, W.heap.size = g := ⟨_, rfl⟩
  obtain ⟨q, hqs⟩ : ∃ q, W1.heap.size = q := ⟨_, rfl⟩
  have hq1 : q = g + 1 := by rw [← hqs, ← hW1, alloc_size, hgs]
  have HF1 : W1.heap[g]? = some (.cells #[.bool fin, .int .i64 op, .bool m, .int .u8 ((ka : Nat) : Int), .int .u8 ((kb : Nat) : Int), .int .u8 ((kc : Nat) : Int), .int .u8 ((kd : Nat) : Int), .string s] 44 (0, 0)) := by rw [← hW1]; exact alloc_new _ _ _ hgs.symm
  have HB1 : Below W.heap.size W W1 := by rw [← hW1]; exact (Below.refl _ _).alloc (Nat.le_refl _) _
  have HB2 : Below W1.heap.size W1 W2 := by rw [← hW2]; exact (Below.refl _ _).alloc (Nat.le_refl _) _
  have HF2 : Sl (W2.heap[g]? = some (.cells #[.bool fin, .int .i64 op, .bool m, .int .u8 ((ka : Nat) : Int), .int .u8 ((kb : Nat) : Int), .int .u8 ((kc : Nat) : Int), .int .u8 ((kd : Nat) : Int), .string s] 44 (0, 0))) := ⟨below_key HF1 HB2⟩
  have HQ2 : Sl (W2.heap[q]? = some (.cells #[.int .i64 0, .int .i64 0, .string { data := #[] }] 57 (0, 0))) := ⟨by rw [← hW2]; exact alloc_new _ _ _ hqs.symm⟩
  have HB : Sl (Below W.heap.size W W2) := ⟨HB1.trans (HB2.mono HB1.size)⟩
  have HNG : Sl (∀ k, Mine b v p k → k < g) := ⟨fun k hk => by rw [← hgs]; exact (h.m.own hk).2⟩
  have HM2 := Sl.mk (h.below HB.out)
  have HM0 := Sl.mk h
  have HQL : Sl (W.heap.size ≤ q ∧ q < W2.heap.size ∧ W.heap.size = g) := ⟨by rw [hgs]; omega, (Array.getElem?_eq_some_iff.1 HQ2.out).1, hgs⟩
  have HI := ev_info (cs := #[.int .i64 0, .int .i64 0, .string { data := #[] }]) rfl
  have HG := Sl.mk hg
  have HS := Sl.mk hs
  have HR := Sl.mk hr
  have HK := Sl.mk hk
  obtain ⟨_, _, _, _, e4, e5⟩ := HM2.out.m.cells
  clear hr hg hs hk h hq1 HF1 HB1 HB2
  by_cases hstop : st.err ≠ 0 ∨ st.over = true
  · have HES : Sl (r = (st, none)) := ⟨by rw [← HR.out]; exact take_stop most hstop _⟩
    by_cases he : st.err = 0
    · have hov : st.over = true := by
        rcases hstop with h | h
        · exact absurd he h
        · exact h
      have HE := Sl.mk he
      rw [he] at e4
      rw [hov] at e5
      clear hstop he hov
      have HXM := HM2.out.m.X
      go_enter Tryd.func25, Tryd.ntmps25
      go_upto_region 2 with fail
      obtain ⟨Rw, hRw⟩ : ∃ R, W2.drew = R := ⟨_, rfl⟩
      have HBR : Below W2.heap.size W2 Rw := by rw [← hRw]; exact (Below.refl _ _).drew
      refine wp_region_noPanic ?_
      refine wp_region_held (S := fun V => V.cell? ⟨b, 4, none⟩ = some (.int .i64 ((0 : Nat) : Int))) (by kernel_rfl) ?_
      change wpAnyH _ _ _ _ _ _ _ _ W2.drew
      rw [hRw]
      clear hRw
      have HS0 : Rw.cell? ⟨b, 4, none⟩ = some (.int .i64 ((0 : Nat) : Int)) := (HBR.cell (p := ⟨b, 4, none⟩) HM2.out.m.lt).trans e4
      have HQR := below_key HQ2.out HBR
      refine heldTake (d := some 20) (op := .build 57 #[]) (g := none) 0 ?v0s rfl (by kernel_rfl) (by kernel_rfl) (by kernel_rfl) (by kernel_rfl) ?y0s HS0 ?_
      case y0s => intro o' ho W hS; simp only [execOp, ho]; go_simp; try rfl
      simp only [Act.put, List.setIfInBounds_toArray, List.set_cons_zero, List.set_cons_succ]
      refine heldTake (d := some 21) (op := .move (Operand.tmp 0)) (g := none) 1 ?v1s rfl (by kernel_rfl) (by kernel_rfl) (by kernel_rfl) (by kernel_rfl) ?y1s HS0 ?_
      case y1s => intro o' ho W hS; simp only [execOp, ho]; go_simp; try rfl
      simp only [Act.put, List.setIfInBounds_toArray, List.set_cons_zero, List.set_cons_succ]
      refine heldTake (d := some 22) (op := .nilCheck (Operand.tmp 21)) (g := none) 2 ?v2s rfl (by kernel_rfl) (by kernel_rfl) (by kernel_rfl) (by kernel_rfl) ?y2s HS0 ?_
      case y2s => intro o' ho W hS; simp only [execOp, ho]; go_simp; try rfl
      simp only [Act.put, List.setIfInBounds_toArray, List.set_cons_zero, List.set_cons_succ]
      refine heldTake (d := some 23) (op := .fieldAddr 85 (Operand.tmp 22) 2) (g := none) 3 ?v3s rfl (by kernel_rfl) (by kernel_rfl) (by kernel_rfl) (by kernel_rfl) ?y3s HS0 ?_
      case y3s => intro o' ho W hS; simp only [execOp, ho]; go_simp; try rfl
      simp only [Act.put, List.setIfInBounds_toArray, List.set_cons_zero, List.set_cons_succ]
      refine heldTake (d := some 24) (op := .load 24 (Operand.tmp 23)) (g := none) 4 ?v4s rfl (by kernel_rfl) (by kernel_rfl) (by kernel_rfl) (by kernel_rfl) ?y4s HS0 ?_
      case y4s => intro o' ho W hS; have hc := hS; simp only [execOp, ho]; go_simp; try rfl
      simp only [Act.put, List.setIfInBounds_toArray, List.set_cons_zero, List.set_cons_succ]
      obtain ⟨w3, hw3⟩ : ∃ V, Rw.setRow q #[.int .i64 0, .int .i64 0, .string { data := #[] }] = V := ⟨_, rfl⟩
      have HQ3 : Sl (w3.heap[q]? = some (.cells #[.int .i64 0, .int .i64 0, .string { data := #[] }] 57 (0, 0))) := ⟨by rw [← hw3]; exact setRow_heap _ _ _ _ _ _ HQR⟩
      have hbq : b ≠ q := by have h1 := HNG.out b (.inl rfl); have h2 := HQL.out; omega
      have HS3 : w3.cell? ⟨b, 4, none⟩ = some (.int .i64 ((0 : Nat) : Int)) := by rw [World.cell?_of_block (w := Rw) (a := ⟨b, 4, none⟩) (by rw [← hw3]; exact setRow_other _ _ _ _ hbq)]; exact HS0
      have hb3 : Sl (Below W.heap.size W w3) := ⟨by rw [← hw3]; exact below_setRow (HB.out.trans (HBR.mono HB.out.size)) HQL.out.1 _⟩
      refine heldStore (d := none) (op := .store 57 (Operand.tmp 4) (Operand.tmp 20)) (g := none) (t := 0) 5 w3 rfl (by kernel_rfl) (by kernel_rfl) ?y5s HS3 ?_
      case y5s => intro o' ho ht; rw [← hw3]; exact store_ev ho (by rfl) (by rfl) HQR rfl HI (ev_all _ _ _)
      simp only [Act.put]
      refine heldTake (d := some 5) (op := .assign (Operand.const (Value.bool false))) (g := none) 6 ?v6s rfl (by kernel_rfl) (by kernel_rfl) (by kernel_rfl) (by kernel_rfl) ?y6s HS3 ?_
      case y6s => intro o' ho W hS; simp only [execOp, ho]; go_simp; try rfl
      simp only [Act.put, List.setIfInBounds_toArray, List.set_cons_zero, List.set_cons_succ]
      refine heldTake (d := some 6) (op := .assign (Operand.tmp 24)) (g := none) 7 ?v7s rfl (by kernel_rfl) (by kernel_rfl) (by kernel_rfl) (by kernel_rfl) ?y7s HS3 ?_
      case y7s => intro o' ho W hS; simp only [execOp, ho]; go_simp; try rfl
      simp only [Act.put, List.setIfInBounds_toArray, List.set_cons_zero, List.set_cons_succ]
      refine wpAnyH_done (by kernel_rfl) ?_ _
      refine NoPanic.normal ?_
      clear HS0 HS3 HQR hw3 hbq HBR HXM
      go_wp2
      refine bodyPost_ret (ret_took rfl _ _ q 57 _ (0, 0) rfl HQ3.out rfl) rfl ?_
      have HE2 := HES.out
      subst HE2
      exact ⟨v, p, by unfold tookV; rw [HE.out]; rfl, ⟨HM0.out.below hb3.out⟩, ⟨Goes.below b v p hb3.out⟩⟩
    · have hq : ((st.err : Int) != 0) = true := by simpa using he
      clear hstop he
      have HXM := HM2.out.m.X
      go_enter Tryd.func25, Tryd.ntmps25
      go_upto_region 2 with fail
      obtain ⟨Rw, hRw⟩ : ∃ R, W2.drew = R := ⟨_, rfl⟩
      have HBR : Below W2.heap.size W2 Rw := by rw [← hRw]; exact (Below.refl _ _).drew
      refine wp_region_noPanic ?_
      refine wp_region_held (S := fun V => V.cell? ⟨b, 4, none⟩ = some (.int .i64 (st.err : Int))) (by kernel_rfl) ?_
      change wpAnyH _ _ _ _ _ _ _ _ W2.drew
      rw [hRw]
      clear hRw
      have HS0 : Rw.cell? ⟨b, 4, none⟩ = some (.int .i64 (st.err : Int)) := (HBR.cell (p := ⟨b, 4, none⟩) HM2.out.m.lt).trans e4
      have HQR := below_key HQ2.out HBR
      refine heldTake (d := some 20) (op := .build 57 #[]) (g := none) 0 ?v0t rfl (by kernel_rfl) (by kernel_rfl) (by kernel_rfl) (by kernel_rfl) ?y0t HS0 ?_
      case y0t => intro o' ho W hS; simp only [execOp, ho]; go_simp; try rfl
      simp only [Act.put, List.setIfInBounds_toArray, List.set_cons_zero, List.set_cons_succ]
      refine heldTake (d := some 21) (op := .move (Operand.tmp 0)) (g := none) 1 ?v1t rfl (by kernel_rfl) (by kernel_rfl) (by kernel_rfl) (by kernel_rfl) ?y1t HS0 ?_
      case y1t => intro o' ho W hS; simp only [execOp, ho]; go_simp; try rfl
      simp only [Act.put, List.setIfInBounds_toArray, List.set_cons_zero, List.set_cons_succ]
      refine heldTake (d := some 22) (op := .nilCheck (Operand.tmp 21)) (g := none) 2 ?v2t rfl (by kernel_rfl) (by kernel_rfl) (by kernel_rfl) (by kernel_rfl) ?y2t HS0 ?_
      case y2t => intro o' ho W hS; simp only [execOp, ho]; go_simp; try rfl
      simp only [Act.put, List.setIfInBounds_toArray, List.set_cons_zero, List.set_cons_succ]
      refine heldTake (d := some 23) (op := .fieldAddr 85 (Operand.tmp 22) 2) (g := none) 3 ?v3t rfl (by kernel_rfl) (by kernel_rfl) (by kernel_rfl) (by kernel_rfl) ?y3t HS0 ?_
      case y3t => intro o' ho W hS; simp only [execOp, ho]; go_simp; try rfl
      simp only [Act.put, List.setIfInBounds_toArray, List.set_cons_zero, List.set_cons_succ]
      refine heldTake (d := some 24) (op := .load 24 (Operand.tmp 23)) (g := none) 4 ?v4t rfl (by kernel_rfl) (by kernel_rfl) (by kernel_rfl) (by kernel_rfl) ?y4t HS0 ?_
      case y4t => intro o' ho W hS; have hc := hS; simp only [execOp, ho]; go_simp; try rfl
      simp only [Act.put, List.setIfInBounds_toArray, List.set_cons_zero, List.set_cons_succ]
      obtain ⟨w3, hw3⟩ : ∃ V, Rw.setRow q #[.int .i64 0, .int .i64 0, .string { data := #[] }] = V := ⟨_, rfl⟩
      have HQ3 : Sl (w3.heap[q]? = some (.cells #[.int .i64 0, .int .i64 0, .string { data := #[] }] 57 (0, 0))) := ⟨by rw [← hw3]; exact setRow_heap _ _ _ _ _ _ HQR⟩
      have hbq : b ≠ q := by have h1 := HNG.out b (.inl rfl); have h2 := HQL.out; omega
      have HS3 : w3.cell? ⟨b, 4, none⟩ = some (.int .i64 (st.err : Int)) := by rw [World.cell?_of_block (w := Rw) (a := ⟨b, 4, none⟩) (by rw [← hw3]; exact setRow_other _ _ _ _ hbq)]; exact HS0
      have hb3 : Sl (Below W.heap.size W w3) := ⟨by rw [← hw3]; exact below_setRow (HB.out.trans (HBR.mono HB.out.size)) HQL.out.1 _⟩
      refine heldStore (d := none) (op := .store 57 (Operand.tmp 4) (Operand.tmp 20)) (g := none) (t := 0) 5 w3 rfl (by kernel_rfl) (by kernel_rfl) ?y5t HS3 ?_
      case y5t => intro o' ho ht; rw [← hw3]; exact store_ev ho (by rfl) (by rfl) HQR rfl HI (ev_all _ _ _)
      simp only [Act.put]
      refine heldTake (d := some 5) (op := .assign (Operand.const (Value.bool false))) (g := none) 6 ?v6t rfl (by kernel_rfl) (by kernel_rfl) (by kernel_rfl) (by kernel_rfl) ?y6t HS3 ?_
      case y6t => intro o' ho W hS; simp only [execOp, ho]; go_simp; try rfl
      simp only [Act.put, List.setIfInBounds_toArray, List.set_cons_zero, List.set_cons_succ]
      refine heldTake (d := some 6) (op := .assign (Operand.tmp 24)) (g := none) 7 ?v7t rfl (by kernel_rfl) (by kernel_rfl) (by kernel_rfl) (by kernel_rfl) ?y7t HS3 ?_
      case y7t => intro o' ho W hS; simp only [execOp, ho]; go_simp; try rfl
      simp only [Act.put, List.setIfInBounds_toArray, List.set_cons_zero, List.set_cons_succ]
      refine wpAnyH_done (by kernel_rfl) ?_ _
      refine NoPanic.normal ?_
      clear HS0 HS3 HQR hw3 hbq HBR HXM
      go_wp2
      refine bodyPost_ret (ret_took rfl _ _ q 57 _ (0, 0) rfl HQ3.out rfl) rfl ?_
      have HE2 := HES.out
      subst HE2
      exact ⟨v, p, rfl, ⟨HM0.out.below hb3.out⟩, ⟨Goes.below b v p hb3.out⟩⟩
  · have he : st.err = 0 := by
      by_cases h : st.err = 0
      · exact h
      · exact absurd (.inl h) hstop
    have hov : st.over = false := by
      cases h : st.over with
      | true => exact absurd (.inr h) hstop
      | false => rfl
    have HST : Sl (MsgPlain.step most st (⟨fin, op, m, [ka, kb, kc, kd], bytes s⟩ : Fr) = r) := ⟨by rw [← HR.out, take_go most he hov]⟩
    have CR := read_any HM2.out he hov HG.out fin op m ka kb kc kd s HK.out HS.out
    rw [HST.out] at CR
    have HERR : Sl (r.1.err ≠ 0 → r.2 = none) := ⟨fun hne => by
      by_cases h : r.2 = none
      · exact h
      · have h2 := step_err (most := most) (f := (⟨fin, op, m, [ka, kb, kc, kd], bytes s⟩ : Fr)) he (by rw [HST.out]; exact h)
        rw [HST.out] at h2
        exact absurd h2 hne⟩
    rw [he] at e4
    rw [hov] at e5
    obtain ⟨g0, g1, g2, g3, g4, g5, g6, g7⟩ := bx8 HF2.out
    clear hstop he hov
    go_enter Tryd.func25, Tryd.ntmps25
    go_wp2_with fail
    refine CR.mono ?_
    rintro e w3 ⟨v', p', tv, rfl, HWT⟩
    clear CR g0 g1 g2 g3 g4 g5 g6 g7
    have HQ3 : Sl (w3.heap[q]? = some (.cells #[.int .i64 0, .int .i64 0, .string { data := #[] }] 57 (0, 0))) := ⟨by
      rw [HWT.out.goes.kept.block q HQL.out.2.1 (fun e => by have h1 := HNG.out q e; have h2 := HQL.out; omega)]
      exact HQ2.out⟩
    have HGW : Sl (Goes W w3 b v p v' p') := ⟨(Goes.below b v p HB.out).trans HWT.out.goes⟩
    have HQN : Sl (∀ k, Mine b v' p' k → k ≠ q) := ⟨fun k hk e => by
      subst e
      have h2 := HQL.out
      rcases HWT.out.goes.mine k hk with h | h
      · have := HNG.out k h; omega
      · omega⟩
    by_cases hz : r.1.err = 0
    · obtain ⟨op', text', o', hm, heq⟩ := HWT.out.mac
      obtain ⟨q1, q2, q3⟩ := heq hz
      subst q1 q2 q3
      have HMM := Sl.mk hm
      have ht := HWT.out.tell hz
      have HZ := Sl.mk hz
      clear hm heq
      cases hev : r.2 with
      | none =>
        rw [hev] at ht
        have ht' : tv = .nilFunc := ht
        subst ht'
        have HEV := Sl.mk hev
        rw [hz]
        clear hev ht hz e4 e5
        have hny := tell_yes
        go_wp2_with (refine wpList_store_row rfl 57 (.tmp 4) (.tmp 45) rfl q #[.int .i64 0, .int .i64 0, .string { data := #[] }] rfl rfl 57 #[.int .i64 0, .int .i64 0, .string { data := #[] }] HQ3.out HI rfl (ev_all _ _ _) ?_)
        refine bodyPost_ret (ret_took rfl _ _ q 57 _ (0, 0) rfl (setRow_heap _ _ _ _ _ _ HQ3.out) rfl) rfl ?_
        have hE := HEV.out
        obtain ⟨r1, r2⟩ := r
        simp only at hE
        subst hE
        have hz := HZ.out
        simp only at hz
        obtain ⟨hm4, hg4⟩ := took_on HMM.out HGW.out HQ3.out HQN.out HQL.out.1 HM0.out.m.L.size #[.int .i64 0, .int .i64 0, .string { data := #[] }]
        exact ⟨v', p', by unfold tookV; rw [hz]; rfl, ⟨⟨by rw [hz]; exact hm4, HFit.out, HM0.out.lo, HM0.out.hi⟩⟩, ⟨hg4⟩⟩
      | some x =>
        rw [hev] at ht
        obtain ⟨n, cs, ht1, hen, hca⟩ := ht
        subst ht1
        have HEV := Sl.mk hev
        rw [hz]
        clear hev hz e4 e5
        have hnf := tell_no n cs
        go_wp2_with fail
        refine hca.mono ?_
        rintro e w4 ⟨rfl, HB4⟩
        have HQ4 : Sl (w4.heap[q]? = some (.cells #[.int .i64 0, .int .i64 0, .string { data := #[] }] 57 (0, 0))) := ⟨below_key HQ3.out HB4.out⟩
        have HIX := ev_info (cs := evC x.op x.code (strOf x.data)) rfl
        clear hca hen hnf HI
        go_wp2_with (refine wpList_store_row rfl 57 (.tmp 4) (.tmp 47) rfl q (evC x.op x.code (strOf x.data)) rfl rfl 57 #[.int .i64 0, .int .i64 0, .string { data := #[] }] HQ4.out HIX rfl (ev_all _ _ _) ?_)
        refine bodyPost_ret (ret_took rfl _ _ q 57 _ (0, 0) rfl (setRow_heap _ _ _ _ _ _ HQ4.out) rfl) rfl ?_
        have hE := HEV.out
        obtain ⟨r1, r2⟩ := r
        simp only at hE
        subst hE
        have hz := HZ.out
        simp only at hz
        obtain ⟨hm4, hg4⟩ := took_on (HMM.out.below HB4.out) (HGW.out.trans (Goes.below b _ _ HB4.out)) HQ4.out HQN.out HQL.out.1 HM0.out.m.L.size (evC x.op x.code (strOf x.data))
        exact ⟨v', p', by unfold tookV; rw [hz]; rfl, ⟨⟨by rw [hz]; exact hm4, HFit.out, HM0.out.lo, HM0.out.hi⟩⟩, ⟨hg4⟩⟩
    · have hzq : ((r.1.err : Int) != 0) = true := by simpa using hz
      obtain ⟨op', text', o', hm, _⟩ := HWT.out.mac
      have hov : r.1.over = false := by rw [HFit.out.err hz]; rfl
      rw [hov] at hm
      have HMM := Sl.mk hm
      obtain ⟨_, d1, d2, d3, d4, _⟩ := hm.cells
      have f1 := hm.froz 1
      have f2 := hm.froz 2
      have f3 := hm.froz 3
      have f4 := hm.froz 4
      have HZ := Sl.mk hz
      have hX : (w3.setCell ⟨b, 4, none⟩ (.int .i64 (r.1.err : Int))).heap[b]? = some (.cells #[.int .i64 most, .int .i64 op', v', p', .int .i64 (r.1.err : Int), .bool false] 85 (0, 0)) := by
        rw [heap_setCell_same _ _ _ _ _ _ hm.X]; rfl
      obtain ⟨hm4, hg4, hr4⟩ := wiped hm (grown_setCell _ _ _ _) hX
      obtain ⟨w4, hw4⟩ : ∃ V, (((w3.setCell ⟨b, 4, none⟩ (.int .i64 (r.1.err : Int))).setCell ⟨b, 1, none⟩ (.int .i64 0)).setCell ⟨b, 2, none⟩ (.slice none 0 0)).setCell ⟨b, 3, none⟩ (.pointer none) = V := ⟨_, rfl⟩
      rw [hw4] at hm4 hg4 hr4
      have hbq : b ≠ q := by have h1 := HNG.out b (.inl rfl); have h2 := HQL.out; omega
      have HQ4 : Sl (w4.heap[q]? = some (.cells #[.int .i64 0, .int .i64 0, .string { data := #[] }] 57 (0, 0))) := ⟨by rw [hr4.block q (Array.getElem?_eq_some_iff.1 HQ3.out).1 (fun e => hbq (by injection e with e; exact e.symm))]; exact HQ3.out⟩
      have HM4 := Sl.mk hm4
      have HG4 := Sl.mk (HGW.out.trans hg4)
      clear hm hov hz hX hm4 hg4 hr4 hbq e4 e5
      go_upto_region 6 with fail
      clear hw4 d1 d2 d3 d4 f1 f2 f3 f4
      go_wp2_with (refine wpList_store_row rfl 57 (.tmp 4) (.tmp 41) rfl q #[.int .i64 0, .int .i64 0, .string { data := #[] }] rfl rfl 57 #[.int .i64 0, .int .i64 0, .string { data := #[] }] HQ4.out HI rfl (ev_all _ _ _) ?_)
      refine bodyPost_ret (ret_took rfl _ _ q 57 _ (0, 0) rfl (setRow_heap _ _ _ _ _ _ HQ4.out) rfl) rfl ?_
      have hz := HZ.out
      have hE := HERR.out hz
      have hb := HFit.out.err hz
      obtain ⟨r1, r2⟩ := r
      simp only at hE hb hz
      subst hE
      obtain ⟨hm5, hg5⟩ := took_on HM4.out HG4.out HQ4.out (fun k hk e => by have := mine_zero hk; have h1 := HNG.out b (.inl rfl); have h2 := HQL.out; omega) HQL.out.1 HM0.out.m.L.size #[.int .i64 0, .int .i64 0, .string { data := #[] }]
      refine ⟨_, _, rfl, ⟨⟨?_, HFit.out, HM0.out.lo, HM0.out.hi⟩⟩, ⟨hg5⟩⟩
      rw [hb]
      exact hm5
end
end Go.Proofs.YtimndpmbgfoofaaDoor.Msg
/- msg: Take in the form in which it is used; events compared, laid in a block; awake. -/
set_option maxRecDepth 100000
namespace Go.Proofs.YtimndpmbgfoofaaDoor.Msg
open Go.RowKit UtfPlain MsgPlain Fra Utf Cls
open FramePlain (Fr form chk ctl zero4 form_cases)
open ClosePlain (getC)

theorem evO_some (o c : Int) (s : ByteArray) : evO (some ⟨o, c, bytes s⟩) = .agg #[.int .i64 o, .int .i64 c, .string s] := by
  show Value.agg (evC o c (strOf (bytes s))) = _
  rw [strOf_bytes]; rfl
theorem evO_any (x : Option Ev) : ∃ o c t, evO x = .agg #[.int .i64 o, .int .i64 c, .string t] := by
  cases x with
  | none => exact ⟨_, _, _, rfl⟩
  | some e => exact ⟨_, _, _, rfl⟩
/-- Events are compared part by part. -/
theorem eq_ev (o c : Int) (s : ByteArray) (o' c' : Int) (s' : ByteArray) (W : World) : (Op.equalIn 10000 57 (.agg #[.int .i64 o, .int .i64 c, .string s]) (.agg #[.int .i64 o', .int .i64 c', .string s'])).run Tryd.prog W = .ok ((o == o') && ((c == c') && (s.toList == s'.toList))) W := by
  have hp : Tryd.prog.stoodInHeld 57 = false := by kernel_rfl
  have hu : Tryd.prog.underlying 57 = some (.struct (Tryd.prog.fieldsOf 57)) := by kernel_rfl
  have hf : (Tryd.prog.fieldsOf 57).toList = [⟨"Op", 3, 0, false, "", "", 0⟩, ⟨"Code", 3, 1, false, "", "", 8⟩, ⟨"Data", 9, 2, false, "", "", 16⟩] := by kernel_rfl
  rw [run_equalIn_struct W 9999 57 _ _ hu hp, hf]
  have e3 : ∀ (p q : Int) (w : World), (Op.equalIn 9999 3 (.int .i64 p) (.int .i64 q)).run Tryd.prog w = .ok (p == q) w := fun p q w => run_equalIn_int w 9998 3 .i64 .i64 p q Tryd.underlying3
  have e9 : ∀ (p q : ByteArray) (w : World), (Op.equalIn 9999 9 (.string p) (.string q)).run Tryd.prog w = .ok (p.toList == q.toList) w := fun p q w => run_equalIn_string w 9998 9 p q Tryd.underlying9
  have p0 : ∀ (o c : Int) (s : ByteArray) (w : World), (part 3 #[.int .i64 o, .int .i64 c, .string s] 0).run Tryd.prog w = .ok (.int .i64 o) w := fun o c s w => by kernel_rfl
  have p1 : ∀ (o c : Int) (s : ByteArray) (w : World), (part 3 #[.int .i64 o, .int .i64 c, .string s] 1).run Tryd.prog w = .ok (.int .i64 c) w := fun o c s w => by kernel_rfl
  have p2 : ∀ (o c : Int) (s : ByteArray) (w : World), (part 9 #[.int .i64 o, .int .i64 c, .string s] 2).run Tryd.prog w = .ok (.string s) w := fun o c s w => by kernel_rfl
  have n0 : ("Op" ≠ "_") = True := eq_true (by decide)
  have n1 : ("Code" ≠ "_") = True := eq_true (by decide)
  have n2 : ("Data" ≠ "_") = True := eq_true (by decide)
  cases h0 : (o == o') <;> cases h1 : (c == c') <;> cases h2 : (s.toList == s'.toList) <;>
    simp only [Op.eqFields, n0, n1, n2, if_true, Sem.run_bind, Sem.run_pure, Sem.run_ite, p0, p1, p2, e3, e9, h0, h1, h2, Result.andThen_ok, Bool.not_true, Bool.not_false, Bool.false_eq_true, if_false, Bool.true_and, Bool.false_and, Bool.and_true]
theorem ev_same (o c : Int) (s : ByteArray) (W : World) : (Op.equalIn 10000 57 (.agg #[.int .i64 o, .int .i64 c, .string s]) (.agg #[.int .i64 o, .int .i64 c, .string s])).run Tryd.prog W = .ok true W :=
  (eq_ev o c s o c s W).trans (congrArg (fun b => Result.ok b W) (by simp))
/-- An event is laid in a new block. -/
theorem laid_ev (W : World) (cs : Array Value) : ∃ V, (W.alloc (.cells #[.int .i64 0, .int .i64 0, .string { data := #[] }] 57)).setRow W.heap.size cs = V ∧ Sl (Below W.heap.size W V) ∧ Sl (V.heap[W.heap.size]? = some (.cells cs 57 (0, 0))) :=
  ⟨_, rfl, ⟨below_setRow ((Below.refl _ _).alloc (Nat.le_refl _) _) (Nat.le_refl _) _⟩, ⟨setRow_heap _ _ _ _ _ _ (alloc_new _ _ _ rfl)⟩⟩
theorem ev_new (W : World) : (W.alloc (.cells #[.int .i64 0, .int .i64 0, .string { data := #[] }] 57)).heap[W.heap.size]? = some (.cells #[.int .i64 0, .int .i64 0, .string { data := #[] }] 57 (0, 0)) := alloc_new _ _ _ rfl
theorem ev_cells {W : World} {g : Nat} {o c : Int} {s : ByteArray} (h : W.heap[g]? = some (.cells #[.int .i64 o, .int .i64 c, .string s] 57 (0, 0))) : W.cell? ⟨g, 0, none⟩ = some (.int .i64 o) ∧ W.cell? ⟨g, 1, none⟩ = some (.int .i64 c) ∧ W.cell? ⟨g, 2, none⟩ = some (.string s) := by
  refine ⟨?_, ?_, ?_⟩ <;> (rw [cell_of_row _ _ _ _ _ _ h]; rfl)
section
variable {w0 W : World} {b : Nat} {most : Int} {st : Ms} {v p : Value}
theorem take_ex (h : MacS w0 W b most st v p) (hg : Utf.Globs w0) (fin : Bool) (op : Int) (m : Bool) (ka kb kc kd : Nat) (s : ByteArray) (hk : Small 256 [ka, kb, kc, kd]) (hs : s.size ≤ 100000) (fv : Value) (hf : (.agg #[.bool fin, .int .i64 op, .bool m, .int .u8 ((ka : Nat) : Int), .int .u8 ((kb : Nat) : Int), .int .u8 ((kc : Nat) : Int), .int .u8 ((kd : Nat) : Int), .string s]) = fv)
    (st' : Ms) (x : Option Ev) (hr : MsgPlain.take most st (⟨fin, op, m, [ka, kb, kc, kd], bytes s⟩ : Fr) = (st', x)) (o c : Int) (t : ByteArray) (hx : evO x = .agg #[.int .i64 o, .int .i64 c, .string t]) (d : Bool) (hd : x.isSome = d) (k : Int) (hk2 : (st'.err : Int) = k) :
    Calls Tryd.prog 25 #[.pointer (some ⟨b, 0, none⟩), fv] W fun e w' => ∃ v' p', e = .returned (.tuple #[.agg #[.int .i64 o, .int .i64 c, .string t], .bool d, .int .i64 k]) ∧
      Sl (MacS w0 w' b most st' v' p') ∧ Sl (Goes W w' b v p v' p') := by
  subst hf
  refine (take_any h hg fin op m ka kb kc kd s hk hs).mono ?_
  rintro e w' ⟨v', p', rfl, h1, h2⟩
  refine ⟨v', p', ?_, by rw [hr] at h1; exact h1, h2⟩
  rw [hr]
  unfold tookV
  rw [hx, hd, hk2]
end
/-- What lies beside a machine stays when it goes on. -/
theorem MacS.keeps {w0 W V w' : World} {b q : Nat} {most : Int} {st : Ms} {v p v' p' : Value} {x : Obj} (h : MacS w0 W b most st v p) (hq : W.heap.size ≤ q) (hV : V.heap[q]? = some x) (hg : Goes V w' b v p v' p') : w'.heap[q]? = some x := by
  rw [hg.kept.block q (Array.getElem?_eq_some_iff.1 hV).1 (fun e => by have := (h.m.own e).2; omega)]; exact hV
theorem small0 : Small 256 [0, 0, 0, 0] := fun x hx => by simp at hx; omega
end Go.Proofs.YtimndpmbgfoofaaDoor.Msg
