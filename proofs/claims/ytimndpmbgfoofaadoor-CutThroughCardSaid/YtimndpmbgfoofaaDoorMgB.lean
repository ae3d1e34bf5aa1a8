/- msg: end. -/
import Derived.Test.YtimndpmbgfoofaaDoorMgA
set_option maxRecDepth 100000
namespace Go.Proofs.YtimndpmbgfoofaaDoor.Msg
open Go.RowKit UtfPlain MsgPlain Fra Utf Cls
open FramePlain (Fr form chk ctl zero4)
open ClosePlain (getC)

/-- What came of a frame, as read, end and more answer it: tv tells its event. -/
structure Went (w0 W w' : World) (b : Nat) (most : Int) (r : Ms × Option Ev) (v p v' p' tv : Value) : Prop where
  mac : ∃ op text o, Mac w0 w' b most op text o 0 r.1.over v' p' ∧ (r.1.err = 0 → op = r.1.op ∧ text = r.1.text ∧ o = chkS r.1.op r.1.text)
  goes : Goes W w' b v p v' p'
  tell : r.1.err = 0 → Tell w' tv r.2
/-- A message is dropped. -/
theorem wiped {w0 W W2 : World} {b : Nat} {most op : Int} {text : List Nat} {o : Option St} {err err' : Nat} {over over' : Bool} {v p : Value} (h : Mac w0 W b most op text o err over v p) (g : W.grownBy W2 (some b))
    (hX : W2.heap[b]? = some (.cells #[.int .i64 most, .int .i64 op, v, p, .int .i64 (err' : Int), .bool over'] 85 (0, 0))) :
    Mac w0 (((W2.setCell ⟨b, 1, none⟩ (.int .i64 0)).setCell ⟨b, 2, none⟩ (.slice none 0 0)).setCell ⟨b, 3, none⟩ (.pointer none)) b most 0 [] (some s0) err' over' (.slice none 0 0) (.pointer none) ∧
    Goes W (((W2.setCell ⟨b, 1, none⟩ (.int .i64 0)).setCell ⟨b, 2, none⟩ (.slice none 0 0)).setCell ⟨b, 3, none⟩ (.pointer none)) b v p (.slice none 0 0) (.pointer none) ∧
    W.grownBy (((W2.setCell ⟨b, 1, none⟩ (.int .i64 0)).setCell ⟨b, 2, none⟩ (.slice none 0 0)).setCell ⟨b, 3, none⟩ (.pointer none)) (some b) := by
  have g3 := grown_trans g (grown_trans (grown_trans (grown_setCell W2 b 1 (.int .i64 0)) (grown_setCell _ b 2 (.slice none 0 0))) (grown_setCell _ b 3 (.pointer none)))
  obtain ⟨h1, h2⟩ := h.write g3 (op' := 0) (text' := []) (o' := some s0) (err' := err') (over' := over') (v' := .slice none 0 0) (p' := .pointer none) (by
    rw [heap_setCell_same _ _ _ _ _ _ (heap_setCell_same _ _ _ _ _ _ (heap_setCell_same _ _ _ _ _ _ hX))]
    rfl) (.inr ⟨rfl, rfl, rfl, rfl, okO0⟩)
  exact ⟨h1, h2, g3⟩
theorem Went.before {w0 W V w' : World} {b : Nat} {most : Int} {r : Ms × Option Ev} {v p v' p' tv : Value} (h : Went w0 V w' b most r v p v' p' tv) (hb : Below W.heap.size W V) : Went w0 W w' b most r v p v' p' tv :=
  ⟨h.mac, (Goes.below b v p hb).trans h.goes, h.tell⟩
/-- What comes of an end's data. -/
def ended (c : Int × List Nat × Nat) : Ms × Option Ev := if c.2.2 = 0 then (done, some ⟨8, c.1, c.2.1⟩) else (bad c.2.2, none)
section
variable {w0 W : World} {b : Nat} {most op : Int} {text : List Nat} {o : Option St} {v p : Value}
/-- Two variables that a closure keeps. -/
theorem two_boxes (w : World) (n : Int) (t : ByteArray) : ∃ V, (((w.alloc (.cells #[.int .i64 0] 3)).alloc (.cells #[.string { data := #[] }] 9)).setCell ⟨w.heap.size, 0, none⟩ (.int .i64 n)).setCell ⟨(w.alloc (.cells #[.int .i64 0] 3)).heap.size, 0, none⟩ (.string t) = V ∧ Sl (Below w.heap.size w V) ∧
    Sl (V.heap[w.heap.size]? = some (.cells #[.int .i64 n] 3 (0, 0))) ∧ Sl (V.heap[(w.alloc (.cells #[.int .i64 0] 3)).heap.size]? = some (.cells #[.string t] 9 (0, 0))) := by
  obtain ⟨a, ha⟩ : ∃ V, w.alloc (.cells #[.int .i64 0] 3) = V := ⟨_, rfl⟩
  obtain ⟨q, hq⟩ : ∃ q, a.heap.size = q := ⟨_, rfl⟩
  have hs : q = w.heap.size + 1 := by rw [← hq, ← ha]; exact alloc_size _ _
  have h1 : (a.alloc (.cells #[.string { data := #[] }] 9)).heap[w.heap.size]? = some (.cells #[.int .i64 0] 3 (0, 0)) := by rw [alloc_old _ _ _ (by omega), ← ha]; exact alloc_new _ _ _ rfl
  have h2 : (a.alloc (.cells #[.string { data := #[] }] 9)).heap[q]? = some (.cells #[.string { data := #[] }] 9 (0, 0)) := alloc_new _ _ _ hq.symm
  have hB : Below w.heap.size w (a.alloc (.cells #[.string { data := #[] }] 9)) := by rw [← ha]; exact ((Below.refl _ _).alloc (Nat.le_refl _) _).alloc (by rw [alloc_size]; omega) _
  refine ⟨_, rfl, ⟨?_⟩, ⟨?_⟩, ⟨?_⟩⟩
  · rw [ha, hq]
    exact (hB.setCell (Nat.le_refl _) _).setCell (by show w.heap.size ≤ q; omega) _
  · rw [ha, hq, heap_setCell_other _ _ _ _ (by show w.heap.size ≠ q; omega), heap_setCell_same _ _ _ _ _ _ h1]
    rfl
  · rw [ha, hq, heap_setCell_same _ _ _ _ _ _ (show _ = some (Obj.cells #[.string { data := #[] }] 9 (0, 0)) by rw [heap_setCell_other _ _ _ _ (by show q ≠ w.heap.size; omega)]; exact h2)]
    rfl
theorem end_any (h : Mac w0 W b most op text o 0 false v p) (hg : Utf.Globs w0) (s : ByteArray) (hs : s.size ≤ 1000000) :
    Calls Tryd.prog 56 #[.pointer (some ⟨b, 0, none⟩), .string s] W fun e w' => ∃ v' p' tv, e = .returned (.tuple #[tv, .int .i64 ((ended (getC (bytes s))).1.err : Int)]) ∧ Sl (Went w0 W w' b most (ended (getC (bytes s))) v p v' p' tv) := by
  obtain ⟨n, t, k, hget⟩ := get_str s
  have C := get_any s W (hg.below h.L hg.size) hs
  rw [hget] at C ⊢
  unfold gotV at C
  simp only [strOf_bytes] at C
  have HM := Sl.mk h
  clear hget hg hs h
  obtain ⟨r, hr⟩ : ∃ r, ended (n, bytes t, k) = r := ⟨_, rfl⟩
  rw [hr]
  have HR := Sl.mk hr
  clear hr
  go_enter Tryd.func56, Tryd.ntmps56
  go_wp2_with fail
  refine C.mono ?_
  rintro e w1 ⟨rfl, HB1⟩
  clear C
  have HM1 := Sl.mk (HM.out.below HB1.out)
  obtain ⟨wd, hwd, HB2, HG2, HQ2⟩ := two_boxes w1 n t
  obtain ⟨wa, hwa⟩ : ∃ V, w1.alloc (.cells #[.int .i64 0] 3) = V := ⟨_, rfl⟩
  obtain ⟨wb, hwb⟩ : ∃ V, wa.alloc (.cells #[.string { data := #[] }] 9) = V := ⟨_, rfl⟩
  rw [hwa, hwb] at hwd
  rw [hwa] at HQ2
  have hq1 : wa.heap.size = w1.heap.size + 1 := by rw [← hwa]; exact alloc_size _ _
  have hb1 : wb.heap[w1.heap.size]? = some (.cells #[.int .i64 0] 3 (0, 0)) := by rw [← hwb, alloc_old _ _ _ (by omega), ← hwa]; exact alloc_new _ _ _ rfl
  have hb2 : wb.heap[wa.heap.size]? = some (.cells #[.string { data := #[] }] 9 (0, 0)) := by rw [← hwb]; exact alloc_new _ _ _ rfl
  have HM2 := Sl.mk (HM1.out.below HB2.out)
  have HQ1 := Sl.mk hq1
  have e1 := cell_of_one hb1
  have e2 := cell_of_one hb2
  have f1 : wb.frozen? ⟨w1.heap.size, 0, none⟩ = false := frozen_of_row _ _ _ _ _ hb1
  have f2 : wb.frozen? ⟨wa.heap.size, 0, none⟩ = false := frozen_of_row _ _ _ _ _ hb2
  have hne : w1.heap.size ≠ wa.heap.size := by omega
  obtain ⟨wc, hwc⟩ : ∃ V, wb.setCell ⟨w1.heap.size, 0, none⟩ (.int .i64 n) = V := ⟨_, rfl⟩
  rw [hwc] at hwd
  have e3 : wc.cell? ⟨wa.heap.size, 0, none⟩ = some (.string { data := #[] }) := by rw [← hwc, World.cell?_setCell_other (h := fun e => hne (by injection e))]; exact e2
  have f3 : wc.frozen? ⟨wa.heap.size, 0, none⟩ = false := by rw [← hwc, World.frozen?_setCell]; exact f2
  clear hb1 hb2 hq1 e2 f2
  go_upto_region 2 with fail
  clear e1 f1 e3 f3 hwd hwc hwa hwb hne
  by_cases hk : k = 0
  · subst hk
    have HE : r = (done, some ⟨8, n, bytes t⟩) := by rw [← HR.out]; exact if_pos rfl
    have HES := Sl.mk HE
    clear HE
    go_upto_region 4 with fail
    obtain ⟨_, d1, d2, d3, _, d5⟩ := HM2.out.cells
    have g1 := HM2.out.froz 1
    have g2 := HM2.out.froz 2
    have g3 := HM2.out.froz 3
    have g5 := HM2.out.froz 5
    go_wp2
    go_ret2
    have hX5 : (wd.setCell ⟨b, 5, none⟩ (.bool true)).heap[b]? = some (.cells #[.int .i64 most, .int .i64 op, v, p, .int .i64 ((0 : Nat) : Int), .bool true] 85 (0, 0)) := by
      rw [heap_setCell_same _ _ _ _ _ _ HM2.out.X]; rfl
    obtain ⟨hm, hgo, hgr⟩ := wiped HM2.out (grown_setCell _ _ _ _) hX5
    have hlt := HM.out.lt
    have hle := HB1.out.size
    have h1 := HG2.out
    have h2 := HQ2.out
    have hl1 := (Array.getElem?_eq_some_iff.1 h1).1
    have hl2 := (Array.getElem?_eq_some_iff.1 h2).1
    have hq := HQ1.out
    have HE := HES.out
    subst HE
    refine ⟨_, _, _, rfl, ⟨⟨_, _, _, hm, fun _ => ⟨rfl, rfl, rfl⟩⟩, (Goes.below b v p (HB1.out.trans (HB2.out.mono hle))).trans hgo, fun _ => ⟨_, _, rfl, fun args V => by kernel_rfl, tend_any ?_ ?_⟩⟩⟩
    · rw [hgr.block _ hl1 (fun e => by injection e with e; omega)]; exact h1
    · rw [hgr.block _ hl2 (fun e => by injection e with e; omega)]; exact h2
  · have hkq : ((k : Int) != 0) = true := by simpa using hk
    have HE : r = (bad k, none) := by rw [← HR.out]; exact if_neg hk
    have HES := Sl.mk HE
    clear HE
    have HKE := Sl.mk hk
    clear hk
    go_wp2
    go_ret2
    have HE := HES.out
    subst HE
    refine ⟨_, _, _, rfl, ⟨⟨_, _, _, HM2.out, fun h => absurd h HKE.out⟩, Goes.below b v p (HB1.out.trans (HB2.out.mono HB1.out.size)), fun h => absurd h HKE.out⟩⟩
end
end Go.Proofs.YtimndpmbgfoofaaDoor.Msg
/- msg: more: a message's frame. -/
set_option maxRecDepth 100000
namespace Go.Proofs.YtimndpmbgfoofaaDoor.Msg
open Go.RowKit UtfPlain MsgPlain Fra Utf Cls
open FramePlain (Fr form chk ctl zero4)
open ClosePlain (getC)

theorem msg_info {cs : Array Value} (h : cs.size = 3) : (Tryd.prog.info? 83).map (·.size) = some cs.size := by rw [h]; kernel_rfl
theorem msg_all (a : Int) (x : Option Addr) (n k : Nat) (y : Option Addr) : (#[.int .i64 a, .slice x n k, .pointer y] : Array Value).all (·.oneCell') = true := by simp [Value.oneCell']
/-- A message is begun: its op, no bytes, a checker of its own. -/
theorem mac_begin {w0 W W2 : World} {b c : Nat} {most op op' : Int} {text : List Nat} {o : Option St} {err : Nat} {over : Bool} {v p : Value} (h : Mac w0 W b most op text o err over v p) (hB : Below W.heap.size W W2) (hc : W.heap.size ≤ c) (hx : ChkO W2 c (some s0)) (h0 : op' ≠ 0) :
    Mac w0 (W2.setCells b 1 [.int .i64 op', .slice none 0 0, .pointer (some ⟨c, 0, none⟩)]) b most op' [] (some s0) err over (.slice none 0 0) (.pointer (some ⟨c, 0, none⟩)) ∧
    Goes W (W2.setCells b 1 [.int .i64 op', .slice none 0 0, .pointer (some ⟨c, 0, none⟩)]) b v p (.slice none 0 0) (.pointer (some ⟨c, 0, none⟩)) := by
  have h2 := h.below hB
  have g : W2.grownBy (W2.setCells b 1 [.int .i64 op', .slice none 0 0, .pointer (some ⟨c, 0, none⟩)]) (some b) := grown_setCells b _ 1 W2
  have hlt := h.lt
  refine ⟨⟨?_, World.ownsRow_nil _ _ _ _, fun _ => ⟨c, rfl, by have := h.L.size; omega, chk_grown hx g (by omega)⟩, fun e => absurd e h0, okO0, h.B, h2.L.grown g h2.L.size (fun k hk => by injection hk with hk; rw [← hk]; exact h.B)⟩, ?_⟩
  · simp only [World.setCells]
    rw [heap_setCell_same _ _ _ _ _ _ (heap_setCell_same _ _ _ _ _ _ (heap_setCell_same _ _ _ _ _ _ h2.X))]
    rfl
  · refine ⟨Kept.trans (S := Mine b v p) (.below hB) (.grown (S := fun k => k = b) g (fun k hk => by injection hk with hk; exact hk.symm)) (fun j _ e => .inl e), fun k hk => ?_⟩
    rcases hk with hk | hk | hk
    · exact .inl (.inl hk)
    · cases hk
    · injection hk with hk
      injection hk with hk
      injection hk with hk
      exact .inr (by omega)
theorem mac_there {w0 W : World} {b : Nat} {most op : Int} {text : List Nat} {o : Option St} {err : Nat} {over : Bool} {v p : Value} (h : Mac w0 W b most op text o err over v p) : W.there b 1 3 := by
  obtain ⟨_, h1, h2, h3, _, _⟩ := h.cells
  intro j hj
  match j, hj with
  | 0, _ => exact ⟨by rw [h1]; rfl, h.froz 1⟩
  | 1, _ => exact ⟨by rw [h2]; rfl, h.froz 2⟩
  | 2, _ => exact ⟨by rw [h3]; rfl, h.froz 3⟩
theorem store_msg {W : World} {ev : Operand → Value} {o : Oper} {x y : Operand} {b i : Nat} {cells : Array Value} (ho : o.op = .store 83 x y) (hx : ev x = .pointer (some ⟨b, i, none⟩)) (hy : ev y = .agg cells) (ht : W.there b i 3) (hs : cells.size = 3) (h1 : cells.all (·.oneCell') = true) :
    (execOp ev o).run Tryd.prog W = .ok .skip (W.setCells b i cells.toList) := by
  unfold execOp
  simp only [ho, hx, hy, Sem.run_bind, Sem.run_pure, Result.andThen_ok, run_storeAt_mid (P := Tryd.prog) W b i 83 cells (by rw [hs]; exact ht) (msg_info hs) h1]
theorem chkS_nil (op : Int) : chkS op [] = some s0 := by unfold chkS; split <;> rfl
theorem chkS_add (op : Int) (t bs : List Nat) : addO op (chkS op t) bs = chkS op (t ++ bs) := by
  unfold addO chkS
  by_cases h : op = 1
  · rw [if_pos h, if_pos h, if_pos h]; exact (uend_append t bs s0).symm
  · rw [if_neg h, if_neg h, if_neg h]
theorem chkS_ok (op : Int) (fin : Bool) (t bs : List Nat) : addR op (chkS op t) fin bs = okT op fin (t ++ bs) := by
  unfold addR okT
  by_cases h : op = 1
  · rw [if_pos h, decide_eq_true h, Bool.true_and]
    have e : en (chkS op t) bs = uend s0 (t ++ bs) := by
      have := chkS_add op t bs
      unfold addO at this
      rw [if_pos h] at this
      rw [this]; unfold chkS; rw [if_pos h]
    rw [e]
    have hi := uend_iff (t ++ bs) s0
    have hl := uright_le (t ++ bs) s0
    cases fin with
    | true =>
      rw [if_pos rfl, Bool.true_and]
      show decide (uend s0 (t ++ bs) = some s0) = !(decide (uright s0 (t ++ bs) < (t ++ bs).length) || !decide (uend s0 (t ++ bs) = some s0))
      by_cases hw : uend s0 (t ++ bs) = some s0
      · have h2 : uright s0 (t ++ bs) = (t ++ bs).length := hi.1 (by rw [hw]; rfl)
        rw [decide_eq_true hw, decide_eq_false (by omega)]; rfl
      · rw [decide_eq_false hw]; simp
    | false =>
      rw [if_neg (by decide), Bool.false_and, Bool.or_false]
      by_cases hw : (uend s0 (t ++ bs)).isSome = true
      · rw [hw, decide_eq_false (by have := hi.1 hw; omega)]; rfl
      · have h2 : uright s0 (t ++ bs) ≠ (t ++ bs).length := fun e => hw (hi.2 e)
        rw [decide_eq_true (by omega)]
        simpa using hw
  · rw [if_neg h, decide_eq_false h]; rfl
/-- What comes of a message's frame. -/
def mored (most : Int) (st : Ms) (fin : Bool) (op : Int) (bs : List Nat) : Ms × Option Ev :=
  if decide (op = 0) ≠ st.begun then (bad 120, none) else more most fin (if st.begun then st.op else op) (st.text ++ bs)
section
variable {w0 W : World} {b : Nat} {most : Int} {st : Ms} {v p : Value}
set_option maxHeartbeats 2000000 in
theorem more_any (h : MacS w0 W b most st v p) (he : st.err = 0) (hov : st.over = false) (hg : Utf.Globs w0) (fin : Bool) (op : Int) (m : Bool) (ka kb kc kd : Nat) (s : ByteArray) (hop : 0 ≤ op ∧ op ≤ 2) (hs : s.size ≤ 100000) :
    Calls Tryd.prog 57 #[.pointer (some ⟨b, 0, none⟩), (.agg #[.bool fin, .int .i64 op, .bool m, .int .u8 ((ka : Nat) : Int), .int .u8 ((kb : Nat) : Int), .int .u8 ((kc : Nat) : Int), .int .u8 ((kd : Nat) : Int), .string s])] W fun e w' => ∃ v' p' tv, e = .returned (.tuple #[tv, .int .i64 ((mored most st fin op (bytes s)).1.err : Int)]) ∧ Sl (Went w0 W w' b most (mored most st fin op (bytes s)) v p v' p' tv) := by
  obtain ⟨r, hr⟩ : ∃ r, mored most st fin op (bytes s) = r := ⟨_, rfl⟩
  rw [hr]
  have hm := h.m
  rw [he, hov] at hm
  have hbg : (st.begun = false ∧ st.op = 0 ∧ st.text = []) ∨ (st.begun = true ∧ st.op ≠ 0) := by
    cases hb : st.begun with
    | false => exact .inl ⟨rfl, (h.f.idle hb).2, (h.f.idle hb).1⟩
    | true => exact .inr ⟨rfl, by rcases h.f.op hb with e | e <;> rw [e] <;> decide⟩
  have hlen := h.len
  have hlo := h.lo
  have hhi := h.hi
  obtain ⟨W1, hW1⟩ : ∃ V, W.alloc (.cells #[.bool fin, .int .i64 op, .bool m, .int .u8 ((ka : Nat) : Int), .int .u8 ((kb : Nat) : Int), .int .u8 ((kc : Nat) : Int), .int .u8 ((kd : Nat) : Int), .string s] 44) = V := ⟨_, rfl⟩
  have HB1 : Sl (Below W.heap.size W W1) := ⟨by rw [← hW1]; exact (Below.refl _ _).alloc (Nat.le_refl _) _⟩
  have HF1 : Sl (W1.heap[W.heap.size]? = some (.cells #[.bool fin, .int .i64 op, .bool m, .int .u8 ((ka : Nat) : Int), .int .u8 ((kb : Nat) : Int), .int .u8 ((kc : Nat) : Int), .int .u8 ((kd : Nat) : Int), .string s] 44 (0, 0))) := ⟨by rw [← hW1]; exact alloc_new _ _ _ rfl⟩
  have HNG : Sl (∀ k, Mine b v p k → k < W.heap.size) := ⟨fun k hk => (hm.own hk).2⟩
  have HM1 := Sl.mk (hm.below HB1.out)
  obtain ⟨g, hgs⟩ : ∃ g, W.heap.size = g := ⟨_, rfl⟩
  have HGS := Sl.mk hgs
  rw [hgs] at HF1
  have HR := Sl.mk hr
  have HG := Sl.mk hg
  have HS := Sl.mk hs
  have HOP := Sl.mk hop
  have HLEN : Sl (st.text.length ≤ 1048576) := ⟨hlen⟩
  have HLO := Sl.mk hlo
  have HHI := Sl.mk hhi
  have HBG := Sl.mk hbg
  clear hr hg hs hop hlen hlo hhi hm h he hov hbg
  obtain ⟨_, m1, _, _, _, _⟩ := HM1.out.cells
  obtain ⟨_, f1, _, _, _, _, _, _⟩ := bx8 HF1.out
  rcases HBG.out with ⟨hb, ho, ht⟩ | ⟨hb, ho⟩
  · rw [ho] at m1
    by_cases h0 : op = 0
    · subst h0
      have HES : Sl (r = (bad 120, none)) := ⟨by
        rw [← HR.out]
        show (if decide ((0 : Int) = 0) ≠ st.begun then _ else _) = _
        rw [hb]
        rfl
      ⟩
      go_enter Tryd.func57, Tryd.ntmps57
      go_upto_region 1 with fail
      go_still (by kernel_rfl)
      have HD : Below W1.heap.size W1 W1.drew := (Below.refl _ _).drew
      go_wp2
      go_ret2
      have HE := HES.out
      subst HE
      exact ⟨_, _, _, rfl, ⟨⟨_, _, _, HM1.out.below HD, fun e => absurd e (by decide)⟩, Goes.below b _ p (HB1.out.trans (HD.mono HB1.out.size)), fun e => absurd e (by decide)⟩⟩
    · have q2 : (op != 0) = true := by simpa using h0
      have HRV : Sl (mored most st fin op (bytes s) = more most fin op ([] ++ bytes s)) := ⟨by
        show (if decide (op = 0) ≠ st.begun then _ else _) = _
        rw [hb, ht, decide_eq_false h0]
        rfl
      ⟩
      have HON : Sl (op ≠ 0) := ⟨h0⟩
      obtain ⟨n, hn⟩ : ∃ n, st.text.length = n := ⟨_, rfl⟩
      have hn8 : n ≤ 1048576 := by have := HLEN.out; omega
      obtain ⟨a0, k0, hv0⟩ := HM1.out.slice
      rw [hn] at hv0
      subst hv0
      obtain ⟨c0, _, c2, _, _, _⟩ := HM1.out.cells
      obtain ⟨_, _, _, _, _, _, _, f7⟩ := bx8 HF1.out
      obtain ⟨d, hd⟩ : ∃ d : Int, most - (n : Int) = d := ⟨_, rfl⟩
      have hl1 := HLO.out
      have hl2 := HHI.out
      have z1 : IntKind.i64.wrap (most - (n : Int)) = d := by rw [IntKind.wrap_i64]; omega
      have z2 : wrap64 (most - (n : Int)) = d := by unfold wrap64; omega
      have HTL : Sl (([] : List Nat).length ≤ 2000000) := ⟨by decide⟩
      have hll : ((([] ++ bytes s : List Nat).length : Nat) : Int) = 0 + s.size := by rw [List.length_append, bytes_length]; simp
      have hn0 : n = 0 := by rw [← hn, ht]; rfl
      by_cases hlong : most < ((([] ++ bytes s : List Nat).length : Nat) : Int)
      · have q3 : ((s.size : Int) > d) = True := eq_true (by omega)
        have HES : Sl (r = (bad 121, none)) := ⟨by
          rw [← HR.out]
          rw [HRV.out, more, if_pos hlong]
        ⟩
        clear hlong hll hn hn8 hl1 hl2 hd hn0
        have c0d : W1.drew.cell? ⟨b, 0, none⟩ = some (.int .i64 most) := c0
        have c2d : W1.drew.cell? ⟨b, 2, none⟩ = some (.slice a0 n k0) := c2
        have f7d : W1.drew.cell? ⟨g, 7, none⟩ = some (.string s) := f7
        go_enter Tryd.func57, Tryd.ntmps57
        go_upto_region 1 with fail
        go_still (by kernel_rfl)
        obtain ⟨R1, hR1⟩ : ∃ R, W1.drew = R := ⟨_, rfl⟩
        have HR1 : Below W1.heap.size W1 R1 := by rw [← hR1]; exact (Below.refl _ _).drew
        change Exit.then _ _ Exit.normal _ W1.drew
        rw [hR1] at c0d c2d f7d ⊢
        clear hR1
        go_upto_region 4 with fail
        go_still (by kernel_rfl)
        change Exit.then _ _ Exit.normal _ R1.drew
        have HD : Below W1.heap.size W1 R1.drew := HR1.drew
        go_wp2
        go_ret2
        have HE := HES.out
        subst HE
        exact ⟨_, _, _, rfl, ⟨⟨_, _, _, HM1.out.below HD, fun e => absurd e (by decide)⟩, Goes.below b _ p (HB1.out.trans (HD.mono HB1.out.size)), fun e => absurd e (by decide)⟩⟩

      · have q3 : ((s.size : Int) > d) = False := eq_false (by omega)
        have HLG := Sl.mk (Int.not_lt.1 hlong)
        have HRR : Sl (r = more most fin op ([] ++ bytes s)) := ⟨by rw [← HR.out, HRV.out]⟩
        clear hlong hll hn hn8 hl1 hl2 hd hn0
        have c0d : W1.drew.cell? ⟨b, 0, none⟩ = some (.int .i64 most) := c0
        have c2d : W1.drew.cell? ⟨b, 2, none⟩ = some (.slice a0 n k0) := c2
        have f7d : W1.drew.cell? ⟨g, 7, none⟩ = some (.string s) := f7
        go_enter Tryd.func57, Tryd.ntmps57
        go_upto_region 1 with fail
        go_still (by kernel_rfl)
        obtain ⟨R1, hR1⟩ : ∃ R, W1.drew = R := ⟨_, rfl⟩
        have HR1 : Below W1.heap.size W1 R1 := by rw [← hR1]; exact (Below.refl _ _).drew
        change Exit.then _ _ Exit.normal _ W1.drew
        rw [hR1] at c0d c2d f7d ⊢
        clear hR1
        go_upto_region 4 with fail
        go_still (by kernel_rfl)
        change Exit.then _ _ Exit.normal _ R1.drew
        have HV : Sl (Below W1.heap.size W1 R1.drew) := ⟨HR1.drew⟩
        clear HR1 c0d c2d f7d
        go_upto_region 7 with fail
        obtain ⟨Rw, hRw⟩ : ∃ R, R1.drew.drew = R := ⟨_, rfl⟩
        have HBR : Below R1.drew.heap.size R1.drew Rw := by rw [← hRw]; exact (Below.refl _ _).drew
        refine wp_region_noPanic ?_
        refine wp_region_held (S := fun V => V.heap[g]? = some (.cells #[.bool fin, .int .i64 op, .bool m, .int .u8 ((ka : Nat) : Int), .int .u8 ((kb : Nat) : Int), .int .u8 ((kc : Nat) : Int), .int .u8 ((kd : Nat) : Int), .string s] 44 (0, 0))) (by kernel_rfl) ?_
        change wpAnyH _ _ _ _ _ _ _ _ R1.drew.drew
        rw [hRw]
        clear hRw
        have HBR2 : Below W1.heap.size W1 Rw := HV.out.trans (HBR.mono HV.out.size)
        have HS0 := below_key HF1.out HBR2
        have HMR := HM1.out.below HBR2
        have C := Utf.new_any Rw
        refine heldTake (d := some 37) (op := .move (Operand.tmp 0)) (g := none) 0 ?v0 rfl (by kernel_rfl) (by kernel_rfl) (by kernel_rfl) (by kernel_rfl) ?y0 HS0 ?_
        case y0 => intro o' ho W hS; simp only [execOp, ho]; go_simp; try rfl
        simp only [Act.put, List.setIfInBounds_toArray, List.set_cons_zero, List.set_cons_succ]
        refine heldTake (d := some 38) (op := .fieldAddr 44 (Operand.tmp 3) 1) (g := none) 1 ?v1 rfl (by kernel_rfl) (by kernel_rfl) (by kernel_rfl) (by kernel_rfl) ?y1 HS0 ?_
        case y1 => intro o' ho W hS; simp only [execOp, ho]; go_simp; try rfl
        simp only [Act.put, List.setIfInBounds_toArray, List.set_cons_zero, List.set_cons_succ]
        refine heldTake (d := some 39) (op := .load 3 (Operand.tmp 38)) (g := none) 2 ?v2 rfl (by kernel_rfl) (by kernel_rfl) (by kernel_rfl) (by kernel_rfl) ?y2 HS0 ?_
        case y2 => intro o' ho W hS; obtain ⟨_, hc, _, _, _, _, _, _⟩ := bx8 hS; simp only [execOp, ho]; go_simp; try rfl
        simp only [Act.put, List.setIfInBounds_toArray, List.set_cons_zero, List.set_cons_succ]
        refine heldCall (d := some 40) (op := .call { callee := Callee.value (Operand.func 66), args := #[], argTypes := #[] }) (g := none) 3 66 #[] rfl (by kernel_rfl) (by kernel_rfl) ?y3 ?_
        case y3 => intro o' ho; simp only [execOp, ho]; go_simp; try rfl
        refine (C).mono ?_
        rintro e w4 ⟨rfl, hw4⟩
        have HB4 : Below Rw.heap.size Rw w4 := by rw [hw4]; exact (Below.refl _ _).alloc (Nat.le_refl _) _
        have HX4 : ChkO w4 Rw.heap.size (some s0) := by rw [hw4]; exact chk_new _
        have HS4 := below_key HS0 HB4
        refine ⟨_, rfl, HS4, ?_⟩
        simp only [Act.put, List.setIfInBounds_toArray, List.set_cons_zero, List.set_cons_succ]
        refine heldTake (d := some 41) (op := .build 83 #[(0, Operand.tmp 39), (2, Operand.tmp 40)]) (g := none) 4 ?v4 rfl (by kernel_rfl) (by kernel_rfl) (by kernel_rfl) (by kernel_rfl) ?y4 HS4 ?_
        case y4 => intro o' ho W hS; simp only [execOp, ho]; go_simp; try rfl
        simp only [Act.put, List.setIfInBounds_toArray, List.set_cons_zero, List.set_cons_succ]
        refine heldTake (d := some 42) (op := .nilCheck (Operand.tmp 37)) (g := none) 5 ?v5 rfl (by kernel_rfl) (by kernel_rfl) (by kernel_rfl) (by kernel_rfl) ?y5 HS4 ?_
        case y5 => intro o' ho W hS; simp only [execOp, ho]; go_simp; try rfl
        simp only [Act.put, List.setIfInBounds_toArray, List.set_cons_zero, List.set_cons_succ]
        refine heldTake (d := some 43) (op := .fieldAddr 85 (Operand.tmp 42) 1) (g := none) 6 ?v6 rfl (by kernel_rfl) (by kernel_rfl) (by kernel_rfl) (by kernel_rfl) ?y6 HS4 ?_
        case y6 => intro o' ho W hS; simp only [execOp, ho]; go_simp; try rfl
        simp only [Act.put, List.setIfInBounds_toArray, List.set_cons_zero, List.set_cons_succ]
        obtain ⟨hm5, hg5⟩ := mac_begin HMR HB4 (Nat.le_refl _) HX4 HON.out
        obtain ⟨W5, hW5⟩ : ∃ V, w4.setCells b 1 [.int .i64 op, .slice none 0 0, .pointer (some ⟨Rw.heap.size, 0, none⟩)] = V := ⟨_, rfl⟩
        rw [hW5] at hm5 hg5
        rw [← chkS_nil op] at hm5
        have ht4 := mac_there (HMR.below HB4)
        have hbg : b ≠ g := by have h1 := HNG.out b (.inl rfl); have h2 := HGS.out; omega
        have HFV : Sl (W5.heap[g]? = some (.cells #[.bool fin, .int .i64 op, .bool m, .int .u8 ((ka : Nat) : Int), .int .u8 ((kb : Nat) : Int), .int .u8 ((kc : Nat) : Int), .int .u8 ((kd : Nat) : Int), .string s] 44 (0, 0))) := ⟨by
          rw [← hW5, (grown_setCells b _ 1 w4).block g (Array.getElem?_eq_some_iff.1 HS4).1 (fun e => hbg (by injection e with e; exact e.symm))]
          exact HS4⟩
        refine heldStore (d := none) (op := .store 83 (Operand.tmp 43) (Operand.tmp 41)) (g := none) (t := 0) 7 W5 rfl (by kernel_rfl) (by kernel_rfl) ?y7 HFV.out ?_
        case y7 => intro o' ho ht; rw [← hW5]; exact store_msg ho (by rfl) (by rfl) ht4 rfl (msg_all _ _ _ _ _)
        simp only [Act.put]
        refine wpAnyH_done (by kernel_rfl) ?_ _
        refine NoPanic.normal ?_
        have HMV := Sl.mk hm5
        have HGV := Sl.mk ((Goes.below b (.slice a0 n k0) p HBR2).trans hg5)
        obtain ⟨pc, hpc⟩ : ∃ pc, Rw.heap.size = pc := ⟨_, rfl⟩
        rw [hpc] at HMV HGV
        clear hm5 hg5 hW5 ht4 hbg HS4 HX4 HB4 hw4 C HMR HS0 HBR2 HBR
        go_upto_region 8 with fail
        obtain ⟨f50, _, _, _, _, _, _, f57⟩ := bx8 HFV.out
        go_still_tail 7, (by kernel_rfl)
        change wpList _ _ _ _ _ W5.drew
        clear f50 f57
        have HD8 : Below W5.heap.size W5 W5.drew := (Below.refl _ _).drew
        have HM8 := HMV.out.below HD8
        have HG8 := HGV.out.trans (Goes.below b _ _ HD8)
        have hF8 : W5.drew.heap[g]? = some (.cells #[.bool fin, .int .i64 op, .bool m, .int .u8 ((ka : Nat) : Int), .int .u8 ((kb : Nat) : Int), .int .u8 ((kc : Nat) : Int), .int .u8 ((kd : Nat) : Int), .string s] 44 (0, 0)) := HFV.out
        have CA := add_any HM8 HON.out HG.out s fin HS.out HTL.out _ (chkS_ok op fin [] (bytes s))
        have HN8 : Sl (¬ Mine b _ _ g) := ⟨fun e => by
          have h1 := HNG.out g
          rcases HG8.mine g e with h2 | h2
          · have := h1 h2
            have := HGS.out
            omega
          · have := (Array.getElem?_eq_some_iff.1 HF1.out).1
            omega⟩
        have HGs8 := Sl.mk HG8
        have HFs8 := Sl.mk hF8
        clear HM8 HG8 hF8 HD8
        go_wp2_with fail
        refine CA.mono ?_
        rintro e w6 ⟨v6, rfl, HM6, HG6⟩
        clear CA
        have HF6 : Sl (w6.heap[g]? = some (.cells #[.bool fin, .int .i64 op, .bool m, .int .u8 ((ka : Nat) : Int), .int .u8 ((kb : Nat) : Int), .int .u8 ((kc : Nat) : Int), .int .u8 ((kd : Nat) : Int), .string s] 44 (0, 0))) := ⟨by rw [HG6.out.kept.block g (Array.getElem?_eq_some_iff.1 HFs8.out).1 HN8.out]; exact HFs8.out⟩
        have HGA := Sl.mk ((Goes.below b _ _ HB1.out).trans (HGs8.out.trans HG6.out))
        obtain ⟨k, hk⟩ : ∃ k, okT op fin ([] ++ bytes s) = k := ⟨_, rfl⟩
        have HK := Sl.mk hk
        obtain ⟨f0, _, _, _, _, _, _, _⟩ := bx8 HF6.out
        rw [hk]
        clear hk HG6 HGs8 HFs8 HN8
        cases k with
        | false =>
          have HES : Sl (r = (bad 122, none)) := ⟨by
            rw [HRR.out, more, if_neg (Int.not_lt.2 HLG.out), if_pos HK.out]⟩
          go_wp2
          go_ret2
          have HE := HES.out
          subst HE
          exact ⟨_, _, _, rfl, ⟨⟨_, _, _, HM6.out, fun e => absurd e (by decide)⟩, HGA.out, fun e => absurd e (by decide)⟩⟩
        | true =>
          cases fin with
          | false =>
            have HES : Sl (r = (⟨0, false, true, op, [] ++ bytes s⟩, none)) := ⟨by
              rw [HRR.out, more, if_neg (Int.not_lt.2 HLG.out), if_neg (by rw [HK.out]; decide), if_neg (by decide)]⟩
            go_wp2
            go_ret2
            have HE := HES.out
            subst HE
            exact ⟨_, _, _, rfl, ⟨⟨_, _, _, HM6.out, fun _ => ⟨rfl, rfl, chkS_add _ _ _⟩⟩, HGA.out, fun _ => rfl⟩⟩
          | true =>
            have HES : Sl (r = (M0, some ⟨op, 0, [] ++ bytes s⟩)) := ⟨by
              rw [HRR.out, more, if_neg (Int.not_lt.2 HLG.out), if_neg (by rw [HK.out]; decide), if_pos rfl]⟩
            obtain ⟨a6, n6, k6, rfl⟩ : ∃ a n k, v6 = .slice a n k := by obtain ⟨a, k, e⟩ := HM6.out.slice; exact ⟨a, _, k, e⟩
            obtain ⟨_, y1, y2, y3, _, _⟩ := HM6.out.cells
            have HRG : Sl (w6.rangeAt b 1 [.int .i64 op, .slice a6 n6 k6, .pointer (some ⟨pc, 0, none⟩)]) := ⟨fun j u hu => by
              match j, hu with
              | 0, hu => injection hu with hu; subst hu; exact y1
              | 1, hu => injection hu with hu; subst hu; exact y2
              | 2, hu => injection hu with hu; subst hu; exact y3⟩
            obtain ⟨w7, hw7⟩ : ∃ V, (w6.alloc (.cells #[.int .i64 0, .slice none 0 0, .pointer none] 83)).setRow w6.heap.size #[.int .i64 op, .slice a6 n6 k6, .pointer (some ⟨pc, 0, none⟩)] = V := ⟨_, rfl⟩
            have HB7 : Sl (Below w6.heap.size w6 w7) := ⟨by rw [← hw7]; exact below_setRow ((Below.refl _ _).alloc (Nat.le_refl _) _) (Nat.le_refl _) _⟩
            have HQ7 : Sl (w7.heap[w6.heap.size]? = some (.cells #[.int .i64 op, .slice a6 n6 k6, .pointer (some ⟨pc, 0, none⟩)] 83 (0, 0))) := ⟨by rw [← hw7]; exact setRow_heap _ _ _ _ _ _ (alloc_new _ _ _ rfl)⟩
            have HM7 := Sl.mk (HM6.out.below HB7.out)
            obtain ⟨_, x1, x2, x3, _, _⟩ := HM7.out.cells
            have z1 := HM7.out.froz 1
            have z2 := HM7.out.froz 2
            have z3 := HM7.out.froz 3
            have HI := msg_info (cs := #[.int .i64 op, .slice a6 n6 k6, .pointer (some ⟨pc, 0, none⟩)]) rfl
            have HAL : Sl ((#[.int .i64 op, .slice a6 n6 k6, .pointer (some ⟨pc, 0, none⟩)] : Array Value).all (·.oneCell') = true) := ⟨msg_all _ _ _ _ _⟩
            clear y1 y2 y3
            go_upto_region 13 with (first | (refine wpList_load_mid rfl 83 (.tmp 58) rfl b 1 rfl [.int .i64 op, .slice a6 n6 k6, .pointer (some ⟨pc, 0, none⟩)] _ HRG.out Tryd.underlying83 rfl HI ?_) | (refine wpList_store_row rfl 83 (.tmp 8) (.tmp 59) rfl w6.heap.size #[.int .i64 op, .slice a6 n6 k6, .pointer (some ⟨pc, 0, none⟩)] rfl rfl 83 #[.int .i64 0, .slice none 0 0, .pointer none] (alloc_new _ _ _ rfl) HI rfl HAL.out ?_))
            rw [hw7]
            clear hw7 HI
            go_wp2
            go_ret2
            have HE := HES.out
            subst HE
            obtain ⟨hm9, hg9, hr9⟩ := wiped HM7.out (grown_refl _ _) HM7.out.X
            have hlt := (Array.getElem?_eq_some_iff.1 HQ7.out).1
            have hne : w6.heap.size ≠ b := by have := HM6.out.lt; omega
            exact ⟨_, _, _, rfl, ⟨⟨_, _, _, hm9, fun _ => ⟨rfl, rfl, rfl⟩⟩, (HGA.out.trans (Goes.below b _ _ HB7.out)).trans hg9, fun _ => ⟨_, _, rfl, fun args V => by kernel_rfl, tmore_any (by rw [hr9.block _ hlt (fun e => hne (by injection e))]; exact HQ7.out) (HM7.out.O.kept hr9 (.inr (own_kind HM7.out.O HM7.out.X (by decide))))⟩⟩⟩
  · by_cases h0 : op = 0
    · subst h0
      have q1 : (st.op != 0) = true := by simpa using ho
      have HRV : Sl (mored most st fin 0 (bytes s) = more most fin st.op (st.text ++ bytes s)) := ⟨by
        show (if decide ((0 : Int) = 0) ≠ st.begun then _ else _) = _
        rw [hb]
        rfl
      ⟩
      have HON : Sl (st.op ≠ 0) := ⟨ho⟩
      obtain ⟨n, hn⟩ : ∃ n, st.text.length = n := ⟨_, rfl⟩
      have hn8 : n ≤ 1048576 := by have := HLEN.out; omega
      obtain ⟨a0, k0, hv0⟩ := HM1.out.slice
      rw [hn] at hv0
      subst hv0
      obtain ⟨c0, _, c2, _, _, _⟩ := HM1.out.cells
      obtain ⟨_, _, _, _, _, _, _, f7⟩ := bx8 HF1.out
      obtain ⟨d, hd⟩ : ∃ d : Int, most - (n : Int) = d := ⟨_, rfl⟩
      have hl1 := HLO.out
      have hl2 := HHI.out
      have z1 : IntKind.i64.wrap (most - (n : Int)) = d := by rw [IntKind.wrap_i64]; omega
      have z2 : wrap64 (most - (n : Int)) = d := by unfold wrap64; omega
      have HTL : Sl ((st.text : List Nat).length ≤ 2000000) := ⟨by omega⟩
      have hll : (((st.text ++ bytes s : List Nat).length : Nat) : Int) = n + s.size := by rw [List.length_append, bytes_length, hn]; omega
      by_cases hlong : most < (((st.text ++ bytes s : List Nat).length : Nat) : Int)
      · have q3 : ((s.size : Int) > d) = True := eq_true (by omega)
        have HES : Sl (r = (bad 121, none)) := ⟨by
          rw [← HR.out]
          rw [HRV.out, more, if_pos hlong]
        ⟩
        clear hlong hll hn hn8 hl1 hl2 hd
        have c0d : W1.drew.cell? ⟨b, 0, none⟩ = some (.int .i64 most) := c0
        have c2d : W1.drew.cell? ⟨b, 2, none⟩ = some (.slice a0 n k0) := c2
        have f7d : W1.drew.cell? ⟨g, 7, none⟩ = some (.string s) := f7
        go_enter Tryd.func57, Tryd.ntmps57
        go_upto_region 1 with fail
        go_still (by kernel_rfl)
        obtain ⟨R1, hR1⟩ : ∃ R, W1.drew = R := ⟨_, rfl⟩
        have HR1 : Below W1.heap.size W1 R1 := by rw [← hR1]; exact (Below.refl _ _).drew
        change Exit.then _ _ Exit.normal _ W1.drew
        rw [hR1] at c0d c2d f7d ⊢
        clear hR1
        go_upto_region 4 with fail
        go_still (by kernel_rfl)
        change Exit.then _ _ Exit.normal _ R1.drew
        have HD : Below W1.heap.size W1 R1.drew := HR1.drew
        go_wp2
        go_ret2
        have HE := HES.out
        subst HE
        exact ⟨_, _, _, rfl, ⟨⟨_, _, _, HM1.out.below HD, fun e => absurd e (by decide)⟩, Goes.below b _ p (HB1.out.trans (HD.mono HB1.out.size)), fun e => absurd e (by decide)⟩⟩

      · have q3 : ((s.size : Int) > d) = False := eq_false (by omega)
        have HLG := Sl.mk (Int.not_lt.1 hlong)
        have HRR : Sl (r = more most fin st.op (st.text ++ bytes s)) := ⟨by rw [← HR.out, HRV.out]⟩
        clear hlong hll hn hn8 hl1 hl2 hd
        have c0d : W1.drew.cell? ⟨b, 0, none⟩ = some (.int .i64 most) := c0
        have c2d : W1.drew.cell? ⟨b, 2, none⟩ = some (.slice a0 n k0) := c2
        have f7d : W1.drew.cell? ⟨g, 7, none⟩ = some (.string s) := f7
        go_enter Tryd.func57, Tryd.ntmps57
        go_upto_region 1 with fail
        go_still (by kernel_rfl)
        obtain ⟨R1, hR1⟩ : ∃ R, W1.drew = R := ⟨_, rfl⟩
        have HR1 : Below W1.heap.size W1 R1 := by rw [← hR1]; exact (Below.refl _ _).drew
        change Exit.then _ _ Exit.normal _ W1.drew
        rw [hR1] at c0d c2d f7d ⊢
        clear hR1
        go_upto_region 4 with fail
        go_still (by kernel_rfl)
        change Exit.then _ _ Exit.normal _ R1.drew
        have HV : Sl (Below W1.heap.size W1 R1.drew) := ⟨HR1.drew⟩
        clear HR1 c0d c2d f7d
        go_upto_region 8 with fail
        obtain ⟨W5, hW5⟩ : ∃ V, R1.drew = V := ⟨_, rfl⟩
        rw [hW5] at HV ⊢
        have HMV := Sl.mk (HM1.out.below HV.out)
        have HGV : Sl (Goes W1 W5 b (.slice a0 n k0) p (.slice a0 n k0) p) := ⟨Goes.below b _ p HV.out⟩
        have HFV : Sl (W5.heap[g]? = some (.cells #[.bool fin, .int .i64 0, .bool m, .int .u8 ((ka : Nat) : Int), .int .u8 ((kb : Nat) : Int), .int .u8 ((kc : Nat) : Int), .int .u8 ((kd : Nat) : Int), .string s] 44 (0, 0))) := ⟨below_key HF1.out HV.out⟩
        obtain ⟨cp, hcp⟩ : ∃ c, p = .pointer (some ⟨c, 0, none⟩) := by obtain ⟨c, hc, _⟩ := HM1.out.C HON.out; exact ⟨c, hc⟩
        subst hcp
        obtain ⟨f50, _, _, _, _, _, _, f57⟩ := bx8 HFV.out
        go_still_tail 7, (by kernel_rfl)
        change wpList _ _ _ _ _ W5.drew
        clear f50 f57
        have HD8 : Below W5.heap.size W5 W5.drew := (Below.refl _ _).drew
        have HM8 := HMV.out.below HD8
        have HG8 := HGV.out.trans (Goes.below b _ _ HD8)
        have hF8 : W5.drew.heap[g]? = some (.cells #[.bool fin, .int .i64 0, .bool m, .int .u8 ((ka : Nat) : Int), .int .u8 ((kb : Nat) : Int), .int .u8 ((kc : Nat) : Int), .int .u8 ((kd : Nat) : Int), .string s] 44 (0, 0)) := HFV.out
        have CA := add_any HM8 HON.out HG.out s fin HS.out HTL.out _ (chkS_ok st.op fin st.text (bytes s))
        have HN8 : Sl (¬ Mine b _ _ g) := ⟨fun e => by
          have h1 := HNG.out g
          rcases HG8.mine g e with h2 | h2
          · have := h1 h2
            have := HGS.out
            omega
          · have := (Array.getElem?_eq_some_iff.1 HF1.out).1
            omega⟩
        have HGs8 := Sl.mk HG8
        have HFs8 := Sl.mk hF8
        clear HM8 HG8 hF8 HD8
        go_wp2_with fail
        refine CA.mono ?_
        rintro e w6 ⟨v6, rfl, HM6, HG6⟩
        clear CA
        have HF6 : Sl (w6.heap[g]? = some (.cells #[.bool fin, .int .i64 0, .bool m, .int .u8 ((ka : Nat) : Int), .int .u8 ((kb : Nat) : Int), .int .u8 ((kc : Nat) : Int), .int .u8 ((kd : Nat) : Int), .string s] 44 (0, 0))) := ⟨by rw [HG6.out.kept.block g (Array.getElem?_eq_some_iff.1 HFs8.out).1 HN8.out]; exact HFs8.out⟩
        have HGA := Sl.mk ((Goes.below b _ _ HB1.out).trans (HGs8.out.trans HG6.out))
        obtain ⟨k, hk⟩ : ∃ k, okT st.op fin (st.text ++ bytes s) = k := ⟨_, rfl⟩
        have HK := Sl.mk hk
        obtain ⟨f0, _, _, _, _, _, _, _⟩ := bx8 HF6.out
        rw [hk]
        clear hk HG6 HGs8 HFs8 HN8
        cases k with
        | false =>
          have HES : Sl (r = (bad 122, none)) := ⟨by
            rw [HRR.out, more, if_neg (Int.not_lt.2 HLG.out), if_pos HK.out]⟩
          go_wp2
          go_ret2
          have HE := HES.out
          subst HE
          exact ⟨_, _, _, rfl, ⟨⟨_, _, _, HM6.out, fun e => absurd e (by decide)⟩, HGA.out, fun e => absurd e (by decide)⟩⟩
        | true =>
          cases fin with
          | false =>
            have HES : Sl (r = (⟨0, false, true, st.op, st.text ++ bytes s⟩, none)) := ⟨by
              rw [HRR.out, more, if_neg (Int.not_lt.2 HLG.out), if_neg (by rw [HK.out]; decide), if_neg (by decide)]⟩
            go_wp2
            go_ret2
            have HE := HES.out
            subst HE
            exact ⟨_, _, _, rfl, ⟨⟨_, _, _, HM6.out, fun _ => ⟨rfl, rfl, chkS_add _ _ _⟩⟩, HGA.out, fun _ => rfl⟩⟩
          | true =>
            have HES : Sl (r = (M0, some ⟨st.op, 0, st.text ++ bytes s⟩)) := ⟨by
              rw [HRR.out, more, if_neg (Int.not_lt.2 HLG.out), if_neg (by rw [HK.out]; decide), if_pos rfl]⟩
            obtain ⟨a6, n6, k6, rfl⟩ : ∃ a n k, v6 = .slice a n k := by obtain ⟨a, k, e⟩ := HM6.out.slice; exact ⟨a, _, k, e⟩
            obtain ⟨_, y1, y2, y3, _, _⟩ := HM6.out.cells
            have HRG : Sl (w6.rangeAt b 1 [.int .i64 st.op, .slice a6 n6 k6, .pointer (some ⟨cp, 0, none⟩)]) := ⟨fun j u hu => by
              match j, hu with
              | 0, hu => injection hu with hu; subst hu; exact y1
              | 1, hu => injection hu with hu; subst hu; exact y2
              | 2, hu => injection hu with hu; subst hu; exact y3⟩
            obtain ⟨w7, hw7⟩ : ∃ V, (w6.alloc (.cells #[.int .i64 0, .slice none 0 0, .pointer none] 83)).setRow w6.heap.size #[.int .i64 st.op, .slice a6 n6 k6, .pointer (some ⟨cp, 0, none⟩)] = V := ⟨_, rfl⟩
            have HB7 : Sl (Below w6.heap.size w6 w7) := ⟨by rw [← hw7]; exact below_setRow ((Below.refl _ _).alloc (Nat.le_refl _) _) (Nat.le_refl _) _⟩
            have HQ7 : Sl (w7.heap[w6.heap.size]? = some (.cells #[.int .i64 st.op, .slice a6 n6 k6, .pointer (some ⟨cp, 0, none⟩)] 83 (0, 0))) := ⟨by rw [← hw7]; exact setRow_heap _ _ _ _ _ _ (alloc_new _ _ _ rfl)⟩
            have HM7 := Sl.mk (HM6.out.below HB7.out)
            obtain ⟨_, x1, x2, x3, _, _⟩ := HM7.out.cells
            have z1 := HM7.out.froz 1
            have z2 := HM7.out.froz 2
            have z3 := HM7.out.froz 3
            have HI := msg_info (cs := #[.int .i64 st.op, .slice a6 n6 k6, .pointer (some ⟨cp, 0, none⟩)]) rfl
            have HAL : Sl ((#[.int .i64 st.op, .slice a6 n6 k6, .pointer (some ⟨cp, 0, none⟩)] : Array Value).all (·.oneCell') = true) := ⟨msg_all _ _ _ _ _⟩
            clear y1 y2 y3
            go_upto_region 13 with (first | (refine wpList_load_mid rfl 83 (.tmp 58) rfl b 1 rfl [.int .i64 st.op, .slice a6 n6 k6, .pointer (some ⟨cp, 0, none⟩)] _ HRG.out Tryd.underlying83 rfl HI ?_) | (refine wpList_store_row rfl 83 (.tmp 8) (.tmp 59) rfl w6.heap.size #[.int .i64 st.op, .slice a6 n6 k6, .pointer (some ⟨cp, 0, none⟩)] rfl rfl 83 #[.int .i64 0, .slice none 0 0, .pointer none] (alloc_new _ _ _ rfl) HI rfl HAL.out ?_))
            rw [hw7]
            clear hw7 HI
            go_wp2
            go_ret2
            have HE := HES.out
            subst HE
            obtain ⟨hm9, hg9, hr9⟩ := wiped HM7.out (grown_refl _ _) HM7.out.X
            have hlt := (Array.getElem?_eq_some_iff.1 HQ7.out).1
            have hne : w6.heap.size ≠ b := by have := HM6.out.lt; omega
            exact ⟨_, _, _, rfl, ⟨⟨_, _, _, hm9, fun _ => ⟨rfl, rfl, rfl⟩⟩, (HGA.out.trans (Goes.below b _ _ HB7.out)).trans hg9, fun _ => ⟨_, _, rfl, fun args V => by kernel_rfl, tmore_any (by rw [hr9.block _ hlt (fun e => hne (by injection e))]; exact HQ7.out) (HM7.out.O.kept hr9 (.inr (own_kind HM7.out.O HM7.out.X (by decide))))⟩⟩⟩
    · skip
      have HES : Sl (r = (bad 120, none)) := ⟨by
        rw [← HR.out]
        show (if decide (op = 0) ≠ st.begun then _ else _) = _
        rw [hb, decide_eq_false h0]
        rfl
      ⟩
      have q1 : (st.op != 0) = true := by simpa using ho
      have q2 : (op != 0) = true := by simpa using h0
      go_enter Tryd.func57, Tryd.ntmps57
      go_upto_region 1 with fail
      go_still (by kernel_rfl)
      have HD : Below W1.heap.size W1 W1.drew := (Below.refl _ _).drew
      go_wp2
      go_ret2
      have HE := HES.out
      subst HE
      exact ⟨_, _, _, rfl, ⟨⟨_, _, _, HM1.out.below HD, fun e => absurd e (by decide)⟩, Goes.below b _ p (HB1.out.trans (HD.mono HB1.out.size)), fun e => absurd e (by decide)⟩⟩
end
end Go.Proofs.YtimndpmbgfoofaaDoor.Msg
/- msg: read: a frame's event is made ready. -/
set_option maxRecDepth 100000
namespace Go.Proofs.YtimndpmbgfoofaaDoor.Msg
open Go.RowKit UtfPlain MsgPlain Fra Utf Cls
open FramePlain (Fr form chk ctl zero4 form_cases)
open ClosePlain (getC)

theorem step_bad {most : Int} {st : Ms} {f : Fr} (h : form f = false) : MsgPlain.step most st f = (bad 120, none) := if_pos h
theorem step_tell {most : Int} {st : Ms} {f : Fr} (h : form f = true) (ho : f.op = 9 ∨ f.op = 10) : MsgPlain.step most st f = (st, some ⟨f.op, 0, f.data⟩) := by
  unfold MsgPlain.step
  rw [if_neg (by rw [h]; decide), if_pos ho]
theorem step_end {most : Int} {st : Ms} {f : Fr} (h : form f = true) (ho : f.op = 8) : MsgPlain.step most st f = ended (getC f.data) := by
  unfold MsgPlain.step
  rw [if_neg (by rw [h]; decide), if_neg (by omega), if_pos ho]
  rfl
theorem step_mored {most : Int} {st : Ms} {f : Fr} (h : form f = true) (ho : ¬ (f.op = 9 ∨ f.op = 10)) (h8 : ¬ f.op = 8) : MsgPlain.step most st f = mored most st f.fin f.op f.data := by
  unfold MsgPlain.step
  rw [if_neg (by rw [h]; decide), if_neg ho, if_neg h8]
  rfl
section
variable {w0 W : World} {b : Nat} {most : Int} {st : Ms} {v p : Value}
set_option maxHeartbeats 1000000 in
theorem read_any (h : MacS w0 W b most st v p) (he : st.err = 0) (hov : st.over = false) (hg : Utf.Globs w0) (fin : Bool) (op : Int) (m : Bool) (ka kb kc kd : Nat) (s : ByteArray) (hk : Small 256 [ka, kb, kc, kd]) (hs : s.size ≤ 100000) :
    Calls Tryd.prog 41 #[.pointer (some ⟨b, 0, none⟩), (.agg #[.bool fin, .int .i64 op, .bool m, .int .u8 ((ka : Nat) : Int), .int .u8 ((kb : Nat) : Int), .int .u8 ((kc : Nat) : Int), .int .u8 ((kd : Nat) : Int), .string s])] W fun e w' => ∃ v' p' tv, e = .returned (.tuple #[tv, .int .i64 ((MsgPlain.step most st (⟨fin, op, m, [ka, kb, kc, kd], bytes s⟩ : Fr)).1.err : Int)]) ∧ Sl (Went w0 W w' b most (MsgPlain.step most st (⟨fin, op, m, [ka, kb, kc, kd], bytes s⟩ : Fr)) v p v' p' tv) := by
  obtain ⟨r, hr⟩ : ∃ r, MsgPlain.step most st (⟨fin, op, m, [ka, kb, kc, kd], bytes s⟩ : Fr) = r := ⟨_, rfl⟩
  rw [hr]
  obtain ⟨W1, hW1⟩ : ∃ V, W.alloc (.cells #[.bool fin, .int .i64 op, .bool m, .int .u8 ((ka : Nat) : Int), .int .u8 ((kb : Nat) : Int), .int .u8 ((kc : Nat) : Int), .int .u8 ((kd : Nat) : Int), .string s] 44) = V := ⟨_, rfl⟩
  have HB1 : Sl (Below W.heap.size W W1) := ⟨by rw [← hW1]; exact (Below.refl _ _).alloc (Nat.le_refl _) _⟩
  have HF1 : Sl (W1.heap[W.heap.size]? = some (.cells #[.bool fin, .int .i64 op, .bool m, .int .u8 ((ka : Nat) : Int), .int .u8 ((kb : Nat) : Int), .int .u8 ((kc : Nat) : Int), .int .u8 ((kd : Nat) : Int), .string s] 44 (0, 0))) := ⟨by rw [← hW1]; exact alloc_new _ _ _ rfl⟩
  obtain ⟨e0, e1, e2, e3, e4, e5, e6, e7⟩ := bx8 HF1.out
  have CK := check_any fin op m ka kb kc kd s W1 hk
  have HM := Sl.mk h
  have HG := Sl.mk hg
  have HS := Sl.mk hs
  have HR := Sl.mk hr
  have HE := Sl.mk he
  have HO := Sl.mk hov
  clear hr hg hs hk h he hov
  cases hf : form (⟨fin, op, m, [ka, kb, kc, kd], bytes s⟩ : Fr) with
  | false =>
    rw [Fra.chk_form hf] at CK
    have HES : Sl (r = (bad 120, none)) := ⟨by rw [← HR.out]; exact step_bad hf⟩
    clear hf
    go_enter Tryd.func41, Tryd.ntmps41
    go_wp2_with fail
    refine CK.mono ?_
    rintro e w2 ⟨rfl, HB2⟩
    clear CK
    go_wp2
    go_ret2
    have HE2 := HES.out
    subst HE2
    have hb := HB1.out.trans (HB2.out.mono HB1.out.size)
    have hm := (HM.out.below hb).m
    rw [HE.out, HO.out] at hm
    exact ⟨_, _, _, rfl, ⟨⟨_, _, _, hm, fun e => absurd e (by decide)⟩, Goes.below b _ _ hb, fun e => absurd e (by decide)⟩⟩
  | true =>
    obtain ⟨k, hk⟩ : ∃ k, chk (⟨fin, op, m, [ka, kb, kc, kd], bytes s⟩ : Fr) = k := ⟨_, rfl⟩
    have hkq : (((k : Nat) : Int) == 91) = false := by
      refine beq_eq_false_iff_ne.2 (fun e => ?_)
      have e' : k = 91 := by omega
      rw [← hk] at e'
      unfold chk at e'
      rw [if_neg (by rw [hf]; decide)] at e'
      split at e' <;> cases e'
    rw [hk] at CK
    have HF := Sl.mk hf
    clear hk hf
    by_cases hp : op = 9 ∨ op = 10
    · have HES : Sl (r = (st, some ⟨op, 0, bytes s⟩)) := ⟨by rw [← HR.out]; exact step_tell HF.out hp⟩
      rcases hp with rfl | rfl
      all_goals
        go_enter Tryd.func41, Tryd.ntmps41
        go_wp2_with fail
        refine CK.mono ?_
        rintro e w2 ⟨rfl, HB2⟩
        clear CK
        have HF2 : Sl (w2.heap[W.heap.size]? = some (.cells _ 44 (0, 0))) := ⟨below_key HF1.out HB2.out⟩
        obtain ⟨_, g1, _, _, _, _, _, _⟩ := bx8 HF2.out
        go_wp2
        go_ret2
        have HE2 := HES.out
        subst HE2
        have hb := HB1.out.trans (HB2.out.mono HB1.out.size)
        have hm := (HM.out.below hb).m
        rw [HE.out] at hm
        exact ⟨_, _, _, by rw [HE.out]; rfl, ⟨⟨_, _, _, hm, fun _ => ⟨rfl, rfl, rfl⟩⟩, Goes.below b _ _ hb, fun _ => ⟨_, _, rfl, fun args V => by kernel_rfl, tread_any HF2.out (by have := HS.out; omega)⟩⟩⟩
    · have n9 : (op == 9) = false := beq_eq_false_iff_ne.2 (fun e => hp (.inl e))
      have n10 : (op == 10) = false := beq_eq_false_iff_ne.2 (fun e => hp (.inr e))
      by_cases h8 : op = 8
      · subst h8
        have HES : Sl (r = ended (getC (bytes s))) := ⟨by rw [← HR.out]; exact step_end HF.out rfl⟩
        clear hp
        go_enter Tryd.func41, Tryd.ntmps41
        go_wp2_with fail
        refine CK.mono ?_
        rintro e w2 ⟨rfl, HB2⟩
        clear CK
        have HF2 : Sl (w2.heap[W.heap.size]? = some (.cells _ 44 (0, 0))) := ⟨below_key HF1.out HB2.out⟩
        obtain ⟨_, g1, _, _, _, _, _, g7⟩ := bx8 HF2.out
        have hb := HB1.out.trans (HB2.out.mono HB1.out.size)
        have hm := (HM.out.below hb).m
        rw [HE.out, HO.out] at hm
        have HBB := Sl.mk hb
        have CE := end_any hm HG.out s (by have := HS.out; omega)
        clear hm hb
        go_wp2_with fail
        refine CE.mono ?_
        rintro e w3 ⟨v', p', tv, rfl, HWT⟩
        clear CE
        go_wp2
        go_ret2
        have HE2 := HES.out
        subst HE2
        exact ⟨_, _, _, rfl, ⟨HWT.out.before HBB.out⟩⟩
      · have n8 : (op == 8) = false := beq_eq_false_iff_ne.2 h8
        have HES : Sl (r = mored most st fin op (bytes s)) := ⟨by rw [← HR.out]; exact step_mored HF.out hp h8⟩
        have hop : 0 ≤ op ∧ op ≤ 2 := by
          rcases (form_cases HF.out).1 with h | ⟨h1, h2, _⟩
          · exact h
          · exact absurd (show op = 8 ∨ op = 9 ∨ op = 10 from by have h1' : 8 ≤ op := h1; have h2' : op ≤ 10 := h2; omega) (fun e => e.elim h8 hp)
        have HOP := Sl.mk hop
        clear hp h8 hop
        go_enter Tryd.func41, Tryd.ntmps41
        go_wp2_with fail
        refine CK.mono ?_
        rintro e w2 ⟨rfl, HB2⟩
        clear CK
        have HF2 : Sl (w2.heap[W.heap.size]? = some (.cells _ 44 (0, 0))) := ⟨below_key HF1.out HB2.out⟩
        obtain ⟨g0, g1, g2, g3, g4, g5, g6, g7⟩ := bx8 HF2.out
        have HBB := Sl.mk (HB1.out.trans (HB2.out.mono HB1.out.size))
        have CE := more_any (HM.out.below HBB.out) HE.out HO.out HG.out fin op m ka kb kc kd s HOP.out HS.out
        clear e0 e1 e2 e3 e4 e5 e6 e7
        go_wp2_with fail
        refine CE.mono ?_
        rintro e w3 ⟨v', p', tv, rfl, HWT⟩
        clear CE
        go_wp2
        go_ret2
        have HE2 := HES.out
        subst HE2
        exact ⟨_, _, _, rfl, ⟨HWT.out.before HBB.out⟩⟩
end
end Go.Proofs.YtimndpmbgfoofaaDoor.Msg
