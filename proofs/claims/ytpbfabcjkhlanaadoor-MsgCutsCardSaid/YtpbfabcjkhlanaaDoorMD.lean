/- msg: end. -/
import Derived.Test.YtpbfabcjkhlanaaDoorMC
set_option maxRecDepth 100000
namespace Go.Proofs.YtpbfabcjkhlanaaDoor.Msg
open Go.RowKit UtfPlain MsgPlain Fra Utf Cls
open FramePlain (Fr form chk ctl zero4)
open ClosePlain (getC)

/-- What came of a frame, as read, end and more answer it: tv tells its event. -/
structure Went (w0 W w' : World) (b : Nat) (most : Int) (r : Ms × Option Ev) (v p v' p' tv : Value) : Prop where
  mac : ∃ op text o, Mac w0 w' b most op text o 0 r.1.over v' p' ∧ (r.1.err = 0 → op = r.1.op ∧ text = r.1.text ∧ o = chkS r.1.op r.1.text)
  goes : Goes W w' b v p v' p'
  tell : r.1.err = 0 → Tell w' tv r.2
/-- A message is dropped. -/
theorem wiped {w0 W W2 : World} {b : Nat} {most op : Int} {text : List Nat} {o : Option St} {err err' : Nat} {over over' : Bool} {v p : Value} (h : Mac w0 W b most op text o err over v p) (g : W.grownBy W2 (some b))
    (hX : W2.heap[b]? = some (.cells #[.int .i64 most, .int .i64 op, v, p, .int .i64 (err' : Int), .bool over'] 50 (0, 0))) :
    Mac w0 (((W2.setCell ⟨b, 1, none⟩ (.int .i64 0)).setCell ⟨b, 2, none⟩ (.slice none 0 0)).setCell ⟨b, 3, none⟩ (.pointer none)) b most 0 [] (some s0) err' over' (.slice none 0 0) (.pointer none) ∧
    Goes W (((W2.setCell ⟨b, 1, none⟩ (.int .i64 0)).setCell ⟨b, 2, none⟩ (.slice none 0 0)).setCell ⟨b, 3, none⟩ (.pointer none)) b v p (.slice none 0 0) (.pointer none) ∧
    W.grownBy (((W2.setCell ⟨b, 1, none⟩ (.int .i64 0)).setCell ⟨b, 2, none⟩ (.slice none 0 0)).setCell ⟨b, 3, none⟩ (.pointer none)) (some b) := by
  have g3 := grown_trans g (grown_trans (grown_trans (grown_setCell W2 b 1 (.int .i64 0)) (grown_setCell _ b 2 (.slice none 0 0))) (grown_setCell _ b 3 (.pointer none)))
  obtain ⟨h1, h2⟩ := h.write g3 (op' := 0) (text' := []) (o' := some s0) (err' := err') (over' := over') (v' := .slice none 0 0) (p' := .pointer none) (by
    rw [heap_setCell_same _ _ _ _ _ _ (heap_setCell_same _ _ _ _ _ _ (heap_setCell_same _ _ _ _ _ _ hX))]
    rfl) (.inr ⟨rfl, rfl, rfl, rfl, okO0⟩)
  exact ⟨h1, h2, g3⟩
theorem Went.before {w0 W V w' : World} {b : Nat} {most : Int} {r : Ms × Option Ev} {v p v' p' tv : Value} (h : Went w0 V w' b most r v p v' p' tv) (hb : Below W.heap.size W V) : Went w0 W w' b most r v p v' p' tv :=
  ⟨h.mac, (Goes.below b v p hb).trans h.goes, h.tell⟩
/-- What comes of an end's data. -/
def ended (c : Int × List Nat × Nat) : Ms × Option Ev := if c.2.2 = 0 then (done, some ⟨8, c.1, c.2.1⟩) else (bad c.2.2, none)
section
variable {w0 W : World} {b : Nat} {most op : Int} {text : List Nat} {o : Option St} {v p : Value}
/-- Two variables that a closure keeps. -/
theorem two_boxes (w : World) (n : Int) (t : ByteArray) : ∃ V, (((w.alloc (.cells #[.int .i64 0] 3)).alloc (.cells #[.string { data := #[] }] 9)).setCell ⟨w.heap.size, 0, none⟩ (.int .i64 n)).setCell ⟨(w.alloc (.cells #[.int .i64 0] 3)).heap.size, 0, none⟩ (.string t) = V ∧ Sl (Below w.heap.size w V) ∧
    Sl (V.heap[w.heap.size]? = some (.cells #[.int .i64 n] 3 (0, 0))) ∧ Sl (V.heap[(w.alloc (.cells #[.int .i64 0] 3)).heap.size]? = some (.cells #[.string t] 9 (0, 0))) := by
  obtain ⟨a, ha⟩ : ∃ V, w.alloc (.cells #[.int .i64 0] 3) = V := ⟨_, rfl⟩
  obtain ⟨q, hq⟩ : ∃ q, a.heap.size = q := ⟨_, rfl⟩
  have hs : q = w.heap.size + 1 := by rw [← hq, ← ha]; exact alloc_size _ _
  have h1 : (a.alloc (.cells #[.string { data := #[] }] 9)).heap[w.heap.size]? = some (.cells #[.int .i64 0] 3 (0, 0)) := by rw [alloc_old _ _ _ (by omega), ← ha]; exact alloc_new _ _ _ rfl
  have h2 : (a.alloc (.cells #[.string { data := #[] }] 9)).heap[q]? = some (.cells #[.string { data := #[] }] 9 (0, 0)) := alloc_new _ _ _ hq.symm
  have hB : Below w.heap.size w (a.alloc (.cells #[.string { data := #[] }] 9)) := by rw [← ha]; exact ((Below.refl _ _).alloc (Nat.le_refl _) _).alloc (by rw [alloc_size]; omega) _
  refine ⟨_, rfl, ⟨?_⟩, ⟨?_⟩, ⟨?_⟩⟩
  · rw [ha, hq]
    exact (hB.setCell (Nat.le_refl _) _).setCell (by show w.heap.size ≤ q; omega) _
  · rw [ha, hq, heap_setCell_other _ _ _ _ (by show w.heap.size ≠ q; omega), heap_setCell_same _ _ _ _ _ _ h1]
    rfl
  · rw [ha, hq, heap_setCell_same _ _ _ _ _ _ (show _ = some (Obj.cells #[.string { data := #[] }] 9 (0, 0)) by rw [heap_setCell_other _ _ _ _ (by show q ≠ w.heap.size; omega)]; exact h2)]
    rfl
theorem end_any (h : Mac w0 W b most op text o 0 false v p) (hg : Utf.Globs w0) (s : ByteArray) (hs : s.size ≤ 1000000) :
    Calls Tryd.prog 20 #[.pointer (some ⟨b, 0, none⟩), .string s] W fun e w' => ∃ v' p' tv, e = .returned (.tuple #[tv, .int .i64 ((ended (getC (bytes s))).1.err : Int)]) ∧ Sl (Went w0 W w' b most (ended (getC (bytes s))) v p v' p' tv) := by
  obtain ⟨n, t, k, hget⟩ := get_str s
  have C := get_any s W (hg.below h.L hg.size) hs
  rw [hget] at C ⊢
  unfold gotV at C
  simp only [strOf_bytes] at C
  have HM := Sl.mk h
  clear hget hg hs h
  obtain ⟨r, hr⟩ : ∃ r, ended (n, bytes t, k) = r := ⟨_, rfl⟩
  rw [hr]
  have HR := Sl.mk hr
  clear hr
  go_enter Tryd.func20, Tryd.ntmps20
  go_wp2_with fail
  refine C.mono ?_
  rintro e w1 ⟨rfl, HB1⟩
  clear C
  have HM1 := Sl.mk (HM.out.below HB1.out)
  obtain ⟨wd, hwd, HB2, HG2, HQ2⟩ := two_boxes w1 n t
  obtain ⟨wa, hwa⟩ : ∃ V, w1.alloc (.cells #[.int .i64 0] 3) = V := ⟨_, rfl⟩
  obtain ⟨wb, hwb⟩ : ∃ V, wa.alloc (.cells #[.string { data := #[] }] 9) = V := ⟨_, rfl⟩
  rw [hwa, hwb] at hwd
  rw [hwa] at HQ2
  have hq1 : wa.heap.size = w1.heap.size + 1 := by rw [← hwa]; exact alloc_size _ _
  have hb1 : wb.heap[w1.heap.size]? = some (.cells #[.int .i64 0] 3 (0, 0)) := by rw [← hwb, alloc_old _ _ _ (by omega), ← hwa]; exact alloc_new _ _ _ rfl
  have hb2 : wb.heap[wa.heap.size]? = some (.cells #[.string { data := #[] }] 9 (0, 0)) := by rw [← hwb]; exact alloc_new _ _ _ rfl
  have HM2 := Sl.mk (HM1.out.below HB2.out)
  have HQ1 := Sl.mk hq1
  have e1 := cell_of_one hb1
  have e2 := cell_of_one hb2
  have f1 : wb.frozen? ⟨w1.heap.size, 0, none⟩ = false := frozen_of_row _ _ _ _ _ hb1
  have f2 : wb.frozen? ⟨wa.heap.size, 0, none⟩ = false := frozen_of_row _ _ _ _ _ hb2
  have hne : w1.heap.size ≠ wa.heap.size := by omega
  obtain ⟨wc, hwc⟩ : ∃ V, wb.setCell ⟨w1.heap.size, 0, none⟩ (.int .i64 n) = V := ⟨_, rfl⟩
  rw [hwc] at hwd
  have e3 : wc.cell? ⟨wa.heap.size, 0, none⟩ = some (.string { data := #[] }) := by rw [← hwc, World.cell?_setCell_other (h := fun e => hne (by injection e))]; exact e2
  have f3 : wc.frozen? ⟨wa.heap.size, 0, none⟩ = false := by rw [← hwc, World.frozen?_setCell]; exact f2
  clear hb1 hb2 hq1 e2 f2
  go_upto_region 2 with fail
  clear e1 f1 e3 f3 hwd hwc hwa hwb hne
  by_cases hk : k = 0
  · subst hk
    have HE : r = (done, some ⟨8, n, bytes t⟩) := by rw [← HR.out]; exact if_pos rfl
    have HES := Sl.mk HE
    clear HE
    go_upto_region 4 with fail
    obtain ⟨_, d1, d2, d3, _, d5⟩ := HM2.out.cells
    have g1 := HM2.out.froz 1
    have g2 := HM2.out.froz 2
    have g3 := HM2.out.froz 3
    have g5 := HM2.out.froz 5
    go_wp2
    go_ret2
    have hX5 : (wd.setCell ⟨b, 5, none⟩ (.bool true)).heap[b]? = some (.cells #[.int .i64 most, .int .i64 op, v, p, .int .i64 ((0 : Nat) : Int), .bool true] 50 (0, 0)) := by
      rw [heap_setCell_same _ _ _ _ _ _ HM2.out.X]; rfl
    obtain ⟨hm, hgo, hgr⟩ := wiped HM2.out (grown_setCell _ _ _ _) hX5
    have hlt := HM.out.lt
    have hle := HB1.out.size
    have h1 := HG2.out
    have h2 := HQ2.out
    have hl1 := (Array.getElem?_eq_some_iff.1 h1).1
    have hl2 := (Array.getElem?_eq_some_iff.1 h2).1
    have hq := HQ1.out
    have HE := HES.out
    subst HE
    refine ⟨_, _, _, rfl, ⟨⟨_, _, _, hm, fun _ => ⟨rfl, rfl, rfl⟩⟩, (Goes.below b v p (HB1.out.trans (HB2.out.mono hle))).trans hgo, fun _ => ⟨_, _, rfl, fun args V => by kernel_rfl, tend_any ?_ ?_⟩⟩⟩
    · rw [hgr.block _ hl1 (fun e => by injection e with e; omega)]; exact h1
    · rw [hgr.block _ hl2 (fun e => by injection e with e; omega)]; exact h2
  · have hkq : ((k : Int) != 0) = true := by simpa using hk
    have HE : r = (bad k, none) := by rw [← HR.out]; exact if_neg hk
    have HES := Sl.mk HE
    clear HE
    have HKE := Sl.mk hk
    clear hk
    go_wp2
    go_ret2
    have HE := HES.out
    subst HE
    refine ⟨_, _, _, rfl, ⟨⟨_, _, _, HM2.out, fun h => absurd h HKE.out⟩, Goes.below b v p (HB1.out.trans (HB2.out.mono HB1.out.size)), fun h => absurd h HKE.out⟩⟩
end
end Go.Proofs.YtpbfabcjkhlanaaDoor.Msg
