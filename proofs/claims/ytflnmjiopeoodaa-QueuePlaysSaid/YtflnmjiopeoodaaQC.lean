/- queue: the list's put and drop; Room. -/
import Derived.Test.YtflnmjiopeoodaaQB
import Derived.Test.YtflnmjiopeoodaaLast
set_option maxRecDepth 100000
namespace Go.Proofs.Ytflnmjiopeoodaa.Que
open Go.RowKit Evt QueuePlain
open MsgPlain (Ev)

theorem run_appB {ev : Operand → Value} {o : Oper} {x y : Operand} {Z w1 : World} {v0 src v1 : Value} {t : TypeId} (ho : o.op = .call { callee := .builtin .append, args := #[x, y], argTypes := #[t, t] }) (ht : o.type = t) (hs : ev x = v0) (hx : ev y = src)
    (hap : (Builtin.append_ #[t, t] t #[v0, src]).run Try.prog Z = .ok v1 w1) : (execOp ev o).run Try.prog Z = .ok (.value v1) w1 := by
  unfold execOp
  simp only [ho, ht, resolve, invoke, builtin, Sem.run_bind, Sem.run_pure, Result.andThen_ok, List.map_toArray, List.map_cons, List.map_nil, hs, hx, hap]
set_option maxHeartbeats 2000000 in
theorem lput_any {w0 W : World} {q : Nat} {v : Value} {count bytes' : Int} {m : Nat} {l : List Ev} (o c : Int) (s : ByteArray) (h : QuN w0 W q v count bytes' m l) (hl : l.length + 1 ≤ 1000000) :
    Calls Try.prog 22 #[.pointer (some ⟨q, 3, none⟩), .agg #[.int .i64 o, .int .i64 c, .string s]] W fun e w' => ∃ v', e = .returned (.tuple #[]) ∧ Sl (QuN w0 w' q v' count bytes' m (l ++ [⟨o, c, bytes s⟩])) ∧ Sl (Goes W w' q v v') := by
  obtain ⟨wa, hwa⟩ : ∃ V, W.alloc (.cells #[.int .i64 o, .int .i64 c, .string s] 32) = V := ⟨_, rfl⟩
  have HB : Below W.heap.size W wa := by rw [← hwa]; exact (Below.refl _ _).alloc (Nat.le_refl _) _
  have hH : wa.heap[W.heap.size]? = some (.cells #[.int .i64 o, .int .i64 c, .string s] 32 (0, 0)) := by rw [← hwa]; exact alloc_new _ _ _ rfl
  have h1 := h.below HB
  have hqa := h1.lt
  have HG0 := Sl.mk (Goes.below q v HB)
  have H1 := Sl.mk h1
  have hLN := Sl.mk hl
  obtain ⟨-, -, -, c3⟩ := h1.cells
  have hCa : W.heap.size < wa.heap.size := (Array.getElem?_eq_some_iff.1 hH).1
  have HWR : Sl (v.ownBlock ≠ some W.heap.size) := ⟨fun e => Nat.lt_irrefl _ (h.R.lt e)⟩
  clear h h1 HB hl
  go_enter Try.func22, Try.ntmps22
  go_upto_region 1 with fail
  obtain ⟨Rw, hRw⟩ : ∃ R, wa.drew = R := ⟨_, rfl⟩
  have HBR : Below wa.heap.size wa Rw := by rw [← hRw]; exact (Below.refl _ _).drew
  refine wp_region_noPanic ?_
  refine last_begin (S := fun V => V.cell? ⟨q, 3, none⟩ = some v ∧ V.heap[W.heap.size]? = some (.cells #[.int .i64 o, .int .i64 c, .string s] 32 (0, 0))) (D := fun k => k == 10) (by kernel_rfl) ?_
  change wpAnyL _ _ _ _ _ _ _ _ _ wa.drew
  rw [hRw]
  clear hRw
  have HS0 : Rw.cell? ⟨q, 3, none⟩ = some v ∧ Rw.heap[W.heap.size]? = some (.cells #[.int .i64 o, .int .i64 c, .string s] 32 (0, 0)) := ⟨(HBR.cell (p := ⟨q, 3, none⟩) hqa).trans c3, (HBR.block _ hCa).trans hH⟩
  refine last_pure (d := some 4) (op := .move (Operand.tmp 0)) (g := none) 0 ?v0 rfl (by kernel_rfl) (by kernel_rfl) (by kernel_rfl) (by kernel_rfl) rfl ?y0 HS0 ?_
  case y0 => intro o' ho W; simp only [execOp, ho]; go_simp; try rfl
  simp only [Act.put, List.setIfInBounds_toArray, List.set_cons_zero, List.set_cons_succ]
  refine last_pure (d := some 5) (op := .move (Operand.tmp 0)) (g := none) 1 ?v1 rfl (by kernel_rfl) (by kernel_rfl) (by kernel_rfl) (by kernel_rfl) rfl ?y1 HS0 ?_
  case y1 => intro o' ho W; simp only [execOp, ho]; go_simp; try rfl
  simp only [Act.put, List.setIfInBounds_toArray, List.set_cons_zero, List.set_cons_succ]
  refine last_pure (d := some 6) (op := .nilCheck (Operand.tmp 5)) (g := none) 2 ?v2 rfl (by kernel_rfl) (by kernel_rfl) (by kernel_rfl) (by kernel_rfl) rfl ?y2 HS0 ?_
  case y2 => intro o' ho W; simp only [execOp, ho]; go_simp; try rfl
  simp only [Act.put, List.setIfInBounds_toArray, List.set_cons_zero, List.set_cons_succ]
  refine last_pure (d := some 7) (op := .fieldAddr 54 (Operand.tmp 6) 0) (g := none) 3 ?v3 rfl (by kernel_rfl) (by kernel_rfl) (by kernel_rfl) (by kernel_rfl) rfl ?y3 HS0 ?_
  case y3 => intro o' ho W; simp only [execOp, ho]; go_simp; try rfl
  simp only [Act.put, List.setIfInBounds_toArray, List.set_cons_zero, List.set_cons_succ]
  refine last_take (d := some 8) (op := .load 28 (Operand.tmp 7)) (g := none) 4 ?v4 rfl (by kernel_rfl) (by kernel_rfl) (by kernel_rfl) (by kernel_rfl) (by kernel_rfl) ?y4 HS0 ?_
  case y4 => intro o' ho W hS; have hc := hS.1; simp only [execOp, ho]; go_simp; try rfl
  simp only [Act.put, List.setIfInBounds_toArray, List.set_cons_zero, List.set_cons_succ]
  refine last_take (d := some 9) (op := .load 32 (Operand.tmp 3)) (g := none) 5 ?v5 rfl (by kernel_rfl) (by kernel_rfl) (by kernel_rfl) (by kernel_rfl) (by kernel_rfl) ?y5 HS0 ?_
  case y5 => intro o' ho W hS; obtain ⟨f0, f1, f2⟩ := ev_cells hS.2; simp only [execOp, ho]; go_simp; try rfl
  simp only [Act.put, List.setIfInBounds_toArray, List.set_cons_zero, List.set_cons_succ]
  obtain ⟨X, hX⟩ : ∃ V, Rw.alloc (.cells #[.int .i64 o, .int .i64 c, .string s] 32) = V := ⟨_, rfl⟩
  have HRX : Below Rw.heap.size Rw X := by rw [← hX]; exact (Below.refl _ _).alloc (Nat.le_refl _) _
  have HSX : Below wa.heap.size wa X := HBR.trans (HRX.mono HBR.size)
  have hXn : X.heap[Rw.heap.size]? = some (.cells #[.int .i64 o, .int .i64 c, .string s] 32 (0, 0)) := by rw [← hX]; exact alloc_new _ _ _ rfl
  have hCX : X.heap[W.heap.size]? = some (.cells #[.int .i64 o, .int .i64 c, .string s] 32 (0, 0)) := (HSX.block _ hCa).trans hH
  have HS1 : X.cell? ⟨q, 3, none⟩ = some v ∧ X.heap[W.heap.size]? = some (.cells #[.int .i64 o, .int .i64 c, .string s] 32 (0, 0)) := ⟨(HSX.cell (p := ⟨q, 3, none⟩) hqa).trans c3, hCX⟩
  refine last_run (d := some 10) (op := .buildSlice 28 1 #[(0, Operand.tmp 9)]) (g := none) (t := 28) 6 (.slice (some ⟨Rw.heap.size, 0, none⟩) 1 1) X rfl (by kernel_rfl) (by kernel_rfl) ?y6 HS1 ?_
  case y6 => intro o' ho ht; simp only [execOp, ho]; go_simp; first | done | (rw [hX]; done) | rfl
  simp only [Act.put, List.setIfInBounds_toArray, List.set_cons_zero, List.set_cons_succ]
  have hq2 := H1.out.below HSX
  obtain ⟨v1, w1, hap, hr1, hg1, hb1⟩ := hq2.R.add (evs_one (e := ⟨o, c, bytes s⟩) hXn (by simp [ec, strOf_bytes])) hLN.out hq2.L.size
  obtain ⟨HQ3, HG3⟩ := hq2.rerow hg1 hr1 (fun g e => by
    rcases hb1 with h2 | h2
    · exact .inl (h2.symm.trans e)
    · exact .inr (by rw [h2] at e; injection e with e; omega))
  have hX3 : w1.heap[q]? = some (.cells #[.int .i64 count, .int .i64 bytes', .int .i64 (m : Int), v] 56 (0, 0)) := by rw [hg1.block q hq2.lt (fun e => hq2.ne e.symm)]; exact hq2.X
  have hsc : w1.cell? ⟨q, 3, none⟩ = some v := by rw [cell_of_row _ _ _ _ _ _ hX3]; rfl
  have hsf : w1.frozen? ⟨q, 3, none⟩ = false := frozen_of_row _ _ _ _ _ hX3
  have HS2 : w1.cell? ⟨q, 3, none⟩ = some v ∧ w1.heap[W.heap.size]? = some (.cells #[.int .i64 o, .int .i64 c, .string s] 32 (0, 0)) := ⟨hsc, by rw [hg1.block _ (Array.getElem?_eq_some_iff.1 hCX).1 (fun e => HWR.out e.symm)]; exact hCX⟩
  obtain ⟨av, nv, cv, rfl⟩ : ∃ a n c, v1 = .slice a n c := by obtain ⟨a, c, h⟩ := hr1.slice; exact ⟨a, _, c, h⟩
  refine last_run (d := some 11) (op := .call { callee := Callee.builtin Builtin.append, args := #[Operand.tmp 8, Operand.tmp 10], argTypes := #[28, 28] }) (g := none) (t := 28) 7 (.slice av nv cv) w1 rfl (by kernel_rfl) (by kernel_rfl) ?y7 HS2 ?_
  case y7 => intro o' ho ht; exact run_appB ho ht (by rfl) (by rfl) hap
  simp only [Act.put, List.setIfInBounds_toArray, List.set_cons_zero, List.set_cons_succ]
  refine last_pure (d := some 12) (op := .nilCheck (Operand.tmp 4)) (g := none) 8 ?v8 rfl (by kernel_rfl) (by kernel_rfl) (by kernel_rfl) (by kernel_rfl) rfl ?y8 HS2 ?_
  case y8 => intro o' ho W; simp only [execOp, ho]; go_simp; try rfl
  simp only [Act.put, List.setIfInBounds_toArray, List.set_cons_zero, List.set_cons_succ]
  refine last_pure (d := some 13) (op := .fieldAddr 54 (Operand.tmp 12) 0) (g := none) 9 ?v9 rfl (by kernel_rfl) (by kernel_rfl) (by kernel_rfl) (by kernel_rfl) rfl ?y9 HS2 ?_
  case y9 => intro o' ho W; simp only [execOp, ho]; go_simp; try rfl
  simp only [Act.put, List.setIfInBounds_toArray, List.set_cons_zero, List.set_cons_succ]
  refine last_store (d := none) (op := .store 28 (Operand.tmp 13) (Operand.tmp 11)) (g := none) (t := 0) 10 (w1.setCell ⟨q, 3, none⟩ (.slice av nv cv)) rfl (by kernel_rfl) (by kernel_rfl) ?y10 (by kernel_rfl) ?_
  case y10 => intro o' ho ht; simp only [execOp, ho]; go_simp; try rfl
  simp only [Act.put]
  refine last_done (by kernel_rfl) ?_ _
  refine NoPanic.normal ?_
  have HQ := Sl.mk HQ3
  have HG := Sl.mk (HG0.out.trans ((Goes.below q v HSX).trans HG3))
  clear HQ3 HG3 HSX HBR hq2 hr1 hg1 hb1 hX3 hsc hsf HS0 HS1 HS2
  go_end0
  exact ⟨_, rfl, HQ, HG⟩
end Go.Proofs.Ytflnmjiopeoodaa.Que
