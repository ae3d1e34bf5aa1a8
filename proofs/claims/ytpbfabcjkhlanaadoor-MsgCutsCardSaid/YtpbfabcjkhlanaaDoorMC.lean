/- msg: what is told: events as values, and the closures that make them. -/
import Derived.Test.YtpbfabcjkhlanaaDoorMB
set_option maxRecDepth 100000
namespace Go.Proofs.YtpbfabcjkhlanaaDoor.Msg
open Go.RowKit UtfPlain MsgPlain Fra Utf Cls
open FramePlain (Fr form chk ctl zero4)
open ClosePlain (getC)

/-- An event's cells, and its value. -/
def evC (op code : Int) (s : ByteArray) : Array Value := #[.int .i64 op, .int .i64 code, .string s]
def evV (x : Ev) : Value := .agg (evC x.op x.code (strOf x.data))
def evO : Option Ev → Value
  | some x => evV x
  | none => .agg #[.int .i64 0, .int .i64 0, .string { data := #[] }]
/-- What tells an event, or nothing. -/
def Tell (W : World) (tv : Value) : Option Ev → Prop
  | none => tv = .nilFunc
  | some x => ∃ (n : FuncId) (cs : Array Value), tv = .func (.func n) #[] cs ∧ (∀ args V, (callFunc n args).run Tryd.prog V = .ok (.enter n args) V) ∧ Calls Tryd.prog n cs W fun e w' => e = .returned (evV x) ∧ Sl (Below W.heap.size W w')
theorem ev_info {cs : Array Value} (h : cs.size = 3) : (Tryd.prog.info? 30).map (·.size) = some cs.size := by rw [h]; kernel_rfl
theorem ret_ev {fn : Func} {p : Tmp} (h : fn.results = #[.cell p 30]) (tmps : Array Value) (w : World) (g : Nat) (t : TypeId) (cs : Array Value) (fr : Nat × Nat)
    (hp : tmps.getD p undef = .pointer (some ⟨g, 0, none⟩)) (hg : w.heap[g]? = some (.cells cs t fr)) (hs : cs.size = 3) : (results fn tmps).run Tryd.prog w = .ok (.agg cs) w :=
  results_cell_row h tmps w g t cs fr _ hp hg Tryd.underlying30 rfl (ev_info hs)
theorem ev_all (a b : Int) (s : ByteArray) : (#[.int .i64 a, .int .i64 b, .string s] : Array Value).all (·.oneCell') = true := by simp [Value.oneCell']
theorem store_ev {W : World} {ev : Operand → Value} {o : Oper} {x y : Operand} {g : Nat} {old cells : Array Value} (ho : o.op = .store 30 x y) (hx : ev x = .pointer (some ⟨g, 0, none⟩)) (hy : ev y = .agg cells) (hg : W.heap[g]? = some (.cells old 30 (0, 0))) (hs : old.size = cells.size) (hi : (Tryd.prog.info? 30).map (·.size) = some cells.size) (h1 : cells.all (·.oneCell') = true) :
    (execOp ev o).run Tryd.prog W = .ok .skip (W.setRow g cells) := by
  unfold execOp
  simp only [ho, hx, hy, Instr.storeAt, Instr.sureAddr, Sem.run_bind, Sem.run_pure, Result.andThen_ok, run_storeVar_row W g 30 30 old cells hg hi hs h1]
theorem tmore_any {W : World} {base g : Nat} {op : Int} {v p : Value} {text : List Nat} (h : W.heap[g]? = some (.cells #[.int .i64 op, v, p] 48 (0, 0))) (ho : W.ownsRow base 5 1 v text.length (u8s text)) :
    Calls Tryd.prog 29 #[.pointer (some ⟨g, 0, none⟩)] W fun e w' => e = .returned (evV ⟨op, 0, text⟩) ∧ Sl (Below W.heap.size W w') := by
  obtain ⟨W1, hW1⟩ : ∃ V, W.alloc (.cells #[.int .i64 0, .int .i64 0, .string { data := #[] }] 30) = V := ⟨_, rfl⟩
  have HB : Below W.heap.size W W1 := by rw [← hW1]; exact (Below.refl _ _).alloc (Nat.le_refl _) _
  have HN : W1.heap[W.heap.size]? = some (.cells #[.int .i64 0, .int .i64 0, .string { data := #[] }] 30 (0, 0)) := by rw [← hW1]; exact alloc_new _ _ _ rfl
  have h1 := below_key h HB
  have hcv := own_conv (own_below ho HB)
  have c0 : W1.cell? ⟨g, 0, none⟩ = some (.int .i64 op) := by rw [cell_of_row _ _ _ _ _ _ h1]; rfl
  have c1 : W1.cell? ⟨g, 1, none⟩ = some v := by rw [cell_of_row _ _ _ _ _ _ h1]; rfl
  have HNS := Sl.mk HN
  have HBS := Sl.mk HB
  have HI := ev_info (cs := #[.int .i64 op, .int .i64 0, .string (strOf text)]) rfl
  obtain ⟨a, n, k, rfl⟩ : ∃ a n k, v = .slice a n k := by
    rcases ho.2 with ⟨rfl, _⟩ | ⟨g, cap, cur, rfl, _⟩
    · exact ⟨_, _, _, rfl⟩
    · exact ⟨_, _, _, rfl⟩
  clear h ho h1 HN HB
  go_enter Tryd.func29, Tryd.ntmps29
  go_wp2_with (refine wpList_store_row rfl 30 (.tmp 1) (.tmp 7) rfl W.heap.size #[.int .i64 op, .int .i64 0, .string (strOf text)] rfl rfl 30 #[.int .i64 0, .int .i64 0, .string { data := #[] }] HNS.out HI rfl (ev_all _ _ _) ?_)
  refine bodyPost_ret (ret_ev rfl _ _ W.heap.size 30 _ (0, 0) rfl (setRow_heap _ _ _ _ _ _ HNS.out) rfl) rfl ?_
  exact ⟨rfl, ⟨below_setRow HBS.out (Nat.le_refl _) _⟩⟩
theorem tend_any {W : World} {g q : Nat} {code : Int} {s : ByteArray} (h : W.heap[g]? = some (.cells #[.int .i64 code] 3 (0, 0))) (h2 : W.heap[q]? = some (.cells #[.string s] 9 (0, 0))) :
    Calls Tryd.prog 26 #[.pointer (some ⟨g, 0, none⟩), .pointer (some ⟨q, 0, none⟩)] W fun e w' => e = .returned (evV ⟨8, code, bytes s⟩) ∧ Sl (Below W.heap.size W w') := by
  obtain ⟨W1, hW1⟩ : ∃ V, W.alloc (.cells #[.int .i64 0, .int .i64 0, .string { data := #[] }] 30) = V := ⟨_, rfl⟩
  have HB : Below W.heap.size W W1 := by rw [← hW1]; exact (Below.refl _ _).alloc (Nat.le_refl _) _
  have HN : W1.heap[W.heap.size]? = some (.cells #[.int .i64 0, .int .i64 0, .string { data := #[] }] 30 (0, 0)) := by rw [← hW1]; exact alloc_new _ _ _ rfl
  have c0 := cell_of_one (below_key h HB)
  have c1 := cell_of_one (below_key h2 HB)
  have HNS := Sl.mk HN
  have HBS := Sl.mk HB
  have HI := ev_info (cs := #[.int .i64 8, .int .i64 code, .string s]) rfl
  unfold evV
  rw [strOf_bytes]
  clear h h2 HN HB
  go_enter Tryd.func26, Tryd.ntmps26
  go_wp2_with (refine wpList_store_row rfl 30 (.tmp 2) (.tmp 5) rfl W.heap.size #[.int .i64 8, .int .i64 code, .string s] rfl rfl 30 #[.int .i64 0, .int .i64 0, .string { data := #[] }] HNS.out HI rfl (ev_all _ _ _) ?_)
  refine bodyPost_ret (ret_ev rfl _ _ W.heap.size 30 _ (0, 0) rfl (setRow_heap _ _ _ _ _ _ HNS.out) rfl) rfl ?_
  exact ⟨rfl, ⟨below_setRow HBS.out (Nat.le_refl _) _⟩⟩
theorem tread_any {W : World} {g : Nat} {fin m : Bool} {op : Int} {a b c d : Nat} {s : ByteArray} (h : W.heap[g]? = some (.cells #[.bool fin, .int .i64 op, .bool m, .int .u8 ((a : Nat) : Int), .int .u8 ((b : Nat) : Int), .int .u8 ((c : Nat) : Int), .int .u8 ((d : Nat) : Int), .string s] 35 (0, 0))) (hs : s.size ≤ 1000000) :
    Calls Tryd.prog 18 #[.pointer (some ⟨g, 0, none⟩)] W fun e w' => e = .returned (evV ⟨op, 0, bytes s⟩) ∧ Sl (Below W.heap.size W w') := by
  obtain ⟨W1, hW1⟩ : ∃ V, W.alloc (.cells #[.int .i64 0, .int .i64 0, .string { data := #[] }] 30) = V := ⟨_, rfl⟩
  have HB : Below W.heap.size W W1 := by rw [← hW1]; exact (Below.refl _ _).alloc (Nat.le_refl _) _
  have HN : W1.heap[W.heap.size]? = some (.cells #[.int .i64 0, .int .i64 0, .string { data := #[] }] 30 (0, 0)) := by rw [← hW1]; exact alloc_new _ _ _ rfl
  have HNS := Sl.mk HN
  have HBS := Sl.mk HB
  have HI := ev_info (cs := #[.int .i64 op, .int .i64 0, .string s]) rfl
  unfold evV
  rw [strOf_bytes]
  have HF1 := below_key h HB
  have HGL : g < W.heap.size := (Array.getElem?_eq_some_iff.1 h).1
  have HM := Sl.mk hs
  clear h HN HB hs
  go_enter Tryd.func18, Tryd.ntmps18
  go_upto_region 1 with fail
  obtain ⟨Rw, hRw⟩ : ∃ R, W1.drew = R := ⟨_, rfl⟩
  have HBR : Below W1.heap.size W1 Rw := by rw [← hRw]; exact (Below.refl _ _).drew
  refine wp_region_noPanic ?_
  refine wp_region_held (S := fun V => V.heap[g]? = some (.cells #[.bool fin, .int .i64 op, .bool m, .int .u8 ((a : Nat) : Int), .int .u8 ((b : Nat) : Int), .int .u8 ((c : Nat) : Int), .int .u8 ((d : Nat) : Int), .string s] 35 (0, 0))) (by kernel_rfl) ?_
  change wpAnyH _ _ _ _ _ _ _ _ W1.drew
  rw [hRw]
  clear hRw
  have HS0 := below_key HF1 HBR
  have C := clone_any s Rw HM.out
  refine heldTake (d := some 2) (op := .fieldAddr 35 (Operand.tmp 0) 1) (g := none) 0 ?v0 rfl (by kernel_rfl) (by kernel_rfl) (by kernel_rfl) (by kernel_rfl) ?y0 HS0 ?_
  case y0 => intro o' ho W hS; simp only [execOp, ho]; go_simp; try rfl
  simp only [Act.put, List.setIfInBounds_toArray, List.set_cons_zero, List.set_cons_succ]
  refine heldTake (d := some 3) (op := .load 3 (Operand.tmp 2)) (g := none) 1 ?v1 rfl (by kernel_rfl) (by kernel_rfl) (by kernel_rfl) (by kernel_rfl) ?y1 HS0 ?_
  case y1 => intro o' ho W hS; obtain ⟨_, hc, _, _, _, _, _, _⟩ := bx8 hS; simp only [execOp, ho]; go_simp; try rfl
  simp only [Act.put, List.setIfInBounds_toArray, List.set_cons_zero, List.set_cons_succ]
  refine heldTake (d := some 4) (op := .fieldAddr 35 (Operand.tmp 0) 4) (g := none) 2 ?v2 rfl (by kernel_rfl) (by kernel_rfl) (by kernel_rfl) (by kernel_rfl) ?y2 HS0 ?_
  case y2 => intro o' ho W hS; simp only [execOp, ho]; go_simp; try rfl
  simp only [Act.put, List.setIfInBounds_toArray, List.set_cons_zero, List.set_cons_succ]
  refine heldTake (d := some 5) (op := .load 9 (Operand.tmp 4)) (g := none) 3 ?v3 rfl (by kernel_rfl) (by kernel_rfl) (by kernel_rfl) (by kernel_rfl) ?y3 HS0 ?_
  case y3 => intro o' ho W hS; obtain ⟨_, _, _, _, _, _, _, hc⟩ := bx8 hS; simp only [execOp, ho]; go_simp; try rfl
  simp only [Act.put, List.setIfInBounds_toArray, List.set_cons_zero, List.set_cons_succ]
  refine heldCall (d := some 6) (op := .call { callee := Callee.value (Operand.func 19), args := #[Operand.tmp 5], argTypes := #[9] }) (g := none) 4 19 #[.string s] rfl (by kernel_rfl) (by kernel_rfl) ?y4 ?_
  case y4 => intro o' ho; simp only [execOp, ho]; go_simp; try rfl
  refine (C).mono ?_
  rintro e w2 ⟨rfl, HB2⟩
  have HS2 := below_key HS0 HB2.out
  refine ⟨_, rfl, HS2, ?_⟩
  simp only [Act.put, List.setIfInBounds_toArray, List.set_cons_zero, List.set_cons_succ]
  refine heldTake (d := some 7) (op := .build 30 #[(0, Operand.tmp 3), (2, Operand.tmp 6)]) (g := none) 5 ?v5 rfl (by kernel_rfl) (by kernel_rfl) (by kernel_rfl) (by kernel_rfl) ?y5 HS2 ?_
  case y5 => intro o' ho W hS; simp only [execOp, ho]; go_simp; try rfl
  simp only [Act.put, List.setIfInBounds_toArray, List.set_cons_zero, List.set_cons_succ]
  have HBS2 : Below W1.heap.size W1 w2 := HBR.trans (HB2.out.mono HBR.size)
  have HN2 := below_key HNS.out HBS2
  obtain ⟨w3, hw3⟩ : ∃ V, w2.setRow W.heap.size #[.int .i64 op, .int .i64 0, .string s] = V := ⟨_, rfl⟩
  have HB3 : Sl (Below W.heap.size W w3) := ⟨by rw [← hw3]; exact below_setRow (HBS.out.trans (HBS2.mono HBS.out.size)) (Nat.le_refl _) _⟩
  have HN3 : Sl (w3.heap[W.heap.size]? = some (.cells #[.int .i64 op, .int .i64 0, .string s] 30 (0, 0))) := ⟨by rw [← hw3]; exact setRow_heap _ _ _ _ _ _ HN2⟩
  have HS3 : w3.heap[g]? = some (.cells #[.bool fin, .int .i64 op, .bool m, .int .u8 ((a : Nat) : Int), .int .u8 ((b : Nat) : Int), .int .u8 ((c : Nat) : Int), .int .u8 ((d : Nat) : Int), .string s] 35 (0, 0)) := by rw [← hw3, setRow_other _ _ _ _ (by omega)]; exact HS2
  refine heldStore (d := none) (op := .store 30 (Operand.tmp 1) (Operand.tmp 7)) (g := none) (t := 0) 6 w3 rfl (by kernel_rfl) (by kernel_rfl) ?y6 HS3 ?_
  case y6 => intro o' ho ht; rw [← hw3]; exact store_ev ho (by rfl) (by rfl) HN2 rfl HI (ev_all _ _ _)
  simp only [Act.put]
  refine wpAnyH_done (by kernel_rfl) ?_ _
  refine NoPanic.normal ?_
  clear HF1 HGL HBR HS0 HS2 HB2 HBS2 HN2 hw3 HS3 C
  go_wp2
  refine bodyPost_ret (ret_ev rfl _ _ W.heap.size 30 _ (0, 0) rfl HN3.out rfl) rfl ?_
  exact ⟨rfl, HB3⟩
end Go.Proofs.YtpbfabcjkhlanaaDoor.Msg
