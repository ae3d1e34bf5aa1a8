/- queue: the list's drop. -/
import Derived.Test.YtflnmjiopeoodaaQC
set_option maxRecDepth 100000
namespace Go.Proofs.Ytflnmjiopeoodaa.Que
open Go.RowKit Evt QueuePlain
open MsgPlain (Ev)

/-- The smaller of two ints, where it stands in its turn. -/
theorem wpList_minV {ops : Array Oper} {rest : List Oper} {o : Oper} {a : Act} {Q : Exit → Act → World → Prop} {w : World} (hgd : o.guard = none) (x y : Operand)
    (ho : o.op = .call { callee := .builtin .min, args := #[x, y], argTypes := #[3, 3] }) (hty : o.type = 3) (p r N : Int)
    (hx : a.eval x = .int .i64 p) (hy : a.eval y = .int .i64 r) (hN : (if r < p then r else p) = N)
    (h : wpList Try.prog ops Q rest (a.put o.dst (.int .i64 N)) w) : wpList Try.prog ops Q (o :: rest) a w := by
  refine wpList_plain hgd fun K hK => ?_
  unfold Oper.wp
  have hy2 : (execOp a.eval o).run Try.prog w = .ok (.value (.int .i64 N)) w := by
    have h1 := run_min_int2 (P := Try.prog) w #[3, 3] 3 .i64 .i64 p r
    rw [hN] at h1
    simp [execOp, ho, hty, resolve, invoke, builtin, hx, hy, h1, Result.andThen]
  rw [hy2, Oper.upon_value]
  exact hK _ _ h
/-- A row is wiped, where that stands in its turn. -/
theorem wpList_clearV {P : Program} {ops : Array Oper} {rest : List Oper} {o : Oper} {a : Act} {Q : Exit → Act → World → Prop} {w : World} (hgd : o.guard = none) (x : Operand) (t : TypeId)
    (ho : o.op = .call { callee := .builtin .clear, args := #[x], argTypes := #[t] }) (v : Value) (w' : World)
    (hx : a.eval x = v) (hrun : (Builtin.clear_ #[t] o.type #[v]).run P w = .ok (.tuple #[]) w')
    (h : wpList P ops Q rest (a.put o.dst (.tuple #[])) w') : wpList P ops Q (o :: rest) a w := by
  refine wpList_plain hgd fun K hK => ?_
  unfold Oper.wp
  have hy : (execOp a.eval o).run P w = .ok (.value (.tuple #[])) w' := by
    simp [execOp, ho, resolve, invoke, builtin, hx, hrun, Result.andThen]
  rw [hy, Oper.upon_value]
  exact hK _ _ h
theorem eslice_hm (V : World) (a : Option Addr) (n cap k : Nat) (hk : k ≤ cap) (X : Int) (hX : X = (k : Int)) : (Instr.slice 28 (.slice a n cap) none (some (.int .i64 X)) (some (.int .i64 X))).run Try.prog V = .ok (.slice a k k) V := by
  subst hX
  rw [run_slice_hm (ht := Try.underlying28) (h0 := by omega) (h2 := by omega) (h3 := by omega), show Try.prog.elem 28 = 32 from rfl, size57]
  cases a <;> simp [Result.andThen, sliced, Addr.add]
theorem eslice_l (V : World) (a : Option Addr) (n cap k : Nat) (hk : k ≤ n) (X : Int) (hX : X = (k : Int)) : (Instr.slice 28 (.slice a n cap) (some (.int .i64 X)) none none).run Try.prog V = .ok (.slice (fromE a k cap) (n - k) (cap - k)) V := by
  subst hX; exact eslice_from V a n cap k hk
theorem QuN.nilrow {w0 W : World} {q : Nat} {v : Value} {count bytes' : Int} {m : Nat} {l : List Ev} (h : QuN w0 W q v count bytes' m l) :
    QuN w0 (W.setCell ⟨q, 3, none⟩ (.slice none 0 0)) q (.slice none 0 0) count bytes' m [] ∧ Goes W (W.setCell ⟨q, 3, none⟩ (.slice none 0 0)) q v (.slice none 0 0) :=
  h.rerow (grown_refl _ _) (qrow_nil _ _) (fun g e => by cases e)
set_option maxHeartbeats 1000000 in
theorem ldrop_none {w0 W : World} {q : Nat} {v : Value} {count bytes' : Int} {m : Nat} (h : QuN w0 W q v count bytes' m []) :
    Calls Try.prog 24 #[.pointer (some ⟨q, 3, none⟩)] W fun e w' => ∃ v', e = .returned (.tuple #[]) ∧ Sl (QuN w0 w' q v' count bytes' m []) ∧ Sl (Goes W w' q v v') := by
  obtain ⟨-, -, -, c3⟩ := h.cells
  have f3 := h.froz 3
  obtain rfl := h.R.nil
  obtain ⟨h1, g1⟩ := h.nilrow
  obtain ⟨h2, g2⟩ := h1.nilrow
  obtain ⟨wb, hwb⟩ : ∃ V, W.setCell ⟨q, 3, none⟩ (.slice none 0 0) = V := ⟨_, rfl⟩
  rw [hwb] at h1 h2 g1 g2
  obtain ⟨-, -, -, d3⟩ := h1.cells
  have e3 := h1.froz 3
  have HQ := Sl.mk h2
  have HG := Sl.mk (g1.trans g2)
  have hs1 := fun V => eslice_hm V none 0 0 0 (Nat.le_refl _) 0 rfl
  have hs2 : ∀ V, (Instr.slice 28 (.slice none 0 0) (some (.int .i64 0)) none none).run Try.prog V = .ok (.slice none 0 0) V := fun V => eslice_l V none 0 0 0 (Nat.le_refl _) 0 rfl
  clear h h1 h2 g1 g2
  go_enter Try.func24, Try.ntmps24
  go_wp2_with (refine wpList_clearV rfl (.tmp 17) 28 rfl (.slice none 0 0) W rfl (clear_none _ _ _ _) ?_)
  go_end0
  exact ⟨_, rfl, HQ, HG⟩
set_option maxHeartbeats 2000000 in
theorem ldrop_some {w0 W : World} {q : Nat} {v : Value} {count bytes' : Int} {m : Nat} {e : Ev} {l : List Ev} (h : QuN w0 W q v count bytes' m (e :: l)) (hl : l.length ≤ 1000000) :
    Calls Try.prog 24 #[.pointer (some ⟨q, 3, none⟩)] W fun e w' => ∃ v', e = .returned (.tuple #[]) ∧ Sl (QuN w0 w' q v' count bytes' m l) ∧ Sl (Goes W w' q v v') := by
  obtain ⟨-, -, -, c3⟩ := h.cells
  obtain ⟨g, off, cap, rfl, hcap⟩ := h.R.one
  obtain ⟨w1, hcl, hg1, hr1⟩ := h.R.wipe 1 0
  have hX1 : w1.heap[q]? = some (.cells #[.int .i64 count, .int .i64 bytes', .int .i64 (m : Int), .slice (some ⟨g, off, none⟩) (l.length + 1) cap] 56 (0, 0)) := by rw [hg1.block q h.lt (fun e => h.ne e.symm)]; exact h.X
  have d3 : w1.cell? ⟨q, 3, none⟩ = some (.slice (some ⟨g, off, none⟩) (l.length + 1) cap) := by rw [cell_of_row _ _ _ _ _ _ hX1]; rfl
  have e3 : w1.frozen? ⟨q, 3, none⟩ = false := frozen_of_row _ _ _ _ _ hX1
  obtain ⟨n, hn⟩ : ∃ n, l.length = n := ⟨_, rfl⟩
  rw [hn] at c3 hcap d3 hl
  have hm : (((n : Int) + 1) < 1) = False := eq_false (by omega)
  have hs1 := fun V => eslice_hm V (some ⟨g, off, none⟩) (n + 1) cap 1 (by omega) 1 rfl
  by_cases hz : n = 0
  · obtain rfl : l = [] := List.eq_nil_of_length_eq_zero (by omega)
    subst hz
    obtain ⟨a2, c2, hs2⟩ : ∃ a2 c2, ∀ V, (Instr.slice 28 (.slice (some ⟨g, off, none⟩) (0 + 1) cap) (some (.int .i64 1)) none none).run Try.prog V = .ok (.slice a2 0 c2) V :=
      ⟨_, _, fun V => eslice_l V (some ⟨g, off, none⟩) (0 + 1) cap 1 (by omega) 1 rfl⟩
    have hX2 : (w1.setCell ⟨q, 3, none⟩ (.slice a2 0 c2)).heap[q]? = some (.cells #[.int .i64 count, .int .i64 bytes', .int .i64 (m : Int), .slice a2 0 c2] 56 (0, 0)) := by rw [heap_setCell_same _ _ _ _ _ _ hX1]; simp
    obtain ⟨w2, hw2⟩ : ∃ V, w1.setCell ⟨q, 3, none⟩ (.slice a2 0 c2) = V := ⟨_, rfl⟩
    have hg2 : w1.grownBy w2 (some q) := by rw [← hw2]; exact grown_setCell _ _ _ _
    rw [hw2] at hX2
    have d4 : w2.cell? ⟨q, 3, none⟩ = some (.slice a2 0 c2) := by rw [cell_of_row _ _ _ _ _ _ hX2]; rfl
    have e4 : w2.frozen? ⟨q, 3, none⟩ = false := frozen_of_row _ _ _ _ _ hX2
    have hk1 : Kept (Mine q (.slice (some ⟨g, off, none⟩) (0 + 1) cap)) W w2 := (Kept.grown hg1 (fun k e => by injection e with e; subst e; exact .inr rfl)).trans (Kept.grown (S := fun k => k = q) hg2 (fun k e => by injection e with e; exact e.symm)) (fun j _ e => .inl e)
    have hL2 : Below w0.heap.size w0 w2 := hk1.up h.L (fun k e => (h.own e).1) h.L.size
    have hq2 : QuN w0 w2 q (.slice a2 0 c2) count bytes' m [] ∨ True := .inr trivial
    have hX3 : (w2.setCell ⟨q, 3, none⟩ (.slice none 0 0)).heap[q]? = some (.cells #[.int .i64 count, .int .i64 bytes', .int .i64 (m : Int), .slice none 0 0] 56 (0, 0)) := by rw [heap_setCell_same _ _ _ _ _ _ hX2]; simp
    have hg3 := grown_setCell w2 q 3 (.slice none 0 0)
    have HQ : Sl (QuN w0 (w2.setCell ⟨q, 3, none⟩ (.slice none 0 0)) q (.slice none 0 0) count bytes' m []) := ⟨⟨hX3, qrow_nil _ _, h.B, hL2.grown hg3 hL2.size (fun k hk => by injection hk with hk; rw [← hk]; exact h.B)⟩⟩
    have HG : Sl (Goes W (w2.setCell ⟨q, 3, none⟩ (.slice none 0 0)) q (.slice (some ⟨g, off, none⟩) (0 + 1) cap) (.slice none 0 0)) := ⟨⟨hk1.trans (Kept.grown (S := fun k => k = q) hg3 (fun k e => by injection e with e; exact e.symm)) (fun j _ e => .inl e), fun k e => by
      rcases e with rfl | e
      · exact .inl (.inl rfl)
      · cases e⟩⟩
    clear h hg1 hr1 hX1 hX2 hg2 hk1 hL2 hq2 hX3 hg3 hn
    go_enter Try.func24, Try.ntmps24
    go_wp2_with (first | (refine wpList_minV rfl (.const (.int .i64 1)) (.tmp 8) rfl rfl 1 1 1 rfl rfl rfl ?_) | (refine wpList_clearV rfl (.tmp 17) 28 rfl (.slice (some ⟨g, off, none⟩) 1 1) w1 rfl hcl ?_))
    go_end0
    exact ⟨_, rfl, HQ, HG⟩
  · have hr2 := hr1 (by omega)
    have hs2 : ∀ V, (Instr.slice 28 (.slice (some ⟨g, off, none⟩) (n + 1) cap) (some (.int .i64 1)) none none).run Try.prog V = .ok (.slice (some ⟨g, off + 3, none⟩) n (cap - 1)) V := fun V => by
      have k := eslice_l V (some ⟨g, off, none⟩) (n + 1) cap 1 (by omega) 1 rfl
      unfold fromE at k
      rw [if_neg (by omega)] at k
      rw [k]
      simp [Addr.add_mid]
    rw [hn] at hr2
    obtain ⟨h2, g2⟩ := h.rerow (V := w1) hg1 hr2 (fun k e => .inl e)
    obtain ⟨w2, hw2⟩ : ∃ V, w1.setCell ⟨q, 3, none⟩ (.slice (some ⟨g, off + 3, none⟩) n (cap - 1)) = V := ⟨_, rfl⟩
    rw [hw2] at h2 g2
    obtain ⟨-, -, -, d4⟩ := h2.cells
    have hq : (((n : Nat) : Int) == 0) = false := beq_eq_false_iff_ne.2 (by omega)
    have HQ := Sl.mk h2
    rw [hn] at g2
    have HG := Sl.mk g2
    rw [hn]
    clear h hg1 hr1 hr2 hX1 h2 g2 hn
    go_enter Try.func24, Try.ntmps24
    go_wp2_with (first | (refine wpList_minV rfl (.const (.int .i64 1)) (.tmp 8) rfl rfl 1 ((n : Int) + 1) 1 rfl rfl (if_neg (by omega)) ?_) | (refine wpList_clearV rfl (.tmp 17) 28 rfl (.slice (some ⟨g, off, none⟩) 1 1) w1 rfl hcl ?_))
    go_end0
    exact ⟨_, rfl, HQ, HG⟩
theorem ldrop_any {w0 W : World} {q : Nat} {v : Value} {count bytes' : Int} {m : Nat} {l : List Ev} (h : QuN w0 W q v count bytes' m l) (hl : l.length ≤ 1000000) :
    Calls Try.prog 24 #[.pointer (some ⟨q, 3, none⟩)] W fun e w' => ∃ v', e = .returned (.tuple #[]) ∧ Sl (QuN w0 w' q v' count bytes' m l.tail) ∧ Sl (Goes W w' q v v') := by
  cases l with
  | nil => exact ldrop_none h
  | cons e l => exact ldrop_some h (Nat.le_of_succ_le hl)
end Go.Proofs.Ytflnmjiopeoodaa.Que
