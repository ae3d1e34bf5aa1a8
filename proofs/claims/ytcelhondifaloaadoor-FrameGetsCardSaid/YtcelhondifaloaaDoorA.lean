/- frame: Control, opens, keySize; the document's Control. A frame's cells; frames compared. -/
import Derived.Test.YtcelhondifaloaaDoorFramePlain
import Derived.Test.YtcelhondifaloaaDoorMaB
import Derived.Laws.StructEq
set_option maxRecDepth 100000
namespace Go.Proofs.YtcelhondifaloaaDoor
open Go.RowKit MaskPlain FramePlain Mas

theorem bx_new (w : World) (cs : Array Value) : (w.alloc (.cells cs 24)).heap[w.heap.size]? = some (.cells cs 24 (0, 0)) := alloc_new _ _ _ rfl
theorem bx_below (w : World) (o : Obj) : Sl (Below w.heap.size w (w.alloc o)) := ⟨(Below.refl _ _).alloc (Nat.le_refl _) _⟩
/-- May an op stand in a first byte with such a Fin? -/
def opn (fin : Bool) (op : Int) : Bool := if ctl op then fin else decide (0 ≤ op) && decide (op ≤ 2)

theorem control_any (op : Int) (w : World) : Calls Tryd.prog 14 #[.int .i64 op] w fun e w' => e = .returned (.bool (ctl op)) ∧ w = w' := by
  by_cases h8 : op = 8
  · subst h8
    go_enter Tryd.func14, Tryd.ntmps14
    go_wp2
    go_ret
    exact ⟨rfl, rfl⟩
  by_cases h9 : op = 9
  · subst h9
    go_enter Tryd.func14, Tryd.ntmps14
    go_wp2
    go_ret
    exact ⟨rfl, rfl⟩
  by_cases h10 : op = 10
  · subst h10
    go_enter Tryd.func14, Tryd.ntmps14
    go_wp2
    go_ret
    exact ⟨rfl, rfl⟩
  · have e8 : (op == 8) = false := beq_eq_false_iff_ne.2 h8
    have e9 : (op == 9) = false := beq_eq_false_iff_ne.2 h9
    have e10 : (op == 10) = false := beq_eq_false_iff_ne.2 h10
    have hr : ctl op = false := by unfold ctl; rw [Bool.and_eq_false_iff, decide_eq_false_iff_not, decide_eq_false_iff_not]; omega
    rw [hr]
    clear hr h8 h9 h10
    go_enter Tryd.func14, Tryd.ntmps14
    go_wp2
    go_ret
    exact ⟨rfl, rfl⟩
theorem refcontrol_any (op : Int) (w : World) : Calls Tryd.prog 15 #[.int .i64 op] w fun e w' => e = .returned (.bool (ctl op)) ∧ w = w' := by
  unfold ctl
  by_cases h8 : 8 ≤ op
  · have e1 : (op ≥ 8) = True := eq_true h8
    by_cases h10 : op ≤ 10
    · have e2 : (op ≤ 10) = True := eq_true h10
      rw [decide_eq_true h8, decide_eq_true h10]
      clear h8 h10
      go_enter Tryd.func15, Tryd.ntmps15
      go_wp2
      go_ret
      exact ⟨rfl, rfl⟩
    · have e2 : (op ≤ 10) = False := eq_false h10
      rw [decide_eq_true h8, decide_eq_false h10]
      clear h8 h10
      go_enter Tryd.func15, Tryd.ntmps15
      go_wp2
      go_ret
      exact ⟨rfl, rfl⟩
  · have e1 : (op ≥ 8) = False := eq_false h8
    rw [decide_eq_false h8, Bool.false_and]
    clear h8
    go_enter Tryd.func15, Tryd.ntmps15
    go_wp2
    go_ret
    exact ⟨rfl, rfl⟩
theorem opens_any (fin : Bool) (op : Int) (w : World) : Calls Tryd.prog 23 #[.bool fin, .int .i64 op] w fun e w' => e = .returned (.bool (opn fin op)) ∧ w = w' := by
  obtain ⟨c, hc⟩ : ∃ c, ctl op = c := ⟨_, rfl⟩
  have C1 : ∀ W, Calls Tryd.prog 14 #[.int .i64 op] W fun e w' => e = .returned (.bool c) ∧ W = w' := fun W => by rw [← hc]; exact control_any op W
  unfold opn
  rw [hc]
  clear hc
  cases c with
  | true =>
    rw [if_pos rfl]
    go_enter Tryd.func23, Tryd.ntmps23
    go_wp2_with fail
    refine (C1 _).mono ?_
    rintro e w1 ⟨rfl, rfl⟩
    go_wp2
    go_ret
    exact ⟨rfl, rfl⟩
  | false =>
    rw [if_neg (by decide)]
    obtain ⟨r, hr⟩ : ∃ r, (decide (0 ≤ op) && decide (op ≤ 2)) = r := ⟨_, rfl⟩
    rw [hr]
    by_cases h0 : op = 0
    · subst h0
      subst hr
      go_enter Tryd.func23, Tryd.ntmps23
      go_wp2_with fail
      refine (C1 _).mono ?_
      rintro e w1 ⟨rfl, rfl⟩
      go_wp2
      go_ret
      exact ⟨rfl, rfl⟩
    by_cases h1 : op = 1
    · subst h1
      subst hr
      go_enter Tryd.func23, Tryd.ntmps23
      go_wp2_with fail
      refine (C1 _).mono ?_
      rintro e w1 ⟨rfl, rfl⟩
      go_wp2
      go_ret
      exact ⟨rfl, rfl⟩
    by_cases h2 : op = 2
    · subst h2
      subst hr
      go_enter Tryd.func23, Tryd.ntmps23
      go_wp2_with fail
      refine (C1 _).mono ?_
      rintro e w1 ⟨rfl, rfl⟩
      go_wp2
      go_ret
      exact ⟨rfl, rfl⟩
    have e0 : (op == 0) = false := beq_eq_false_iff_ne.2 h0
    have e1 : (op == 1) = false := beq_eq_false_iff_ne.2 h1
    have e2 : (op == 2) = false := beq_eq_false_iff_ne.2 h2
    obtain rfl : r = false := by rw [← hr, Bool.and_eq_false_iff, decide_eq_false_iff_not, decide_eq_false_iff_not]; omega
    clear hr h0 h1 h2
    go_enter Tryd.func23, Tryd.ntmps23
    go_wp2_with fail
    refine (C1 _).mono ?_
    rintro e w1 ⟨rfl, rfl⟩
    go_wp2
    go_ret
    exact ⟨rfl, rfl⟩
/-- How many bytes the key takes. -/
def ksz (m : Bool) : Nat := if m then 4 else 0
theorem keysize_any (fin : Bool) (op : Int) (m : Bool) (a b c d : Nat) (s : ByteArray) (w : World) :
    Calls Tryd.prog 28 #[(.agg #[.bool fin, .int .i64 op, .bool m, .int .u8 ((a : Nat) : Int), .int .u8 ((b : Nat) : Int), .int .u8 ((c : Nat) : Int), .int .u8 ((d : Nat) : Int), .string s])] w fun e w' => e = .returned (.int .i64 ((ksz m : Nat) : Int)) ∧ Sl (Below w.heap.size w w') := by
  have HB := bx_below w (.cells #[.bool fin, .int .i64 op, .bool m, .int .u8 ((a : Nat) : Int), .int .u8 ((b : Nat) : Int), .int .u8 ((c : Nat) : Int), .int .u8 ((d : Nat) : Int), .string s] 24)
  cases m with
  | true =>
    go_enter Tryd.func28, Tryd.ntmps28
    go_wp2
    go_ret
    exact ⟨rfl, HB⟩
  | false =>
    go_enter Tryd.func28, Tryd.ntmps28
    go_wp2
    go_ret
    exact ⟨rfl, HB⟩
/-- Frames are compared part by part. -/
theorem eq_fr (fin : Bool) (op : Int) (m : Bool) (a b c d : Nat) (s : ByteArray) (fin' : Bool) (op' : Int) (m' : Bool) (a' b' c' d' : Nat) (s' : ByteArray) (hk : Small 256 [a, b, c, d]) (hk' : Small 256 [a', b', c', d']) (W : World) :
    (Op.equalIn 10000 24 (.agg #[.bool fin, .int .i64 op, .bool m, .int .u8 ((a : Nat) : Int), .int .u8 ((b : Nat) : Int), .int .u8 ((c : Nat) : Int), .int .u8 ((d : Nat) : Int), .string s]) (.agg #[.bool fin', .int .i64 op', .bool m', .int .u8 ((a' : Nat) : Int), .int .u8 ((b' : Nat) : Int), .int .u8 ((c' : Nat) : Int), .int .u8 ((d' : Nat) : Int), .string s'])).run Tryd.prog W = .ok ((fin == fin') && ((op == op') && ((m == m') && (decide ([a, b, c, d] = [a', b', c', d']) && (s.toList == s'.toList))))) W := by
  have ek : ∀ (w : World), (Op.equalIn 9999 22 (.agg #[.int .u8 (a : Int), .int .u8 (b : Int), .int .u8 (c : Int), .int .u8 (d : Int)]) (.agg #[.int .u8 (a' : Int), .int .u8 (b' : Int), .int .u8 (c' : Int), .int .u8 (d' : Int)])).run Tryd.prog w = .ok (decide ([a, b, c, d] = [a', b', c', d'])) w := fun w => by
    show (Op.equalIn 9999 22 (.agg (u8s [a, b, c, d]).toArray) (.agg (u8s [a', b', c', d']).toArray)).run Tryd.prog w = _
    rw [u8s_cells _ hk, u8s_cells _ hk', run_equalIn_bytes w 9997 22 5 4 Tryd.underlying22 Tryd.underlying5 (fun w => by kernel_rfl) _ _ (by simp) (by simp)]
    congr 1
    rw [Bool.eq_iff_iff]
    simp only [beq_iff_eq, decide_eq_true_eq]
    exact ofNat_inj hk hk'
  have hp : Tryd.prog.stoodInHeld 24 = false := by kernel_rfl
  have hu : Tryd.prog.underlying 24 = some (.struct (Tryd.prog.fieldsOf 24)) := by kernel_rfl
  have hf : (Tryd.prog.fieldsOf 24).toList = [⟨"Fin", 4, 0, false, "", "", 0⟩, ⟨"Op", 3, 1, false, "", "", 8⟩, ⟨"Masked", 4, 2, false, "", "", 16⟩, ⟨"Key", 22, 3, false, "", "", 17⟩, ⟨"Data", 9, 7, false, "", "", 24⟩] := by kernel_rfl
  rw [run_equalIn_struct W 9999 24 _ _ hu hp, hf]
  have e4 : ∀ (p q : Bool) (w : World), (Op.equalIn 9999 4 (.bool p) (.bool q)).run Tryd.prog w = .ok (p == q) w := fun p q w => run_equalIn_bool w 9998 4 p q Tryd.underlying4
  have e3 : ∀ (p q : Int) (w : World), (Op.equalIn 9999 3 (.int .i64 p) (.int .i64 q)).run Tryd.prog w = .ok (p == q) w := fun p q w => run_equalIn_int w 9998 3 .i64 .i64 p q Tryd.underlying3
  have e9 : ∀ (p q : ByteArray) (w : World), (Op.equalIn 9999 9 (.string p) (.string q)).run Tryd.prog w = .ok (p.toList == q.toList) w := fun p q w => run_equalIn_string w 9998 9 p q Tryd.underlying9
  have p0 : ∀ (f : Bool) (o : Int) (m : Bool) (a b c d : Nat) (s : ByteArray) (w : World), (part 4 #[.bool f, .int .i64 o, .bool m, .int .u8 ((a : Nat) : Int), .int .u8 ((b : Nat) : Int), .int .u8 ((c : Nat) : Int), .int .u8 ((d : Nat) : Int), .string s] 0).run Tryd.prog w = .ok (.bool f) w := fun f o m a b c d s w => by kernel_rfl
  have p1 : ∀ (f : Bool) (o : Int) (m : Bool) (a b c d : Nat) (s : ByteArray) (w : World), (part 3 #[.bool f, .int .i64 o, .bool m, .int .u8 ((a : Nat) : Int), .int .u8 ((b : Nat) : Int), .int .u8 ((c : Nat) : Int), .int .u8 ((d : Nat) : Int), .string s] 1).run Tryd.prog w = .ok (.int .i64 o) w := fun f o m a b c d s w => by kernel_rfl
  have p2 : ∀ (f : Bool) (o : Int) (m : Bool) (a b c d : Nat) (s : ByteArray) (w : World), (part 4 #[.bool f, .int .i64 o, .bool m, .int .u8 ((a : Nat) : Int), .int .u8 ((b : Nat) : Int), .int .u8 ((c : Nat) : Int), .int .u8 ((d : Nat) : Int), .string s] 2).run Tryd.prog w = .ok (.bool m) w := fun f o m a b c d s w => by kernel_rfl
  have p3 : ∀ (f : Bool) (o : Int) (m : Bool) (a b c d : Nat) (s : ByteArray) (w : World), (part 22 #[.bool f, .int .i64 o, .bool m, .int .u8 ((a : Nat) : Int), .int .u8 ((b : Nat) : Int), .int .u8 ((c : Nat) : Int), .int .u8 ((d : Nat) : Int), .string s] 3).run Tryd.prog w = .ok (.agg #[.int .u8 (a : Int), .int .u8 (b : Int), .int .u8 (c : Int), .int .u8 (d : Int)]) w := fun f o m a b c d s w => by kernel_rfl
  have p7 : ∀ (f : Bool) (o : Int) (m : Bool) (a b c d : Nat) (s : ByteArray) (w : World), (part 9 #[.bool f, .int .i64 o, .bool m, .int .u8 ((a : Nat) : Int), .int .u8 ((b : Nat) : Int), .int .u8 ((c : Nat) : Int), .int .u8 ((d : Nat) : Int), .string s] 7).run Tryd.prog w = .ok (.string s) w := fun f o m a b c d s w => by kernel_rfl
  have n0 : ("Fin" ≠ "_") = True := eq_true (by decide)
  have n1 : ("Op" ≠ "_") = True := eq_true (by decide)
  have n2 : ("Masked" ≠ "_") = True := eq_true (by decide)
  have n3 : ("Key" ≠ "_") = True := eq_true (by decide)
  have n7 : ("Data" ≠ "_") = True := eq_true (by decide)
  cases h0 : (fin == fin') <;> cases h1 : (op == op') <;> cases h2 : (m == m') <;> cases h3 : (decide ([a, b, c, d] = [a', b', c', d'])) <;> cases h7 : (s.toList == s'.toList) <;>
    simp only [Op.eqFields, n0, n1, n2, n3, n7, if_true, Sem.run_bind, Sem.run_pure, Sem.run_ite, p0, p1, p2, p3, p7, e4, e3, e9, ek, h0, h1, h2, h3, h7, Result.andThen_ok, Bool.not_true, Bool.not_false, Bool.false_eq_true, if_false, Bool.true_and, Bool.false_and, Bool.and_true]
end Go.Proofs.YtcelhondifaloaaDoor
