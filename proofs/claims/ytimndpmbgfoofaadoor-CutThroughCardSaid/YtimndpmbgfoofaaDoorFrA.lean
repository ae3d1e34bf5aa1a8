/- frame: Control, opens, keySize; the document's Control. A frame's cells; frames compared. -/
import Derived.Test.YtimndpmbgfoofaaDoorFramePlain
import Derived.Test.YtimndpmbgfoofaaDoorMaB
import Derived.Laws.StructEq
import Derived.Test.YtimndpmbgfoofaaDoorMaD
set_option maxRecDepth 100000
namespace Go.Proofs.YtimndpmbgfoofaaDoor.Fra
open Go.RowKit MaskPlain FramePlain Mas

theorem bx_new (w : World) (cs : Array Value) : (w.alloc (.cells cs 44)).heap[w.heap.size]? = some (.cells cs 44 (0, 0)) := alloc_new _ _ _ rfl
theorem bx_below (w : World) (o : Obj) : Sl (Below w.heap.size w (w.alloc o)) := ⟨(Below.refl _ _).alloc (Nat.le_refl _) _⟩
/-- May an op stand in a first byte with such a Fin? -/
def opn (fin : Bool) (op : Int) : Bool := if ctl op then fin else decide (0 ≤ op) && decide (op ≤ 2)

theorem control_any (op : Int) (w : World) : Calls Tryd.prog 45 #[.int .i64 op] w fun e w' => e = .returned (.bool (ctl op)) ∧ w = w' := by
  by_cases h8 : op = 8
  · subst h8
    go_enter Tryd.func45, Tryd.ntmps45
    go_wp2
    go_ret
    exact ⟨rfl, rfl⟩
  by_cases h9 : op = 9
  · subst h9
    go_enter Tryd.func45, Tryd.ntmps45
    go_wp2
    go_ret
    exact ⟨rfl, rfl⟩
  by_cases h10 : op = 10
  · subst h10
    go_enter Tryd.func45, Tryd.ntmps45
    go_wp2
    go_ret
    exact ⟨rfl, rfl⟩
  · have e8 : (op == 8) = false := beq_eq_false_iff_ne.2 h8
    have e9 : (op == 9) = false := beq_eq_false_iff_ne.2 h9
    have e10 : (op == 10) = false := beq_eq_false_iff_ne.2 h10
    have hr : ctl op = false := by unfold ctl; rw [Bool.and_eq_false_iff, decide_eq_false_iff_not, decide_eq_false_iff_not]; omega
    rw [hr]
    clear hr h8 h9 h10
    go_enter Tryd.func45, Tryd.ntmps45
    go_wp2
    go_ret
    exact ⟨rfl, rfl⟩
theorem refcontrol_any (op : Int) (w : World) : Calls Tryd.prog 60 #[.int .i64 op] w fun e w' => e = .returned (.bool (ctl op)) ∧ w = w' := by
  unfold ctl
  by_cases h8 : 8 ≤ op
  · have e1 : (op ≥ 8) = True := eq_true h8
    by_cases h10 : op ≤ 10
    · have e2 : (op ≤ 10) = True := eq_true h10
      rw [decide_eq_true h8, decide_eq_true h10]
      clear h8 h10
      go_enter Tryd.func60, Tryd.ntmps60
      go_wp2
      go_ret
      exact ⟨rfl, rfl⟩
    · have e2 : (op ≤ 10) = False := eq_false h10
      rw [decide_eq_true h8, decide_eq_false h10]
      clear h8 h10
      go_enter Tryd.func60, Tryd.ntmps60
      go_wp2
      go_ret
      exact ⟨rfl, rfl⟩
  · have e1 : (op ≥ 8) = False := eq_false h8
    rw [decide_eq_false h8, Bool.false_and]
    clear h8
    go_enter Tryd.func60, Tryd.ntmps60
    go_wp2
    go_ret
    exact ⟨rfl, rfl⟩
theorem opens_any (fin : Bool) (op : Int) (w : World) : Calls Tryd.prog 44 #[.bool fin, .int .i64 op] w fun e w' => e = .returned (.bool (opn fin op)) ∧ w = w' := by
  obtain ⟨c, hc⟩ : ∃ c, ctl op = c := ⟨_, rfl⟩
  have C1 : ∀ W, Calls Tryd.prog 45 #[.int .i64 op] W fun e w' => e = .returned (.bool c) ∧ W = w' := fun W => by rw [← hc]; exact control_any op W
  unfold opn
  rw [hc]
  clear hc
  cases c with
  | true =>
    rw [if_pos rfl]
    go_enter Tryd.func44, Tryd.ntmps44
    go_wp2_with fail
    refine (C1 _).mono ?_
    rintro e w1 ⟨rfl, rfl⟩
    go_wp2
    go_ret
    exact ⟨rfl, rfl⟩
  | false =>
    rw [if_neg (by decide)]
    obtain ⟨r, hr⟩ : ∃ r, (decide (0 ≤ op) && decide (op ≤ 2)) = r := ⟨_, rfl⟩
    rw [hr]
    by_cases h0 : op = 0
    · subst h0
      subst hr
      go_enter Tryd.func44, Tryd.ntmps44
      go_wp2_with fail
      refine (C1 _).mono ?_
      rintro e w1 ⟨rfl, rfl⟩
      go_wp2
      go_ret
      exact ⟨rfl, rfl⟩
    by_cases h1 : op = 1
    · subst h1
      subst hr
      go_enter Tryd.func44, Tryd.ntmps44
      go_wp2_with fail
      refine (C1 _).mono ?_
      rintro e w1 ⟨rfl, rfl⟩
      go_wp2
      go_ret
      exact ⟨rfl, rfl⟩
    by_cases h2 : op = 2
    · subst h2
      subst hr
      go_enter Tryd.func44, Tryd.ntmps44
      go_wp2_with fail
      refine (C1 _).mono ?_
      rintro e w1 ⟨rfl, rfl⟩
      go_wp2
      go_ret
      exact ⟨rfl, rfl⟩
    have e0 : (op == 0) = false := beq_eq_false_iff_ne.2 h0
    have e1 : (op == 1) = false := beq_eq_false_iff_ne.2 h1
    have e2 : (op == 2) = false := beq_eq_false_iff_ne.2 h2
    obtain rfl : r = false := by rw [← hr, Bool.and_eq_false_iff, decide_eq_false_iff_not, decide_eq_false_iff_not]; omega
    clear hr h0 h1 h2
    go_enter Tryd.func44, Tryd.ntmps44
    go_wp2_with fail
    refine (C1 _).mono ?_
    rintro e w1 ⟨rfl, rfl⟩
    go_wp2
    go_ret
    exact ⟨rfl, rfl⟩
/-- How many bytes the key takes. -/
def ksz (m : Bool) : Nat := if m then 4 else 0
theorem keysize_any (fin : Bool) (op : Int) (m : Bool) (a b c d : Nat) (s : ByteArray) (w : World) :
    Calls Tryd.prog 47 #[(.agg #[.bool fin, .int .i64 op, .bool m, .int .u8 ((a : Nat) : Int), .int .u8 ((b : Nat) : Int), .int .u8 ((c : Nat) : Int), .int .u8 ((d : Nat) : Int), .string s])] w fun e w' => e = .returned (.int .i64 ((ksz m : Nat) : Int)) ∧ Sl (Below w.heap.size w w') := by
  have HB := bx_below w (.cells #[.bool fin, .int .i64 op, .bool m, .int .u8 ((a : Nat) : Int), .int .u8 ((b : Nat) : Int), .int .u8 ((c : Nat) : Int), .int .u8 ((d : Nat) : Int), .string s] 44)
  cases m with
  | true =>
    go_enter Tryd.func47, Tryd.ntmps47
    go_wp2
    go_ret
    exact ⟨rfl, HB⟩
  | false =>
    go_enter Tryd.func47, Tryd.ntmps47
    go_wp2
    go_ret
    exact ⟨rfl, HB⟩
/-- Frames are compared part by part. -/
theorem eq_fr (fin : Bool) (op : Int) (m : Bool) (a b c d : Nat) (s : ByteArray) (fin' : Bool) (op' : Int) (m' : Bool) (a' b' c' d' : Nat) (s' : ByteArray) (hk : Small 256 [a, b, c, d]) (hk' : Small 256 [a', b', c', d']) (W : World) :
    (Op.equalIn 10000 44 (.agg #[.bool fin, .int .i64 op, .bool m, .int .u8 ((a : Nat) : Int), .int .u8 ((b : Nat) : Int), .int .u8 ((c : Nat) : Int), .int .u8 ((d : Nat) : Int), .string s]) (.agg #[.bool fin', .int .i64 op', .bool m', .int .u8 ((a' : Nat) : Int), .int .u8 ((b' : Nat) : Int), .int .u8 ((c' : Nat) : Int), .int .u8 ((d' : Nat) : Int), .string s'])).run Tryd.prog W = .ok ((fin == fin') && ((op == op') && ((m == m') && (decide ([a, b, c, d] = [a', b', c', d']) && (s.toList == s'.toList))))) W := by
  have ek : ∀ (w : World), (Op.equalIn 9999 42 (.agg #[.int .u8 (a : Int), .int .u8 (b : Int), .int .u8 (c : Int), .int .u8 (d : Int)]) (.agg #[.int .u8 (a' : Int), .int .u8 (b' : Int), .int .u8 (c' : Int), .int .u8 (d' : Int)])).run Tryd.prog w = .ok (decide ([a, b, c, d] = [a', b', c', d'])) w := fun w => by
    show (Op.equalIn 9999 42 (.agg (u8s [a, b, c, d]).toArray) (.agg (u8s [a', b', c', d']).toArray)).run Tryd.prog w = _
    rw [u8s_cells _ hk, u8s_cells _ hk', run_equalIn_bytes w 9997 42 5 4 Tryd.underlying42 Tryd.underlying5 (fun w => by kernel_rfl) _ _ (by simp) (by simp)]
    congr 1
    rw [Bool.eq_iff_iff]
    simp only [beq_iff_eq, decide_eq_true_eq]
    exact ofNat_inj hk hk'
  have hp : Tryd.prog.stoodInHeld 44 = false := by kernel_rfl
  have hu : Tryd.prog.underlying 44 = some (.struct (Tryd.prog.fieldsOf 44)) := by kernel_rfl
  have hf : (Tryd.prog.fieldsOf 44).toList = [⟨"Fin", 4, 0, false, "", "", 0⟩, ⟨"Op", 3, 1, false, "", "", 8⟩, ⟨"Masked", 4, 2, false, "", "", 16⟩, ⟨"Key", 42, 3, false, "", "", 17⟩, ⟨"Data", 9, 7, false, "", "", 24⟩] := by kernel_rfl
  rw [run_equalIn_struct W 9999 44 _ _ hu hp, hf]
  have e4 : ∀ (p q : Bool) (w : World), (Op.equalIn 9999 4 (.bool p) (.bool q)).run Tryd.prog w = .ok (p == q) w := fun p q w => run_equalIn_bool w 9998 4 p q Tryd.underlying4
  have e3 : ∀ (p q : Int) (w : World), (Op.equalIn 9999 3 (.int .i64 p) (.int .i64 q)).run Tryd.prog w = .ok (p == q) w := fun p q w => run_equalIn_int w 9998 3 .i64 .i64 p q Tryd.underlying3
  have e9 : ∀ (p q : ByteArray) (w : World), (Op.equalIn 9999 9 (.string p) (.string q)).run Tryd.prog w = .ok (p.toList == q.toList) w := fun p q w => run_equalIn_string w 9998 9 p q Tryd.underlying9
  have p0 : ∀ (f : Bool) (o : Int) (m : Bool) (a b c d : Nat) (s : ByteArray) (w : World), (part 4 #[.bool f, .int .i64 o, .bool m, .int .u8 ((a : Nat) : Int), .int .u8 ((b : Nat) : Int), .int .u8 ((c : Nat) : Int), .int .u8 ((d : Nat) : Int), .string s] 0).run Tryd.prog w = .ok (.bool f) w := fun f o m a b c d s w => by kernel_rfl
  have p1 : ∀ (f : Bool) (o : Int) (m : Bool) (a b c d : Nat) (s : ByteArray) (w : World), (part 3 #[.bool f, .int .i64 o, .bool m, .int .u8 ((a : Nat) : Int), .int .u8 ((b : Nat) : Int), .int .u8 ((c : Nat) : Int), .int .u8 ((d : Nat) : Int), .string s] 1).run Tryd.prog w = .ok (.int .i64 o) w := fun f o m a b c d s w => by kernel_rfl
  have p2 : ∀ (f : Bool) (o : Int) (m : Bool) (a b c d : Nat) (s : ByteArray) (w : World), (part 4 #[.bool f, .int .i64 o, .bool m, .int .u8 ((a : Nat) : Int), .int .u8 ((b : Nat) : Int), .int .u8 ((c : Nat) : Int), .int .u8 ((d : Nat) : Int), .string s] 2).run Tryd.prog w = .ok (.bool m) w := fun f o m a b c d s w => by kernel_rfl
  have p3 : ∀ (f : Bool) (o : Int) (m : Bool) (a b c d : Nat) (s : ByteArray) (w : World), (part 42 #[.bool f, .int .i64 o, .bool m, .int .u8 ((a : Nat) : Int), .int .u8 ((b : Nat) : Int), .int .u8 ((c : Nat) : Int), .int .u8 ((d : Nat) : Int), .string s] 3).run Tryd.prog w = .ok (.agg #[.int .u8 (a : Int), .int .u8 (b : Int), .int .u8 (c : Int), .int .u8 (d : Int)]) w := fun f o m a b c d s w => by kernel_rfl
  have p7 : ∀ (f : Bool) (o : Int) (m : Bool) (a b c d : Nat) (s : ByteArray) (w : World), (part 9 #[.bool f, .int .i64 o, .bool m, .int .u8 ((a : Nat) : Int), .int .u8 ((b : Nat) : Int), .int .u8 ((c : Nat) : Int), .int .u8 ((d : Nat) : Int), .string s] 7).run Tryd.prog w = .ok (.string s) w := fun f o m a b c d s w => by kernel_rfl
  have n0 : ("Fin" ≠ "_") = True := eq_true (by decide)
  have n1 : ("Op" ≠ "_") = True := eq_true (by decide)
  have n2 : ("Masked" ≠ "_") = True := eq_true (by decide)
  have n3 : ("Key" ≠ "_") = True := eq_true (by decide)
  have n7 : ("Data" ≠ "_") = True := eq_true (by decide)
  cases h0 : (fin == fin') <;> cases h1 : (op == op') <;> cases h2 : (m == m') <;> cases h3 : (decide ([a, b, c, d] = [a', b', c', d'])) <;> cases h7 : (s.toList == s'.toList) <;>
    simp only [Op.eqFields, n0, n1, n2, n3, n7, if_true, Sem.run_bind, Sem.run_pure, Sem.run_ite, p0, p1, p2, p3, p7, e4, e3, e9, ek, h0, h1, h2, h3, h7, Result.andThen_ok, Bool.not_true, Bool.not_false, Bool.false_eq_true, if_false, Bool.true_and, Bool.false_and, Bool.and_true]
end Go.Proofs.YtimndpmbgfoofaaDoor.Fra
/- frame: Check; the document's Form and Check. -/
set_option maxRecDepth 100000
namespace Go.Proofs.YtimndpmbgfoofaaDoor.Fra
open Go.RowKit MaskPlain FramePlain Mas

theorem form_opn (f : Fr) : form f = (opn f.fin f.op && (!(ctl f.op) || decide (f.data.length ≤ 125)) && (f.masked || decide (f.key = zero4))) := by
  unfold form opn
  cases h : ctl f.op with
  | true =>
    have : (decide (0 ≤ f.op) && decide (f.op ≤ 2)) = false := by
      unfold ctl at h
      rw [Bool.and_eq_true, decide_eq_true_eq, decide_eq_true_eq] at h
      rw [Bool.and_eq_false_iff, decide_eq_false_iff_not, decide_eq_false_iff_not]; omega
    rw [this]; simp
  | false => simp
theorem chk_form {f : Fr} (h : form f = false) : chk f = 91 := by unfold chk; rw [if_pos h]
theorem chk_long {f : Fr} (h : form f = true) (hl : 65536 < f.data.length) : chk f = 92 := by unfold chk; rw [if_neg (by rw [h]; decide), if_pos hl]
theorem chk_yes {f : Fr} (h : form f = true) (hl : ¬ 65536 < f.data.length) : chk f = 0 := by unfold chk; rw [if_neg (by rw [h]; decide), if_neg hl]
theorem eq_zero4 (a b c d : Nat) (hk : Small 256 [a, b, c, d]) (W : World) : (Op.equalIn 10000 42 (.agg #[.int .u8 ((a : Nat) : Int), .int .u8 ((b : Nat) : Int), .int .u8 ((c : Nat) : Int), .int .u8 ((d : Nat) : Int)]) (.agg #[.int .u8 0, .int .u8 0, .int .u8 0, .int .u8 0])).run Tryd.prog W = .ok (decide ([a, b, c, d] = zero4)) W :=
  eq_keys [a, b, c, d] [0, 0, 0, 0] rfl rfl hk (fun x hx => by simp at hx; omega) W

set_option maxHeartbeats 4000000 in
theorem check_any (fin : Bool) (op : Int) (m : Bool) (a b c d : Nat) (s : ByteArray) (w : World) (hk : Small 256 [a, b, c, d]) :
    Calls Tryd.prog 32 #[(.agg #[.bool fin, .int .i64 op, .bool m, .int .u8 ((a : Nat) : Int), .int .u8 ((b : Nat) : Int), .int .u8 ((c : Nat) : Int), .int .u8 ((d : Nat) : Int), .string s])] w fun e w' => e = .returned (.int .i64 ((chk (⟨fin, op, m, [a, b, c, d], bytes s⟩ : Fr) : Nat) : Int)) ∧ Sl (Below w.heap.size w w') := by
  have HB := bx_below w (.cells #[.bool fin, .int .i64 op, .bool m, .int .u8 ((a : Nat) : Int), .int .u8 ((b : Nat) : Int), .int .u8 ((c : Nat) : Int), .int .u8 ((d : Nat) : Int), .string s] 44)
  have hF := form_opn (⟨fin, op, m, [a, b, c, d], bytes s⟩ : Fr)
  simp only [bytes_length] at hF
  obtain ⟨o, ho⟩ : ∃ o, opn fin op = o := ⟨_, rfl⟩
  obtain ⟨g, hg⟩ : ∃ g, ctl op = g := ⟨_, rfl⟩
  have C1 : ∀ W, Calls Tryd.prog 44 #[.bool fin, .int .i64 op] W fun e w' => e = .returned (.bool o) ∧ W = w' := fun W => by rw [← ho]; exact opens_any fin op W
  have C2 : ∀ W, Calls Tryd.prog 45 #[.int .i64 op] W fun e w' => e = .returned (.bool g) ∧ W = w' := fun W => by rw [← hg]; exact control_any op W
  have hEq := eq_zero4 a b c d hk
  rw [ho, hg] at hF
  obtain ⟨z, hz⟩ : ∃ z, decide ([a, b, c, d] = zero4) = z := ⟨_, rfl⟩
  rw [hz] at hF hEq
  obtain ⟨l, hl⟩ : ∃ l, decide (s.size ≤ 125) = l := ⟨_, rfl⟩
  rw [hl] at hF
  have hlq : ((s.size : Int) > 125) = (!l = true) := by
    rw [← hl]
    by_cases h : s.size ≤ 125
    · rw [decide_eq_true h]; exact propext ⟨fun h' => by omega, fun h' => by simp at h'⟩
    · rw [decide_eq_false h]; exact propext ⟨fun h' => rfl, fun h' => by omega⟩
  clear ho hg hz hl hk
  obtain ⟨k, hk⟩ : ∃ k, chk (⟨fin, op, m, [a, b, c, d], bytes s⟩ : Fr) = k := ⟨_, rfl⟩
  rw [hk]
  cases o with
  | false =>
    obtain rfl : k = 91 := hk.symm.trans (chk_form (by rw [hF]; simp))
    clear hF hk hlq
    go_enter Tryd.func32, Tryd.ntmps32
    go_wp2_with fail
    refine (C1 _).mono ?_
    rintro e w1 ⟨rfl, rfl⟩
    go_wp2
    go_ret
    exact ⟨rfl, HB⟩
  | true =>
    cases g with
    | true =>
      cases l with
      | false =>
        obtain rfl : k = 91 := hk.symm.trans (chk_form (by rw [hF]; simp))
        clear hF hk
        have hlq : ((s.size : Int) > 125) = True := hlq.trans (by simp)
        go_enter Tryd.func32, Tryd.ntmps32
        go_wp2_with fail
        refine (C1 _).mono ?_
        rintro e w1 ⟨rfl, rfl⟩
        go_wp2_with fail
        refine (C2 _).mono ?_
        rintro e w2 ⟨rfl, rfl⟩
        go_wp2
        go_ret
        exact ⟨rfl, HB⟩
      | true =>
        have hlq : ((s.size : Int) > 125) = False := hlq.trans (by simp)
        cases m with
        | true =>
          by_cases h6 : 65536 < s.size
          · have h6' : ((s.size : Int) > 65536) = True := eq_true (by omega)
            obtain rfl : k = 92 := hk.symm.trans (chk_long (by rw [hF]; simp) (by rw [bytes_length]; exact h6))
            clear hF hk h6
            go_enter Tryd.func32, Tryd.ntmps32
            go_wp2_with fail
            refine (C1 _).mono ?_
            rintro e w1 ⟨rfl, rfl⟩
            go_wp2_with fail
            refine (C2 _).mono ?_
            rintro e w2 ⟨rfl, rfl⟩
            go_wp2
            go_ret
            exact ⟨rfl, HB⟩
          · have h6' : ((s.size : Int) > 65536) = False := eq_false (by omega)
            obtain rfl : k = 0 := hk.symm.trans (chk_yes (by rw [hF]; simp) (by rw [bytes_length]; exact h6))
            clear hF hk h6
            go_enter Tryd.func32, Tryd.ntmps32
            go_wp2_with fail
            refine (C1 _).mono ?_
            rintro e w1 ⟨rfl, rfl⟩
            go_wp2_with fail
            refine (C2 _).mono ?_
            rintro e w2 ⟨rfl, rfl⟩
            go_wp2
            go_ret
            exact ⟨rfl, HB⟩
        | false =>
          cases z with
          | false =>
            obtain rfl : k = 91 := hk.symm.trans (chk_form (by rw [hF]; simp))
            clear hF hk
            go_enter Tryd.func32, Tryd.ntmps32
            go_wp2_with fail
            refine (C1 _).mono ?_
            rintro e w1 ⟨rfl, rfl⟩
            go_wp2_with fail
            refine (C2 _).mono ?_
            rintro e w2 ⟨rfl, rfl⟩
            go_wp2
            go_ret
            exact ⟨rfl, HB⟩
          | true =>
            by_cases h6 : 65536 < s.size
            · have h6' : ((s.size : Int) > 65536) = True := eq_true (by omega)
              obtain rfl : k = 92 := hk.symm.trans (chk_long (by rw [hF]; simp) (by rw [bytes_length]; exact h6))
              clear hF hk h6
              go_enter Tryd.func32, Tryd.ntmps32
              go_wp2_with fail
              refine (C1 _).mono ?_
              rintro e w1 ⟨rfl, rfl⟩
              go_wp2_with fail
              refine (C2 _).mono ?_
              rintro e w2 ⟨rfl, rfl⟩
              go_wp2
              go_ret
              exact ⟨rfl, HB⟩
            · have h6' : ((s.size : Int) > 65536) = False := eq_false (by omega)
              obtain rfl : k = 0 := hk.symm.trans (chk_yes (by rw [hF]; simp) (by rw [bytes_length]; exact h6))
              clear hF hk h6
              go_enter Tryd.func32, Tryd.ntmps32
              go_wp2_with fail
              refine (C1 _).mono ?_
              rintro e w1 ⟨rfl, rfl⟩
              go_wp2_with fail
              refine (C2 _).mono ?_
              rintro e w2 ⟨rfl, rfl⟩
              go_wp2
              go_ret
              exact ⟨rfl, HB⟩
    | false =>
      clear hlq
      cases m with
      | true =>
        by_cases h6 : 65536 < s.size
        · have h6' : ((s.size : Int) > 65536) = True := eq_true (by omega)
          obtain rfl : k = 92 := hk.symm.trans (chk_long (by rw [hF]; simp) (by rw [bytes_length]; exact h6))
          clear hF hk h6
          go_enter Tryd.func32, Tryd.ntmps32
          go_wp2_with fail
          refine (C1 _).mono ?_
          rintro e w1 ⟨rfl, rfl⟩
          go_wp2_with fail
          refine (C2 _).mono ?_
          rintro e w2 ⟨rfl, rfl⟩
          go_wp2
          go_ret
          exact ⟨rfl, HB⟩
        · have h6' : ((s.size : Int) > 65536) = False := eq_false (by omega)
          obtain rfl : k = 0 := hk.symm.trans (chk_yes (by rw [hF]; simp) (by rw [bytes_length]; exact h6))
          clear hF hk h6
          go_enter Tryd.func32, Tryd.ntmps32
          go_wp2_with fail
          refine (C1 _).mono ?_
          rintro e w1 ⟨rfl, rfl⟩
          go_wp2_with fail
          refine (C2 _).mono ?_
          rintro e w2 ⟨rfl, rfl⟩
          go_wp2
          go_ret
          exact ⟨rfl, HB⟩
      | false =>
        cases z with
        | false =>
          obtain rfl : k = 91 := hk.symm.trans (chk_form (by rw [hF]; simp))
          clear hF hk
          go_enter Tryd.func32, Tryd.ntmps32
          go_wp2_with fail
          refine (C1 _).mono ?_
          rintro e w1 ⟨rfl, rfl⟩
          go_wp2_with fail
          refine (C2 _).mono ?_
          rintro e w2 ⟨rfl, rfl⟩
          go_wp2
          go_ret
          exact ⟨rfl, HB⟩
        | true =>
          by_cases h6 : 65536 < s.size
          · have h6' : ((s.size : Int) > 65536) = True := eq_true (by omega)
            obtain rfl : k = 92 := hk.symm.trans (chk_long (by rw [hF]; simp) (by rw [bytes_length]; exact h6))
            clear hF hk h6
            go_enter Tryd.func32, Tryd.ntmps32
            go_wp2_with fail
            refine (C1 _).mono ?_
            rintro e w1 ⟨rfl, rfl⟩
            go_wp2_with fail
            refine (C2 _).mono ?_
            rintro e w2 ⟨rfl, rfl⟩
            go_wp2
            go_ret
            exact ⟨rfl, HB⟩
          · have h6' : ((s.size : Int) > 65536) = False := eq_false (by omega)
            obtain rfl : k = 0 := hk.symm.trans (chk_yes (by rw [hF]; simp) (by rw [bytes_length]; exact h6))
            clear hF hk h6
            go_enter Tryd.func32, Tryd.ntmps32
            go_wp2_with fail
            refine (C1 _).mono ?_
            rintro e w1 ⟨rfl, rfl⟩
            go_wp2_with fail
            refine (C2 _).mono ?_
            rintro e w2 ⟨rfl, rfl⟩
            go_wp2
            go_ret
            exact ⟨rfl, HB⟩

set_option maxHeartbeats 4000000 in
theorem refform_any (fin : Bool) (op : Int) (m : Bool) (a b c d : Nat) (s : ByteArray) (w : World) (hk : Small 256 [a, b, c, d]) :
    Calls Tryd.prog 49 #[(.agg #[.bool fin, .int .i64 op, .bool m, .int .u8 ((a : Nat) : Int), .int .u8 ((b : Nat) : Int), .int .u8 ((c : Nat) : Int), .int .u8 ((d : Nat) : Int), .string s])] w fun e w' => e = .returned (.bool (form (⟨fin, op, m, [a, b, c, d], bytes s⟩ : Fr))) ∧ Sl (Below w.heap.size w w') := by
  have HB := bx_below w (.cells #[.bool fin, .int .i64 op, .bool m, .int .u8 ((a : Nat) : Int), .int .u8 ((b : Nat) : Int), .int .u8 ((c : Nat) : Int), .int .u8 ((d : Nat) : Int), .string s] 44)
  obtain ⟨g, hg⟩ : ∃ g, ctl op = g := ⟨_, rfl⟩
  have C2 : ∀ W, Calls Tryd.prog 60 #[.int .i64 op] W fun e w' => e = .returned (.bool g) ∧ W = w' := fun W => by rw [← hg]; exact refcontrol_any op W
  have hEq := eq_zero4 a b c d hk
  have hF : form (⟨fin, op, m, [a, b, c, d], bytes s⟩ : Fr) = (((decide (0 ≤ op) && decide (op ≤ 2)) || (g && fin && decide (s.size ≤ 125))) && (m || decide ([a, b, c, d] = zero4))) := by
    unfold form; simp only [bytes_length, hg]
  obtain ⟨z, hz⟩ : ∃ z, decide ([a, b, c, d] = zero4) = z := ⟨_, rfl⟩
  rw [hz] at hF hEq
  have hq1 : (op ≥ 0) = (0 ≤ op) := rfl
  rw [hF]
  clear hF hg hz hk
  by_cases h0 : 0 ≤ op
  · have e0 : (op ≥ 0) = True := eq_true h0
    rw [decide_eq_true h0]
    by_cases h2 : op ≤ 2
    · have e2 : (op ≤ 2) = True := eq_true h2
      rw [decide_eq_true h2, Bool.true_and, Bool.true_or, Bool.true_and]
      clear h0 h2 hq1
      cases m with
      | true =>
        go_enter Tryd.func49, Tryd.ntmps49
        go_wp2
        go_ret
        exact ⟨rfl, HB⟩
      | false =>
        go_enter Tryd.func49, Tryd.ntmps49
        go_wp2
        go_ret
        exact ⟨rfl, HB⟩
    · have e2 : (op ≤ 2) = False := eq_false h2
      rw [decide_eq_false h2, Bool.and_false, Bool.false_or]
      clear h0 h2 hq1
      cases g with
      | false =>
        rw [Bool.false_and, Bool.false_and, Bool.false_and]
        go_enter Tryd.func49, Tryd.ntmps49
        go_wp2_with fail
        refine (C2 _).mono ?_
        rintro e w1 ⟨rfl, rfl⟩
        go_wp2
        go_ret
        exact ⟨rfl, HB⟩
      | true =>
        cases fin with
        | false =>
          rw [Bool.and_false, Bool.false_and, Bool.false_and]
          go_enter Tryd.func49, Tryd.ntmps49
          go_wp2_with fail
          refine (C2 _).mono ?_
          rintro e w1 ⟨rfl, rfl⟩
          go_wp2
          go_ret
          exact ⟨rfl, HB⟩
        | true =>
          by_cases hl : s.size ≤ 125
          · have el : ((s.size : Int) ≤ 125) = True := eq_true (by omega)
            rw [decide_eq_true hl]
            clear hl
            cases m with
            | true =>
              go_enter Tryd.func49, Tryd.ntmps49
              go_wp2_with fail
              refine (C2 _).mono ?_
              rintro e w1 ⟨rfl, rfl⟩
              go_wp2
              go_ret
              exact ⟨rfl, HB⟩
            | false =>
              go_enter Tryd.func49, Tryd.ntmps49
              go_wp2_with fail
              refine (C2 _).mono ?_
              rintro e w1 ⟨rfl, rfl⟩
              go_wp2
              go_ret
              exact ⟨by simp, HB⟩
          · have el : ((s.size : Int) ≤ 125) = False := eq_false (by omega)
            rw [decide_eq_false hl, Bool.and_false, Bool.false_and]
            clear hl
            go_enter Tryd.func49, Tryd.ntmps49
            go_wp2_with fail
            refine (C2 _).mono ?_
            rintro e w1 ⟨rfl, rfl⟩
            go_wp2
            go_ret
            exact ⟨rfl, HB⟩
  · have e0 : (op ≥ 0) = False := eq_false h0
    rw [decide_eq_false h0, Bool.false_and, Bool.false_or]
    clear h0 hq1
    cases g with
    | false =>
      rw [Bool.false_and, Bool.false_and, Bool.false_and]
      go_enter Tryd.func49, Tryd.ntmps49
      go_wp2_with fail
      refine (C2 _).mono ?_
      rintro e w1 ⟨rfl, rfl⟩
      go_wp2
      go_ret
      exact ⟨rfl, HB⟩
    | true =>
      cases fin with
      | false =>
        rw [Bool.and_false, Bool.false_and, Bool.false_and]
        go_enter Tryd.func49, Tryd.ntmps49
        go_wp2_with fail
        refine (C2 _).mono ?_
        rintro e w1 ⟨rfl, rfl⟩
        go_wp2
        go_ret
        exact ⟨rfl, HB⟩
      | true =>
        by_cases hl : s.size ≤ 125
        · have el : ((s.size : Int) ≤ 125) = True := eq_true (by omega)
          rw [decide_eq_true hl]
          clear hl
          cases m with
          | true =>
            go_enter Tryd.func49, Tryd.ntmps49
            go_wp2_with fail
            refine (C2 _).mono ?_
            rintro e w1 ⟨rfl, rfl⟩
            go_wp2
            go_ret
            exact ⟨rfl, HB⟩
          | false =>
            go_enter Tryd.func49, Tryd.ntmps49
            go_wp2_with fail
            refine (C2 _).mono ?_
            rintro e w1 ⟨rfl, rfl⟩
            go_wp2
            go_ret
            exact ⟨by simp, HB⟩
        · have el : ((s.size : Int) ≤ 125) = False := eq_false (by omega)
          rw [decide_eq_false hl, Bool.and_false, Bool.false_and]
          clear hl
          go_enter Tryd.func49, Tryd.ntmps49
          go_wp2_with fail
          refine (C2 _).mono ?_
          rintro e w1 ⟨rfl, rfl⟩
          go_wp2
          go_ret
          exact ⟨rfl, HB⟩
theorem refcheck_any (fin : Bool) (op : Int) (m : Bool) (a b c d : Nat) (s : ByteArray) (w : World) (hk : Small 256 [a, b, c, d]) :
    Calls Tryd.prog 35 #[(.agg #[.bool fin, .int .i64 op, .bool m, .int .u8 ((a : Nat) : Int), .int .u8 ((b : Nat) : Int), .int .u8 ((c : Nat) : Int), .int .u8 ((d : Nat) : Int), .string s])] w fun e w' => e = .returned (.int .i64 ((chk (⟨fin, op, m, [a, b, c, d], bytes s⟩ : Fr) : Nat) : Int)) ∧ Sl (Below w.heap.size w w') := by
  have HB := bx_below w (.cells #[.bool fin, .int .i64 op, .bool m, .int .u8 ((a : Nat) : Int), .int .u8 ((b : Nat) : Int), .int .u8 ((c : Nat) : Int), .int .u8 ((d : Nat) : Int), .string s] 44)
  obtain ⟨f, hf⟩ : ∃ f, form (⟨fin, op, m, [a, b, c, d], bytes s⟩ : Fr) = f := ⟨_, rfl⟩
  have C1 : ∀ W, Calls Tryd.prog 49 #[(.agg #[.bool fin, .int .i64 op, .bool m, .int .u8 ((a : Nat) : Int), .int .u8 ((b : Nat) : Int), .int .u8 ((c : Nat) : Int), .int .u8 ((d : Nat) : Int), .string s])] W fun e w' => e = .returned (.bool f) ∧ Sl (Below W.heap.size W w') := fun W => by rw [← hf]; exact refform_any fin op m a b c d s W hk
  obtain ⟨k, hck⟩ : ∃ k, chk (⟨fin, op, m, [a, b, c, d], bytes s⟩ : Fr) = k := ⟨_, rfl⟩
  rw [hck]
  clear hk
  cases f with
  | false =>
    obtain rfl : k = 91 := hck.symm.trans (chk_form hf)
    clear hf hck
    go_enter Tryd.func35, Tryd.ntmps35
    go_wp2_with fail
    refine (C1 _).mono ?_
    rintro e w1 ⟨rfl, HX⟩
    have HB1 : Sl (Below w.heap.size w w1) := ⟨HB.out.trans (HX.out.mono HB.out.size)⟩
    clear HX
    go_wp2
    go_ret
    exact ⟨rfl, HB1⟩
  | true =>
    by_cases h6 : 65536 < s.size
    · have h6' : ((s.size : Int) > 65536) = True := eq_true (by omega)
      obtain rfl : k = 92 := hck.symm.trans (chk_long hf (by rw [bytes_length]; exact h6))
      clear hf hck h6
      go_enter Tryd.func35, Tryd.ntmps35
      go_wp2_with fail
      refine (C1 _).mono ?_
      rintro e w1 ⟨rfl, HX⟩
      have HB1 : Sl (Below w.heap.size w w1) := ⟨HB.out.trans (HX.out.mono HB.out.size)⟩
      have hbx : w1.heap[w.heap.size]? = some (.cells #[.bool fin, .int .i64 op, .bool m, .int .u8 ((a : Nat) : Int), .int .u8 ((b : Nat) : Int), .int .u8 ((c : Nat) : Int), .int .u8 ((d : Nat) : Int), .string s] 44 (0, 0)) := by rw [HX.out.block _ (by rw [alloc_size]; omega)]; exact bx_new _ _
      have c7 : w1.cell? ⟨w.heap.size, 7, none⟩ = some (.string s) := by rw [cell_of_row _ _ _ _ _ _ hbx]; rfl
      clear HX hbx
      go_wp2
      go_ret
      exact ⟨rfl, HB1⟩
    · have h6' : ((s.size : Int) > 65536) = False := eq_false (by omega)
      obtain rfl : k = 0 := hck.symm.trans (chk_yes hf (by rw [bytes_length]; exact h6))
      clear hf hck h6
      go_enter Tryd.func35, Tryd.ntmps35
      go_wp2_with fail
      refine (C1 _).mono ?_
      rintro e w1 ⟨rfl, HX⟩
      have HB1 : Sl (Below w.heap.size w w1) := ⟨HB.out.trans (HX.out.mono HB.out.size)⟩
      have hbx : w1.heap[w.heap.size]? = some (.cells #[.bool fin, .int .i64 op, .bool m, .int .u8 ((a : Nat) : Int), .int .u8 ((b : Nat) : Int), .int .u8 ((c : Nat) : Int), .int .u8 ((d : Nat) : Int), .string s] 44 (0, 0)) := by rw [HX.out.block _ (by rw [alloc_size]; omega)]; exact bx_new _ _
      have c7 : w1.cell? ⟨w.heap.size, 7, none⟩ = some (.string s) := by rw [cell_of_row _ _ _ _ _ _ hbx]; rfl
      clear HX hbx
      go_wp2
      go_ret
      exact ⟨rfl, HB1⟩
end Go.Proofs.YtimndpmbgfoofaaDoor.Fra
/- frame: the length's bytes, how many bytes a frame has, Data turned. -/
set_option maxRecDepth 100000
namespace Go.Proofs.YtimndpmbgfoofaaDoor.Fra
open Go.RowKit MaskPlain FramePlain Mas

theorem bx_cells {W : World} {g : Nat} {fin : Bool} {op : Int} {m : Bool} {a b c d : Nat} {s : ByteArray} (h : W.heap[g]? = some (.cells #[.bool fin, .int .i64 op, .bool m, .int .u8 ((a : Nat) : Int), .int .u8 ((b : Nat) : Int), .int .u8 ((c : Nat) : Int), .int .u8 ((d : Nat) : Int), .string s] 44 (0, 0))) :
    W.cell? ⟨g, 0, none⟩ = some (.bool fin) ∧ W.cell? ⟨g, 1, none⟩ = some (.int .i64 op) ∧ W.cell? ⟨g, 2, none⟩ = some (.bool m) ∧ W.cell? ⟨g, 3, none⟩ = some (.int .u8 (a : Int)) ∧ W.cell? ⟨g, 4, none⟩ = some (.int .u8 (b : Int)) ∧ W.cell? ⟨g, 5, none⟩ = some (.int .u8 (c : Int)) ∧ W.cell? ⟨g, 6, none⟩ = some (.int .u8 (d : Int)) ∧ W.cell? ⟨g, 7, none⟩ = some (.string s) := by
  refine ⟨?_, ?_, ?_, ?_, ?_, ?_, ?_, ?_⟩ <;> (rw [cell_of_row _ _ _ _ _ _ h]; rfl)
theorem box_size (fin : Bool) (op : Int) (m : Bool) (a b c d : Nat) (s : ByteArray) : (Tryd.prog.info? 44).map (·.size) = some (#[.bool fin, .int .i64 op, .bool m, .int .u8 ((a : Nat) : Int), .int .u8 ((b : Nat) : Int), .int .u8 ((c : Nat) : Int), .int .u8 ((d : Nat) : Int), .string s] : Array Value).size := by kernel_rfl
theorem loadbox {W : World} {ev : Operand → Value} {o : Oper} {x : Operand} {g : Nat} {fin : Bool} {op : Int} {m : Bool} {a b c d : Nat} {s : ByteArray} (ho : o.op = .load 44 x) (hx : ev x = .pointer (some ⟨g, 0, none⟩)) (h : W.heap[g]? = some (.cells #[.bool fin, .int .i64 op, .bool m, .int .u8 ((a : Nat) : Int), .int .u8 ((b : Nat) : Int), .int .u8 ((c : Nat) : Int), .int .u8 ((d : Nat) : Int), .string s] 44 (0, 0))) :
    (execOp ev o).run Tryd.prog W = .ok (.value (.agg #[.bool fin, .int .i64 op, .bool m, .int .u8 ((a : Nat) : Int), .int .u8 ((b : Nat) : Int), .int .u8 ((c : Nat) : Int), .int .u8 ((d : Nat) : Int), .string s])) W := by
  unfold execOp
  simp only [ho, hx, Instr.loadAt, Instr.sureAddr, Sem.run_bind, Sem.run_pure, Result.andThen_ok, run_loadVar_row W g 44 44 _ (0, 0) _ h Tryd.underlying44 rfl (box_size fin op m a b c d s)]
theorem lenbytes_any (fin : Bool) (op : Int) (m : Bool) (a b c d : Nat) (s : ByteArray) (n : Nat) (w : World) (hg : Globs w) (hs : s.size ≤ 1000000) (hn : (lenB s.size).length = n) :
    Calls Tryd.prog 46 #[(.agg #[.bool fin, .int .i64 op, .bool m, .int .u8 ((a : Nat) : Int), .int .u8 ((b : Nat) : Int), .int .u8 ((c : Nat) : Int), .int .u8 ((d : Nat) : Int), .string s])] w fun e w' => ∃ g cap, e = .returned (.slice (some ⟨g, 0, none⟩) n cap) ∧ Sl (SrcAt w' (.slice (some ⟨g, 0, none⟩) n cap) (lenB s.size)) ∧ Sl (Below w.heap.size w w') := by
  have HB := bx_below w (.cells #[.bool fin, .int .i64 op, .bool m, .int .u8 ((a : Nat) : Int), .int .u8 ((b : Nat) : Int), .int .u8 ((c : Nat) : Int), .int .u8 ((d : Nat) : Int), .string s] 44)
  have HG := Sl.mk hg
  have hsome : putL s.size = some (lenB s.size) := lenB_some (by omega)
  have C1 := fun W hW => put_yes s.size (lenB s.size) W hW hsome
  rw [hn] at C1
  obtain ⟨L, hL⟩ : ∃ L, lenB s.size = L := ⟨_, rfl⟩
  rw [hL] at C1 ⊢
  have hwr : IntKind.u64.wrap (s.size : Int) = (s.size : Int) := by rw [IntKind.wrap_u64]; omega
  clear hg hn hsome hL
  go_enter Tryd.func46, Tryd.ntmps46
  go_wp2_with fail
  refine (C1 _ (HG.out.below HB.out HG.out.size)).mono ?_
  rintro e w1 ⟨g, cap, rfl, HS, HX⟩
  have HB1 : Sl (Below w.heap.size w w1) := ⟨HB.out.trans (HX.out.mono HB.out.size)⟩
  clear HX
  go_wp2
  go_ret
  exact ⟨g, cap, rfl, HS, HB1⟩
theorem keysize_n (fin : Bool) (op : Int) (m : Bool) (a b c d : Nat) (s : ByteArray) (k : Nat) (w : World) (hk : ksz m = k) :
    Calls Tryd.prog 47 #[(.agg #[.bool fin, .int .i64 op, .bool m, .int .u8 ((a : Nat) : Int), .int .u8 ((b : Nat) : Int), .int .u8 ((c : Nat) : Int), .int .u8 ((d : Nat) : Int), .string s])] w fun e w' => e = .returned (.int .i64 (k : Int)) ∧ Sl (Below w.heap.size w w') := by
  subst hk; exact keysize_any fin op m a b c d s w
theorem size_parts (fin : Bool) (op : Int) (m : Bool) (a b c d : Nat) (s : ByteArray) (h : s.size ≤ 1000000) : size (⟨fin, op, m, [a, b, c, d], bytes s⟩ : Fr) = 1 + (lenB s.size).length + ksz m + s.size := by
  unfold size ksz
  rw [lenB_length (by omega)]
  simp only [bytes_length]
  cases m <;> simp only [if_true, Bool.false_eq_true, if_false] <;> split <;> (try split) <;> omega
theorem lenB_le (n : Nat) (h : n ≤ 1000000) : (lenB n).length ≤ 9 := by
  rw [lenB_length (by omega)]; split
  · omega
  · split <;> omega

set_option maxHeartbeats 2000000 in
theorem size_any (fin : Bool) (op : Int) (m : Bool) (a b c d : Nat) (s : ByteArray) (w : World) (hg : Globs w) (hs : s.size ≤ 1000000) :
    Calls Tryd.prog 33 #[(.agg #[.bool fin, .int .i64 op, .bool m, .int .u8 ((a : Nat) : Int), .int .u8 ((b : Nat) : Int), .int .u8 ((c : Nat) : Int), .int .u8 ((d : Nat) : Int), .string s])] w fun e w' => e = .returned (.int .i64 ((size (⟨fin, op, m, [a, b, c, d], bytes s⟩ : Fr) : Nat) : Int)) ∧ Sl (Below w.heap.size w w') := by
  have HG := Sl.mk hg
  have HSZ := Sl.mk hs
  have hF := size_parts fin op m a b c d s hs
  have hle := lenB_le s.size hs
  obtain ⟨n, hn⟩ : ∃ n, (lenB s.size).length = n := ⟨_, rfl⟩
  have HN := Sl.mk hn
  obtain ⟨k, hk⟩ : ∃ k, ksz m = k := ⟨_, rfl⟩
  have HK := Sl.mk hk
  have hk4 : k ≤ 4 := by rw [← hk]; unfold ksz; split <;> omega
  rw [hn, hk] at hF
  rw [hn] at hle
  have HF : Sl (((size (⟨fin, op, m, [a, b, c, d], bytes s⟩ : Fr) : Nat) : Int) = 1 + (n : Int) + (k : Int) + (s.size : Int)) := ⟨by rw [hF]; omega⟩
  have z1 : IntKind.i64.wrap (1 + (n : Int)) = 1 + (n : Int) := by rw [IntKind.wrap_i64]; omega
  have z2 : IntKind.i64.wrap (1 + (n : Int) + (k : Int)) = 1 + (n : Int) + (k : Int) := by rw [IntKind.wrap_i64]; omega
  have z3 : IntKind.i64.wrap (1 + (n : Int) + (k : Int) + (s.size : Int)) = 1 + (n : Int) + (k : Int) + (s.size : Int) := by rw [IntKind.wrap_i64]; omega
  clear hg hs hF hn hk
  obtain ⟨w1, hw1⟩ : ∃ w1, w.alloc (.cells #[.bool fin, .int .i64 op, .bool m, .int .u8 ((a : Nat) : Int), .int .u8 ((b : Nat) : Int), .int .u8 ((c : Nat) : Int), .int .u8 ((d : Nat) : Int), .string s] 44) = w1 := ⟨_, rfl⟩
  have HB1 : Sl (Below w.heap.size w w1) := ⟨by rw [← hw1]; exact (bx_below w _).out⟩
  have HY1 : Sl (w1.heap[w.heap.size]? = some (.cells #[.bool fin, .int .i64 op, .bool m, .int .u8 ((a : Nat) : Int), .int .u8 ((b : Nat) : Int), .int .u8 ((c : Nat) : Int), .int .u8 ((d : Nat) : Int), .string s] 44 (0, 0))) := ⟨by rw [← hw1]; exact bx_new _ _⟩
  go_enter Tryd.func33, Tryd.ntmps33
  go_upto_region 1 with fail
  obtain ⟨R, hR⟩ : ∃ R, w1.drew = R := ⟨_, rfl⟩
  have HS0 : Below w.heap.size w R ∧ R.heap[w.heap.size]? = some (.cells #[.bool fin, .int .i64 op, .bool m, .int .u8 ((a : Nat) : Int), .int .u8 ((b : Nat) : Int), .int .u8 ((c : Nat) : Int), .int .u8 ((d : Nat) : Int), .string s] 44 (0, 0)) := ⟨by rw [← hR]; exact HB1.out.drew, by rw [← hR]; exact HY1.out⟩
  refine wp_region_noPanic ?_
  refine wp_region_held (S := fun W => Below w.heap.size w W ∧ W.heap[w.heap.size]? = some (.cells #[.bool fin, .int .i64 op, .bool m, .int .u8 ((a : Nat) : Int), .int .u8 ((b : Nat) : Int), .int .u8 ((c : Nat) : Int), .int .u8 ((d : Nat) : Int), .string s] 44 (0, 0))) (by kernel_rfl) ?_
  change wpAnyH _ _ _ _ _ _ _ _ w1.drew
  rw [hR]
  clear hR hw1
  refine heldTake (d := some 3) (op := .load 44 (Operand.tmp 1)) (g := none) 0 ((.agg #[.bool fin, .int .i64 op, .bool m, .int .u8 ((a : Nat) : Int), .int .u8 ((b : Nat) : Int), .int .u8 ((c : Nat) : Int), .int .u8 ((d : Nat) : Int), .string s])) rfl (by kernel_rfl) (by kernel_rfl) (by kernel_rfl) (by kernel_rfl) ?y0 HS0 ?_
  case y0 => intro o' ho W hS; exact loadbox ho (by rfl) hS.2
  simp only [Act.put, List.setIfInBounds_toArray, List.set_cons_zero, List.set_cons_succ]
  refine heldTake (d := some 7) (op := .load 44 (Operand.tmp 1)) (g := none) 4 ((.agg #[.bool fin, .int .i64 op, .bool m, .int .u8 ((a : Nat) : Int), .int .u8 ((b : Nat) : Int), .int .u8 ((c : Nat) : Int), .int .u8 ((d : Nat) : Int), .string s])) rfl (by kernel_rfl) (by kernel_rfl) (by kernel_rfl) (by kernel_rfl) ?y4 HS0 ?_
  case y4 => intro o' ho W hS; exact loadbox ho (by rfl) hS.2
  simp only [Act.put, List.setIfInBounds_toArray, List.set_cons_zero, List.set_cons_succ]
  refine heldTake (d := some 10) (op := .fieldAddr 44 (Operand.tmp 1) 4) (g := none) 7 ?v7 rfl (by kernel_rfl) (by kernel_rfl) (by kernel_rfl) (by kernel_rfl) ?y7 HS0 ?_
  case y7 => intro o' ho W hS; simp only [execOp, ho]; go_simp; try rfl
  simp only [Act.put, List.setIfInBounds_toArray, List.set_cons_zero, List.set_cons_succ]
  refine heldTake (d := some 11) (op := .load 9 (Operand.tmp 10)) (g := none) 8 ?v8 rfl (by kernel_rfl) (by kernel_rfl) (by kernel_rfl) (by kernel_rfl) ?y8 HS0 ?_
  case y8 => intro o' ho W hS; obtain ⟨c0, c1, c2, c3, c4, c5, c6, c7⟩ := bx_cells hS.2; simp only [execOp, ho]; go_simp; try rfl
  simp only [Act.put, List.setIfInBounds_toArray, List.set_cons_zero, List.set_cons_succ]
  refine heldTake (d := some 12) (op := .call { callee := Callee.builtin Builtin.len, args := #[Operand.tmp 11], argTypes := #[9] }) (g := none) 9 ?v9 rfl (by kernel_rfl) (by kernel_rfl) (by kernel_rfl) (by kernel_rfl) ?y9 HS0 ?_
  case y9 => intro o' ho W hS; simp only [execOp, ho]; go_simp; try rfl
  simp only [Act.put, List.setIfInBounds_toArray, List.set_cons_zero, List.set_cons_succ]
  refine heldCall (d := some 4) (op := .call { callee := Callee.value (Operand.func 46), args := #[Operand.tmp 3], argTypes := #[44] }) (g := none) 1 46 #[(.agg #[.bool fin, .int .i64 op, .bool m, .int .u8 ((a : Nat) : Int), .int .u8 ((b : Nat) : Int), .int .u8 ((c : Nat) : Int), .int .u8 ((d : Nat) : Int), .string s])] rfl (by kernel_rfl) (by kernel_rfl) ?y1 ?_
  case y1 => intro o' ho; simp only [execOp, ho]; go_simp; try rfl
  refine (lenbytes_any fin op m a b c d s n R (HG.out.below HS0.1 HG.out.size) HSZ.out HN.out).mono ?_
  rintro e R1 ⟨g, cap, rfl, HSL, HX1⟩
  have HS1 : Below w.heap.size w R1 ∧ R1.heap[w.heap.size]? = some (.cells #[.bool fin, .int .i64 op, .bool m, .int .u8 ((a : Nat) : Int), .int .u8 ((b : Nat) : Int), .int .u8 ((c : Nat) : Int), .int .u8 ((d : Nat) : Int), .string s] 44 (0, 0)) := ⟨HS0.1.trans (HX1.out.mono HS0.1.size), by rw [HX1.out.block _ (Array.getElem?_eq_some_iff.1 HS0.2).1]; exact HS0.2⟩
  refine ⟨_, rfl, HS1, ?_⟩
  simp only [Act.put, List.setIfInBounds_toArray, List.set_cons_zero, List.set_cons_succ]
  refine heldTake (d := some 5) (op := .call { callee := Callee.builtin Builtin.len, args := #[Operand.tmp 4], argTypes := #[36] }) (g := none) 2 ?v2 rfl (by kernel_rfl) (by kernel_rfl) (by kernel_rfl) (by kernel_rfl) ?y2 HS1 ?_
  case y2 => intro o' ho W hS; simp only [execOp, ho]; go_simp; try rfl
  simp only [Act.put, List.setIfInBounds_toArray, List.set_cons_zero, List.set_cons_succ]
  refine heldTake (d := some 6) (op := .binOp BinOp.add 3 (Operand.const (Value.int IntKind.i64 1)) (Operand.tmp 5) 3) (g := none) 3 ?v3 rfl (by kernel_rfl) (by kernel_rfl) (by kernel_rfl) (by kernel_rfl) ?y3 HS1 ?_
  case y3 => intro o' ho W hS; simp only [execOp, ho]; go_simp; try rfl
  simp only [Act.put, List.setIfInBounds_toArray, List.set_cons_zero, List.set_cons_succ]
  refine heldCall (d := some 8) (op := .call { callee := Callee.value (Operand.func 47), args := #[Operand.tmp 7], argTypes := #[44] }) (g := none) 5 47 #[(.agg #[.bool fin, .int .i64 op, .bool m, .int .u8 ((a : Nat) : Int), .int .u8 ((b : Nat) : Int), .int .u8 ((c : Nat) : Int), .int .u8 ((d : Nat) : Int), .string s])] rfl (by kernel_rfl) (by kernel_rfl) ?y5 ?_
  case y5 => intro o' ho; simp only [execOp, ho]; go_simp; try rfl
  refine (keysize_n fin op m a b c d s k R1 HK.out).mono ?_
  rintro e R2 ⟨rfl, HX2⟩
  have HS2 : Below w.heap.size w R2 ∧ R2.heap[w.heap.size]? = some (.cells #[.bool fin, .int .i64 op, .bool m, .int .u8 ((a : Nat) : Int), .int .u8 ((b : Nat) : Int), .int .u8 ((c : Nat) : Int), .int .u8 ((d : Nat) : Int), .string s] 44 (0, 0)) := ⟨HS1.1.trans (HX2.out.mono HS1.1.size), by rw [HX2.out.block _ (Array.getElem?_eq_some_iff.1 HS1.2).1]; exact HS1.2⟩
  refine ⟨_, rfl, HS2, ?_⟩
  simp only [Act.put, List.setIfInBounds_toArray, List.set_cons_zero, List.set_cons_succ]
  refine heldTake (d := some 9) (op := .binOp BinOp.add 3 (Operand.tmp 6) (Operand.tmp 8) 3) (g := none) 6 ?v6 rfl (by kernel_rfl) (by kernel_rfl) (by kernel_rfl) (by kernel_rfl) ?y6 HS2 ?_
  case y6 => intro o' ho W hS; simp only [execOp, ho]; go_simp; try rfl
  simp only [Act.put, List.setIfInBounds_toArray, List.set_cons_zero, List.set_cons_succ]
  refine heldTake (d := some 13) (op := .binOp BinOp.add 3 (Operand.tmp 9) (Operand.tmp 12) 3) (g := none) 10 ?v10 rfl (by kernel_rfl) (by kernel_rfl) (by kernel_rfl) (by kernel_rfl) ?y10 HS2 ?_
  case y10 => intro o' ho W hS; simp only [execOp, ho]; go_simp; try rfl
  simp only [Act.put, List.setIfInBounds_toArray, List.set_cons_zero, List.set_cons_succ]
  refine heldTake (d := some 2) (op := .assign (Operand.tmp 13)) (g := none) 11 ?v11 rfl (by kernel_rfl) (by kernel_rfl) (by kernel_rfl) (by kernel_rfl) ?y11 HS2 ?_
  case y11 => intro o' ho W hS; simp only [execOp, ho]; go_simp; try rfl
  simp only [Act.put, List.setIfInBounds_toArray, List.set_cons_zero, List.set_cons_succ]
  refine wpAnyH_done (by kernel_rfl) ?_ _
  refine NoPanic.normal ?_
  go_wp2
  go_ret
  exact ⟨by rw [HF.out]; rfl, ⟨HS2.1⟩⟩
end Go.Proofs.YtimndpmbgfoofaaDoor.Fra
/- frame: what is appended, a row made with room, Data turned. -/
set_option maxRecDepth 100000
namespace Go.Proofs.YtimndpmbgfoofaaDoor.Fra
open Go.RowKit MaskPlain FramePlain Mas

/-- Bytes behind a slice are appended to a row of one's own. -/
theorem add_src {Z : World} {base : Nat} {v u : Value} {m l : List Nat} (h : Z.ownsRow base 5 1 v m.length (u8s m)) (hs : SrcAt Z u l) (hl : m.length + l.length ≤ 1000000) (hbase : base ≤ Z.heap.size) (hp : 0 < (m ++ l).length) :
    ∃ g cap w1, (Builtin.append_ #[36, 36] 36 #[v, u]).run Tryd.prog Z = .ok (.slice (some ⟨g, 0, none⟩) (m ++ l).length cap) w1 ∧
      w1.ownsRow base 5 1 (.slice (some ⟨g, 0, none⟩) (m ++ l).length cap) (m ++ l).length (u8s (m ++ l)) ∧ Z.grownBy w1 v.ownBlock := by
  obtain ⟨i0, hi0, hz0, hz1, hz2⟩ := info5'
  obtain ⟨a, cap, sb, so, rfl, hc, ha, hcell⟩ := hs
  cases a with
  | none =>
    have h0 : l = [] := by
      cases l with
      | nil => rfl
      | cons x xs => exact absurd (ha (by simp)) (by simp)
    subst h0
    have hcap : cap = 0 ∨ cap ≠ 0 := by omega
    have hr : (Builtin.append_ #[36, 36] 36 #[v, .slice none 0 cap]).run Tryd.prog Z = .ok v Z := by
      rcases h.2 with ⟨rfl, hm⟩ | ⟨g, cap', cur, rfl, _, _, hnc, _⟩
      · simp [hm] at hp
      · simp [Builtin.append_, run_underlying Tryd.underlying36, sizeOf, typeInfo, hi0, Builtin.lenOf, Builtin.firstCells, hnc, storeCells]
    rw [List.append_nil] at hp ⊢
    obtain ⟨g, c, rfl, _, _⟩ := own_src h hp
    exact ⟨g, c, Z, hr, h, grown_refl _ _⟩
  | some ad =>
    obtain ⟨v', w', hrun, hown, hgr, _⟩ := run_append_own (P := Tryd.prog) Z base 36 36 5 i0 _ 1 1 Tryd.underlying36 hi0 hz0 hz1 hz2 rfl (by decide) v m.length (u8s m) h ad l.length cap (u8s l) (by simp) (fun j u hu => by
      have hj : j < l.length := by have := (List.getElem?_eq_some_iff.1 hu).1; simpa using this
      have had := ha (by omega)
      injection had with had
      subst had
      rw [Addr.add_mid, hcell j hj, ← hu, u8s_get l j hj]) (u8s_one l) (by unfold maxLen; omega) (by omega) hbase
    rw [← List.length_append, ← u8s_append] at hown
    obtain ⟨g, c, rfl, _, _⟩ := own_src hown hp
    exact ⟨g, c, w', hrun, hown, hgr⟩
/-- An empty row with room for n bytes. -/
theorem make_cap (X : Int) (n : Nat) (hX : X = (n : Int)) (hn : n ≤ 2000000) (w : World) :
    (Instr.makeSlice 36 (.int .i64 0) (.int .i64 X)).run Tryd.prog w = .ok (.slice (some ⟨w.heap.size, 0, none⟩) 0 n) (w.alloc (.cells (u8s (zs n)).toArray 5)) := by
  subst hX
  obtain ⟨i, hi, hz, h1, h2⟩ := info5'
  have := run_make (P := Tryd.prog) w 36 5 i (.int .u8 0) Tryd.underlying36 hi hz .i64 .i64 (0 : Int) (n : Int) (by omega) (by omega) (by rw [h2]; omega) (by omega)
  rw [h1] at this
  rw [show ((n : Int).toNat) = n from by omega, made_u8] at this
  exact this
theorem cap_own (w : World) (base n : Nat) (hb : base ≤ w.heap.size) (hn : n ≤ 2000000) : (w.alloc (.cells (u8s (zs n)).toArray 5)).ownsRow base 5 1 (.slice (some ⟨w.heap.size, 0, none⟩) 0 n) ([] : List Nat).length (u8s []) :=
  World.ownsRow_made w (u8s (zs n)).toArray n hb (by unfold maxLen; omega) (by simp [zs])
theorem or_128 (x : Nat) (h : x < 128) : bits .or .u8 (x : Int) 128 = ((x + 128 : Nat) : Int) := by
  have : ∀ c : Fin 128, bits BinOp.or IntKind.u8 (c.val : Int) 128 = ((c.val + 128 : Nat) : Int) := by decide +kernel
  exact this ⟨x, h⟩
theorem and_128 (x : Nat) (h : x < 256) : bits .and .u8 (x : Int) 128 = (((if 128 ≤ x then 128 else 0 : Nat)) : Int) := by
  have : ∀ c : Fin 256, bits BinOp.and IntKind.u8 (c.val : Int) 128 = (((if 128 ≤ c.val then 128 else 0 : Nat)) : Int) := by decide +kernel
  exact this ⟨x, h⟩
theorem rest4_zero : rest4 0 = 0 := rfl
/-- Data as bytes, or these as Data. -/
def tb (m : Bool) (key bs : List Nat) : List Nat := if m then turn key 0 bs else bs
theorem tb_length (m : Bool) (key bs : List Nat) : (tb m key bs).length = bs.length := by unfold tb; split <;> simp [turn_length]
theorem tb_small {m : Bool} {key bs : List Nat} (hk : Small 256 key) (h : Small 256 bs) : Small 256 (tb m key bs) := by
  unfold tb; split
  · exact turn_lt key 0 bs h (fun i => hk.getD (by omega) i)
  · exact h

set_option maxHeartbeats 1000000 in
theorem turned_any (fin : Bool) (op : Int) (m : Bool) (a b c d : Nat) (s : ByteArray) (g o n cap : Nat) (bs : List Nat) (w : World) (hk : Small 256 [a, b, c, d]) (hv : SrcAt w (.slice (some ⟨g, o, none⟩) n cap) bs) (hsm : Small 256 bs) (hn : bs.length = n) (hm : n ≤ 100000) :
    Calls Tryd.prog 48 #[(.agg #[.bool fin, .int .i64 op, .bool m, .int .u8 ((a : Nat) : Int), .int .u8 ((b : Nat) : Int), .int .u8 ((c : Nat) : Int), .int .u8 ((d : Nat) : Int), .string s]), .slice (some ⟨g, o, none⟩) n cap] w fun e w' => ∃ g' o' cap', e = .returned (.slice (some ⟨g', o', none⟩) n cap') ∧ Sl (SrcAt w' (.slice (some ⟨g', o', none⟩) n cap') (tb m [a, b, c, d] bs)) ∧ Sl (Below w.heap.size w w') := by
  have HV := Sl.mk hv
  obtain ⟨w1, hw1⟩ : ∃ w1, w.alloc (.cells #[.bool fin, .int .i64 op, .bool m, .int .u8 ((a : Nat) : Int), .int .u8 ((b : Nat) : Int), .int .u8 ((c : Nat) : Int), .int .u8 ((d : Nat) : Int), .string s] 44) = w1 := ⟨_, rfl⟩
  have HB1 : Sl (Below w.heap.size w w1) := ⟨by rw [← hw1]; exact (bx_below w _).out⟩
  have HY1 : Sl (w1.heap[w.heap.size]? = some (.cells #[.bool fin, .int .i64 op, .bool m, .int .u8 ((a : Nat) : Int), .int .u8 ((b : Nat) : Int), .int .u8 ((c : Nat) : Int), .int .u8 ((d : Nat) : Int), .string s] 44 (0, 0))) := ⟨by rw [← hw1]; exact bx_new _ _⟩
  have HV1 : Sl (SrcAt w1 (.slice (some ⟨g, o, none⟩) n cap) bs) := ⟨HV.out.below (Nat.le_refl _) HB1.out⟩
  obtain ⟨c0, c1, c2, c3, c4, c5, c6, c7⟩ := bx_cells HY1.out
  cases m with
  | true =>
    have C1 : Calls Tryd.prog 59 #[.agg #[.int .u8 (a : Int), .int .u8 (b : Int), .int .u8 (c : Int), .int .u8 (d : Int)], .int .i64 0, .slice (some ⟨g, o, none⟩) n cap] w1 fun e w' => ∃ g, e = .returned (.slice (some ⟨g, 0, none⟩) n n) ∧ Sl (RowB w' g (turn [a, b, c, d] (rest4 0) bs)) ∧ Sl (Below w1.heap.size w1 w') :=
      apply_len [a, b, c, d] 0 _ bs n w1 rfl hk HV1.out hsm hm hn
    have HN := Sl.mk hn
    clear hk hv hsm hn hm
    go_enter Tryd.func48, Tryd.ntmps48
    go_wp2_with fail
    refine C1.mono ?_
    rintro e w2 ⟨g2, rfl, HR, HX⟩
    have HB2 : Sl (Below w.heap.size w w2) := ⟨HB1.out.trans (HX.out.mono HB1.out.size)⟩
    have HRS : Sl (SrcAt w2 (.slice (some ⟨g2, 0, none⟩) n n) (tb true [a, b, c, d] bs)) := ⟨src_len HR.out.src (by rw [tb_length]; exact HN.out)⟩
    clear HX HR C1
    go_wp2
    go_ret
    exact ⟨g2, 0, n, rfl, HRS, HB2⟩
  | false =>
    clear hk hv hsm hn hm
    go_enter Tryd.func48, Tryd.ntmps48
    go_wp2
    go_ret
    exact ⟨g, o, cap, rfl, HV1, HB1⟩
end Go.Proofs.YtimndpmbgfoofaaDoor.Fra
