/- frame: Control, opens, keySize; the document's Control. A frame's cells; frames compared. -/
import Derived.Test.YtpbfabcjkhlanaaDoorFramePlain
import Derived.Test.YtpbfabcjkhlanaaDoorMaB
import Derived.Laws.StructEq
import Derived.Test.YtpbfabcjkhlanaaDoorMaD
set_option maxRecDepth 100000
namespace Go.Proofs.YtpbfabcjkhlanaaDoor.Fra
open Go.RowKit MaskPlain FramePlain Mas

theorem bx_new (w : World) (cs : Array Value) : (w.alloc (.cells cs 35)).heap[w.heap.size]? = some (.cells cs 35 (0, 0)) := alloc_new _ _ _ rfl
theorem bx_below (w : World) (o : Obj) : Sl (Below w.heap.size w (w.alloc o)) := ⟨(Below.refl _ _).alloc (Nat.le_refl _) _⟩
/-- May an op stand in a first byte with such a Fin? -/
def opn (fin : Bool) (op : Int) : Bool := if ctl op then fin else decide (0 ≤ op) && decide (op ≤ 2)

theorem control_any (op : Int) (w : World) : Calls Tryd.prog 23 #[.int .i64 op] w fun e w' => e = .returned (.bool (ctl op)) ∧ w = w' := by
  by_cases h8 : op = 8
  · subst h8
    go_enter Tryd.func23, Tryd.ntmps23
    go_wp2
    go_ret
    exact ⟨rfl, rfl⟩
  by_cases h9 : op = 9
  · subst h9
    go_enter Tryd.func23, Tryd.ntmps23
    go_wp2
    go_ret
    exact ⟨rfl, rfl⟩
  by_cases h10 : op = 10
  · subst h10
    go_enter Tryd.func23, Tryd.ntmps23
    go_wp2
    go_ret
    exact ⟨rfl, rfl⟩
  · have e8 : (op == 8) = false := beq_eq_false_iff_ne.2 h8
    have e9 : (op == 9) = false := beq_eq_false_iff_ne.2 h9
    have e10 : (op == 10) = false := beq_eq_false_iff_ne.2 h10
    have hr : ctl op = false := by unfold ctl; rw [Bool.and_eq_false_iff, decide_eq_false_iff_not, decide_eq_false_iff_not]; omega
    rw [hr]
    clear hr h8 h9 h10
    go_enter Tryd.func23, Tryd.ntmps23
    go_wp2
    go_ret
    exact ⟨rfl, rfl⟩
theorem opens_any (fin : Bool) (op : Int) (w : World) : Calls Tryd.prog 22 #[.bool fin, .int .i64 op] w fun e w' => e = .returned (.bool (opn fin op)) ∧ w = w' := by
  obtain ⟨c, hc⟩ : ∃ c, ctl op = c := ⟨_, rfl⟩
  have C1 : ∀ W, Calls Tryd.prog 23 #[.int .i64 op] W fun e w' => e = .returned (.bool c) ∧ W = w' := fun W => by rw [← hc]; exact control_any op W
  unfold opn
  rw [hc]
  clear hc
  cases c with
  | true =>
    rw [if_pos rfl]
    go_enter Tryd.func22, Tryd.ntmps22
    go_wp2_with fail
    refine (C1 _).mono ?_
    rintro e w1 ⟨rfl, rfl⟩
    go_wp2
    go_ret
    exact ⟨rfl, rfl⟩
  | false =>
    rw [if_neg (by decide)]
    obtain ⟨r, hr⟩ : ∃ r, (decide (0 ≤ op) && decide (op ≤ 2)) = r := ⟨_, rfl⟩
    rw [hr]
    by_cases h0 : op = 0
    · subst h0
      subst hr
      go_enter Tryd.func22, Tryd.ntmps22
      go_wp2_with fail
      refine (C1 _).mono ?_
      rintro e w1 ⟨rfl, rfl⟩
      go_wp2
      go_ret
      exact ⟨rfl, rfl⟩
    by_cases h1 : op = 1
    · subst h1
      subst hr
      go_enter Tryd.func22, Tryd.ntmps22
      go_wp2_with fail
      refine (C1 _).mono ?_
      rintro e w1 ⟨rfl, rfl⟩
      go_wp2
      go_ret
      exact ⟨rfl, rfl⟩
    by_cases h2 : op = 2
    · subst h2
      subst hr
      go_enter Tryd.func22, Tryd.ntmps22
      go_wp2_with fail
      refine (C1 _).mono ?_
      rintro e w1 ⟨rfl, rfl⟩
      go_wp2
      go_ret
      exact ⟨rfl, rfl⟩
    have e0 : (op == 0) = false := beq_eq_false_iff_ne.2 h0
    have e1 : (op == 1) = false := beq_eq_false_iff_ne.2 h1
    have e2 : (op == 2) = false := beq_eq_false_iff_ne.2 h2
    obtain rfl : r = false := by rw [← hr, Bool.and_eq_false_iff, decide_eq_false_iff_not, decide_eq_false_iff_not]; omega
    clear hr h0 h1 h2
    go_enter Tryd.func22, Tryd.ntmps22
    go_wp2_with fail
    refine (C1 _).mono ?_
    rintro e w1 ⟨rfl, rfl⟩
    go_wp2
    go_ret
    exact ⟨rfl, rfl⟩
/-- How many bytes the key takes. -/
def ksz (m : Bool) : Nat := if m then 4 else 0
/-- Frames are compared part by part. -/
theorem eq_fr (fin : Bool) (op : Int) (m : Bool) (a b c d : Nat) (s : ByteArray) (fin' : Bool) (op' : Int) (m' : Bool) (a' b' c' d' : Nat) (s' : ByteArray) (hk : Small 256 [a, b, c, d]) (hk' : Small 256 [a', b', c', d']) (W : World) :
    (Op.equalIn 10000 35 (.agg #[.bool fin, .int .i64 op, .bool m, .int .u8 ((a : Nat) : Int), .int .u8 ((b : Nat) : Int), .int .u8 ((c : Nat) : Int), .int .u8 ((d : Nat) : Int), .string s]) (.agg #[.bool fin', .int .i64 op', .bool m', .int .u8 ((a' : Nat) : Int), .int .u8 ((b' : Nat) : Int), .int .u8 ((c' : Nat) : Int), .int .u8 ((d' : Nat) : Int), .string s'])).run Tryd.prog W = .ok ((fin == fin') && ((op == op') && ((m == m') && (decide ([a, b, c, d] = [a', b', c', d']) && (s.toList == s'.toList))))) W := by
  have ek : ∀ (w : World), (Op.equalIn 9999 33 (.agg #[.int .u8 (a : Int), .int .u8 (b : Int), .int .u8 (c : Int), .int .u8 (d : Int)]) (.agg #[.int .u8 (a' : Int), .int .u8 (b' : Int), .int .u8 (c' : Int), .int .u8 (d' : Int)])).run Tryd.prog w = .ok (decide ([a, b, c, d] = [a', b', c', d'])) w := fun w => by
    show (Op.equalIn 9999 33 (.agg (u8s [a, b, c, d]).toArray) (.agg (u8s [a', b', c', d']).toArray)).run Tryd.prog w = _
    rw [u8s_cells _ hk, u8s_cells _ hk', run_equalIn_bytes w 9997 33 5 4 Tryd.underlying33 Tryd.underlying5 (fun w => by kernel_rfl) _ _ (by simp) (by simp)]
    congr 1
    rw [Bool.eq_iff_iff]
    simp only [beq_iff_eq, decide_eq_true_eq]
    exact ofNat_inj hk hk'
  have hp : Tryd.prog.stoodInHeld 35 = false := by kernel_rfl
  have hu : Tryd.prog.underlying 35 = some (.struct (Tryd.prog.fieldsOf 35)) := by kernel_rfl
  have hf : (Tryd.prog.fieldsOf 35).toList = [⟨"Fin", 4, 0, false, "", "", 0⟩, ⟨"Op", 3, 1, false, "", "", 8⟩, ⟨"Masked", 4, 2, false, "", "", 16⟩, ⟨"Key", 33, 3, false, "", "", 17⟩, ⟨"Data", 9, 7, false, "", "", 24⟩] := by kernel_rfl
  rw [run_equalIn_struct W 9999 35 _ _ hu hp, hf]
  have e4 : ∀ (p q : Bool) (w : World), (Op.equalIn 9999 4 (.bool p) (.bool q)).run Tryd.prog w = .ok (p == q) w := fun p q w => run_equalIn_bool w 9998 4 p q Tryd.underlying4
  have e3 : ∀ (p q : Int) (w : World), (Op.equalIn 9999 3 (.int .i64 p) (.int .i64 q)).run Tryd.prog w = .ok (p == q) w := fun p q w => run_equalIn_int w 9998 3 .i64 .i64 p q Tryd.underlying3
  have e9 : ∀ (p q : ByteArray) (w : World), (Op.equalIn 9999 9 (.string p) (.string q)).run Tryd.prog w = .ok (p.toList == q.toList) w := fun p q w => run_equalIn_string w 9998 9 p q Tryd.underlying9
  have p0 : ∀ (f : Bool) (o : Int) (m : Bool) (a b c d : Nat) (s : ByteArray) (w : World), (part 4 #[.bool f, .int .i64 o, .bool m, .int .u8 ((a : Nat) : Int), .int .u8 ((b : Nat) : Int), .int .u8 ((c : Nat) : Int), .int .u8 ((d : Nat) : Int), .string s] 0).run Tryd.prog w = .ok (.bool f) w := fun f o m a b c d s w => by kernel_rfl
  have p1 : ∀ (f : Bool) (o : Int) (m : Bool) (a b c d : Nat) (s : ByteArray) (w : World), (part 3 #[.bool f, .int .i64 o, .bool m, .int .u8 ((a : Nat) : Int), .int .u8 ((b : Nat) : Int), .int .u8 ((c : Nat) : Int), .int .u8 ((d : Nat) : Int), .string s] 1).run Tryd.prog w = .ok (.int .i64 o) w := fun f o m a b c d s w => by kernel_rfl
  have p2 : ∀ (f : Bool) (o : Int) (m : Bool) (a b c d : Nat) (s : ByteArray) (w : World), (part 4 #[.bool f, .int .i64 o, .bool m, .int .u8 ((a : Nat) : Int), .int .u8 ((b : Nat) : Int), .int .u8 ((c : Nat) : Int), .int .u8 ((d : Nat) : Int), .string s] 2).run Tryd.prog w = .ok (.bool m) w := fun f o m a b c d s w => by kernel_rfl
  have p3 : ∀ (f : Bool) (o : Int) (m : Bool) (a b c d : Nat) (s : ByteArray) (w : World), (part 33 #[.bool f, .int .i64 o, .bool m, .int .u8 ((a : Nat) : Int), .int .u8 ((b : Nat) : Int), .int .u8 ((c : Nat) : Int), .int .u8 ((d : Nat) : Int), .string s] 3).run Tryd.prog w = .ok (.agg #[.int .u8 (a : Int), .int .u8 (b : Int), .int .u8 (c : Int), .int .u8 (d : Int)]) w := fun f o m a b c d s w => by kernel_rfl
  have p7 : ∀ (f : Bool) (o : Int) (m : Bool) (a b c d : Nat) (s : ByteArray) (w : World), (part 9 #[.bool f, .int .i64 o, .bool m, .int .u8 ((a : Nat) : Int), .int .u8 ((b : Nat) : Int), .int .u8 ((c : Nat) : Int), .int .u8 ((d : Nat) : Int), .string s] 7).run Tryd.prog w = .ok (.string s) w := fun f o m a b c d s w => by kernel_rfl
  have n0 : ("Fin" ≠ "_") = True := eq_true (by decide)
  have n1 : ("Op" ≠ "_") = True := eq_true (by decide)
  have n2 : ("Masked" ≠ "_") = True := eq_true (by decide)
  have n3 : ("Key" ≠ "_") = True := eq_true (by decide)
  have n7 : ("Data" ≠ "_") = True := eq_true (by decide)
  cases h0 : (fin == fin') <;> cases h1 : (op == op') <;> cases h2 : (m == m') <;> cases h3 : (decide ([a, b, c, d] = [a', b', c', d'])) <;> cases h7 : (s.toList == s'.toList) <;>
    simp only [Op.eqFields, n0, n1, n2, n3, n7, if_true, Sem.run_bind, Sem.run_pure, Sem.run_ite, p0, p1, p2, p3, p7, e4, e3, e9, ek, h0, h1, h2, h3, h7, Result.andThen_ok, Bool.not_true, Bool.not_false, Bool.false_eq_true, if_false, Bool.true_and, Bool.false_and, Bool.and_true]
end Go.Proofs.YtpbfabcjkhlanaaDoor.Fra
/- frame: Check; the document's Form and Check. -/
set_option maxRecDepth 100000
namespace Go.Proofs.YtpbfabcjkhlanaaDoor.Fra
open Go.RowKit MaskPlain FramePlain Mas

theorem form_opn (f : Fr) : form f = (opn f.fin f.op && (!(ctl f.op) || decide (f.data.length ≤ 125)) && (f.masked || decide (f.key = zero4))) := by
  unfold form opn
  cases h : ctl f.op with
  | true =>
    have : (decide (0 ≤ f.op) && decide (f.op ≤ 2)) = false := by
      unfold ctl at h
      rw [Bool.and_eq_true, decide_eq_true_eq, decide_eq_true_eq] at h
      rw [Bool.and_eq_false_iff, decide_eq_false_iff_not, decide_eq_false_iff_not]; omega
    rw [this]; simp
  | false => simp
theorem chk_form {f : Fr} (h : form f = false) : chk f = 91 := by unfold chk; rw [if_pos h]
theorem chk_long {f : Fr} (h : form f = true) (hl : 65536 < f.data.length) : chk f = 92 := by unfold chk; rw [if_neg (by rw [h]; decide), if_pos hl]
theorem chk_yes {f : Fr} (h : form f = true) (hl : ¬ 65536 < f.data.length) : chk f = 0 := by unfold chk; rw [if_neg (by rw [h]; decide), if_neg hl]
theorem eq_zero4 (a b c d : Nat) (hk : Small 256 [a, b, c, d]) (W : World) : (Op.equalIn 10000 33 (.agg #[.int .u8 ((a : Nat) : Int), .int .u8 ((b : Nat) : Int), .int .u8 ((c : Nat) : Int), .int .u8 ((d : Nat) : Int)]) (.agg #[.int .u8 0, .int .u8 0, .int .u8 0, .int .u8 0])).run Tryd.prog W = .ok (decide ([a, b, c, d] = zero4)) W :=
  eq_keys [a, b, c, d] [0, 0, 0, 0] rfl rfl hk (fun x hx => by simp at hx; omega) W

set_option maxHeartbeats 4000000 in
theorem check_any (fin : Bool) (op : Int) (m : Bool) (a b c d : Nat) (s : ByteArray) (w : World) (hk : Small 256 [a, b, c, d]) :
    Calls Tryd.prog 17 #[(.agg #[.bool fin, .int .i64 op, .bool m, .int .u8 ((a : Nat) : Int), .int .u8 ((b : Nat) : Int), .int .u8 ((c : Nat) : Int), .int .u8 ((d : Nat) : Int), .string s])] w fun e w' => e = .returned (.int .i64 ((chk (⟨fin, op, m, [a, b, c, d], bytes s⟩ : Fr) : Nat) : Int)) ∧ Sl (Below w.heap.size w w') := by
  have HB := bx_below w (.cells #[.bool fin, .int .i64 op, .bool m, .int .u8 ((a : Nat) : Int), .int .u8 ((b : Nat) : Int), .int .u8 ((c : Nat) : Int), .int .u8 ((d : Nat) : Int), .string s] 35)
  have hF := form_opn (⟨fin, op, m, [a, b, c, d], bytes s⟩ : Fr)
  simp only [bytes_length] at hF
  obtain ⟨o, ho⟩ : ∃ o, opn fin op = o := ⟨_, rfl⟩
  obtain ⟨g, hg⟩ : ∃ g, ctl op = g := ⟨_, rfl⟩
  have C1 : ∀ W, Calls Tryd.prog 22 #[.bool fin, .int .i64 op] W fun e w' => e = .returned (.bool o) ∧ W = w' := fun W => by rw [← ho]; exact opens_any fin op W
  have C2 : ∀ W, Calls Tryd.prog 23 #[.int .i64 op] W fun e w' => e = .returned (.bool g) ∧ W = w' := fun W => by rw [← hg]; exact control_any op W
  have hEq := eq_zero4 a b c d hk
  rw [ho, hg] at hF
  obtain ⟨z, hz⟩ : ∃ z, decide ([a, b, c, d] = zero4) = z := ⟨_, rfl⟩
  rw [hz] at hF hEq
  obtain ⟨l, hl⟩ : ∃ l, decide (s.size ≤ 125) = l := ⟨_, rfl⟩
  rw [hl] at hF
  have hlq : ((s.size : Int) > 125) = (!l = true) := by
    rw [← hl]
    by_cases h : s.size ≤ 125
    · rw [decide_eq_true h]; exact propext ⟨fun h' => by omega, fun h' => by simp at h'⟩
    · rw [decide_eq_false h]; exact propext ⟨fun h' => rfl, fun h' => by omega⟩
  clear ho hg hz hl hk
  obtain ⟨k, hk⟩ : ∃ k, chk (⟨fin, op, m, [a, b, c, d], bytes s⟩ : Fr) = k := ⟨_, rfl⟩
  rw [hk]
  cases o with
  | false =>
    obtain rfl : k = 91 := hk.symm.trans (chk_form (by rw [hF]; simp))
    clear hF hk hlq
    go_enter Tryd.func17, Tryd.ntmps17
    go_wp2_with fail
    refine (C1 _).mono ?_
    rintro e w1 ⟨rfl, rfl⟩
    go_wp2
    go_ret
    exact ⟨rfl, HB⟩
  | true =>
    cases g with
    | true =>
      cases l with
      | false =>
        obtain rfl : k = 91 := hk.symm.trans (chk_form (by rw [hF]; simp))
        clear hF hk
        have hlq : ((s.size : Int) > 125) = True := hlq.trans (by simp)
        go_enter Tryd.func17, Tryd.ntmps17
        go_wp2_with fail
        refine (C1 _).mono ?_
        rintro e w1 ⟨rfl, rfl⟩
        go_wp2_with fail
        refine (C2 _).mono ?_
        rintro e w2 ⟨rfl, rfl⟩
        go_wp2
        go_ret
        exact ⟨rfl, HB⟩
      | true =>
        have hlq : ((s.size : Int) > 125) = False := hlq.trans (by simp)
        cases m with
        | true =>
          by_cases h6 : 65536 < s.size
          · have h6' : ((s.size : Int) > 65536) = True := eq_true (by omega)
            obtain rfl : k = 92 := hk.symm.trans (chk_long (by rw [hF]; simp) (by rw [bytes_length]; exact h6))
            clear hF hk h6
            go_enter Tryd.func17, Tryd.ntmps17
            go_wp2_with fail
            refine (C1 _).mono ?_
            rintro e w1 ⟨rfl, rfl⟩
            go_wp2_with fail
            refine (C2 _).mono ?_
            rintro e w2 ⟨rfl, rfl⟩
            go_wp2
            go_ret
            exact ⟨rfl, HB⟩
          · have h6' : ((s.size : Int) > 65536) = False := eq_false (by omega)
            obtain rfl : k = 0 := hk.symm.trans (chk_yes (by rw [hF]; simp) (by rw [bytes_length]; exact h6))
            clear hF hk h6
            go_enter Tryd.func17, Tryd.ntmps17
            go_wp2_with fail
            refine (C1 _).mono ?_
            rintro e w1 ⟨rfl, rfl⟩
            go_wp2_with fail
            refine (C2 _).mono ?_
            rintro e w2 ⟨rfl, rfl⟩
            go_wp2
            go_ret
            exact ⟨rfl, HB⟩
        | false =>
          cases z with
          | false =>
            obtain rfl : k = 91 := hk.symm.trans (chk_form (by rw [hF]; simp))
            clear hF hk
            go_enter Tryd.func17, Tryd.ntmps17
            go_wp2_with fail
            refine (C1 _).mono ?_
            rintro e w1 ⟨rfl, rfl⟩
            go_wp2_with fail
            refine (C2 _).mono ?_
            rintro e w2 ⟨rfl, rfl⟩
            go_wp2
            go_ret
            exact ⟨rfl, HB⟩
          | true =>
            by_cases h6 : 65536 < s.size
            · have h6' : ((s.size : Int) > 65536) = True := eq_true (by omega)
              obtain rfl : k = 92 := hk.symm.trans (chk_long (by rw [hF]; simp) (by rw [bytes_length]; exact h6))
              clear hF hk h6
              go_enter Tryd.func17, Tryd.ntmps17
              go_wp2_with fail
              refine (C1 _).mono ?_
              rintro e w1 ⟨rfl, rfl⟩
              go_wp2_with fail
              refine (C2 _).mono ?_
              rintro e w2 ⟨rfl, rfl⟩
              go_wp2
              go_ret
              exact ⟨rfl, HB⟩
            · have h6' : ((s.size : Int) > 65536) = False := eq_false (by omega)
              obtain rfl : k = 0 := hk.symm.trans (chk_yes (by rw [hF]; simp) (by rw [bytes_length]; exact h6))
              clear hF hk h6
              go_enter Tryd.func17, Tryd.ntmps17
              go_wp2_with fail
              refine (C1 _).mono ?_
              rintro e w1 ⟨rfl, rfl⟩
              go_wp2_with fail
              refine (C2 _).mono ?_
              rintro e w2 ⟨rfl, rfl⟩
              go_wp2
              go_ret
              exact ⟨rfl, HB⟩
    | false =>
      clear hlq
      cases m with
      | true =>
        by_cases h6 : 65536 < s.size
        · have h6' : ((s.size : Int) > 65536) = True := eq_true (by omega)
          obtain rfl : k = 92 := hk.symm.trans (chk_long (by rw [hF]; simp) (by rw [bytes_length]; exact h6))
          clear hF hk h6
          go_enter Tryd.func17, Tryd.ntmps17
          go_wp2_with fail
          refine (C1 _).mono ?_
          rintro e w1 ⟨rfl, rfl⟩
          go_wp2_with fail
          refine (C2 _).mono ?_
          rintro e w2 ⟨rfl, rfl⟩
          go_wp2
          go_ret
          exact ⟨rfl, HB⟩
        · have h6' : ((s.size : Int) > 65536) = False := eq_false (by omega)
          obtain rfl : k = 0 := hk.symm.trans (chk_yes (by rw [hF]; simp) (by rw [bytes_length]; exact h6))
          clear hF hk h6
          go_enter Tryd.func17, Tryd.ntmps17
          go_wp2_with fail
          refine (C1 _).mono ?_
          rintro e w1 ⟨rfl, rfl⟩
          go_wp2_with fail
          refine (C2 _).mono ?_
          rintro e w2 ⟨rfl, rfl⟩
          go_wp2
          go_ret
          exact ⟨rfl, HB⟩
      | false =>
        cases z with
        | false =>
          obtain rfl : k = 91 := hk.symm.trans (chk_form (by rw [hF]; simp))
          clear hF hk
          go_enter Tryd.func17, Tryd.ntmps17
          go_wp2_with fail
          refine (C1 _).mono ?_
          rintro e w1 ⟨rfl, rfl⟩
          go_wp2_with fail
          refine (C2 _).mono ?_
          rintro e w2 ⟨rfl, rfl⟩
          go_wp2
          go_ret
          exact ⟨rfl, HB⟩
        | true =>
          by_cases h6 : 65536 < s.size
          · have h6' : ((s.size : Int) > 65536) = True := eq_true (by omega)
            obtain rfl : k = 92 := hk.symm.trans (chk_long (by rw [hF]; simp) (by rw [bytes_length]; exact h6))
            clear hF hk h6
            go_enter Tryd.func17, Tryd.ntmps17
            go_wp2_with fail
            refine (C1 _).mono ?_
            rintro e w1 ⟨rfl, rfl⟩
            go_wp2_with fail
            refine (C2 _).mono ?_
            rintro e w2 ⟨rfl, rfl⟩
            go_wp2
            go_ret
            exact ⟨rfl, HB⟩
          · have h6' : ((s.size : Int) > 65536) = False := eq_false (by omega)
            obtain rfl : k = 0 := hk.symm.trans (chk_yes (by rw [hF]; simp) (by rw [bytes_length]; exact h6))
            clear hF hk h6
            go_enter Tryd.func17, Tryd.ntmps17
            go_wp2_with fail
            refine (C1 _).mono ?_
            rintro e w1 ⟨rfl, rfl⟩
            go_wp2_with fail
            refine (C2 _).mono ?_
            rintro e w2 ⟨rfl, rfl⟩
            go_wp2
            go_ret
            exact ⟨rfl, HB⟩

end Go.Proofs.YtpbfabcjkhlanaaDoor.Fra
/- frame: the length's bytes, how many bytes a frame has, Data turned. -/
set_option maxRecDepth 100000
namespace Go.Proofs.YtpbfabcjkhlanaaDoor.Fra
open Go.RowKit MaskPlain FramePlain Mas

theorem bx_cells {W : World} {g : Nat} {fin : Bool} {op : Int} {m : Bool} {a b c d : Nat} {s : ByteArray} (h : W.heap[g]? = some (.cells #[.bool fin, .int .i64 op, .bool m, .int .u8 ((a : Nat) : Int), .int .u8 ((b : Nat) : Int), .int .u8 ((c : Nat) : Int), .int .u8 ((d : Nat) : Int), .string s] 35 (0, 0))) :
    W.cell? ⟨g, 0, none⟩ = some (.bool fin) ∧ W.cell? ⟨g, 1, none⟩ = some (.int .i64 op) ∧ W.cell? ⟨g, 2, none⟩ = some (.bool m) ∧ W.cell? ⟨g, 3, none⟩ = some (.int .u8 (a : Int)) ∧ W.cell? ⟨g, 4, none⟩ = some (.int .u8 (b : Int)) ∧ W.cell? ⟨g, 5, none⟩ = some (.int .u8 (c : Int)) ∧ W.cell? ⟨g, 6, none⟩ = some (.int .u8 (d : Int)) ∧ W.cell? ⟨g, 7, none⟩ = some (.string s) := by
  refine ⟨?_, ?_, ?_, ?_, ?_, ?_, ?_, ?_⟩ <;> (rw [cell_of_row _ _ _ _ _ _ h]; rfl)
theorem box_size (fin : Bool) (op : Int) (m : Bool) (a b c d : Nat) (s : ByteArray) : (Tryd.prog.info? 35).map (·.size) = some (#[.bool fin, .int .i64 op, .bool m, .int .u8 ((a : Nat) : Int), .int .u8 ((b : Nat) : Int), .int .u8 ((c : Nat) : Int), .int .u8 ((d : Nat) : Int), .string s] : Array Value).size := by kernel_rfl
theorem loadbox {W : World} {ev : Operand → Value} {o : Oper} {x : Operand} {g : Nat} {fin : Bool} {op : Int} {m : Bool} {a b c d : Nat} {s : ByteArray} (ho : o.op = .load 35 x) (hx : ev x = .pointer (some ⟨g, 0, none⟩)) (h : W.heap[g]? = some (.cells #[.bool fin, .int .i64 op, .bool m, .int .u8 ((a : Nat) : Int), .int .u8 ((b : Nat) : Int), .int .u8 ((c : Nat) : Int), .int .u8 ((d : Nat) : Int), .string s] 35 (0, 0))) :
    (execOp ev o).run Tryd.prog W = .ok (.value (.agg #[.bool fin, .int .i64 op, .bool m, .int .u8 ((a : Nat) : Int), .int .u8 ((b : Nat) : Int), .int .u8 ((c : Nat) : Int), .int .u8 ((d : Nat) : Int), .string s])) W := by
  unfold execOp
  simp only [ho, hx, Instr.loadAt, Instr.sureAddr, Sem.run_bind, Sem.run_pure, Result.andThen_ok, run_loadVar_row W g 35 35 _ (0, 0) _ h Tryd.underlying35 rfl (box_size fin op m a b c d s)]
theorem size_parts (fin : Bool) (op : Int) (m : Bool) (a b c d : Nat) (s : ByteArray) (h : s.size ≤ 1000000) : size (⟨fin, op, m, [a, b, c, d], bytes s⟩ : Fr) = 1 + (lenB s.size).length + ksz m + s.size := by
  unfold size ksz
  rw [lenB_length (by omega)]
  simp only [bytes_length]
  cases m <;> simp only [if_true, Bool.false_eq_true, if_false] <;> split <;> (try split) <;> omega
theorem lenB_le (n : Nat) (h : n ≤ 1000000) : (lenB n).length ≤ 9 := by
  rw [lenB_length (by omega)]; split
  · omega
  · split <;> omega

end Go.Proofs.YtpbfabcjkhlanaaDoor.Fra
/- frame: what is appended, a row made with room, Data turned. -/
set_option maxRecDepth 100000
namespace Go.Proofs.YtpbfabcjkhlanaaDoor.Fra
open Go.RowKit MaskPlain FramePlain Mas

/-- Bytes behind a slice are appended to a row of one's own. -/
theorem add_src {Z : World} {base : Nat} {v u : Value} {m l : List Nat} (h : Z.ownsRow base 5 1 v m.length (u8s m)) (hs : SrcAt Z u l) (hl : m.length + l.length ≤ 1000000) (hbase : base ≤ Z.heap.size) (hp : 0 < (m ++ l).length) :
    ∃ g cap w1, (Builtin.append_ #[22, 22] 22 #[v, u]).run Tryd.prog Z = .ok (.slice (some ⟨g, 0, none⟩) (m ++ l).length cap) w1 ∧
      w1.ownsRow base 5 1 (.slice (some ⟨g, 0, none⟩) (m ++ l).length cap) (m ++ l).length (u8s (m ++ l)) ∧ Z.grownBy w1 v.ownBlock := by
  obtain ⟨i0, hi0, hz0, hz1, hz2⟩ := info5'
  obtain ⟨a, cap, sb, so, rfl, hc, ha, hcell⟩ := hs
  cases a with
  | none =>
    have h0 : l = [] := by
      cases l with
      | nil => rfl
      | cons x xs => exact absurd (ha (by simp)) (by simp)
    subst h0
    have hcap : cap = 0 ∨ cap ≠ 0 := by omega
    have hr : (Builtin.append_ #[22, 22] 22 #[v, .slice none 0 cap]).run Tryd.prog Z = .ok v Z := by
      rcases h.2 with ⟨rfl, hm⟩ | ⟨g, cap', cur, rfl, _, _, hnc, _⟩
      · simp [hm] at hp
      · simp [Builtin.append_, run_underlying Tryd.underlying22, sizeOf, typeInfo, hi0, Builtin.lenOf, Builtin.firstCells, hnc, storeCells]
    rw [List.append_nil] at hp ⊢
    obtain ⟨g, c, rfl, _, _⟩ := own_src h hp
    exact ⟨g, c, Z, hr, h, grown_refl _ _⟩
  | some ad =>
    obtain ⟨v', w', hrun, hown, hgr, _⟩ := run_append_own (P := Tryd.prog) Z base 22 22 5 i0 _ 1 1 Tryd.underlying22 hi0 hz0 hz1 hz2 rfl (by decide) v m.length (u8s m) h ad l.length cap (u8s l) (by simp) (fun j u hu => by
      have hj : j < l.length := by have := (List.getElem?_eq_some_iff.1 hu).1; simpa using this
      have had := ha (by omega)
      injection had with had
      subst had
      rw [Addr.add_mid, hcell j hj, ← hu, u8s_get l j hj]) (u8s_one l) (by unfold maxLen; omega) (by omega) hbase
    rw [← List.length_append, ← u8s_append] at hown
    obtain ⟨g, c, rfl, _, _⟩ := own_src hown hp
    exact ⟨g, c, w', hrun, hown, hgr⟩
/-- An empty row with room for n bytes. -/
theorem make_cap (X : Int) (n : Nat) (hX : X = (n : Int)) (hn : n ≤ 2000000) (w : World) :
    (Instr.makeSlice 22 (.int .i64 0) (.int .i64 X)).run Tryd.prog w = .ok (.slice (some ⟨w.heap.size, 0, none⟩) 0 n) (w.alloc (.cells (u8s (zs n)).toArray 5)) := by
  subst hX
  obtain ⟨i, hi, hz, h1, h2⟩ := info5'
  have := run_make (P := Tryd.prog) w 22 5 i (.int .u8 0) Tryd.underlying22 hi hz .i64 .i64 (0 : Int) (n : Int) (by omega) (by omega) (by rw [h2]; omega) (by omega)
  rw [h1] at this
  rw [show ((n : Int).toNat) = n from by omega, made_u8] at this
  exact this
theorem cap_own (w : World) (base n : Nat) (hb : base ≤ w.heap.size) (hn : n ≤ 2000000) : (w.alloc (.cells (u8s (zs n)).toArray 5)).ownsRow base 5 1 (.slice (some ⟨w.heap.size, 0, none⟩) 0 n) ([] : List Nat).length (u8s []) :=
  World.ownsRow_made w (u8s (zs n)).toArray n hb (by unfold maxLen; omega) (by simp [zs])
theorem or_128 (x : Nat) (h : x < 128) : bits .or .u8 (x : Int) 128 = ((x + 128 : Nat) : Int) := by
  have : ∀ c : Fin 128, bits BinOp.or IntKind.u8 (c.val : Int) 128 = ((c.val + 128 : Nat) : Int) := by decide +kernel
  exact this ⟨x, h⟩
theorem and_128 (x : Nat) (h : x < 256) : bits .and .u8 (x : Int) 128 = (((if 128 ≤ x then 128 else 0 : Nat)) : Int) := by
  have : ∀ c : Fin 256, bits BinOp.and IntKind.u8 (c.val : Int) 128 = (((if 128 ≤ c.val then 128 else 0 : Nat)) : Int) := by decide +kernel
  exact this ⟨x, h⟩
theorem rest4_zero : rest4 0 = 0 := rfl
/-- Data as bytes, or these as Data. -/
def tb (m : Bool) (key bs : List Nat) : List Nat := if m then turn key 0 bs else bs
theorem tb_length (m : Bool) (key bs : List Nat) : (tb m key bs).length = bs.length := by unfold tb; split <;> simp [turn_length]
theorem tb_small {m : Bool} {key bs : List Nat} (hk : Small 256 key) (h : Small 256 bs) : Small 256 (tb m key bs) := by
  unfold tb; split
  · exact turn_lt key 0 bs h (fun i => hk.getD (by omega) i)
  · exact h

end Go.Proofs.YtpbfabcjkhlanaaDoor.Fra
