/- frame: Check; the document's Form and Check. -/
import Derived.Test.YtcelhondifaloaaDoorA
set_option maxRecDepth 100000
namespace Go.Proofs.YtcelhondifaloaaDoor
open Go.RowKit MaskPlain FramePlain Mas

theorem form_opn (f : Fr) : form f = (opn f.fin f.op && (!(ctl f.op) || decide (f.data.length ≤ 125)) && (f.masked || decide (f.key = zero4))) := by
  unfold form opn
  cases h : ctl f.op with
  | true =>
    have : (decide (0 ≤ f.op) && decide (f.op ≤ 2)) = false := by
      unfold ctl at h
      rw [Bool.and_eq_true, decide_eq_true_eq, decide_eq_true_eq] at h
      rw [Bool.and_eq_false_iff, decide_eq_false_iff_not, decide_eq_false_iff_not]; omega
    rw [this]; simp
  | false => simp
theorem chk_form {f : Fr} (h : form f = false) : chk f = 91 := by unfold chk; rw [if_pos h]
theorem chk_long {f : Fr} (h : form f = true) (hl : 65536 < f.data.length) : chk f = 92 := by unfold chk; rw [if_neg (by rw [h]; decide), if_pos hl]
theorem chk_yes {f : Fr} (h : form f = true) (hl : ¬ 65536 < f.data.length) : chk f = 0 := by unfold chk; rw [if_neg (by rw [h]; decide), if_neg hl]
theorem eq_zero4 (a b c d : Nat) (hk : Small 256 [a, b, c, d]) (W : World) : (Op.equalIn 10000 22 (.agg #[.int .u8 ((a : Nat) : Int), .int .u8 ((b : Nat) : Int), .int .u8 ((c : Nat) : Int), .int .u8 ((d : Nat) : Int)]) (.agg #[.int .u8 0, .int .u8 0, .int .u8 0, .int .u8 0])).run Tryd.prog W = .ok (decide ([a, b, c, d] = zero4)) W :=
  eq_keys [a, b, c, d] [0, 0, 0, 0] rfl rfl hk (fun x hx => by simp at hx; omega) W

set_option maxHeartbeats 4000000 in
theorem check_any (fin : Bool) (op : Int) (m : Bool) (a b c d : Nat) (s : ByteArray) (w : World) (hk : Small 256 [a, b, c, d]) :
    Calls Tryd.prog 13 #[(.agg #[.bool fin, .int .i64 op, .bool m, .int .u8 ((a : Nat) : Int), .int .u8 ((b : Nat) : Int), .int .u8 ((c : Nat) : Int), .int .u8 ((d : Nat) : Int), .string s])] w fun e w' => e = .returned (.int .i64 ((chk (⟨fin, op, m, [a, b, c, d], bytes s⟩ : Fr) : Nat) : Int)) ∧ Sl (Below w.heap.size w w') := by
  have HB := bx_below w (.cells #[.bool fin, .int .i64 op, .bool m, .int .u8 ((a : Nat) : Int), .int .u8 ((b : Nat) : Int), .int .u8 ((c : Nat) : Int), .int .u8 ((d : Nat) : Int), .string s] 24)
  have hF := form_opn (⟨fin, op, m, [a, b, c, d], bytes s⟩ : Fr)
  simp only [bytes_length] at hF
  obtain ⟨o, ho⟩ : ∃ o, opn fin op = o := ⟨_, rfl⟩
  obtain ⟨g, hg⟩ : ∃ g, ctl op = g := ⟨_, rfl⟩
  have C1 : ∀ W, Calls Tryd.prog 23 #[.bool fin, .int .i64 op] W fun e w' => e = .returned (.bool o) ∧ W = w' := fun W => by rw [← ho]; exact opens_any fin op W
  have C2 : ∀ W, Calls Tryd.prog 14 #[.int .i64 op] W fun e w' => e = .returned (.bool g) ∧ W = w' := fun W => by rw [← hg]; exact control_any op W
  have hEq := eq_zero4 a b c d hk
  rw [ho, hg] at hF
  obtain ⟨z, hz⟩ : ∃ z, decide ([a, b, c, d] = zero4) = z := ⟨_, rfl⟩
  rw [hz] at hF hEq
  obtain ⟨l, hl⟩ : ∃ l, decide (s.size ≤ 125) = l := ⟨_, rfl⟩
  rw [hl] at hF
  have hlq : ((s.size : Int) > 125) = (!l = true) := by
    rw [← hl]
    by_cases h : s.size ≤ 125
    · rw [decide_eq_true h]; exact propext ⟨fun h' => by omega, fun h' => by simp at h'⟩
    · rw [decide_eq_false h]; exact propext ⟨fun h' => rfl, fun h' => by omega⟩
  clear ho hg hz hl hk
  obtain ⟨k, hk⟩ : ∃ k, chk (⟨fin, op, m, [a, b, c, d], bytes s⟩ : Fr) = k := ⟨_, rfl⟩
  rw [hk]
  cases o with
  | false =>
    obtain rfl : k = 91 := hk.symm.trans (chk_form (by rw [hF]; simp))
    clear hF hk hlq
    go_enter Tryd.func13, Tryd.ntmps13
    go_wp2_with fail
    refine (C1 _).mono ?_
    rintro e w1 ⟨rfl, rfl⟩
    go_wp2
    go_ret
    exact ⟨rfl, HB⟩
  | true =>
    cases g with
    | true =>
      cases l with
      | false =>
        obtain rfl : k = 91 := hk.symm.trans (chk_form (by rw [hF]; simp))
        clear hF hk
        have hlq : ((s.size : Int) > 125) = True := hlq.trans (by simp)
        go_enter Tryd.func13, Tryd.ntmps13
        go_wp2_with fail
        refine (C1 _).mono ?_
        rintro e w1 ⟨rfl, rfl⟩
        go_wp2_with fail
        refine (C2 _).mono ?_
        rintro e w2 ⟨rfl, rfl⟩
        go_wp2
        go_ret
        exact ⟨rfl, HB⟩
      | true =>
        have hlq : ((s.size : Int) > 125) = False := hlq.trans (by simp)
        cases m with
        | true =>
          by_cases h6 : 65536 < s.size
          · have h6' : ((s.size : Int) > 65536) = True := eq_true (by omega)
            obtain rfl : k = 92 := hk.symm.trans (chk_long (by rw [hF]; simp) (by rw [bytes_length]; exact h6))
            clear hF hk h6
            go_enter Tryd.func13, Tryd.ntmps13
            go_wp2_with fail
            refine (C1 _).mono ?_
            rintro e w1 ⟨rfl, rfl⟩
            go_wp2_with fail
            refine (C2 _).mono ?_
            rintro e w2 ⟨rfl, rfl⟩
            go_wp2
            go_ret
            exact ⟨rfl, HB⟩
          · have h6' : ((s.size : Int) > 65536) = False := eq_false (by omega)
            obtain rfl : k = 0 := hk.symm.trans (chk_yes (by rw [hF]; simp) (by rw [bytes_length]; exact h6))
            clear hF hk h6
            go_enter Tryd.func13, Tryd.ntmps13
            go_wp2_with fail
            refine (C1 _).mono ?_
            rintro e w1 ⟨rfl, rfl⟩
            go_wp2_with fail
            refine (C2 _).mono ?_
            rintro e w2 ⟨rfl, rfl⟩
            go_wp2
            go_ret
            exact ⟨rfl, HB⟩
        | false =>
          cases z with
          | false =>
            obtain rfl : k = 91 := hk.symm.trans (chk_form (by rw [hF]; simp))
            clear hF hk
            go_enter Tryd.func13, Tryd.ntmps13
            go_wp2_with fail
            refine (C1 _).mono ?_
            rintro e w1 ⟨rfl, rfl⟩
            go_wp2_with fail
            refine (C2 _).mono ?_
            rintro e w2 ⟨rfl, rfl⟩
            go_wp2
            go_ret
            exact ⟨rfl, HB⟩
          | true =>
            by_cases h6 : 65536 < s.size
            · have h6' : ((s.size : Int) > 65536) = True := eq_true (by omega)
              obtain rfl : k = 92 := hk.symm.trans (chk_long (by rw [hF]; simp) (by rw [bytes_length]; exact h6))
              clear hF hk h6
              go_enter Tryd.func13, Tryd.ntmps13
              go_wp2_with fail
              refine (C1 _).mono ?_
              rintro e w1 ⟨rfl, rfl⟩
              go_wp2_with fail
              refine (C2 _).mono ?_
              rintro e w2 ⟨rfl, rfl⟩
              go_wp2
              go_ret
              exact ⟨rfl, HB⟩
            · have h6' : ((s.size : Int) > 65536) = False := eq_false (by omega)
              obtain rfl : k = 0 := hk.symm.trans (chk_yes (by rw [hF]; simp) (by rw [bytes_length]; exact h6))
              clear hF hk h6
              go_enter Tryd.func13, Tryd.ntmps13
              go_wp2_with fail
              refine (C1 _).mono ?_
              rintro e w1 ⟨rfl, rfl⟩
              go_wp2_with fail
              refine (C2 _).mono ?_
              rintro e w2 ⟨rfl, rfl⟩
              go_wp2
              go_ret
              exact ⟨rfl, HB⟩
    | false =>
      clear hlq
      cases m with
      | true =>
        by_cases h6 : 65536 < s.size
        · have h6' : ((s.size : Int) > 65536) = True := eq_true (by omega)
          obtain rfl : k = 92 := hk.symm.trans (chk_long (by rw [hF]; simp) (by rw [bytes_length]; exact h6))
          clear hF hk h6
          go_enter Tryd.func13, Tryd.ntmps13
          go_wp2_with fail
          refine (C1 _).mono ?_
          rintro e w1 ⟨rfl, rfl⟩
          go_wp2_with fail
          refine (C2 _).mono ?_
          rintro e w2 ⟨rfl, rfl⟩
          go_wp2
          go_ret
          exact ⟨rfl, HB⟩
        · have h6' : ((s.size : Int) > 65536) = False := eq_false (by omega)
          obtain rfl : k = 0 := hk.symm.trans (chk_yes (by rw [hF]; simp) (by rw [bytes_length]; exact h6))
          clear hF hk h6
          go_enter Tryd.func13, Tryd.ntmps13
          go_wp2_with fail
          refine (C1 _).mono ?_
          rintro e w1 ⟨rfl, rfl⟩
          go_wp2_with fail
          refine (C2 _).mono ?_
          rintro e w2 ⟨rfl, rfl⟩
          go_wp2
          go_ret
          exact ⟨rfl, HB⟩
      | false =>
        cases z with
        | false =>
          obtain rfl : k = 91 := hk.symm.trans (chk_form (by rw [hF]; simp))
          clear hF hk
          go_enter Tryd.func13, Tryd.ntmps13
          go_wp2_with fail
          refine (C1 _).mono ?_
          rintro e w1 ⟨rfl, rfl⟩
          go_wp2_with fail
          refine (C2 _).mono ?_
          rintro e w2 ⟨rfl, rfl⟩
          go_wp2
          go_ret
          exact ⟨rfl, HB⟩
        | true =>
          by_cases h6 : 65536 < s.size
          · have h6' : ((s.size : Int) > 65536) = True := eq_true (by omega)
            obtain rfl : k = 92 := hk.symm.trans (chk_long (by rw [hF]; simp) (by rw [bytes_length]; exact h6))
            clear hF hk h6
            go_enter Tryd.func13, Tryd.ntmps13
            go_wp2_with fail
            refine (C1 _).mono ?_
            rintro e w1 ⟨rfl, rfl⟩
            go_wp2_with fail
            refine (C2 _).mono ?_
            rintro e w2 ⟨rfl, rfl⟩
            go_wp2
            go_ret
            exact ⟨rfl, HB⟩
          · have h6' : ((s.size : Int) > 65536) = False := eq_false (by omega)
            obtain rfl : k = 0 := hk.symm.trans (chk_yes (by rw [hF]; simp) (by rw [bytes_length]; exact h6))
            clear hF hk h6
            go_enter Tryd.func13, Tryd.ntmps13
            go_wp2_with fail
            refine (C1 _).mono ?_
            rintro e w1 ⟨rfl, rfl⟩
            go_wp2_with fail
            refine (C2 _).mono ?_
            rintro e w2 ⟨rfl, rfl⟩
            go_wp2
            go_ret
            exact ⟨rfl, HB⟩

set_option maxHeartbeats 4000000 in
theorem refform_any (fin : Bool) (op : Int) (m : Bool) (a b c d : Nat) (s : ByteArray) (w : World) (hk : Small 256 [a, b, c, d]) :
    Calls Tryd.prog 22 #[(.agg #[.bool fin, .int .i64 op, .bool m, .int .u8 ((a : Nat) : Int), .int .u8 ((b : Nat) : Int), .int .u8 ((c : Nat) : Int), .int .u8 ((d : Nat) : Int), .string s])] w fun e w' => e = .returned (.bool (form (⟨fin, op, m, [a, b, c, d], bytes s⟩ : Fr))) ∧ Sl (Below w.heap.size w w') := by
  have HB := bx_below w (.cells #[.bool fin, .int .i64 op, .bool m, .int .u8 ((a : Nat) : Int), .int .u8 ((b : Nat) : Int), .int .u8 ((c : Nat) : Int), .int .u8 ((d : Nat) : Int), .string s] 24)
  obtain ⟨g, hg⟩ : ∃ g, ctl op = g := ⟨_, rfl⟩
  have C2 : ∀ W, Calls Tryd.prog 15 #[.int .i64 op] W fun e w' => e = .returned (.bool g) ∧ W = w' := fun W => by rw [← hg]; exact refcontrol_any op W
  have hEq := eq_zero4 a b c d hk
  have hF : form (⟨fin, op, m, [a, b, c, d], bytes s⟩ : Fr) = (((decide (0 ≤ op) && decide (op ≤ 2)) || (g && fin && decide (s.size ≤ 125))) && (m || decide ([a, b, c, d] = zero4))) := by
    unfold form; simp only [bytes_length, hg]
  obtain ⟨z, hz⟩ : ∃ z, decide ([a, b, c, d] = zero4) = z := ⟨_, rfl⟩
  rw [hz] at hF hEq
  have hq1 : (op ≥ 0) = (0 ≤ op) := rfl
  rw [hF]
  clear hF hg hz hk
  by_cases h0 : 0 ≤ op
  · have e0 : (op ≥ 0) = True := eq_true h0
    rw [decide_eq_true h0]
    by_cases h2 : op ≤ 2
    · have e2 : (op ≤ 2) = True := eq_true h2
      rw [decide_eq_true h2, Bool.true_and, Bool.true_or, Bool.true_and]
      clear h0 h2 hq1
      cases m with
      | true =>
        go_enter Tryd.func22, Tryd.ntmps22
        go_wp2
        go_ret
        exact ⟨rfl, HB⟩
      | false =>
        go_enter Tryd.func22, Tryd.ntmps22
        go_wp2
        go_ret
        exact ⟨rfl, HB⟩
    · have e2 : (op ≤ 2) = False := eq_false h2
      rw [decide_eq_false h2, Bool.and_false, Bool.false_or]
      clear h0 h2 hq1
      cases g with
      | false =>
        rw [Bool.false_and, Bool.false_and, Bool.false_and]
        go_enter Tryd.func22, Tryd.ntmps22
        go_wp2_with fail
        refine (C2 _).mono ?_
        rintro e w1 ⟨rfl, rfl⟩
        go_wp2
        go_ret
        exact ⟨rfl, HB⟩
      | true =>
        cases fin with
        | false =>
          rw [Bool.and_false, Bool.false_and, Bool.false_and]
          go_enter Tryd.func22, Tryd.ntmps22
          go_wp2_with fail
          refine (C2 _).mono ?_
          rintro e w1 ⟨rfl, rfl⟩
          go_wp2
          go_ret
          exact ⟨rfl, HB⟩
        | true =>
          by_cases hl : s.size ≤ 125
          · have el : ((s.size : Int) ≤ 125) = True := eq_true (by omega)
            rw [decide_eq_true hl]
            clear hl
            cases m with
            | true =>
              go_enter Tryd.func22, Tryd.ntmps22
              go_wp2_with fail
              refine (C2 _).mono ?_
              rintro e w1 ⟨rfl, rfl⟩
              go_wp2
              go_ret
              exact ⟨rfl, HB⟩
            | false =>
              go_enter Tryd.func22, Tryd.ntmps22
              go_wp2_with fail
              refine (C2 _).mono ?_
              rintro e w1 ⟨rfl, rfl⟩
              go_wp2
              go_ret
              exact ⟨by simp, HB⟩
          · have el : ((s.size : Int) ≤ 125) = False := eq_false (by omega)
            rw [decide_eq_false hl, Bool.and_false, Bool.false_and]
            clear hl
            go_enter Tryd.func22, Tryd.ntmps22
            go_wp2_with fail
            refine (C2 _).mono ?_
            rintro e w1 ⟨rfl, rfl⟩
            go_wp2
            go_ret
            exact ⟨rfl, HB⟩
  · have e0 : (op ≥ 0) = False := eq_false h0
    rw [decide_eq_false h0, Bool.false_and, Bool.false_or]
    clear h0 hq1
    cases g with
    | false =>
      rw [Bool.false_and, Bool.false_and, Bool.false_and]
      go_enter Tryd.func22, Tryd.ntmps22
      go_wp2_with fail
      refine (C2 _).mono ?_
      rintro e w1 ⟨rfl, rfl⟩
      go_wp2
      go_ret
      exact ⟨rfl, HB⟩
    | true =>
      cases fin with
      | false =>
        rw [Bool.and_false, Bool.false_and, Bool.false_and]
        go_enter Tryd.func22, Tryd.ntmps22
        go_wp2_with fail
        refine (C2 _).mono ?_
        rintro e w1 ⟨rfl, rfl⟩
        go_wp2
        go_ret
        exact ⟨rfl, HB⟩
      | true =>
        by_cases hl : s.size ≤ 125
        · have el : ((s.size : Int) ≤ 125) = True := eq_true (by omega)
          rw [decide_eq_true hl]
          clear hl
          cases m with
          | true =>
            go_enter Tryd.func22, Tryd.ntmps22
            go_wp2_with fail
            refine (C2 _).mono ?_
            rintro e w1 ⟨rfl, rfl⟩
            go_wp2
            go_ret
            exact ⟨rfl, HB⟩
          | false =>
            go_enter Tryd.func22, Tryd.ntmps22
            go_wp2_with fail
            refine (C2 _).mono ?_
            rintro e w1 ⟨rfl, rfl⟩
            go_wp2
            go_ret
            exact ⟨by simp, HB⟩
        · have el : ((s.size : Int) ≤ 125) = False := eq_false (by omega)
          rw [decide_eq_false hl, Bool.and_false, Bool.false_and]
          clear hl
          go_enter Tryd.func22, Tryd.ntmps22
          go_wp2_with fail
          refine (C2 _).mono ?_
          rintro e w1 ⟨rfl, rfl⟩
          go_wp2
          go_ret
          exact ⟨rfl, HB⟩
theorem refcheck_any (fin : Bool) (op : Int) (m : Bool) (a b c d : Nat) (s : ByteArray) (w : World) (hk : Small 256 [a, b, c, d]) :
    Calls Tryd.prog 12 #[(.agg #[.bool fin, .int .i64 op, .bool m, .int .u8 ((a : Nat) : Int), .int .u8 ((b : Nat) : Int), .int .u8 ((c : Nat) : Int), .int .u8 ((d : Nat) : Int), .string s])] w fun e w' => e = .returned (.int .i64 ((chk (⟨fin, op, m, [a, b, c, d], bytes s⟩ : Fr) : Nat) : Int)) ∧ Sl (Below w.heap.size w w') := by
  have HB := bx_below w (.cells #[.bool fin, .int .i64 op, .bool m, .int .u8 ((a : Nat) : Int), .int .u8 ((b : Nat) : Int), .int .u8 ((c : Nat) : Int), .int .u8 ((d : Nat) : Int), .string s] 24)
  obtain ⟨f, hf⟩ : ∃ f, form (⟨fin, op, m, [a, b, c, d], bytes s⟩ : Fr) = f := ⟨_, rfl⟩
  have C1 : ∀ W, Calls Tryd.prog 22 #[(.agg #[.bool fin, .int .i64 op, .bool m, .int .u8 ((a : Nat) : Int), .int .u8 ((b : Nat) : Int), .int .u8 ((c : Nat) : Int), .int .u8 ((d : Nat) : Int), .string s])] W fun e w' => e = .returned (.bool f) ∧ Sl (Below W.heap.size W w') := fun W => by rw [← hf]; exact refform_any fin op m a b c d s W hk
  obtain ⟨k, hck⟩ : ∃ k, chk (⟨fin, op, m, [a, b, c, d], bytes s⟩ : Fr) = k := ⟨_, rfl⟩
  rw [hck]
  clear hk
  cases f with
  | false =>
    obtain rfl : k = 91 := hck.symm.trans (chk_form hf)
    clear hf hck
    go_enter Tryd.func12, Tryd.ntmps12
    go_wp2_with fail
    refine (C1 _).mono ?_
    rintro e w1 ⟨rfl, HX⟩
    have HB1 : Sl (Below w.heap.size w w1) := ⟨HB.out.trans (HX.out.mono HB.out.size)⟩
    clear HX
    go_wp2
    go_ret
    exact ⟨rfl, HB1⟩
  | true =>
    by_cases h6 : 65536 < s.size
    · have h6' : ((s.size : Int) > 65536) = True := eq_true (by omega)
      obtain rfl : k = 92 := hck.symm.trans (chk_long hf (by rw [bytes_length]; exact h6))
      clear hf hck h6
      go_enter Tryd.func12, Tryd.ntmps12
      go_wp2_with fail
      refine (C1 _).mono ?_
      rintro e w1 ⟨rfl, HX⟩
      have HB1 : Sl (Below w.heap.size w w1) := ⟨HB.out.trans (HX.out.mono HB.out.size)⟩
      have hbx : w1.heap[w.heap.size]? = some (.cells #[.bool fin, .int .i64 op, .bool m, .int .u8 ((a : Nat) : Int), .int .u8 ((b : Nat) : Int), .int .u8 ((c : Nat) : Int), .int .u8 ((d : Nat) : Int), .string s] 24 (0, 0)) := by rw [HX.out.block _ (by rw [alloc_size]; omega)]; exact bx_new _ _
      have c7 : w1.cell? ⟨w.heap.size, 7, none⟩ = some (.string s) := by rw [cell_of_row _ _ _ _ _ _ hbx]; rfl
      clear HX hbx
      go_wp2
      go_ret
      exact ⟨rfl, HB1⟩
    · have h6' : ((s.size : Int) > 65536) = False := eq_false (by omega)
      obtain rfl : k = 0 := hck.symm.trans (chk_yes hf (by rw [bytes_length]; exact h6))
      clear hf hck h6
      go_enter Tryd.func12, Tryd.ntmps12
      go_wp2_with fail
      refine (C1 _).mono ?_
      rintro e w1 ⟨rfl, HX⟩
      have HB1 : Sl (Below w.heap.size w w1) := ⟨HB.out.trans (HX.out.mono HB.out.size)⟩
      have hbx : w1.heap[w.heap.size]? = some (.cells #[.bool fin, .int .i64 op, .bool m, .int .u8 ((a : Nat) : Int), .int .u8 ((b : Nat) : Int), .int .u8 ((c : Nat) : Int), .int .u8 ((d : Nat) : Int), .string s] 24 (0, 0)) := by rw [HX.out.block _ (by rw [alloc_size]; omega)]; exact bx_new _ _
      have c7 : w1.cell? ⟨w.heap.size, 7, none⟩ = some (.string s) := by rw [cell_of_row _ _ _ _ _ _ hbx]; rfl
      clear HX hbx
      go_wp2
      go_ret
      exact ⟨rfl, HB1⟩
end Go.Proofs.YtcelhondifaloaaDoor
