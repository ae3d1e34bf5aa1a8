/- close: between, Valid's closure, Valid, Across. -/
import Derived.Test.YtnogaaalpfjgcaaDoorClosePlain
import Derived.Test.YtnogaaalpfjgcaaDoorUtA
set_option maxRecDepth 100000
namespace Go.Proofs.YtnogaaalpfjgcaaDoor
open Go.RowKit UtfPlain ClosePlain Utf

/-- Does a value lie between two? -/
def btw (lo n hi : Int) : Bool := decide (lo ≤ n) && decide (n ≤ hi)
theorem between_any (lo n hi : Int) (r : Bool) (hr : btw lo n hi = r) (w : World) : Calls Tryd.prog 23 #[.int .i64 lo, .int .i64 n, .int .i64 hi] w fun e w' => e = .returned (.bool r) ∧ w = w' := by
  subst hr
  unfold btw
  by_cases h1 : lo ≤ n
  · have e1 : (lo ≤ n) = True := eq_true h1
    by_cases h2 : n ≤ hi
    · have e2 : (n ≤ hi) = True := eq_true h2
      rw [decide_eq_true h1, decide_eq_true h2]
      clear h1 h2
      go_enter Tryd.func23, Tryd.ntmps23
      go_wp2
      go_ret
      exact ⟨rfl, rfl⟩
    · have e2 : (n ≤ hi) = False := eq_false h2
      rw [decide_eq_true h1, decide_eq_false h2]
      clear h1 h2
      go_enter Tryd.func23, Tryd.ntmps23
      go_wp2
      go_ret
      exact ⟨rfl, rfl⟩
  · have e1 : (lo ≤ n) = False := eq_false h1
    rw [decide_eq_false h1]
    clear h1
    go_enter Tryd.func23, Tryd.ntmps23
    go_wp2
    go_ret
    exact ⟨rfl, rfl⟩
theorem cell_of_one {W : World} {g : Nat} {v : Value} {t : TypeId} (h : W.heap[g]? = some (.cells #[v] t (0, 0))) : W.cell? ⟨g, 0, none⟩ = some v := by rw [cell_of_row _ _ _ _ _ _ h]; rfl
theorem from_any (lo n hi : Int) (C : Nat) (r : Bool) (hr : btw lo n hi = r) (W : World) (hC : W.heap[C]? = some (.cells #[.int .i64 n] 3 (0, 0))) :
    Calls Tryd.prog 22 #[.int .i64 lo, .int .i64 hi, .pointer (some ⟨C, 0, none⟩)] W fun e w' => e = .returned (.bool r) ∧ W = w' := by
  have hc := cell_of_one hC
  have B := between_any lo n hi r hr W
  clear hr hC
  go_enter Tryd.func22, Tryd.ntmps22
  go_wp2_with fail
  refine B.mono ?_
  rintro e w1 ⟨rfl, rfl⟩
  go_wp2
  go_ret
  exact ⟨rfl, rfl⟩
theorem valid_btw (n : Int) : valid n = (btw 1000 n 1003 || (btw 1007 n 1011 || btw 3000 n 4999)) := rfl
theorem codeValid_any (n : Int) (w : World) : Calls Tryd.prog 12 #[.int .i64 n] w fun e w' => e = .returned (.bool (valid n)) ∧ Sl (Below w.heap.size w w') := by
  rw [valid_btw]
  obtain ⟨a, ha⟩ : ∃ x, btw 1000 n 1003 = x := ⟨_, rfl⟩
  obtain ⟨b, hb⟩ : ∃ x, btw 1007 n 1011 = x := ⟨_, rfl⟩
  obtain ⟨c, hc⟩ : ∃ x, btw 3000 n 4999 = x := ⟨_, rfl⟩
  rw [ha, hb, hc]
  obtain ⟨wa, hwa⟩ : ∃ w1, w.alloc (.cells #[.int .i64 n] 3) = w1 := ⟨_, rfl⟩
  have HB : Sl (Below w.heap.size w wa) := ⟨by rw [← hwa]; exact (Below.refl _ _).alloc (Nat.le_refl _) _⟩
  have F1 := from_any 1000 n 1003 w.heap.size a ha wa (by rw [← hwa]; exact alloc_new _ _ _ rfl)
  have F2 := from_any 1007 n 1011 w.heap.size b hb wa (by rw [← hwa]; exact alloc_new _ _ _ rfl)
  have F3 := from_any 3000 n 4999 w.heap.size c hc wa (by rw [← hwa]; exact alloc_new _ _ _ rfl)
  clear ha hb hc
  cases a with
  | true =>
    go_enter Tryd.func12, Tryd.ntmps12
    go_wp2_with fail
    refine F1.mono ?_
    rintro e w1 ⟨rfl, rfl⟩
    clear F1 F2 F3
    go_wp2
    go_ret
    exact ⟨rfl, HB⟩
  | false =>
    cases b with
    | true =>
      go_enter Tryd.func12, Tryd.ntmps12
      go_wp2_with fail
      refine F1.mono ?_
      rintro e w1 ⟨rfl, rfl⟩
      go_wp2_with fail
      refine F2.mono ?_
      rintro e w1 ⟨rfl, rfl⟩
      clear F1 F2 F3
      go_wp2
      go_ret
      exact ⟨rfl, HB⟩
    | false =>
      go_enter Tryd.func12, Tryd.ntmps12
      go_wp2_with fail
      refine F1.mono ?_
      rintro e w1 ⟨rfl, rfl⟩
      go_wp2_with fail
      refine F2.mono ?_
      rintro e w1 ⟨rfl, rfl⟩
      go_wp2_with fail
      refine F3.mono ?_
      rintro e w1 ⟨rfl, rfl⟩
      clear F1 F2 F3
      go_wp2
      go_ret
      exact ⟨rfl, HB⟩
end Go.Proofs.YtnogaaalpfjgcaaDoor
