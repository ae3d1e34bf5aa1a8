/- stream: New, Err, Part, whether a second byte is unlike. -/
import Derived.Test.YtlgmgalopdfcaaaDoorSA
import Derived.Deep.DeepCutAuto
set_option maxRecDepth 100000
namespace Go.Proofs.YtlgmgalopdfcaaaDoor
open Go.RowKit MaskPlain FramePlain StreamPlain Mas Fra

/-- A stream behind a pointer: v is what it keeps of a frame. -/
structure StrmAt (w0 W : World) (b : Nat) (masked : Bool) (most : Int) (part : List Nat) (err : Nat) (v : Value) : Prop where
  X : W.heap[b]? = some (.cells #[.bool masked, .int .i64 most, v, .int .i64 (err : Int)] 51 (0, 0))
  O : W.ownsRow w0.heap.size 5 1 v part.length (u8s part)
  B : w0.heap.size ≤ b
  L : Below w0.heap.size w0 W
/-- The block that a stream's part may grow in. -/
def ob (v : Value) (b : Nat) : Nat := v.ownBlock.getD b
section
variable {w0 W W' : World} {b : Nat} {masked : Bool} {most : Int} {part : List Nat} {err : Nat} {v : Value}
theorem StrmAt.lt (h : StrmAt w0 W b masked most part err v) : b < W.heap.size := (Array.getElem?_eq_some_iff.1 h.X).1
theorem StrmAt.below (h : StrmAt w0 W b masked most part err v) (k : Below W.heap.size W W') : StrmAt w0 W' b masked most part err v :=
  ⟨below_key h.X k, own_below h.O k, h.B, h.L.trans (k.mono h.L.size)⟩
theorem StrmAt.slice (h : StrmAt w0 W b masked most part err v) : ∃ a c, v = .slice a part.length c ∧ part.length ≤ c := by
  rcases h.O.2 with ⟨rfl, hz⟩ | ⟨g, cap, cur, rfl, _, _, hc, _⟩
  · rw [hz]; exact ⟨_, _, rfl, Nat.le_refl _⟩
  · exact ⟨_, _, rfl, hc⟩
theorem own_src' {base : Nat} {bs : List Nat} (h : W.ownsRow base 5 1 v bs.length (u8s bs)) : SrcAt W v bs := by
  by_cases hp : 0 < bs.length
  · obtain ⟨_, _, _, _, k⟩ := own_src h hp; exact k
  · obtain rfl : bs = [] := List.eq_nil_of_length_eq_zero (by omega)
    rcases h.2 with ⟨rfl, hz⟩ | ⟨g, cap, cur, rfl, _, _, hc, _⟩
    · exact ⟨none, 0, 0, 0, rfl, Nat.le_refl _, fun h => absurd h (by decide), fun i hi => absurd hi (by simp)⟩
    · exact ⟨_, cap, g, 0, rfl, hc, fun _ => rfl, fun i hi => absurd hi (by simp)⟩
theorem StrmAt.src (h : StrmAt w0 W b masked most part err v) : SrcAt W v part := own_src' h.O
/-- The four cells of a stream. -/
theorem StrmAt.cells (h : StrmAt w0 W b masked most part err v) : W.cell? ⟨b, 0, none⟩ = some (.bool masked) ∧ W.cell? ⟨b, 1, none⟩ = some (.int .i64 most) ∧ W.cell? ⟨b, 2, none⟩ = some v ∧ W.cell? ⟨b, 3, none⟩ = some (.int .i64 (err : Int)) := by
  refine ⟨?_, ?_, ?_, ?_⟩ <;> (rw [cell_of_row _ _ _ _ _ _ h.X]; rfl)
theorem StrmAt.froz (h : StrmAt w0 W b masked most part err v) (i : Nat) : W.frozen? ⟨b, i, none⟩ = false := frozen_of_row _ _ _ _ _ h.X
end
/-- A stream that is made. -/
theorem new_yes (masked : Bool) (most : Int) (w0 w : World) (hL : Below w0.heap.size w0 w) (hm : 125 ≤ most ∧ most ≤ 65536) :
    Calls Tryd.prog 9 #[.bool masked, .int .i64 most] w fun e w' => e = .returned (.tuple #[.pointer (some ⟨w.heap.size, 0, none⟩), .int .i64 0]) ∧ Sl (StrmAt w0 w' w.heap.size masked most [] 0 (.slice none 0 0)) ∧ Sl (Below w.heap.size w w') := by
  have h1 : (most < 125) = False := eq_false (by omega)
  have h2 : (most > 65536) = False := eq_false (by omega)
  have HL := Sl.mk hL
  clear hm hL
  go_enter Tryd.func9, Tryd.ntmps9
  go_wp2
  go_ret2
  exact ⟨rfl, ⟨⟨alloc_new _ _ _ rfl, World.ownsRow_nil _ _ _ _, HL.out.size, HL.out.alloc HL.out.size _⟩⟩, ⟨(Below.refl _ _).alloc (Nat.le_refl _) _⟩⟩
theorem new_no (masked : Bool) (most : Int) (w : World) (hm : ¬ (125 ≤ most ∧ most ≤ 65536)) :
    Calls Tryd.prog 9 #[.bool masked, .int .i64 most] w fun e w' => e = .returned (.tuple #[.pointer none, .int .i64 101]) ∧ w = w' := by
  by_cases h1 : most < 125
  · have h1' : (most < 125) = True := eq_true h1
    clear hm h1
    go_enter Tryd.func9, Tryd.ntmps9
    go_wp2
    go_ret2
    exact ⟨rfl, rfl⟩
  · have h1' : (most < 125) = False := eq_false h1
    have h2 : (most > 65536) = True := eq_true (by omega)
    clear hm h1
    go_enter Tryd.func9, Tryd.ntmps9
    go_wp2
    go_ret2
    exact ⟨rfl, rfl⟩
theorem err_any {w0 W : World} {b : Nat} {masked : Bool} {most : Int} {part : List Nat} {err : Nat} {v : Value} (h : StrmAt w0 W b masked most part err v) :
    Calls Tryd.prog 14 #[.pointer (some ⟨b, 0, none⟩)] W fun e w' => e = .returned (.int .i64 (err : Int)) ∧ W = w' := by
  obtain ⟨_, _, _, c3⟩ := h.cells
  clear h
  go_enter Tryd.func14, Tryd.ntmps14
  go_wp2
  go_ret
  exact ⟨rfl, rfl⟩
theorem part_any {w0 W : World} {b : Nat} {masked : Bool} {most : Int} {part : List Nat} {err : Nat} {v : Value} (h : StrmAt w0 W b masked most part err v) :
    Calls Tryd.prog 15 #[.pointer (some ⟨b, 0, none⟩)] W fun e w' => e = .returned (.int .i64 (part.length : Int)) ∧ W = w' := by
  obtain ⟨a, c, rfl, _⟩ := h.slice
  obtain ⟨_, _, c2, _⟩ := h.cells
  clear h
  obtain ⟨n, hn⟩ : ∃ n, part.length = n := ⟨_, rfl⟩
  rw [hn] at c2 ⊢
  clear hn
  go_enter Tryd.func15, Tryd.ntmps15
  go_wp2
  go_ret
  exact ⟨rfl, rfl⟩
theorem unlike_any {w0 W : World} {b : Nat} {masked : Bool} {most : Int} {part : List Nat} {err : Nat} {v : Value} (h : StrmAt w0 W b masked most part err v) (y : Nat) (hy : y < 256) :
    Calls Tryd.prog 26 #[.pointer (some ⟨b, 0, none⟩), .int .u8 (y : Int)] W fun e w' => e = .returned (.bool (decide (128 ≤ y) != masked)) ∧ W = w' := by
  obtain ⟨c0, _, _, _⟩ := h.cells
  have ha := and_128 y hy
  clear h
  have hne0 : ((((if 128 ≤ y then 128 else 0 : Nat) : Int)) != 0) = decide (128 ≤ y) := by
    by_cases h : 128 ≤ y
    · rw [if_pos h, decide_eq_true h]; rfl
    · rw [if_neg h, decide_eq_false h]; rfl
  obtain ⟨ax, hax⟩ : ∃ ax : Nat, (if 128 ≤ y then 128 else 0 : Nat) = ax := ⟨_, rfl⟩
  obtain ⟨d, hd⟩ : ∃ d, decide (128 ≤ y) = d := ⟨_, rfl⟩
  rw [hax] at ha hne0
  rw [hd] at hne0 ⊢
  clear hax hd
  go_enter Tryd.func26, Tryd.ntmps26
  go_wp2
  go_ret
  exact ⟨rfl, rfl⟩
end Go.Proofs.YtlgmgalopdfcaaaDoor
