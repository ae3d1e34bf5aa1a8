/- The contract of the document's begins: are bytes the beginning of a letter's, that has more; nothing that was in memory changes. Condition: the text isn't empty. -/
import Derived.Test.YtlkfkglcefhbgaaDoorO
import Derived.Deep.DeepCutAuto
namespace Go.Proofs.YtlkfkglcefhbgaaDoor
open Go.RowKit

theorem begins_no (s : ByteArray) (w : World) (hs : 0 < s.size) (_hL : s.size ≤ 100000) (h : long ((bytes s).headD 0) ≤ s.size) :
    Calls Tryd.prog 21 #[.string s] w fun e w' => e = .returned (.bool false) ∧ Below w.heap.size w w' := by
  obtain ⟨b, hb⟩ : ∃ b, (s[0]'hs).toNat = b := ⟨_, rfl⟩
  have hh := headD_bytes s hs
  rw [hb] at hh
  rw [hh] at h
  obtain ⟨n, hn⟩ : ∃ n, long b = n := ⟨_, rfl⟩
  rw [hn] at h
  have HLG : Sl (∀ W, Calls Tryd.prog 24 #[.int .u8 b] W fun e w' => e = .returned (.int .i64 n) ∧ W = w') := ⟨fun W => by rw [← hn]; exact long_any b W⟩
  have hle : (n : Int) ≤ (s.size : Int) := by omega
  clear hn hh
  go_enter Tryd.func21, Tryd.ntmps21
  go_wp2_with fail
  refine (HLG.out _).mono ?_
  rintro e w' ⟨rfl, rfl⟩
  go_wp2
  go_ret
  exact ⟨rfl, Below.refl _ _⟩

theorem lm_more (v : Nat) (s : List Nat) (k : Nat) (h : 1 ≤ k) : lm v s (k + 1) = (64 * (lm v s k).1 + (if k < s.length then s.getD k 0 - 128 else 0), 64 * (lm v s k).2 + (if k < s.length then s.getD k 0 - 128 else 63)) := by
  obtain ⟨j, rfl⟩ : ∃ j, k = j + 1 := ⟨k - 1, by omega⟩
  rfl
theorem tail_all (l : List Nat) (h : ∀ j, 1 ≤ j → j < l.length → 128 ≤ l.getD j 0 ∧ l.getD j 0 ≤ 191) : l.tail.all (fun c => decide (128 ≤ c ∧ c ≤ 191)) = true := by
  rw [List.all_eq_true]
  intro x hx
  obtain ⟨i, hi, rfl⟩ := List.getElem_of_mem hx
  have hi' : i + 1 < l.length := by simp at hi; omega
  have := h (i + 1) (by omega) hi'
  simp only [List.getElem_tail, decide_eq_true_eq]
  simpa [List.getD, List.getElem?_eq_getElem hi'] using this
theorem tail_bad (l : List Nat) (j : Nat) (h1 : 1 ≤ j) (h2 : j < l.length) (h : ¬ (128 ≤ l.getD j 0 ∧ l.getD j 0 ≤ 191)) : l.tail.all (fun c => decide (128 ≤ c ∧ c ≤ 191)) = false := by
  rw [List.all_eq_false]
  refine ⟨l.getD j 0, ?_, by simpa using h⟩
  rw [List.getD, List.getElem?_eq_getElem h2]
  have : l[j] = l.tail[j - 1]'(by simp; omega) := by
    rw [List.getElem_tail]; congr 1; omega
  simp only [Option.getD_some]
  rw [this]
  exact List.getElem_mem _
theorem below_2a {w W : World} (h : Below w.heap.size w W) (A B : Obj) : Below w.heap.size w ((W.alloc A).alloc B).drew :=
  ((h.alloc h.size A).alloc (by have := h.size; rw [alloc_size]; omega) B).drew
theorem below_2b {w W : World} (h : Below w.heap.size w W) (A B : Obj) : Below w.heap.size w ((W.drew.alloc A).alloc B) :=
  ((h.drew.alloc h.drew.size A).alloc (by have := h.drew.size; rw [alloc_size]; omega) B)
/-- What the loop of begins holds to. -/
def BG (w : World) (r n : Nat) (l : List Nat) (x y i : Value) (wr : World) : Prop :=
  ∃ k p q : Nat, 1 ≤ k ∧ k ≤ n ∧ i = .int .i64 k ∧ x = .int .i64 p ∧ y = .int .i64 q ∧ Sl ((p, q) = lm r l k) ∧ Sl (p < 256 * 64 ^ (k - 1)) ∧ Sl (q < 256 * 64 ^ (k - 1)) ∧ Sl (∀ j, 1 ≤ j → j < k → j < l.length → 128 ≤ l.getD j 0 ∧ l.getD j 0 ≤ 191) ∧ Below w.heap.size w wr

end Go.Proofs.YtlkfkglcefhbgaaDoor
