/- mask: MaskLonger's walk. -/
import Derived.Test.YtimndpmbgfoofaaDoorMaB
set_option maxRecDepth 100000
namespace Go.Proofs.YtimndpmbgfoofaaDoor.Mas
open Go.RowKit MaskPlain

theorem put_len (n : Nat) (s : List Nat) (k : Nat) (w : World) (hg : Globs w) (h : putL n = some s) (hk : s.length = k) :
    Calls Tryd.prog 58 #[.int .u64 n] w fun e w' => ∃ g cap, e = .returned (.tuple #[.slice (some ⟨g, 0, none⟩) k cap, .int .i64 0]) ∧ Sl (SrcAt w' (.slice (some ⟨g, 0, none⟩) k cap) s) ∧ Sl (Below w.heap.size w w') := by
  subst hk; exact put_yes n s w hg h
theorem put_cases (n : Nat) : (∃ s, putL n = some s ∧ n ≤ 9223372036854775807) ∨ (putL n = none ∧ 9223372036854775807 < n) := by
  have h := put_some n
  cases hp : putL n with
  | some s => rw [hp] at h; exact .inl ⟨s, rfl, of_decide_eq_true h.symm⟩
  | none => rw [hp] at h; exact .inr ⟨rfl, by have := of_decide_eq_false h.symm; omega⟩

end Go.Proofs.YtimndpmbgfoofaaDoor.Mas
/- mask: the document's Get. -/
set_option maxRecDepth 100000
namespace Go.Proofs.YtimndpmbgfoofaaDoor.Mas
open Go.RowKit MaskPlain

theorem bytes_tail (s : ByteArray) (x : Nat) (xs : List Nat) (h : bytes s = x :: xs) (k : Nat) (hk : k + 1 < s.size) : (s[k + 1]'hk).toNat = xs.getD k 0 := by
  have := bytes_getD s (k + 1) hk
  rw [h, List.getD_cons_succ] at this
  rw [this]; rfl
/-- What the document's reader holds to, k bytes on. -/
structure GI (x : Nat) (xs : List Nat) (S k : Nat) : Prop where
  len : k ≤ xs.length
  high : S = 8 → 0 < k → xs.getD 0 0 < 128
  zero : S = 8 → 6 ≤ k → val (xs.take 6) ≠ 0
  two : S = 2 → 2 ≤ k → ¬ val (xs.take 2) < 126
  siz : (S = 2 ∧ x % 128 = 126) ∨ (S = 8 ∧ x % 128 = 127)
theorem GI.fin {x : Nat} {xs : List Nat} {S : Nat} (h : GI x xs S S) : getL (x :: xs) = (val (xs.take S), 1 + S, 0) := by
  rcases h.siz with ⟨rfl, hx⟩ | ⟨rfl, hx⟩
  · have := h.len
    rw [getL, if_neg (by omega), if_pos hx, if_neg (by omega), if_neg (h.two rfl (by omega))]
  · exact get_whole x xs hx h.len (h.high rfl (by omega)) (h.zero rfl (by omega))
theorem GI.more {x : Nat} {xs : List Nat} {S k : Nat} (h : GI x xs S k) (hk : k < S) (hl : xs.length = k) : getL (x :: xs) = (0, 0, 80) := by
  rcases h.siz with ⟨rfl, hx⟩ | ⟨rfl, hx⟩
  · rw [getL, if_neg (by omega), if_pos hx, if_pos (by omega)]
  · exact get_end x xs hx (by omega) (fun h1 => h.high rfl (by omega)) (fun h1 => h.zero rfl (by omega))
theorem GI.above {x : Nat} {xs : List Nat} (h : GI x xs 8 0) (hl : 0 < xs.length) (hc : 128 ≤ xs.getD 0 0) : getL (x :: xs) = (0, 0, 81) := by
  rcases h.siz with ⟨h8, _⟩ | ⟨_, hx⟩
  · omega
  · exact get_high x xs hx hl hc
theorem GI.six {x : Nat} {xs : List Nat} (h : GI x xs 8 5) (hl : 5 < xs.length) (hc : val (xs.take 6) = 0) : getL (x :: xs) = (0, 0, 81) := by
  rcases h.siz with ⟨h8, _⟩ | ⟨_, hx⟩
  · omega
  · exact get_short x xs hx hl hc
theorem GI.one {x : Nat} {xs : List Nat} (h : GI x xs 2 1) (hl : 1 < xs.length) (hc : val (xs.take 2) < 126) : getL (x :: xs) = (0, 0, 81) := by
  rcases h.siz with ⟨_, hx⟩ | ⟨h8, _⟩
  · rw [getL, if_neg (by omega), if_pos hx, if_neg (by omega), if_pos hc]
  · omega

theorem GI.next {x : Nat} {xs : List Nat} {S k : Nat} (h : GI x xs S k) (hl : k < xs.length) (h1 : S = 8 → k = 0 → xs.getD 0 0 < 128) (h2 : S = 8 → k = 5 → val (xs.take 6) ≠ 0) (h3 : S = 2 → k = 1 → ¬ val (xs.take 2) < 126) : GI x xs S (k + 1) :=
  ⟨hl, fun e _ => by
    by_cases hk : k = 0
    · exact h1 e hk
    · exact h.high e (by omega), fun e _ => by
    by_cases hk : k = 5
    · exact h2 e hk
    · exact h.zero e (by omega), fun e _ => by
    by_cases hk : k = 1
    · exact h3 e hk
    · exact h.two e (by omega), h.siz⟩
end Go.Proofs.YtimndpmbgfoofaaDoor.Mas
