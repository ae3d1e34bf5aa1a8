/- close, plain: which codes may be sent, an end's data, and what is got of it. -/
import Derived.Test.YtflnmjiopeoodaaUtfPlain
namespace ClosePlain
open UtfPlain

/-- Are bytes letters? -/
def lets (l : List Nat) : Bool := decide (uend s0 l = some s0)
theorem lets_nil : lets [] = true := rfl
/-- May a code be sent? -/
def valid (n : Int) : Bool := (decide (1000 ≤ n) && decide (n ≤ 1003)) || ((decide (1007 ≤ n) && decide (n ≤ 1011)) || (decide (3000 ≤ n) && decide (n ≤ 4999)))
theorem valid_iff (n : Int) : valid n = true ↔ (1000 ≤ n ∧ n ≤ 1003) ∨ (1007 ≤ n ∧ n ≤ 1011) ∨ (3000 ≤ n ∧ n ≤ 4999) := by
  simp [valid]
theorem valid_no (n : Int) : valid n = false ↔ ¬ ((1000 ≤ n ∧ n ≤ 1003) ∨ (1007 ≤ n ∧ n ≤ 1011) ∨ (3000 ≤ n ∧ n ≤ 4999)) := by
  rw [← valid_iff]; simp
theorem valid_pos {n : Int} (h : valid n = true) : 1000 ≤ n ∧ n ≤ 4999 := by
  have := (valid_iff n).1 h; omega
/-- A code's two bytes. -/
def two (n : Nat) : List Nat := [n / 256, n % 256]
theorem two_small {n : Nat} (h : n < 65536) : ∀ x ∈ two n, x < 256 := fun x hx => by
  simp only [two, List.mem_cons, List.not_mem_nil, or_false] at hx
  rcases hx with rfl | rfl <;> omega
theorem two_num (n : Nat) : 256 * (n / 256) + n % 256 = n := by omega
/-- An end's data, or why there are none. -/
def putC (n : Int) (l : List Nat) : List Nat × Nat :=
  if n = 0 ∧ l = [] then ([], 0)
  else if valid n = false ∨ 123 < l.length then ([], 110)
  else if lets l = false then ([], 111)
  else (two n.toNat ++ l, 0)
/-- The code and the words of an end's data, or why there are none. -/
def getC : List Nat → Int × List Nat × Nat
  | [] => (1005, [], 0)
  | [_] => (0, [], 110)
  | x :: y :: l => if 123 < l.length ∨ valid ((256 * x + y : Nat) : Int) = false then (0, [], 110) else if lets l = false then (0, [], 111) else (((256 * x + y : Nat) : Int), l, 0)
theorem getC_two (x y : Nat) (l : List Nat) : getC (x :: y :: l) = if 123 < l.length ∨ valid ((256 * x + y : Nat) : Int) = false then (0, [], 110) else if lets l = false then (0, [], 111) else (((256 * x + y : Nat) : Int), l, 0) := rfl
/-- By which code one ends. -/
def codeC (e : Int) : Int := if e = 0 then 1000 else if e = 91 ∨ e = 100 ∨ e = 110 ∨ e = 120 then 1002 else if e = 111 ∨ e = 122 then 1007 else if e = 92 ∨ e = 121 then 1009 else 1011
/-- By which code the other side is ended. -/
def acrossC (n : Int) : Int := if n = 1005 then 0 else if valid n = true then n else 1011
theorem put_ok {n : Int} {l s : List Nat} (h : putC n l = (s, 0)) : (n = 0 ∧ l = [] ∧ s = []) ∨ (valid n = true ∧ l.length ≤ 123 ∧ lets l = true ∧ s = two n.toNat ++ l) := by
  unfold putC at h
  by_cases h1 : n = 0 ∧ l = []
  · rw [if_pos h1] at h; injection h with h _; exact .inl ⟨h1.1, h1.2, h.symm⟩
  rw [if_neg h1] at h
  by_cases h2 : valid n = false ∨ 123 < l.length
  · rw [if_pos h2] at h; injection h with _ h; cases h
  rw [if_neg h2] at h
  by_cases h3 : lets l = false
  · rw [if_pos h3] at h; injection h with _ h; cases h
  rw [if_neg h3] at h
  injection h with h _
  exact .inr ⟨by by_cases hv : valid n = true; exact hv; exact absurd (.inl (by simpa using hv)) h2, by omega, by simpa using h3, h.symm⟩
theorem put_yes {n : Int} {l : List Nat} (h1 : valid n = true) (h2 : l.length ≤ 123) (h3 : lets l = true) : putC n l = (two n.toNat ++ l, 0) := by
  have := valid_pos h1
  unfold putC
  rw [if_neg (by omega), if_neg (by rw [h1]; intro h; rcases h with h | h; cases h; omega), if_neg (by rw [h3]; decide)]
theorem put_err {n : Int} {l s : List Nat} {e : Nat} (h : putC n l = (s, e)) (he : e ≠ 0) : s = [] ∧ (e = 110 ∨ e = 111) := by
  unfold putC at h
  split at h
  · injection h with _ h; exact absurd h.symm he
  split at h
  · injection h with h h'; exact ⟨h.symm, .inl h'.symm⟩
  split at h
  · injection h with h h'; exact ⟨h.symm, .inr h'.symm⟩
  · injection h with _ h; exact absurd h.symm he
theorem get_data {n : Int} (l : List Nat) (h1 : valid n = true) (h2 : l.length ≤ 123) (h3 : lets l = true) : getC (two n.toNat ++ l) = (n, l, 0) := by
  have hp := valid_pos h1
  have e : ((256 * (n.toNat / 256) + n.toNat % 256 : Nat) : Int) = n := by rw [two_num]; omega
  show getC (n.toNat / 256 :: n.toNat % 256 :: l) = _
  rw [getC_two, e, if_neg (by rw [h1]; intro h; rcases h with h | h; omega; cases h), if_neg (by rw [h3]; decide)]
/-- What is put is got. -/
theorem put_get {n : Int} {l s : List Nat} (h : putC n l = (s, 0)) (h0 : n ≠ 0) : getC s = (n, l, 0) := by
  rcases put_ok h with ⟨h1, _, _⟩ | ⟨h1, h2, h3, rfl⟩
  · exact absurd h1 h0
  · exact get_data l h1 h2 h3
/-- What is got is put again. -/
theorem get_put {n : Int} {l s : List Nat} (hs : ∀ y ∈ s, y < 256) (h : getC s = (n, l, 0)) : putC (acrossC n) l = (s, 0) := by
  match s, h with
  | [], h =>
    injection h with h1 h2
    injection h2 with h2 _
    subst h1 h2
    rfl
  | [_], h => injection h with _ h; injection h with _ h; cases h
  | x :: y :: r, h =>
    rw [getC_two] at h
    by_cases h1 : 123 < r.length ∨ valid ((256 * x + y : Nat) : Int) = false
    · rw [if_pos h1] at h; injection h with _ h; injection h with _ h; cases h
    rw [if_neg h1] at h
    by_cases h2 : lets r = false
    · rw [if_pos h2] at h; injection h with _ h; injection h with _ h; cases h
    rw [if_neg h2] at h
    injection h with h3 h
    injection h with h4 _
    subst h4
    have hv : valid n = true := by rw [← h3]; by_cases hv : valid ((256 * x + y : Nat) : Int) = true; exact hv; exact absurd (.inr (by simpa using hv)) h1
    have hy : y < 256 := hs y (by simp)
    have hp := valid_pos hv
    have ha : acrossC n = n := by
      unfold acrossC
      rw [if_neg (fun e => by rw [e] at hv; exact absurd hv (by decide)), if_pos hv]
    have e : n.toNat = 256 * x + y := by omega
    rw [ha, put_yes hv (by omega) (by simpa using h2), e]
    show ((256 * x + y) / 256 :: (256 * x + y) % 256 :: r, 0) = _
    rw [show (256 * x + y) / 256 = x by omega, show (256 * x + y) % 256 = y by omega]
theorem get_err {s : List Nat} {n : Int} {l : List Nat} {e : Nat} (h : getC s = (n, l, e)) (he : e ≠ 0) : n = 0 ∧ l = [] ∧ (e = 110 ∨ e = 111) := by
  match s, h with
  | [], h => injection h with _ h; injection h with _ h; exact absurd h.symm he
  | [_], h => injection h with h1 h; injection h with h2 h; exact ⟨h1.symm, h2.symm, .inl h.symm⟩
  | x :: y :: r, h =>
    rw [getC_two] at h
    split at h
    · injection h with h1 h; injection h with h2 h; exact ⟨h1.symm, h2.symm, .inl h.symm⟩
    split at h
    · injection h with h1 h; injection h with h2 h; exact ⟨h1.symm, h2.symm, .inr h.symm⟩
    · injection h with _ h; injection h with _ h; exact absurd h.symm he
theorem two_inj {a b : Int} (ha : valid a = true) (hb : valid b = true) (h : two a.toNat = two b.toNat) : a = b := by
  have h1 := valid_pos ha
  have h2 := valid_pos hb
  injection h with h3 h4
  injection h4 with h4 _
  omega
/-- Two ends that aren't the same aren't the same data. -/
theorem put_apart {a b : Int} {v w x y : List Nat} (h : putC a v = (x, 0)) (k : putC b w = (y, 0)) : x = y ↔ a = b ∧ v = w := by
  rcases put_ok h with ⟨rfl, rfl, rfl⟩ | ⟨h1, _, _, rfl⟩ <;> rcases put_ok k with ⟨rfl, rfl, rfl⟩ | ⟨k1, _, _, rfl⟩
  · simp
  · have := valid_pos k1
    exact ⟨fun e => by simp [two] at e, fun e => by omega⟩
  · have := valid_pos h1
    exact ⟨fun e => by simp [two] at e, fun e => by omega⟩
  · refine ⟨fun e => ?_, fun e => by rw [e.1, e.2]⟩
    have e1 := List.append_inj e (by simp [two])
    exact ⟨two_inj h1 k1 e1.1, e1.2⟩
theorem put_sizes {n : Int} {l s : List Nat} (h : putC n l = (s, 0)) : s.length ≤ 125 ∧ ((n = 0 ∧ s = []) ∨ (s.length = 2 + l.length ∧ s.drop 2 = l)) := by
  rcases put_ok h with ⟨rfl, rfl, rfl⟩ | ⟨h1, h2, _, rfl⟩
  · exact ⟨by simp, .inl ⟨rfl, rfl⟩⟩
  · refine ⟨by simp [two]; omega, .inr ⟨by simp [two]; omega, rfl⟩⟩
theorem put_small {n : Int} {l s : List Nat} {e : Nat} (hl : ∀ y ∈ l, y < 256) (h : putC n l = (s, e)) : ∀ y ∈ s, y < 256 := by
  by_cases he : e = 0
  · subst he
    rcases put_ok h with ⟨_, _, rfl⟩ | ⟨h1, _, _, rfl⟩
    · intro y hy; cases hy
    · intro y hy
      have := valid_pos h1
      rcases List.mem_append.1 hy with hy | hy
      · exact two_small (by omega) y hy
      · exact hl y hy
  · rw [(put_err h he).1]; intro y hy; cases hy
theorem code_valid (e : Int) : valid (codeC e) = true := by
  unfold codeC
  split
  · rfl
  split
  · rfl
  split
  · rfl
  split <;> rfl
theorem across_valid (n : Int) : acrossC n = 0 ∨ valid (acrossC n) = true := by
  unfold acrossC
  split
  · exact .inl rfl
  split
  · rename_i h; exact .inr h
  · exact .inr rfl
theorem across_zero (n : Int) : acrossC n = 0 ↔ n = 1005 := by
  unfold acrossC
  constructor
  · intro h
    split at h
    · assumption
    split at h
    · rename_i hv; have := valid_pos hv; omega
    · omega
  · intro h; rw [if_pos h]
theorem across_same {n : Int} (h : valid n = true) : acrossC n = n := by
  unfold acrossC
  rw [if_neg (fun e => by rw [e] at h; exact absurd h (by decide)), if_pos h]
/-- Of two bytes alone. -/
theorem get_two (x y : Nat) : getC [x, y] = if valid ((256 * x + y : Nat) : Int) = true then (((256 * x + y : Nat) : Int), [], 0) else (0, [], 110) := by
  rw [getC_two]
  by_cases h : valid ((256 * x + y : Nat) : Int) = true
  · rw [if_pos h, if_neg (by rw [h]; simp), if_neg (by rw [lets_nil]; decide)]
  · rw [if_neg h, if_pos (.inr (by simpa using h))]
end ClosePlain
