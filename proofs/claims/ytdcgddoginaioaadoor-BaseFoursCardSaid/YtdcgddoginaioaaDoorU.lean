/- The document's answer, plain facts: bytes and letters by way of lists of bits. Nothing here speaks of the program. -/
import Derived.Test.YtdcgddoginaioaaDoorPlain
namespace Go.Proofs.YtdcgddoginaioaaDoor
open Go.RowKit

/-- The number of bits, the first one the highest. -/
def val (l : List Nat) : Nat := l.foldl (fun n b => 2 * n + b) 0
theorem val_snoc (l : List Nat) (b : Nat) : val (l ++ [b]) = 2 * val l + b := by simp [val]
/-- The first k of m bits of a number. -/
def bitsTo (m x : Nat) : Nat → List Nat
  | 0 => []
  | k + 1 => bitsTo m x k ++ [x / 2 ^ (m - 1 - k) % 2]
theorem bitsTo_length (m x : Nat) : ∀ k, (bitsTo m x k).length = k
  | 0 => rfl
  | k + 1 => by simp [bitsTo, bitsTo_length m x k]
/-- The m bits of each number of a row. -/
def allB (m : Nat) (l : List Nat) : List Nat := l.flatMap fun x => bitsTo m x m
theorem allB_append (m : Nat) (a b : List Nat) : allB m (a ++ b) = allB m a ++ allB m b := by simp [allB]
theorem allB_snoc (m : Nat) (a : List Nat) (x : Nat) : allB m (a ++ [x]) = allB m a ++ bitsTo m x m := by simp [allB]
theorem allB_cons (m x : Nat) (r : List Nat) : allB m (x :: r) = bitsTo m x m ++ allB m r := by simp [allB]
theorem allB_length (m : Nat) (l : List Nat) : (allB m l).length = m * l.length := by
  induction l with
  | nil => rfl
  | cons x r ih => rw [allB_cons, List.length_append, bitsTo_length, ih, List.length_cons, Nat.mul_succ, Nat.add_comm]
/-- Each bit is 0 or 1. -/
theorem bitsTo_small (m x : Nat) : ∀ k, Small 2 (bitsTo m x k)
  | 0 => fun y hy => by cases hy
  | k + 1 => (bitsTo_small m x k).append (fun y hy => by simp only [List.mem_singleton] at hy; subst hy; exact Nat.mod_lt _ (by decide))
theorem allB_small (m : Nat) (l : List Nat) : Small 2 (allB m l) := fun y hy => by
  obtain ⟨x, _, hx⟩ := List.mem_flatMap.1 hy
  exact bitsTo_small m x m y hx
theorem fold_lt (l : List Nat) : ∀ n, Small 2 l → l.foldl (fun n b => 2 * n + b) n < (n + 1) * 2 ^ l.length := by
  induction l with
  | nil => intro n _; simp
  | cons b l ih =>
    intro n h
    have hb := h b (by simp)
    have h1 := ih (2 * n + b) (fun x hx => h x (by simp [hx]))
    have h2 : (2 * n + b + 1) * 2 ^ l.length ≤ (2 * n + 2) * 2 ^ l.length := Nat.mul_le_mul_right _ (by omega)
    have h3 : (2 * n + 2) * 2 ^ l.length = (n + 1) * 2 ^ (l.length + 1) := by rw [Nat.pow_succ, Nat.mul_comm (2 ^ l.length) 2, ← Nat.mul_assoc]; congr 1; omega
    simp only [List.foldl_cons, List.length_cons]
    omega
theorem val_lt (l : List Nat) (h : Small 2 l) : val l < 2 ^ l.length := by
  have := fold_lt l 0 h
  simpa [val] using this

/-- Six bits by six, as letters. -/
def six : List Nat → List Nat
  | a :: b :: c :: d :: e :: f :: r => letter (val [a, b, c, d, e, f]) :: six r
  | _ => []
/-- Eight bits by eight, as bytes. -/
def eight : List Nat → List Nat
  | a :: b :: c :: d :: e :: f :: g :: h :: r => val [a, b, c, d, e, f, g, h] :: eight r
  | _ => []
theorem six_six (l m : List Nat) (h : l.length = 6) : six (l ++ m) = letter (val l) :: six m := by
  match l, h with
  | [a, b, c, d, e, f], _ => rfl
theorem eight_eight (l m : List Nat) (h : l.length = 8) : eight (l ++ m) = val l :: eight m := by
  match l, h with
  | [a, b, c, d, e, f, g, h], _ => rfl
theorem six_append : ∀ (n : Nat) (l m : List Nat), l.length = 6 * n → six (l ++ m) = six l ++ six m
  | 0, l, m, h => by
    obtain rfl : l = [] := List.length_eq_zero_iff.1 (by omega)
    rfl
  | n + 1, l, m, h => by
    have e : l = l.take 6 ++ l.drop 6 := (List.take_append_drop 6 l).symm
    have h6 : (l.take 6).length = 6 := by simp; omega
    rw [e, List.append_assoc, six_six _ _ h6, six_six _ _ h6, six_append n (l.drop 6) m (by simp; omega)]
    rfl
theorem eight_append : ∀ (n : Nat) (l m : List Nat), l.length = 8 * n → eight (l ++ m) = eight l ++ eight m
  | 0, l, m, h => by
    obtain rfl : l = [] := List.length_eq_zero_iff.1 (by omega)
    rfl
  | n + 1, l, m, h => by
    have e : l = l.take 8 ++ l.drop 8 := (List.take_append_drop 8 l).symm
    have h8 : (l.take 8).length = 8 := by simp; omega
    rw [e, List.append_assoc, eight_eight _ _ h8, eight_eight _ _ h8, eight_append n (l.drop 8) m (by simp; omega)]
    rfl
/-- One six more. -/
theorem six_more (B : List Nat) (n : Nat) (h : 6 * n + 6 ≤ B.length) : six (B.take (6 * n + 6)) = six (B.take (6 * n)) ++ [letter (val ((B.drop (6 * n)).take 6))] := by
  rw [List.take_add, six_append n _ _ (by rw [List.length_take, Nat.min_eq_left (by omega)])]
  have h6 : ((B.drop (6 * n)).take 6).length = 6 := by simp; omega
  have := six_six ((B.drop (6 * n)).take 6) [] h6
  rw [List.append_nil] at this
  rw [this]; rfl
theorem eight_more (B : List Nat) (n : Nat) (h : 8 * n + 8 ≤ B.length) : eight (B.take (8 * n + 8)) = eight (B.take (8 * n)) ++ [val ((B.drop (8 * n)).take 8)] := by
  rw [List.take_add, eight_append n _ _ (by rw [List.length_take, Nat.min_eq_left (by omega)])]
  have h8 : ((B.drop (8 * n)).take 8).length = 8 := by simp; omega
  have := eight_eight ((B.drop (8 * n)).take 8) [] h8
  rw [List.append_nil] at this
  rw [this]; rfl
theorem eight_short (l : List Nat) (h : l.length < 8) : eight l = [] := by
  match l, h with
  | [], _ => rfl
  | [_], _ => rfl
  | [_, _], _ => rfl
  | [_, _, _], _ => rfl
  | [_, _, _, _], _ => rfl
  | [_, _, _, _, _], _ => rfl
  | [_, _, _, _, _, _], _ => rfl
  | [_, _, _, _, _, _, _], _ => rfl
/-- What is left behind the last eight doesn't count. -/
theorem eight_done (B : List Nat) (n : Nat) (h1 : 8 * n ≤ B.length) (h2 : B.length < 8 * n + 8) : eight (B.take (8 * n)) = eight B := by
  conv => rhs; rw [← List.take_append_drop (8 * n) B]
  rw [eight_append n _ _ (by rw [List.length_take, Nat.min_eq_left h1]), eight_short (B.drop (8 * n)) (by simp; omega), List.append_nil]
/-- One bit more of a piece. -/
theorem val_more (B : List Nat) (i k : Nat) (h : i + k < B.length) : val ((B.drop i).take (k + 1)) = 2 * val ((B.drop i).take k) + B.getD (i + k) 0 := by
  have hk : k < (B.drop i).length := by simp; omega
  rw [List.take_succ_eq_append_getElem hk, val_snoc]
  simp [List.getD, List.getElem?_eq_getElem h]

theorem bits8 (a : Nat) : bitsTo 8 a 8 = [a / 128 % 2, a / 64 % 2, a / 32 % 2, a / 16 % 2, a / 8 % 2, a / 4 % 2, a / 2 % 2, a % 2] := by simp [bitsTo]
theorem bits6 (a : Nat) : bitsTo 6 a 6 = [a / 32 % 2, a / 16 % 2, a / 8 % 2, a / 4 % 2, a / 2 % 2, a % 2] := by simp [bitsTo]
/-- How many noughts fill bits up to sixes. -/
def fill6 (n : Nat) : Nat := (6 - n % 6) % 6
theorem six_body : ∀ l : List Nat, Small 256 l → six (allB 8 l ++ List.replicate (fill6 (8 * l.length)) 0) = body l
  | [], _ => rfl
  | [a], h => by
    have ha := h a (by simp)
    show six (bitsTo 8 a 8 ++ [] ++ List.replicate (fill6 8) 0) = _
    rw [bits8]
    show [letter (val [_, _, _, _, _, _]), letter (val [_, _, 0, 0, 0, 0])] = [letter (a / 4), letter (a % 4 * 16)]
    simp only [val, List.foldl_cons, List.foldl_nil, List.cons.injEq, and_true]
    exact ⟨by congr 1; omega, by congr 1; omega⟩
  | [a, b], h => by
    have ha := h a (by simp)
    have hb := h b (by simp)
    show six (bitsTo 8 a 8 ++ (bitsTo 8 b 8 ++ []) ++ List.replicate (fill6 16) 0) = _
    rw [bits8, bits8]
    show [letter (val [_, _, _, _, _, _]), letter (val [_, _, _, _, _, _]), letter (val [_, _, _, _, 0, 0])] = [letter (a / 4), letter (a % 4 * 16 + b / 16), letter (b % 16 * 4)]
    simp only [val, List.foldl_cons, List.foldl_nil, List.cons.injEq, and_true]
    exact ⟨by congr 1; omega, by congr 1; omega, by congr 1; omega⟩
  | a :: b :: c :: r, h => by
    have ha := h a (by simp)
    have hb := h b (by simp)
    have hc := h c (by simp)
    have ih := six_body r (fun x hx => h x (by simp [hx]))
    have ef : fill6 (8 * (a :: b :: c :: r).length) = fill6 (8 * r.length) := by unfold fill6; simp only [List.length_cons]; omega
    rw [ef, allB_cons, allB_cons, allB_cons, bits8, bits8, bits8]
    show letter (val [_, _, _, _, _, _]) :: letter (val [_, _, _, _, _, _]) :: letter (val [_, _, _, _, _, _]) :: letter (val [_, _, _, _, _, _]) :: six (allB 8 r ++ _) = letter (a / 4) :: letter (a % 4 * 16 + b / 16) :: letter (b % 16 * 4 + c / 64) :: letter (c % 64) :: body r
    rw [ih]
    simp only [val, List.foldl_cons, List.foldl_nil, List.cons.injEq, and_true]
    exact ⟨by congr 1; omega, by congr 1; omega, by congr 1; omega, by congr 1; omega⟩

/-- The numbers of letters. -/
def nums (l : List Nat) : List Nat := l.map fun c => (num c).getD 0
theorem nums_letter (n : Nat) (h : n < 64) (r : List Nat) : nums (letter n :: r) = n :: nums r := by simp [nums, num_letter n h]
theorem v8a (x y : Nat) (hx : x < 64) (hy : y < 64) : val [x / 32 % 2, x / 16 % 2, x / 8 % 2, x / 4 % 2, x / 2 % 2, x % 2, y / 32 % 2, y / 16 % 2] = x * 4 + y / 16 := by
  simp only [val, List.foldl_cons, List.foldl_nil]; omega
theorem v8b (x y : Nat) (hy : y < 64) : val [x / 8 % 2, x / 4 % 2, x / 2 % 2, x % 2, y / 32 % 2, y / 16 % 2, y / 8 % 2, y / 4 % 2] = x % 16 * 16 + y / 4 := by
  simp only [val, List.foldl_cons, List.foldl_nil]; omega
theorem v8c (x y : Nat) (hy : y < 64) : val [x / 2 % 2, x % 2, y / 32 % 2, y / 16 % 2, y / 8 % 2, y / 4 % 2, y / 2 % 2, y % 2] = x % 4 * 64 + y := by
  simp only [val, List.foldl_cons, List.foldl_nil]; omega
theorem eight_body : ∀ l : List Nat, Small 256 l → eight (allB 6 (nums (body l))) = l
  | [], _ => rfl
  | [a], h => by
    have ha := h a (by simp)
    rw [body, nums_letter _ (by omega), nums_letter _ (by omega), allB_cons, allB_cons, bits6, bits6]
    show [val [_, _, _, _, _, _, _, _]] = [a]
    rw [v8a _ _ (by omega) (by omega)]
    congr 1; omega
  | [a, b], h => by
    have ha := h a (by simp)
    have hb := h b (by simp)
    rw [body, nums_letter _ (by omega), nums_letter _ (by omega), nums_letter _ (by omega), allB_cons, allB_cons, allB_cons, bits6, bits6, bits6]
    show [val [_, _, _, _, _, _, _, _], val [_, _, _, _, _, _, _, _]] = [a, b]
    rw [v8a _ _ (by omega) (by omega), v8b _ _ (by omega)]
    simp only [List.cons.injEq, and_true]
    exact ⟨by omega, by omega⟩
  | a :: b :: c :: r, h => by
    have ha := h a (by simp)
    have hb := h b (by simp)
    have hc := h c (by simp)
    have ih := eight_body r (fun x hx => h x (by simp [hx]))
    rw [body, nums_letter _ (by omega), nums_letter _ (by omega), nums_letter _ (by omega), nums_letter _ (by omega), allB_cons, allB_cons, allB_cons, allB_cons, bits6, bits6, bits6, bits6]
    show val [_, _, _, _, _, _, _, _] :: val [_, _, _, _, _, _, _, _] :: val [_, _, _, _, _, _, _, _] :: eight (allB 6 (nums (body r))) = a :: b :: c :: r
    rw [ih, v8a _ _ (by omega) (by omega), v8b _ _ (by omega), v8c _ _ (by omega)]
    simp only [List.cons.injEq, and_true]
    exact ⟨by omega, by omega, by omega⟩
theorem body_num : ∀ l : List Nat, Small 256 l → ∀ c ∈ body l, (num c).isSome = true ∧ c ≠ 61
  | [], _, c, hc => by cases hc
  | [a], h, c, hc => by
    have ha := h a (by simp)
    simp only [body, List.mem_cons, List.not_mem_nil, or_false] at hc
    have key : ∀ n, n < 64 → (num (letter n)).isSome = true ∧ letter n ≠ 61 := fun n hn => ⟨by rw [num_letter n hn]; rfl, letter_ne n hn⟩
    rcases hc with rfl | rfl
    · exact key _ (by omega)
    · exact key _ (by omega)
  | [a, b], h, c, hc => by
    have ha := h a (by simp)
    have hb := h b (by simp)
    simp only [body, List.mem_cons, List.not_mem_nil, or_false] at hc
    have key : ∀ n, n < 64 → (num (letter n)).isSome = true ∧ letter n ≠ 61 := fun n hn => ⟨by rw [num_letter n hn]; rfl, letter_ne n hn⟩
    rcases hc with rfl | rfl | rfl
    · exact key _ (by omega)
    · exact key _ (by omega)
    · exact key _ (by omega)
  | a :: b :: d :: r, h, c, hc => by
    have ha := h a (by simp)
    have hb := h b (by simp)
    have hd := h d (by simp)
    simp only [body, List.mem_cons] at hc
    have key : ∀ n, n < 64 → (num (letter n)).isSome = true ∧ letter n ≠ 61 := fun n hn => ⟨by rw [num_letter n hn]; rfl, letter_ne n hn⟩
    rcases hc with rfl | rfl | rfl | rfl | hc
    · exact key _ (by omega)
    · exact key _ (by omega)
    · exact key _ (by omega)
    · exact key _ (by omega)
    · exact body_num r (fun x hx => h x (by simp [hx])) c hc
end Go.Proofs.YtdcgddoginaioaaDoor
