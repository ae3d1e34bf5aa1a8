/- The document's answer, bits as lists: the contract of number. -/
import Derived.Test.YthlagngpllahkaaGreatDoorBaB
import Derived.Test.YthlagngpllahkaaGreatDoorBaA
set_option maxRecDepth 100000
namespace Go.Proofs.YthlagngpllahkaaGreatDoor.Bas
open Go.RowKit

/-- The letters as the document's package holds them. -/
def lettersS : ByteArray := { data := #[65, 66, 67, 68, 69, 70, 71, 72, 73, 74, 75, 76, 77, 78, 79, 80, 81, 82, 83, 84, 85, 86, 87, 88, 89, 90, 97, 98, 99, 100, 101, 102, 103, 104, 105, 106, 107, 108, 109, 110, 111, 112, 113, 114, 115, 116, 117, 118, 119, 120, 121, 122, 48, 49, 50, 51, 52, 53, 54, 55, 56, 57, 43, 47] }
theorem bytes_letters : bytes lettersS = table := by decide
theorem letters_at (k : Nat) (hk : k < 64) : (lettersS.data[k]'hk).toNat = letter k := by
  have h := bytes_getD lettersS k hk
  rw [bytes_letters] at h
  rw [← h]
  simp [table, List.getD, hk]

/-- What number answers. -/
def numI (c : Nat) : Int := match num c with | none => -1 | some n => (n : Int)

set_option maxHeartbeats 1000000 in
theorem ref_number (c : Nat) (w : World) :
    Calls Tryz.prog 121 #[.int .u8 (c : Int)] w fun e w' => e = .returned (.int .i64 (numI c)) ∧ w = w' := by
  go_enter Tryz.func121, Tryz.ntmps121
  go_wp2
  go_loop [3] (fun i => ∃ k : Nat, k ≤ 64 ∧ i = .int .i64 k ∧ ∀ j, j < k → letter j ≠ c) (fun i => 64 - (intOf i).toNat)
  case atStart => exact ⟨0, by omega, rfl, fun j hj => by omega⟩
  case round =>
    obtain ⟨k, hk, rfl, hrel⟩ := hrel
    have HR := Sl.mk hrel
    clear hrel
    by_cases hlt : k < 64
    · have hl : (lettersS[k]'hlt).toNat = letter k := letters_at k hlt
      unfold lettersS at hl
      by_cases he : letter k = c
      · have hq : (((letter k : Nat) : Int) == (c : Int)) = true := by rw [he]; simp
        have HN : Sl (numI c = (k : Int)) := ⟨by unfold numI; rw [← he, num_letter k hlt]⟩
        clear he
        go_wp2
        go_ret
        exact ⟨by rw [HN.out]; rfl, rfl⟩
      · have hq : (((letter k : Nat) : Int) == (c : Int)) = false := by simp; omega
        have HE := Sl.mk he
        clear he
        go_wp2
        go_round
        case rel => exact ⟨k + 1, by omega, by go_num, fun j hj => by
          by_cases e : j = k
          · subst e; exact HE.out
          · exact HR.out j (by omega)⟩
        case measure => simp [intOf]; omega
    · have hge : ¬ (k : Int) < 64 := by omega
      have HN : Sl (numI c = -1) := ⟨by
        unfold numI
        cases h : num c with
        | none => rfl
        | some n =>
          have := num_some h
          exact absurd this.2 (HR.out n (by omega))⟩
      go_wp2
      go_ret
      exact ⟨by rw [HN.out]; rfl, rfl⟩
end Go.Proofs.YthlagngpllahkaaGreatDoor.Bas
/- The document's answer, plain facts: bytes and letters by way of lists of bits. Nothing here speaks of the program. -/
namespace Go.Proofs.YthlagngpllahkaaGreatDoor.Bas
open Go.RowKit

/-- The number of bits, the first one the highest. -/
def val (l : List Nat) : Nat := l.foldl (fun n b => 2 * n + b) 0
theorem val_snoc (l : List Nat) (b : Nat) : val (l ++ [b]) = 2 * val l + b := by simp [val]
/-- The first k of m bits of a number. -/
def bitsTo (m x : Nat) : Nat → List Nat
  | 0 => []
  | k + 1 => bitsTo m x k ++ [x / 2 ^ (m - 1 - k) % 2]
theorem bitsTo_length (m x : Nat) : ∀ k, (bitsTo m x k).length = k
  | 0 => rfl
  | k + 1 => by simp [bitsTo, bitsTo_length m x k]
/-- The m bits of each number of a row. -/
def allB (m : Nat) (l : List Nat) : List Nat := l.flatMap fun x => bitsTo m x m
theorem allB_append (m : Nat) (a b : List Nat) : allB m (a ++ b) = allB m a ++ allB m b := by simp [allB]
theorem allB_snoc (m : Nat) (a : List Nat) (x : Nat) : allB m (a ++ [x]) = allB m a ++ bitsTo m x m := by simp [allB]
theorem allB_cons (m x : Nat) (r : List Nat) : allB m (x :: r) = bitsTo m x m ++ allB m r := by simp [allB]
theorem allB_length (m : Nat) (l : List Nat) : (allB m l).length = m * l.length := by
  induction l with
  | nil => rfl
  | cons x r ih => rw [allB_cons, List.length_append, bitsTo_length, ih, List.length_cons, Nat.mul_succ, Nat.add_comm]
/-- Each bit is 0 or 1. -/
theorem bitsTo_small (m x : Nat) : ∀ k, Small 2 (bitsTo m x k)
  | 0 => fun y hy => by cases hy
  | k + 1 => (bitsTo_small m x k).append (fun y hy => by simp only [List.mem_singleton] at hy; subst hy; exact Nat.mod_lt _ (by decide))
theorem allB_small (m : Nat) (l : List Nat) : Small 2 (allB m l) := fun y hy => by
  obtain ⟨x, _, hx⟩ := List.mem_flatMap.1 hy
  exact bitsTo_small m x m y hx
theorem fold_lt (l : List Nat) : ∀ n, Small 2 l → l.foldl (fun n b => 2 * n + b) n < (n + 1) * 2 ^ l.length := by
  induction l with
  | nil => intro n _; simp
  | cons b l ih =>
    intro n h
    have hb := h b (by simp)
    have h1 := ih (2 * n + b) (fun x hx => h x (by simp [hx]))
    have h2 : (2 * n + b + 1) * 2 ^ l.length ≤ (2 * n + 2) * 2 ^ l.length := Nat.mul_le_mul_right _ (by omega)
    have h3 : (2 * n + 2) * 2 ^ l.length = (n + 1) * 2 ^ (l.length + 1) := by rw [Nat.pow_succ, Nat.mul_comm (2 ^ l.length) 2, ← Nat.mul_assoc]; congr 1; omega
    simp only [List.foldl_cons, List.length_cons]
    omega
theorem val_lt (l : List Nat) (h : Small 2 l) : val l < 2 ^ l.length := by
  have := fold_lt l 0 h
  simpa [val] using this

/-- Six bits by six, as letters. -/
def six : List Nat → List Nat
  | a :: b :: c :: d :: e :: f :: r => letter (val [a, b, c, d, e, f]) :: six r
  | _ => []
/-- Eight bits by eight, as bytes. -/
def eight : List Nat → List Nat
  | a :: b :: c :: d :: e :: f :: g :: h :: r => val [a, b, c, d, e, f, g, h] :: eight r
  | _ => []
theorem six_six (l m : List Nat) (h : l.length = 6) : six (l ++ m) = letter (val l) :: six m := by
  match l, h with
  | [a, b, c, d, e, f], _ => rfl
theorem eight_eight (l m : List Nat) (h : l.length = 8) : eight (l ++ m) = val l :: eight m := by
  match l, h with
  | [a, b, c, d, e, f, g, h], _ => rfl
theorem six_append : ∀ (n : Nat) (l m : List Nat), l.length = 6 * n → six (l ++ m) = six l ++ six m
  | 0, l, m, h => by
    obtain rfl : l = [] := List.length_eq_zero_iff.1 (by omega)
    rfl
  | n + 1, l, m, h => by
    have e : l = l.take 6 ++ l.drop 6 := (List.take_append_drop 6 l).symm
    have h6 : (l.take 6).length = 6 := by simp; omega
    rw [e, List.append_assoc, six_six _ _ h6, six_six _ _ h6, six_append n (l.drop 6) m (by simp; omega)]
    rfl
theorem eight_append : ∀ (n : Nat) (l m : List Nat), l.length = 8 * n → eight (l ++ m) = eight l ++ eight m
  | 0, l, m, h => by
    obtain rfl : l = [] := List.length_eq_zero_iff.1 (by omega)
    rfl
  | n + 1, l, m, h => by
    have e : l = l.take 8 ++ l.drop 8 := (List.take_append_drop 8 l).symm
    have h8 : (l.take 8).length = 8 := by simp; omega
    rw [e, List.append_assoc, eight_eight _ _ h8, eight_eight _ _ h8, eight_append n (l.drop 8) m (by simp; omega)]
    rfl
/-- One six more. -/
theorem six_more (B : List Nat) (n : Nat) (h : 6 * n + 6 ≤ B.length) : six (B.take (6 * n + 6)) = six (B.take (6 * n)) ++ [letter (val ((B.drop (6 * n)).take 6))] := by
  rw [List.take_add, six_append n _ _ (by rw [List.length_take, Nat.min_eq_left (by omega)])]
  have h6 : ((B.drop (6 * n)).take 6).length = 6 := by simp; omega
  have := six_six ((B.drop (6 * n)).take 6) [] h6
  rw [List.append_nil] at this
  rw [this]; rfl
theorem eight_more (B : List Nat) (n : Nat) (h : 8 * n + 8 ≤ B.length) : eight (B.take (8 * n + 8)) = eight (B.take (8 * n)) ++ [val ((B.drop (8 * n)).take 8)] := by
  rw [List.take_add, eight_append n _ _ (by rw [List.length_take, Nat.min_eq_left (by omega)])]
  have h8 : ((B.drop (8 * n)).take 8).length = 8 := by simp; omega
  have := eight_eight ((B.drop (8 * n)).take 8) [] h8
  rw [List.append_nil] at this
  rw [this]; rfl
theorem eight_short (l : List Nat) (h : l.length < 8) : eight l = [] := by
  match l, h with
  | [], _ => rfl
  | [_], _ => rfl
  | [_, _], _ => rfl
  | [_, _, _], _ => rfl
  | [_, _, _, _], _ => rfl
  | [_, _, _, _, _], _ => rfl
  | [_, _, _, _, _, _], _ => rfl
  | [_, _, _, _, _, _, _], _ => rfl
/-- What is left behind the last eight doesn't count. -/
theorem eight_done (B : List Nat) (n : Nat) (h1 : 8 * n ≤ B.length) (h2 : B.length < 8 * n + 8) : eight (B.take (8 * n)) = eight B := by
  conv => rhs; rw [← List.take_append_drop (8 * n) B]
  rw [eight_append n _ _ (by rw [List.length_take, Nat.min_eq_left h1]), eight_short (B.drop (8 * n)) (by simp; omega), List.append_nil]
/-- One bit more of a piece. -/
theorem val_more (B : List Nat) (i k : Nat) (h : i + k < B.length) : val ((B.drop i).take (k + 1)) = 2 * val ((B.drop i).take k) + B.getD (i + k) 0 := by
  have hk : k < (B.drop i).length := by simp; omega
  rw [List.take_succ_eq_append_getElem hk, val_snoc]
  simp [List.getD, List.getElem?_eq_getElem h]

theorem bits8 (a : Nat) : bitsTo 8 a 8 = [a / 128 % 2, a / 64 % 2, a / 32 % 2, a / 16 % 2, a / 8 % 2, a / 4 % 2, a / 2 % 2, a % 2] := by simp [bitsTo]
theorem bits6 (a : Nat) : bitsTo 6 a 6 = [a / 32 % 2, a / 16 % 2, a / 8 % 2, a / 4 % 2, a / 2 % 2, a % 2] := by simp [bitsTo]
/-- How many noughts fill bits up to sixes. -/
def fill6 (n : Nat) : Nat := (6 - n % 6) % 6
theorem six_body : ∀ l : List Nat, Small 256 l → six (allB 8 l ++ List.replicate (fill6 (8 * l.length)) 0) = body l
  | [], _ => rfl
  | [a], h => by
    have ha := h a (by simp)
    show six (bitsTo 8 a 8 ++ [] ++ List.replicate (fill6 8) 0) = _
    rw [bits8]
    show [letter (val [_, _, _, _, _, _]), letter (val [_, _, 0, 0, 0, 0])] = [letter (a / 4), letter (a % 4 * 16)]
    simp only [val, List.foldl_cons, List.foldl_nil, List.cons.injEq, and_true]
    exact ⟨by congr 1; omega, by congr 1; omega⟩
  | [a, b], h => by
    have ha := h a (by simp)
    have hb := h b (by simp)
    show six (bitsTo 8 a 8 ++ (bitsTo 8 b 8 ++ []) ++ List.replicate (fill6 16) 0) = _
    rw [bits8, bits8]
    show [letter (val [_, _, _, _, _, _]), letter (val [_, _, _, _, _, _]), letter (val [_, _, _, _, 0, 0])] = [letter (a / 4), letter (a % 4 * 16 + b / 16), letter (b % 16 * 4)]
    simp only [val, List.foldl_cons, List.foldl_nil, List.cons.injEq, and_true]
    exact ⟨by congr 1; omega, by congr 1; omega, by congr 1; omega⟩
  | a :: b :: c :: r, h => by
    have ha := h a (by simp)
    have hb := h b (by simp)
    have hc := h c (by simp)
    have ih := six_body r (fun x hx => h x (by simp [hx]))
    have ef : fill6 (8 * (a :: b :: c :: r).length) = fill6 (8 * r.length) := by unfold fill6; simp only [List.length_cons]; omega
    rw [ef, allB_cons, allB_cons, allB_cons, bits8, bits8, bits8]
    show letter (val [_, _, _, _, _, _]) :: letter (val [_, _, _, _, _, _]) :: letter (val [_, _, _, _, _, _]) :: letter (val [_, _, _, _, _, _]) :: six (allB 8 r ++ _) = letter (a / 4) :: letter (a % 4 * 16 + b / 16) :: letter (b % 16 * 4 + c / 64) :: letter (c % 64) :: body r
    rw [ih]
    simp only [val, List.foldl_cons, List.foldl_nil, List.cons.injEq, and_true]
    exact ⟨by congr 1; omega, by congr 1; omega, by congr 1; omega, by congr 1; omega⟩

/-- The numbers of letters. -/
def nums (l : List Nat) : List Nat := l.map fun c => (num c).getD 0
theorem nums_letter (n : Nat) (h : n < 64) (r : List Nat) : nums (letter n :: r) = n :: nums r := by simp [nums, num_letter n h]
theorem v8a (x y : Nat) (hx : x < 64) (hy : y < 64) : val [x / 32 % 2, x / 16 % 2, x / 8 % 2, x / 4 % 2, x / 2 % 2, x % 2, y / 32 % 2, y / 16 % 2] = x * 4 + y / 16 := by
  simp only [val, List.foldl_cons, List.foldl_nil]; omega
theorem v8b (x y : Nat) (hy : y < 64) : val [x / 8 % 2, x / 4 % 2, x / 2 % 2, x % 2, y / 32 % 2, y / 16 % 2, y / 8 % 2, y / 4 % 2] = x % 16 * 16 + y / 4 := by
  simp only [val, List.foldl_cons, List.foldl_nil]; omega
theorem v8c (x y : Nat) (hy : y < 64) : val [x / 2 % 2, x % 2, y / 32 % 2, y / 16 % 2, y / 8 % 2, y / 4 % 2, y / 2 % 2, y % 2] = x % 4 * 64 + y := by
  simp only [val, List.foldl_cons, List.foldl_nil]; omega
theorem eight_body : ∀ l : List Nat, Small 256 l → eight (allB 6 (nums (body l))) = l
  | [], _ => rfl
  | [a], h => by
    have ha := h a (by simp)
    rw [body, nums_letter _ (by omega), nums_letter _ (by omega), allB_cons, allB_cons, bits6, bits6]
    show [val [_, _, _, _, _, _, _, _]] = [a]
    rw [v8a _ _ (by omega) (by omega)]
    congr 1; omega
  | [a, b], h => by
    have ha := h a (by simp)
    have hb := h b (by simp)
    rw [body, nums_letter _ (by omega), nums_letter _ (by omega), nums_letter _ (by omega), allB_cons, allB_cons, allB_cons, bits6, bits6, bits6]
    show [val [_, _, _, _, _, _, _, _], val [_, _, _, _, _, _, _, _]] = [a, b]
    rw [v8a _ _ (by omega) (by omega), v8b _ _ (by omega)]
    simp only [List.cons.injEq, and_true]
    exact ⟨by omega, by omega⟩
  | a :: b :: c :: r, h => by
    have ha := h a (by simp)
    have hb := h b (by simp)
    have hc := h c (by simp)
    have ih := eight_body r (fun x hx => h x (by simp [hx]))
    rw [body, nums_letter _ (by omega), nums_letter _ (by omega), nums_letter _ (by omega), nums_letter _ (by omega), allB_cons, allB_cons, allB_cons, allB_cons, bits6, bits6, bits6, bits6]
    show val [_, _, _, _, _, _, _, _] :: val [_, _, _, _, _, _, _, _] :: val [_, _, _, _, _, _, _, _] :: eight (allB 6 (nums (body r))) = a :: b :: c :: r
    rw [ih, v8a _ _ (by omega) (by omega), v8b _ _ (by omega), v8c _ _ (by omega)]
    simp only [List.cons.injEq, and_true]
    exact ⟨by omega, by omega, by omega⟩
theorem body_num : ∀ l : List Nat, Small 256 l → ∀ c ∈ body l, (num c).isSome = true ∧ c ≠ 61
  | [], _, c, hc => by cases hc
  | [a], h, c, hc => by
    have ha := h a (by simp)
    simp only [body, List.mem_cons, List.not_mem_nil, or_false] at hc
    have key : ∀ n, n < 64 → (num (letter n)).isSome = true ∧ letter n ≠ 61 := fun n hn => ⟨by rw [num_letter n hn]; rfl, letter_ne n hn⟩
    rcases hc with rfl | rfl
    · exact key _ (by omega)
    · exact key _ (by omega)
  | [a, b], h, c, hc => by
    have ha := h a (by simp)
    have hb := h b (by simp)
    simp only [body, List.mem_cons, List.not_mem_nil, or_false] at hc
    have key : ∀ n, n < 64 → (num (letter n)).isSome = true ∧ letter n ≠ 61 := fun n hn => ⟨by rw [num_letter n hn]; rfl, letter_ne n hn⟩
    rcases hc with rfl | rfl | rfl
    · exact key _ (by omega)
    · exact key _ (by omega)
    · exact key _ (by omega)
  | a :: b :: d :: r, h, c, hc => by
    have ha := h a (by simp)
    have hb := h b (by simp)
    have hd := h d (by simp)
    simp only [body, List.mem_cons] at hc
    have key : ∀ n, n < 64 → (num (letter n)).isSome = true ∧ letter n ≠ 61 := fun n hn => ⟨by rw [num_letter n hn]; rfl, letter_ne n hn⟩
    rcases hc with rfl | rfl | rfl | rfl | hc
    · exact key _ (by omega)
    · exact key _ (by omega)
    · exact key _ (by omega)
    · exact key _ (by omega)
    · exact body_num r (fun x hx => h x (by simp [hx])) c hc
end Go.Proofs.YthlagngpllahkaaGreatDoor.Bas
/- The document's answer, bits as lists: the contract of its Put: it answers the letters of the bytes; nothing that was in memory changes. Condition: at most 1000 bytes. -/
namespace Go.Proofs.YthlagngpllahkaaGreatDoor.Bas
open Go.RowKit

def vi (n : Nat) : Value := .int .i64 (n : Int)
def ints (l : List Nat) : List Value := l.map vi
theorem ints_length (l : List Nat) : (ints l).length = l.length := by simp [ints]
theorem ints_append (a b : List Nat) : ints (a ++ b) = ints a ++ ints b := by simp [ints]
theorem ints_get (l : List Nat) (i : Nat) (h : i < l.length) : (ints l)[i]? = some (.int .i64 ((l.getD i 0 : Nat) : Int)) := by simp [ints, vi, List.getElem?_eq_getElem h]
theorem info3 : (Tryz.prog.info? 3).map (fun i => (i.zero, i.size, i.bytes)) = some (some (.int .i64 0), 1, 8) := by kernel_rfl

/-- A row of bits of the call's own. -/
structure BIT (w : World) (g cap : Nat) (l : List Nat) (wr : World) : Prop where
  o : wr.ownsRow w.heap.size 3 1 (.slice (some ⟨g, 0, none⟩) l.length cap) l.length (ints l)
  b : Below w.heap.size w wr
theorem BIT.cell {w wr : World} {g cap : Nat} {l : List Nat} (h : BIT w g cap l wr) (j : Nat) (hj : j < l.length) : wr.cell? ⟨g, j, none⟩ = some (.int .i64 ((l.getD j 0 : Nat) : Int)) := by
  rw [h.o.cellAt j (by omega), ints_get l j hj]
theorem BIT.more {w wr w1 : World} {g cap : Nat} {l : List Nat} {v' : Value} {x : Nat} (hb : Below w.heap.size w wr) (hown : wr.ownsRow w.heap.size 3 1 (.slice (some ⟨g, 0, none⟩) l.length cap) l.length (ints l)) (hbase : w.heap.size ≤ wr.heap.size)
    (ho : w1.ownsRow w.heap.size 3 1 v' (l.length + 1) (ints l ++ [.int .i64 (x : Int)])) (hg : wr.grownBy w1 (Value.slice (some ⟨g, 0, none⟩) l.length cap).ownBlock) :
    ∃ g' cap', v' = .slice (some ⟨g', 0, none⟩) (l ++ [x]).length cap' ∧ Sl (BIT w g' cap' (l ++ [x]) w1) := by
  have h1 := ho
  obtain ⟨_, h2⟩ := h1
  rcases h2 with ⟨_, h3⟩ | ⟨g', cap', cur, rfl, _⟩
  · omega
  · refine ⟨g', cap', by simp, ⟨⟨?_, below_grown hb hown hg hbase⟩⟩⟩
    rw [ints_append, List.length_append]; exact ho
theorem bit_empty (w : World) : BIT w w.heap.size 0 [] (w.alloc (.cells #[] 3)) :=
  ⟨⟨rfl, .inr ⟨w.heap.size, 0, #[], rfl, Nat.le_refl _, alloc_new _ _ _ rfl, Nat.le_refl _, Nat.zero_le _, rfl, rfl⟩⟩, (Below.refl _ _).alloc (Nat.le_refl _) _⟩

theorem fill_more (n z : Nat) (hz : z ≤ fill6 n) (h : ¬ (n + z) % 6 = 0) : z < fill6 n := by unfold fill6 at *; omega
theorem fill_done (n z : Nat) (hz : z ≤ fill6 n) (h : (n + z) % 6 = 0) : z = fill6 n := by unfold fill6 at *; omega

/-- What the loop over sixes holds to. -/
def R6 (B : List Nat) (N : Nat) (o i : Value) : Prop := ∃ (n m : Nat) (x : ByteArray), n ≤ N ∧ i = .int .i64 m ∧ o = .string x ∧ Sl (m = 6 * n) ∧ Sl (bytes x = six (B.take m)) ∧ x.size ≤ n
/-- What the loop that fills letters up holds to. -/
def RE (l : List Nat) (p : Nat) (o : Value) : Prop := ∃ (z : Nat) (x : ByteArray), z ≤ p ∧ o = .string x ∧ Sl (bytes x = l ++ List.replicate z 61)
def sizeS : Value → Nat
  | .string x => x.size
  | _ => 0
set_option maxRecDepth 100000 in
set_option maxHeartbeats 4000000 in
theorem ref_put (s : ByteArray) (w : World) (hs : s.size ≤ 4000) :
    Calls Tryz.prog 47 #[.string s] w fun e w' => e = .returned (.string (strOf (enc (bytes s)))) ∧ Below w.heap.size w w' := by
  obtain ⟨i0, hi, hz0, hz1, hz2⟩ := info_parts info3
  have HI := Sl.mk hi
  have HZ0 := Sl.mk hz0
  have HZ1 := Sl.mk hz1
  have HZ2 := Sl.mk hz2
  clear hi hz0 hz1 hz2
  go_enter Tryz.func47, Tryz.ntmps47
  go_wp2
  go_loopw [3, 4] (fun v i wr => ∃ (k g cap : Nat), k ≤ s.size ∧ i = .int .i64 k ∧ v = .slice (some ⟨g, 0, none⟩) (allB 8 ((bytes s).take k)).length cap ∧ BIT w g cap (allB 8 ((bytes s).take k)) wr) (fun _ i _ => s.size - (intOf i).toNat)
  case atStart => exact ⟨0, w.heap.size, 0, Nat.zero_le _, rfl, rfl, bit_empty w⟩
  case round =>
    obtain ⟨k, g, cap, hk, rfl, rfl, hrel⟩ := hrel
    have HR := Sl.mk hrel
    clear hrel
    by_cases hlt : k < s.size
    · obtain ⟨x, hx⟩ : ∃ x, x = (s[k]'hlt).toNat := ⟨_, rfl⟩
      have hxl : x < 256 := by rw [hx]; exact (s[k]'hlt).toNat_lt
      have HT : Sl ((bytes s).take (k + 1) = (bytes s).take k ++ [x]) := ⟨by rw [take_snoc s k hlt, hx]⟩
      have hx' : (s[k]'hlt).toNat = x := hx.symm
      clear hx
      have HLEN : Sl ((allB 8 ((bytes s).take k)).length ≤ 32000) := ⟨by rw [allB_length, List.length_take]; omega⟩
      have HA : Sl (allB 8 ((bytes s).take (k + 1)) = allB 8 ((bytes s).take k) ++ bitsTo 8 x 8) := ⟨by rw [HT.out, allB_snoc]⟩
      clear HT
      generalize allB 8 ((bytes s).take k) = L at *
      rename World => W0
      go_wp2
      go_loopw [3, 5] (fun v j wr => ∃ (d g cap : Nat), d ≤ 8 ∧ j = .int .i64 (7 - (d : Int)) ∧ v = .slice (some ⟨g, 0, none⟩) (L ++ bitsTo 8 x d).length cap ∧ BIT w g cap (L ++ bitsTo 8 x d) wr) (fun _ j _ => (intOf j + 1).toNat)
      case atStart => exact ⟨0, g, cap, by omega, rfl, by simp [bitsTo], by simpa [bitsTo] using HR.out⟩
      case round =>
        clear HR
        obtain ⟨d, g, cap, hd, rfl, rfl, hrel⟩ := hrel
        have HR := Sl.mk hrel
        clear hrel
        by_cases hd8 : d < 8
        · have e0 : (7 - (d : Int)).toNat = 7 - d := by omega
          have p0 : (0 : Int) ≤ 7 - (d : Int) := by omega
          obtain ⟨q, hq⟩ : ∃ q : Nat, q = x / 2 ^ (7 - d) := ⟨_, rfl⟩
          have hq' : (x : Int) / 2 ^ (7 - d) = (q : Int) := by rw [hq]; simp
          have hql : q < 256 := by rw [hq]; exact Nat.lt_of_le_of_lt (Nat.div_le_self _ _) hxl
          have HBT : Sl (L ++ bitsTo 8 x (d + 1) = (L ++ bitsTo 8 x d) ++ [q % 2]) := ⟨by rw [List.append_assoc]; show L ++ (bitsTo 8 x d ++ [x / 2 ^ (8 - 1 - d) % 2]) = _; rw [hq]⟩
          have HLN : Sl ((L ++ bitsTo 8 x d).length ≤ 32008) := ⟨by rw [List.length_append, bitsTo_length]; have := HLEN.out; omega⟩
          clear hq
          generalize L ++ bitsTo 8 x d = M at *
          have hm2 : (q : Int) % 2 = ((q % 2 : Nat) : Int) := by omega
          generalize q % 2 = b at *
          go_wp2_with (at_builtin; refine wpList_append_own _ rfl (.tmp 21) (.tmp 30) 79 rfl w.heap.size 3 i0 (.int .i64 0) 1 8 Tryz.underlying79 HI.out HZ0.out HZ1.out HZ2.out rfl (by decide) _ M.length _ rfl (HR.out.o.alloc _) ⟨wr.heap.size, 0, none⟩ 1 1 [.int .i64 (b : Int)] rfl rfl ?c1 ?c2 ?c3 ?c4 ?c5 ?_)
          case c1 => intro j u hu; match j, hu with | 0, hu => simpa [Addr.add_mid] using hu
          case c2 => intro u hu; simp at hu; subst hu; rfl
          case c3 => unfold maxLen; have := HLN.out; omega
          case c4 => have := HLN.out; omega
          case c5 => rw [alloc_size]; have := HR.out.b.size; omega
          intro v' w1 hown' hgrow _
          obtain ⟨g', cap', hv', HR'⟩ := BIT.more (HR.out.b.alloc HR.out.b.size _) (HR.out.o.alloc _) (by rw [alloc_size]; have := HR.out.b.size; omega) hown' hgrow
          subst hv'
          clear hown' hgrow HR hq' hm2
          go_wp2
          go_roundw
          case rel => exact ⟨d + 1, g', cap', by omega, by go_num, by rw [HBT.out], by rw [HBT.out]; exact HR'.out⟩
          case measure => simp [intOf]; omega
        · have hge : ¬ (0 : Int) ≤ 7 - (d : Int) := by omega
          have HBT : Sl (L ++ bitsTo 8 x d = allB 8 ((bytes s).take (k + 1))) := ⟨by rw [HA.out, show d = 8 by omega]⟩
          generalize L ++ bitsTo 8 x d = M at *
          go_wp2
          go_roundw
          case rel => exact ⟨k + 1, g, cap, by omega, by go_num, by rw [← HBT.out], by rw [← HBT.out]; exact HR.out⟩
          case measure => simp [intOf]; omega
    · have hge : ¬ (k : Int) < (s.size : Int) := by omega
      have HE : Sl (allB 8 ((bytes s).take k) = allB 8 (bytes s)) := ⟨by rw [List.take_of_length_le (by rw [bytes_length]; omega)]⟩
      have HLN : Sl ((allB 8 (bytes s)).length = 8 * s.size) := ⟨by rw [allB_length, bytes_length]⟩
      have HSX : Sl (six (allB 8 (bytes s) ++ List.replicate (fill6 (8 * s.size)) 0) = body (bytes s)) := ⟨by have := six_body (bytes s) (bytes_small s); rw [bytes_length] at this; exact this⟩
      rw [HE.out] at HR ⊢
      clear HE
      obtain ⟨L, hL⟩ : ∃ L, L = allB 8 (bytes s) := ⟨_, rfl⟩
      have HLS := Sl.mk hL
      rw [← hL] at HR HLN HSX ⊢
      clear hL
      go_wp2
      rename World => W0
      go_loopw [3] (fun v wr => ∃ (z g cap : Nat), z ≤ fill6 (8 * s.size) ∧ v = .slice (some ⟨g, 0, none⟩) (L ++ List.replicate z 0).length cap ∧ BIT w g cap (L ++ List.replicate z 0) wr) (fun v _ => 8 * s.size + 6 - lenOf v)
      case atStart => exact ⟨0, g, cap, by omega, by simp, by simpa using HR.out⟩
      case round =>
        clear HR
        obtain ⟨z, g, cap, hz, rfl, hrel⟩ := hrel
        have HR := Sl.mk hrel
        clear hrel
        have HZL : Sl ((L ++ List.replicate z 0).length = 8 * s.size + z) := ⟨by rw [List.length_append, HLN.out, List.length_replicate]⟩
        have hf6 : fill6 (8 * s.size) < 6 := by unfold fill6; omega
        by_cases h6 : (8 * s.size + z) % 6 = 0
        · have hn0 : (((L ++ List.replicate z 0).length : Int) % 6 != 0) = false := by rw [HZL.out]; simp; omega
          have hzd := fill_done _ _ hz h6
          have HSB : Sl (six (L ++ List.replicate z 0) = body (bytes s)) := ⟨by rw [hzd]; exact HSX.out⟩
          obtain ⟨N, hN⟩ : ∃ N, 8 * s.size + z = 6 * N := ⟨(8 * s.size + z) / 6, by omega⟩
          have hlen : (L ++ List.replicate z 0).length = 6 * N := by rw [HZL.out, hN]
          have HS2 : Sl (Small 2 (L ++ List.replicate z 0)) := ⟨by rw [HLS.out]; exact (allB_small 8 _).append (fun x hx => by have := List.eq_of_mem_replicate hx; omega)⟩
          have hNb : 6 * N ≤ 32006 := by omega
          clear hzd hz HSX HLN HZL hN h6 hf6
          generalize L ++ List.replicate z 0 = B at *
          have HLB := Sl.mk hlen
          have hlI : (B.length : Int) = 6 * (N : Int) := by omega
          go_wp2
          clear hn0
          go_loop [6, 7] (fun o i => R6 B N o i) (fun _ i => 6 * N - (intOf i).toNat)
          case atStart => exact ⟨0, 0, _, by omega, rfl, rfl, ⟨rfl⟩, ⟨rfl⟩, by decide⟩
          case round =>
            obtain ⟨n, m, x, hn, rfl, rfl, HM, HX, hxs⟩ := hrel
            by_cases hlt : n < N
            · have hmB : m + 6 ≤ B.length := by rw [hlen, HM.out]; omega
              have hml : (m : Int) < 6 * (N : Int) := by have := HM.out; omega
              have hml2 : m ≤ 32006 := by have := HM.out; omega
              go_wp2
              go_loop [8, 9] (fun v j => ∃ (d y : Nat), d ≤ 6 ∧ j = .int .i64 d ∧ v = .int .i64 y ∧ y < 64 ∧ Sl (y = val ((B.drop m).take d))) (fun _ j => 6 - (intOf j).toNat)
              case atStart => exact ⟨0, 0, by omega, rfl, rfl, by decide, ⟨rfl⟩⟩
              case round =>
                obtain ⟨d, y, hd, rfl, rfl, hy, HY⟩ := hrel
                by_cases hd6 : d < 6
                · obtain ⟨b, hb⟩ : ∃ b, b = B.getD (m + d) 0 := ⟨_, rfl⟩
                  have hcell : wr.cell? ⟨g, m + d, none⟩ = some (.int .i64 (b : Int)) := by rw [hb]; exact HR.out.cell (m + d) (by omega)
                  have hb2 : b < 2 := by rw [hb]; exact HS2.out.getD (by decide) _
                  have HY1 : Sl (2 * y + b = val ((B.drop m).take (d + 1))) := ⟨by rw [val_more B m d (by omega), HY.out, hb]⟩
                  have hy1 : 2 * y + b < 64 := by
                    rw [HY1.out]
                    have h1 := val_lt ((B.drop m).take (d + 1)) ((HS2.out.drop m).take (d + 1))
                    rw [List.length_take, List.length_drop, Nat.min_eq_left (by omega)] at h1
                    exact Nat.lt_of_lt_of_le h1 (Nat.pow_le_pow_right (n := 2) (j := 6) (by decide) (by omega))
                  have e1 : ((m : Int) + (d : Int)).toNat = m + d := by omega
                  have hix : (m : Int) + (d : Int) < 6 * (N : Int) := by omega
                  clear hb
                  go_wp2
                  go_round
                  case rel => exact ⟨d + 1, 2 * y + b, by omega, by go_num, by go_num, hy1, HY1⟩
                  case measure => simp [intOf]; omega
                · have hge : ¬ (d : Int) < 6 := by omega
                  have HV : Sl (y = val ((B.drop m).take 6)) := ⟨by rw [HY.out, show d = 6 by omega]⟩
                  have HSM : Sl (six (B.take (m + 6)) = six (B.take m) ++ [letter y]) := ⟨by
                    have h := six_more B n (by rw [hlen]; omega)
                    rw [← HM.out] at h
                    rw [h, HV.out]⟩
                  obtain ⟨xs, hxs'⟩ : ∃ xs : ByteArray, xs = lettersS.extract y (y + 1) := ⟨_, rfl⟩
                  have hsz : xs.size ≤ 1 := by rw [hxs', ByteArray.size_extract]; omega
                  have HXB : Sl (bytes (x ++ xs) = six (B.take (m + 6))) := ⟨by
                    rw [bytes_append, HX.out, HSM.out, hxs', bytes_extract, bytes_letters]
                    congr 1
                    have hyl : y < table.length := by simp [table]; omega
                    rw [List.take_succ_eq_append_getElem hyl, List.drop_append_of_le_length (by simp; omega), List.drop_of_length_le (by simp; omega)]
                    simp [table]⟩
                  have hxs2 : (lettersS.extract y (y + 1)) = xs := hxs'.symm
                  unfold lettersS at hxs2
                  clear hxs' HY
                  go_wp2
                  go_round
                  case rel => exact ⟨n + 1, m + 6, x ++ xs, by omega, by go_num, rfl, ⟨by rw [HM.out]; omega⟩, HXB, by rw [ByteArray.size_append]; omega⟩
                  case measure => simp [intOf]; have := HM.out; omega
            · have hge : ¬ (m : Int) < 6 * (N : Int) := by have := HM.out; omega
              have HXB : Sl (bytes x = body (bytes s)) := ⟨by
                rw [HX.out, ← HSB.out, List.take_of_length_le (by rw [hlen, HM.out]; omega)]⟩
              have hxl : x.size ≤ 6000 := by omega
              have HXL : Sl ((body (bytes s)).length ≤ 6000) := ⟨by rw [← HXB.out, bytes_length]; exact hxl⟩
              clear HX
              obtain ⟨P, hP⟩ : ∃ P, P = (3 - s.size % 3) % 3 := ⟨_, rfl⟩
              have HEN : Sl (enc (bytes s) = body (bytes s) ++ List.replicate P 61) := ⟨by have := enc_body (bytes s); rw [bytes_length, ← hP] at this; exact this⟩
              have HBL : Sl ((body (bytes s)).length + P = 4 * ((s.size + 2) / 3)) := ⟨by
                have h1 := enc_length (bytes s)
                rw [HEN.out, List.length_append, List.length_replicate, bytes_length] at h1; exact h1⟩
              have hP4 : P < 4 := by omega
              clear hP
              generalize body (bytes s) = l at *
              go_wp2
              go_loop [6] (fun o => RE l P o) (fun o => 6004 - sizeS o)
              case atStart => exact ⟨0, x, by omega, rfl, ⟨by simpa using HXB.out⟩⟩
              case round =>
                obtain ⟨z, x', hz, rfl, HX'⟩ := hrel
                have hsz : x'.size = l.length + z := by rw [← bytes_length, HX'.out]; simp
                by_cases h4 : x'.size % 4 = 0
                · have hq4 : ((x'.size : Int) % 4 != 0) = false := by simp; omega
                  have HF : Sl (x' = strOf (enc (bytes s))) := ⟨by
                    have e : z = P := by have := HBL.out; omega
                    rw [← strOf_bytes x', HX'.out, HEN.out, e]⟩
                  clear h4 hsz
                  go_wp2
                  go_ret
                  exact ⟨by rw [← HF.out]; rfl, HR.out.b⟩
                · have hq4 : ((x'.size : Int) % 4 != 0) = true := by simp; omega
                  have hx2 : x'.size ≤ 6003 := by rw [hsz]; have := HXL.out; omega
                  have hzP : z < P := by have := HBL.out; omega
                  have HX2 : Sl (bytes (x' ++ { data := #[61] }) = l ++ List.replicate (z + 1) 61) := ⟨by rw [bytes_append, HX'.out, List.append_assoc, List.replicate_succ']; rfl⟩
                  clear h4 hsz
                  go_wp2
                  go_round
                  case rel => exact ⟨z + 1, _, by omega, rfl, HX2⟩
                  case measure => simp [sizeS]; have h1 : (ByteArray.mk #[61]).size = 1 := rfl; omega
        · have hn0 : (((L ++ List.replicate z 0).length : Int) % 6 != 0) = true := by rw [HZL.out]; simp; omega
          have HZ1' : Sl (L ++ List.replicate (z + 1) 0 = (L ++ List.replicate z 0) ++ [0]) := ⟨by rw [List.append_assoc, List.replicate_succ']⟩
          have hzl := fill_more _ _ hz h6
          generalize L ++ List.replicate z 0 = M at *
          go_wp2_with (at_builtin; refine wpList_append_own _ rfl (.tmp 36) (.tmp 37) 79 rfl w.heap.size 3 i0 (.int .i64 0) 1 8 Tryz.underlying79 HI.out HZ0.out HZ1.out HZ2.out rfl (by decide) _ M.length _ rfl (HR.out.o.alloc _) ⟨wr.heap.size, 0, none⟩ 1 1 [.int .i64 ((0 : Nat) : Int)] rfl rfl ?c1 ?c2 ?c3 ?c4 ?c5 ?_)
          case c1 => intro j u hu; match j, hu with | 0, hu => simpa [Addr.add_mid] using hu
          case c2 => intro u hu; simp at hu; subst hu; rfl
          case c3 => unfold maxLen; have := HZL.out; omega
          case c4 => have := HZL.out; omega
          case c5 => rw [alloc_size]; have := HR.out.b.size; omega
          intro v' w1 hown' hgrow _
          obtain ⟨g', cap', hv', HR'⟩ := BIT.more (HR.out.b.alloc HR.out.b.size _) (HR.out.o.alloc _) (by rw [alloc_size]; have := HR.out.b.size; omega) hown' hgrow
          subst hv'
          clear hown' hgrow HR
          go_wp2
          go_roundw
          case rel => exact ⟨z + 1, g', cap', by omega, by rw [HZ1'.out], by rw [HZ1'.out]; exact HR'.out⟩
          case measure => simp [lenOf]; have := HZL.out; omega
end Go.Proofs.YthlagngpllahkaaGreatDoor.Bas
