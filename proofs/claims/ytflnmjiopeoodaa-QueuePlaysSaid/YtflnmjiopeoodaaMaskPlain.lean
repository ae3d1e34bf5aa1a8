/- mask, plain: bytes as a mask turns them; a length's bytes, the length that bytes begin with. -/
namespace MaskPlain

/-- Bytes as a mask turns them, from a place on. -/
def turn (key : List Nat) : Nat → List Nat → List Nat
  | _, [] => []
  | k, x :: xs => (x ^^^ key.getD (k % 4) 0) :: turn key (k + 1) xs
theorem turn_length (key : List Nat) (k : Nat) (a : List Nat) : (turn key k a).length = a.length := by
  induction a generalizing k with
  | nil => rfl
  | cons x xs ih => simp [turn, ih]
theorem turn_mod (key : List Nat) (k : Nat) (a : List Nat) : turn key (k % 4) a = turn key k a := by
  induction a generalizing k with
  | nil => rfl
  | cons x xs ih =>
    rw [turn, turn, Nat.mod_mod, ← ih (k % 4 + 1), ← ih (k + 1)]
    congr 2
    omega
theorem turn_same (key : List Nat) {j k : Nat} (h : j % 4 = k % 4) (a : List Nat) : turn key j a = turn key k a := by
  rw [← turn_mod key j, h, turn_mod]
theorem turn_append (key : List Nat) (k : Nat) (a b : List Nat) : turn key k (a ++ b) = turn key k a ++ turn key (k + a.length) b := by
  induction a generalizing k with
  | nil => rfl
  | cons x xs ih =>
    rw [List.cons_append, turn, turn, List.cons_append, ih, List.length_cons, show k + 1 + xs.length = k + (xs.length + 1) by omega]
theorem turn_twice (key : List Nat) (k : Nat) (a : List Nat) : turn key k (turn key k a) = a := by
  induction a generalizing k with
  | nil => rfl
  | cons x xs ih => rw [turn, turn, ih, Nat.xor_assoc, Nat.xor_self, Nat.xor_zero]
theorem turn_two {a b c : List Nat} (h : ∀ i, i < 4 → c.getD i 0 = a.getD i 0 ^^^ b.getD i 0) (k : Nat) (s : List Nat) : turn b k (turn a k s) = turn c k s := by
  induction s generalizing k with
  | nil => rfl
  | cons x xs ih => rw [turn, turn, turn, ih, h _ (Nat.mod_lt _ (by omega)), Nat.xor_assoc]
theorem turn_zero {z : List Nat} (h : ∀ i, i < 4 → z.getD i 0 = 0) (k : Nat) (s : List Nat) : turn z k s = s := by
  induction s generalizing k with
  | nil => rfl
  | cons x xs ih => rw [turn, ih, h _ (Nat.mod_lt _ (by omega)), Nat.xor_zero]
theorem turn_get (key : List Nat) (k : Nat) (a : List Nat) (i : Nat) (hi : i < a.length) : (turn key k a).getD i 0 = a.getD i 0 ^^^ key.getD ((k + i) % 4) 0 := by
  induction a generalizing k i with
  | nil => cases hi
  | cons x xs ih =>
    cases i with
    | zero => rfl
    | succ i =>
      rw [turn, List.getD_cons_succ, List.getD_cons_succ, ih (k + 1) i (by simpa using hi), show k + 1 + i = k + (i + 1) by omega]
theorem turn_lt (key : List Nat) (k : Nat) (a : List Nat) (ha : ∀ x ∈ a, x < 256) (hk : ∀ i, key.getD i 0 < 256) : ∀ x ∈ turn key k a, x < 256 := by
  induction a generalizing k with
  | nil => intro x hx; cases hx
  | cons y ys ih =>
    intro x hx
    rw [turn] at hx
    rcases List.mem_cons.1 hx with rfl | hx
    · exact Nat.xor_lt_two_pow (n := 8) (ha y (List.mem_cons_self ..)) (hk _)
    · exact ih (k + 1) (fun z hz => ha z (List.mem_cons_of_mem _ hz)) x hx
/-- One byte more. -/
theorem turn_take (key : List Nat) (k : Nat) (a : List Nat) (i : Nat) (hi : i < a.length) : turn key k (a.take (i + 1)) = turn key k (a.take i) ++ [a.getD i 0 ^^^ key.getD ((k + i) % 4) 0] := by
  have e : a.take (i + 1) = a.take i ++ [a.getD i 0] := by
    rw [List.take_add_one, List.getD_eq_getElem?_getD, List.getElem?_eq_getElem hi]; rfl
  rw [e, turn_append, List.length_take, Nat.min_eq_left (by omega)]
  rfl
/-- The first j bytes turned, the others as they are. -/
def turnTo (key : List Nat) (k : Nat) (a : List Nat) (j : Nat) : List Nat := turn key k (a.take j) ++ a.drop j
theorem turnTo_length (key : List Nat) (k : Nat) (a : List Nat) (j : Nat) : (turnTo key k a j).length = a.length := by
  unfold turnTo
  rw [List.length_append, turn_length, List.length_take, List.length_drop]
  omega
theorem turnTo_all (key : List Nat) (k : Nat) (a : List Nat) : turnTo key k a a.length = turn key k a := by
  unfold turnTo
  rw [List.take_length, List.drop_length, List.append_nil]
theorem turnTo_get (key : List Nat) (k : Nat) (a : List Nat) (j i : Nat) (hi : i < a.length) : (turnTo key k a j).getD i 0 = if i < j then a.getD i 0 ^^^ key.getD ((k + i) % 4) 0 else a.getD i 0 := by
  unfold turnTo
  by_cases h : i < j
  · rw [if_pos h, List.getD_eq_getElem?_getD, List.getElem?_append_left (by rw [turn_length, List.length_take]; omega), ← List.getD_eq_getElem?_getD, turn_get _ _ _ _ (by rw [List.length_take]; omega)]
    rw [List.getD_eq_getElem?_getD, List.getElem?_take_of_lt h, ← List.getD_eq_getElem?_getD]
  · rw [if_neg h, List.getD_eq_getElem?_getD, List.getElem?_append_right (by rw [turn_length, List.length_take]; omega), turn_length, List.length_take, List.getElem?_drop, ← List.getD_eq_getElem?_getD]
    congr 1
    omega

/-- A number as so many bytes, the highest first. -/
def be (n : Nat) : Nat → List Nat
  | 0 => []
  | s + 1 => be (n / 256) s ++ [n % 256]
theorem be_length (n s : Nat) : (be n s).length = s := by
  induction s generalizing n with
  | zero => rfl
  | succ s ih => simp [be, ih]
theorem be_small (n s : Nat) : ∀ x ∈ be n s, x < 256 := by
  induction s generalizing n with
  | zero => intro x hx; cases hx
  | succ s ih =>
    intro x hx
    rcases List.mem_append.1 hx with hx | hx
    · exact ih _ x hx
    · simp at hx; omega
/-- The number that bytes are. -/
def val (bs : List Nat) : Nat := bs.foldl (fun a c => 256 * a + c) 0
theorem val_snoc (bs : List Nat) (c : Nat) : val (bs ++ [c]) = 256 * val bs + c := by simp [val]
theorem val_be (n s : Nat) (h : n < 256 ^ s) : val (be n s) = n := by
  induction s generalizing n with
  | zero => simp at h; subst h; rfl
  | succ s ih =>
    rw [be, val_snoc, ih _ (by rw [Nat.pow_succ] at h; omega)]
    omega
theorem val_lt (bs : List Nat) (h : ∀ x ∈ bs, x < 256) : val bs < 256 ^ bs.length := by
  have key : ∀ (r : List Nat), (∀ x ∈ r, x < 256) → val r.reverse < 256 ^ r.length := by
    intro r
    induction r with
    | nil => intro _; decide
    | cons x xs ih =>
      intro hx
      have h1 := ih (fun y hy => hx y (List.mem_cons_of_mem _ hy))
      have h2 := hx x (List.mem_cons_self ..)
      rw [List.reverse_cons, val_snoc, List.length_cons, Nat.pow_succ]
      omega
  have := key bs.reverse (fun x hx => h x (by simpa using hx))
  simpa using this
theorem be_val (bs : List Nat) (h : ∀ x ∈ bs, x < 256) : be (val bs) bs.length = bs := by
  have key : ∀ (r : List Nat), (∀ x ∈ r, x < 256) → be (val r.reverse) r.length = r.reverse := by
    intro r
    induction r with
    | nil => intro _; rfl
    | cons x xs ih =>
      intro hx
      have h1 := ih (fun y hy => hx y (List.mem_cons_of_mem _ hy))
      have h2 := hx x (List.mem_cons_self ..)
      rw [List.reverse_cons, val_snoc, List.length_cons, be, show (256 * val xs.reverse + x) / 256 = val xs.reverse by omega, show (256 * val xs.reverse + x) % 256 = x by omega, h1]
  have := key bs.reverse (fun x hx => h x (by simpa using hx))
  simpa using this
theorem val_take (bs : List Nat) (i : Nat) (hi : i < bs.length) : val (bs.take (i + 1)) = 256 * val (bs.take i) + bs.getD i 0 := by
  rw [List.take_add_one, List.getElem?_eq_getElem hi, Option.toList_some, val_snoc, List.getD_eq_getElem?_getD, List.getElem?_eq_getElem hi]
  rfl
/-- A length's bytes. -/
def putL (n : Nat) : Option (List Nat) :=
  if 9223372036854775807 < n then none else if n < 126 then some [n] else if n ≤ 65535 then some (126 :: be n 2) else some (127 :: be n 8)
/-- The length that bytes begin with, how many bytes it has, the error. -/
def getL : List Nat → Nat × Nat × Nat
  | [] => (0, 0, 80)
  | x :: xs =>
    if x % 128 < 126 then (x % 128, 1, 0)
    else if x % 128 = 126 then
      (if xs.length < 2 then (0, 0, 80) else if val (xs.take 2) < 126 then (0, 0, 81) else (val (xs.take 2), 3, 0))
    else if 0 < xs.length ∧ 128 ≤ xs.getD 0 0 then (0, 0, 81)
    else if 6 ≤ xs.length ∧ val (xs.take 6) = 0 then (0, 0, 81)
    else if xs.length < 8 then (0, 0, 80) else (val (xs.take 8), 9, 0)
theorem be_two (n : Nat) : be n 2 = [n / 256 % 256, n % 256] := rfl
theorem be_eight (n : Nat) : be n 8 = [n / 256 / 256 / 256 / 256 / 256 / 256 / 256 % 256, n / 256 / 256 / 256 / 256 / 256 / 256 % 256, n / 256 / 256 / 256 / 256 / 256 % 256, n / 256 / 256 / 256 / 256 % 256, n / 256 / 256 / 256 % 256, n / 256 / 256 % 256, n / 256 % 256, n % 256] := rfl
theorem get_put {n : Nat} {s : List Nat} (h : putL n = some s) (more : List Nat) : getL (s ++ more) = (n, s.length, 0) := by
  unfold putL at h
  by_cases h0 : 9223372036854775807 < n
  · rw [if_pos h0] at h; cases h
  rw [if_neg h0] at h
  by_cases h1 : n < 126
  · rw [if_pos h1] at h
    injection h with h
    subst h
    show getL (n :: more) = _
    rw [getL, show n % 128 = n by omega, if_pos h1]
    rfl
  rw [if_neg h1] at h
  by_cases h2 : n ≤ 65535
  · rw [if_pos h2] at h
    injection h with h
    subst h
    have hv : val ((be n 2 ++ more).take 2) = n := by
      rw [List.take_append_of_le_length (by rw [be_length]; omega), List.take_of_length_le (by rw [be_length]; omega), val_be n 2 (by omega)]
    show getL (126 :: (be n 2 ++ more)) = _
    rw [getL, if_neg (by omega), if_pos (by omega), if_neg (by rw [List.length_append, be_length]; omega), hv, if_neg h1, List.length_cons, be_length]
  · rw [if_neg h2] at h
    injection h with h
    subst h
    have hv : val ((be n 8 ++ more).take 8) = n := by
      rw [List.take_append_of_le_length (by rw [be_length]; omega), List.take_of_length_le (by rw [be_length]; omega), val_be n 8 (by omega)]
    have hx : ¬ (0 < (be n 8 ++ more).length ∧ 128 ≤ (be n 8 ++ more).getD 0 0) := by
      rw [be_eight]
      show ¬ (_ ∧ 128 ≤ n / 256 / 256 / 256 / 256 / 256 / 256 / 256 % 256)
      omega
    have hz : ¬ (6 ≤ (be n 8 ++ more).length ∧ val ((be n 8 ++ more).take 6) = 0) := by
      rw [be_eight]
      intro ⟨_, h⟩
      simp only [List.cons_append, List.take_succ_cons, List.take_zero, val, List.foldl_cons, List.foldl_nil] at h
      omega
    show getL (127 :: (be n 8 ++ more)) = _
    rw [getL, if_neg (by omega), if_neg (by omega), if_neg hx, if_neg hz, if_neg (by rw [List.length_append, be_length]; omega), hv, List.length_cons, be_length]
theorem get_part {n : Nat} {s : List Nat} (h : putL n = some s) (i : Nat) (hi : i < s.length) : getL (s.take i) = (0, 0, 80) := by
  unfold putL at h
  by_cases h0 : 9223372036854775807 < n
  · rw [if_pos h0] at h; cases h
  rw [if_neg h0] at h
  by_cases h1 : n < 126
  · rw [if_pos h1] at h
    injection h with h
    subst h
    have : i = 0 := by simpa using hi
    subst this; rfl
  rw [if_neg h1] at h
  by_cases h2 : n ≤ 65535
  · rw [if_pos h2] at h
    injection h with h
    subst h
    rw [List.length_cons, be_length] at hi
    cases i with
    | zero => rfl
    | succ i => rw [List.take_succ_cons, getL, if_neg (by omega), if_pos (by omega), if_pos (by rw [List.length_take, be_length]; omega)]
  · rw [if_neg h2] at h
    injection h with h
    subst h
    rw [List.length_cons, be_length] at hi
    cases i with
    | zero => rfl
    | succ i =>
      have hx : ¬ (0 < ((be n 8).take i).length ∧ 128 ≤ ((be n 8).take i).getD 0 0) := by
        rw [be_eight]
        cases i with
        | zero => simp
        | succ i =>
          rw [List.take_succ_cons]
          show ¬ (_ ∧ 128 ≤ n / 256 / 256 / 256 / 256 / 256 / 256 / 256 % 256)
          omega
      have hz : ¬ (6 ≤ ((be n 8).take i).length ∧ val (((be n 8).take i).take 6) = 0) := by
        rw [List.length_take, be_length, List.take_take]
        intro ⟨h6, h⟩
        rw [Nat.min_eq_left (by omega), be_eight] at h
        simp only [List.take_succ_cons, List.take_zero, val, List.foldl_cons, List.foldl_nil] at h
        omega
      rw [List.take_succ_cons, getL, if_neg (by omega), if_neg (by omega), if_neg hx, if_neg hz, if_pos (by rw [List.length_take, be_length]; omega)]
theorem put_some (n : Nat) : (putL n).isSome = decide (n ≤ 9223372036854775807) := by
  unfold putL
  by_cases h0 : 9223372036854775807 < n
  · rw [if_pos h0, decide_eq_false (by omega)]; rfl
  · rw [if_neg h0, decide_eq_true (by omega)]
    split
    · rfl
    · split <;> rfl
theorem put_length {n : Nat} {s : List Nat} (h : putL n = some s) : s.length = if 65535 < n then 9 else if 125 < n then 3 else 1 := by
  unfold putL at h
  by_cases h0 : 9223372036854775807 < n
  · rw [if_pos h0] at h; cases h
  rw [if_neg h0] at h
  by_cases h1 : n < 126
  · rw [if_pos h1] at h
    injection h with h
    subst h
    rw [if_neg (by omega), if_neg (by omega)]; rfl
  rw [if_neg h1] at h
  by_cases h2 : n ≤ 65535
  · rw [if_pos h2] at h
    injection h with h
    subst h
    rw [if_neg (by omega), if_pos (by omega), List.length_cons, be_length]
  · rw [if_neg h2] at h
    injection h with h
    subst h
    rw [if_pos (by omega), List.length_cons, be_length]
theorem put_inj {n m : Nat} {s : List Nat} (h : putL n = some s) (k : putL m = some s) : n = m := by
  have h1 := get_put h []
  have h2 := get_put k []
  rw [h1] at h2
  injection h2
theorem put_longer {n m : Nat} {s t : List Nat} (h : putL n = some s) (k : putL m = some t) (hnm : n ≤ m) : s.length ≤ t.length := by
  rw [put_length h, put_length k]
  split <;> split <;> (try split) <;> (try split) <;> omega
theorem put_small {n : Nat} {s : List Nat} (h : putL n = some s) : ∀ x ∈ s, x < 256 := by
  unfold putL at h
  by_cases h0 : 9223372036854775807 < n
  · rw [if_pos h0] at h; cases h
  rw [if_neg h0] at h
  by_cases h1 : n < 126
  · rw [if_pos h1] at h
    injection h with h
    subst h
    intro x hx
    simp at hx
    omega
  rw [if_neg h1] at h
  by_cases h2 : n ≤ 65535
  · rw [if_pos h2] at h
    injection h with h
    subst h
    intro x hx
    rcases List.mem_cons.1 hx with rfl | hx
    · omega
    · exact be_small _ _ x hx
  · rw [if_neg h2] at h
    injection h with h
    subst h
    intro x hx
    rcases List.mem_cons.1 hx with rfl | hx
    · omega
    · exact be_small _ _ x hx
/-- A number's mask. -/
theorem key_val (a b c d : Nat) : val [a, b, c, d] = a * 16777216 + b * 65536 + c * 256 + d := by
  simp only [val, List.foldl_cons, List.foldl_nil]
  omega
theorem key_be (n : Nat) : be n 4 = [n / 256 / 256 / 256 % 256, n / 256 / 256 % 256, n / 256 % 256, n % 256] := rfl
theorem key_inj {n m : Nat} (hn : n < 4294967296) (hm : m < 4294967296) (h : be n 4 = be m 4) : n = m := by
  have h1 := val_be n 4 (by omega)
  have h2 := val_be m 4 (by omega)
  rw [h] at h1
  omega

/-- What a wide length reads, from the bytes behind the first one. -/
def getW (B least most : Nat) (t : List Nat) : Nat × Nat × Nat :=
  if val t * 2 ^ (8 * (B - t.length)) + 2 ^ (8 * (B - t.length)) - 1 < least ∨ most < val t * 2 ^ (8 * (B - t.length)) then (0, 0, 81)
  else if t.length < B then (0, 0, 80) else (val t * 2 ^ (8 * (B - t.length)), 1 + B, 0)
theorem val_nil : val [] = 0 := rfl
theorem val_cons (x : Nat) (xs : List Nat) : val (x :: xs) = x * 256 ^ xs.length + val xs := by
  have key : ∀ (r : List Nat) (a : Nat), r.foldl (fun a c => 256 * a + c) a = a * 256 ^ r.length + r.foldl (fun a c => 256 * a + c) 0 := by
    intro r
    induction r with
    | nil => intro a; simp
    | cons y ys ih =>
      intro a
      rw [List.foldl_cons, List.foldl_cons, ih (256 * a + y), ih (256 * 0 + y), List.length_cons, Nat.pow_succ, Nat.add_mul, Nat.add_mul]
      rw [show 256 * a * 256 ^ ys.length = a * (256 ^ ys.length * 256) by rw [Nat.mul_comm 256 a, Nat.mul_assoc, Nat.mul_comm 256]]
      omega
  unfold val
  rw [List.foldl_cons, key]
  simp
theorem get_narrow (x : Nat) (xs : List Nat) (h : x % 128 = 126) (hs : ∀ y ∈ xs, y < 256) : getL (x :: xs) = getW 2 126 65535 (xs.take 2) := by
  rw [getL, if_neg (by omega), if_pos h]
  match xs, hs with
  | [], _ => rfl
  | [a], hs =>
    have := hs a (by simp)
    rw [if_pos (by simp)]
    simp only [List.take_succ_cons, List.take_nil, getW, val_cons, val_nil, List.length_cons, List.length_nil]
    rw [if_neg (by omega), if_pos (by omega)]
  | a :: b :: ys, hs =>
    have h1 := hs a (by simp)
    have h2 := hs b (by simp)
    rw [if_neg (by simp)]
    simp only [List.take_succ_cons, List.take_zero, getW, val_cons, val_nil, List.length_cons, List.length_nil]
    by_cases h3 : a * 256 + b < 126
    · rw [if_pos (by omega), if_pos (by omega)]
    · rw [if_neg (by omega), if_neg (by omega), if_neg (by omega)]
      congr 1; omega
theorem get_wide (x : Nat) (xs : List Nat) (h : x % 128 = 127) (hs : ∀ y ∈ xs, y < 256) : getL (x :: xs) = getW 8 65536 9223372036854775807 (xs.take 8) := by
  rw [getL, if_neg (by omega), if_neg (by omega)]
  match xs, hs with
  | [], _ => rfl
  | [a], hs =>
    have := hs a (by simp)
    simp only [List.take_succ_cons, List.take_nil, List.getD_cons_zero, getW, val_cons, val_nil, List.length_cons, List.length_nil]
    by_cases h1 : 128 ≤ a
    · rw [if_pos (by omega), if_pos (by omega)]
    · rw [if_neg (by omega), if_neg (by omega), if_pos (by omega), if_neg (by omega), if_pos (by omega)]
  | [a, b], hs =>
    have := hs a (by simp)
    have := hs b (by simp)
    simp only [List.take_succ_cons, List.take_nil, List.getD_cons_zero, getW, val_cons, val_nil, List.length_cons, List.length_nil]
    by_cases h1 : 128 ≤ a
    · rw [if_pos (by omega), if_pos (by omega)]
    · rw [if_neg (by omega), if_neg (by omega), if_pos (by omega), if_neg (by omega), if_pos (by omega)]
  | [a, b, c], hs =>
    have := hs a (by simp)
    have := hs b (by simp)
    have := hs c (by simp)
    simp only [List.take_succ_cons, List.take_nil, List.getD_cons_zero, getW, val_cons, val_nil, List.length_cons, List.length_nil]
    by_cases h1 : 128 ≤ a
    · rw [if_pos (by omega), if_pos (by omega)]
    · rw [if_neg (by omega), if_neg (by omega), if_pos (by omega), if_neg (by omega), if_pos (by omega)]
  | [a, b, c, d], hs =>
    have := hs a (by simp)
    have := hs b (by simp)
    have := hs c (by simp)
    have := hs d (by simp)
    simp only [List.take_succ_cons, List.take_nil, List.getD_cons_zero, getW, val_cons, val_nil, List.length_cons, List.length_nil]
    by_cases h1 : 128 ≤ a
    · rw [if_pos (by omega), if_pos (by omega)]
    · rw [if_neg (by omega), if_neg (by omega), if_pos (by omega), if_neg (by omega), if_pos (by omega)]
  | [a, b, c, d, e], hs =>
    have := hs a (by simp)
    have := hs b (by simp)
    have := hs c (by simp)
    have := hs d (by simp)
    have := hs e (by simp)
    simp only [List.take_succ_cons, List.take_nil, List.getD_cons_zero, getW, val_cons, val_nil, List.length_cons, List.length_nil]
    by_cases h1 : 128 ≤ a
    · rw [if_pos (by omega), if_pos (by omega)]
    · rw [if_neg (by omega), if_neg (by omega), if_pos (by omega), if_neg (by omega), if_pos (by omega)]
  | [a, b, c, d, e, f], hs =>
    have := hs a (by simp)
    have := hs b (by simp)
    have := hs c (by simp)
    have := hs d (by simp)
    have := hs e (by simp)
    have := hs f (by simp)
    simp only [List.take_succ_cons, List.take_nil, List.getD_cons_zero, getW, val_cons, val_nil, List.length_cons, List.length_nil]
    by_cases h1 : 128 ≤ a
    · rw [if_pos (by omega), if_pos (by omega)]
    · rw [if_neg (by omega)]
      by_cases h2 : a = 0 ∧ b = 0 ∧ c = 0 ∧ d = 0 ∧ e = 0 ∧ f = 0
      · rw [if_pos (by omega), if_pos (by omega)]
      · rw [if_neg (by omega), if_pos (by omega), if_neg (by omega), if_pos (by omega)]
  | [a, b, c, d, e, f, g], hs =>
    have := hs a (by simp)
    have := hs b (by simp)
    have := hs c (by simp)
    have := hs d (by simp)
    have := hs e (by simp)
    have := hs f (by simp)
    have := hs g (by simp)
    simp only [List.take_succ_cons, List.take_nil, List.take_zero, List.getD_cons_zero, getW, val_cons, val_nil, List.length_cons, List.length_nil]
    by_cases h1 : 128 ≤ a
    · rw [if_pos (by omega), if_pos (by omega)]
    · rw [if_neg (by omega)]
      by_cases h2 : a = 0 ∧ b = 0 ∧ c = 0 ∧ d = 0 ∧ e = 0 ∧ f = 0
      · rw [if_pos (by omega), if_pos (by omega)]
      · rw [if_neg (by omega), if_pos (by omega), if_neg (by omega), if_pos (by omega)]
  | a :: b :: c :: d :: e :: f :: g :: i :: ys, hs =>
    have := hs a (by simp)
    have := hs b (by simp)
    have := hs c (by simp)
    have := hs d (by simp)
    have := hs e (by simp)
    have := hs f (by simp)
    have := hs g (by simp)
    have := hs i (by simp)
    simp only [List.take_succ_cons, List.take_zero, List.getD_cons_zero, getW, val_cons, val_nil, List.length_cons, List.length_nil]
    by_cases h1 : 128 ≤ a
    · rw [if_pos (by omega), if_pos (by omega)]
    · rw [if_neg (by omega)]
      by_cases h2 : a = 0 ∧ b = 0 ∧ c = 0 ∧ d = 0 ∧ e = 0 ∧ f = 0
      · rw [if_pos (by omega), if_pos (by omega)]
      · rw [if_neg (by omega), if_neg (by omega), if_neg (by omega), if_neg (by omega)]
        simp
theorem getW_small {B : Nat} {t : List Nat} (hb : B ≤ 8) (hl : t.length ≤ B) (hs : ∀ y ∈ t, y < 256) :
    val t * 2 ^ (8 * (B - t.length)) + 2 ^ (8 * (B - t.length)) ≤ 18446744073709551616 := by
  have h1 := val_lt t hs
  have h2 : (val t + 1) * 2 ^ (8 * (B - t.length)) ≤ 256 ^ t.length * 2 ^ (8 * (B - t.length)) := Nat.mul_le_mul_right _ h1
  have h3 : 256 ^ t.length * 2 ^ (8 * (B - t.length)) = 2 ^ (8 * B) := by
    rw [show (256 : Nat) = 2 ^ 8 from rfl, ← Nat.pow_mul, ← Nat.pow_add]
    congr 1; omega
  have h4 : 2 ^ (8 * B) ≤ 2 ^ 64 := Nat.pow_le_pow_right (by omega) (by omega)
  rw [Nat.add_mul, Nat.one_mul] at h2
  omega
theorem be_get (n s i : Nat) (h : i < s) : (be n s).getD i 0 = n / 2 ^ (8 * (s - 1 - i)) % 256 := by
  induction s generalizing n with
  | zero => omega
  | succ s ih =>
    rw [be]
    by_cases hi : i < s
    · rw [List.getD_eq_getElem?_getD, List.getElem?_append_left (by rw [be_length]; exact hi), ← List.getD_eq_getElem?_getD, ih _ hi, Nat.div_div_eq_div_mul, show (256 : Nat) = 2 ^ 8 from rfl, ← Nat.pow_add]
      rw [show 8 + 8 * (s - 1 - i) = 8 * (s + 1 - 1 - i) by omega]
    · obtain rfl : i = s := by omega
      rw [List.getD_eq_getElem?_getD, List.getElem?_append_right (by rw [be_length]; omega), be_length]
      simp
/-- The first k bytes of a number, and noughts behind. -/
def beTo (n s k : Nat) : List Nat := (be n s).take k ++ List.replicate (s - k) 0
theorem beTo_length (n s k : Nat) (h : k ≤ s) : (beTo n s k).length = s := by
  unfold beTo; rw [List.length_append, List.length_take, be_length, List.length_replicate]; omega
theorem beTo_zero (n s : Nat) : beTo n s 0 = List.replicate s 0 := by unfold beTo; simp
theorem beTo_all (n s : Nat) : beTo n s s = be n s := by
  unfold beTo
  rw [Nat.sub_self, List.take_of_length_le (by rw [be_length]; omega)]
  simp
theorem beTo_step (n s k : Nat) (h : k < s) : (beTo n s k).set k (n / 2 ^ (8 * (s - 1 - k)) % 256) = beTo n s (k + 1) := by
  unfold beTo
  have hl : ((be n s).take k).length = k := by rw [List.length_take, be_length]; omega
  rw [List.set_append_right _ _ (by rw [hl]; exact Nat.le_refl _), hl, Nat.sub_self, show s - k = (s - (k + 1)) + 1 by omega, List.replicate_succ, List.set_cons_zero, List.take_add_one, List.getElem?_eq_getElem (by rw [be_length]; exact h)]
  have hg := be_get n s k h
  rw [List.getD_eq_getElem?_getD, List.getElem?_eq_getElem (by rw [be_length]; exact h)] at hg
  simp only [Option.getD_some] at hg
  rw [hg]
  simp
/-- The first k bytes turned, and noughts behind. -/
def tuTo (key : List Nat) (at' : Nat) (a : List Nat) (k : Nat) : List Nat := turn key at' (a.take k) ++ List.replicate (a.length - k) 0
theorem tuTo_length (key : List Nat) (at' : Nat) (a : List Nat) (k : Nat) (h : k ≤ a.length) : (tuTo key at' a k).length = a.length := by
  unfold tuTo; rw [List.length_append, turn_length, List.length_take, List.length_replicate]; omega
theorem tuTo_zero (key : List Nat) (at' : Nat) (a : List Nat) : tuTo key at' a 0 = List.replicate a.length 0 := by unfold tuTo; simp [turn]
theorem tuTo_all (key : List Nat) (at' : Nat) (a : List Nat) : tuTo key at' a a.length = turn key at' a := by
  unfold tuTo
  rw [Nat.sub_self, List.take_length]
  simp
theorem tuTo_step (key : List Nat) (at' : Nat) (a : List Nat) (k : Nat) (h : k < a.length) : (tuTo key at' a k).set k (a.getD k 0 ^^^ key.getD ((at' + k) % 4) 0) = tuTo key at' a (k + 1) := by
  unfold tuTo
  have hl : (turn key at' (a.take k)).length = k := by rw [turn_length, List.length_take]; omega
  rw [List.set_append_right _ _ (by rw [hl]; exact Nat.le_refl _), hl, Nat.sub_self, show a.length - k = (a.length - (k + 1)) + 1 by omega, List.replicate_succ, List.set_cons_zero, turn_take _ _ _ _ h]
  simp
/-- The document's reader: what it says where the bytes end. -/
theorem get_end (x : Nat) (xs : List Nat) (h : x % 128 = 127) (h1 : xs.length < 8) (h2 : 0 < xs.length → xs.getD 0 0 < 128) (h3 : 6 ≤ xs.length → val (xs.take 6) ≠ 0) : getL (x :: xs) = (0, 0, 80) := by
  rw [getL, if_neg (by omega), if_neg (by omega), if_neg (fun h => by have := h2 h.1; omega), if_neg (fun h => h3 h.1 h.2), if_pos h1]
theorem get_high (x : Nat) (xs : List Nat) (h : x % 128 = 127) (h1 : 0 < xs.length) (h2 : 128 ≤ xs.getD 0 0) : getL (x :: xs) = (0, 0, 81) := by
  rw [getL, if_neg (by omega), if_neg (by omega), if_pos ⟨h1, h2⟩]
theorem get_short (x : Nat) (xs : List Nat) (h : x % 128 = 127) (h1 : 6 ≤ xs.length) (h2 : val (xs.take 6) = 0) : getL (x :: xs) = (0, 0, 81) := by
  rw [getL, if_neg (by omega), if_neg (by omega)]
  split
  · rfl
  · rw [if_pos ⟨h1, h2⟩]
theorem get_whole (x : Nat) (xs : List Nat) (h : x % 128 = 127) (h1 : 8 ≤ xs.length) (h2 : xs.getD 0 0 < 128) (h3 : val (xs.take 6) ≠ 0) : getL (x :: xs) = (val (xs.take 8), 9, 0) := by
  rw [getL, if_neg (by omega), if_neg (by omega), if_neg (fun h => by omega), if_neg (fun h => h3 h.2), if_neg (by omega)]
theorem get_one (x : Nat) (xs : List Nat) (h : x % 128 < 126) : getL (x :: xs) = (x % 128, 1, 0) := by rw [getL, if_pos h]
end MaskPlain
