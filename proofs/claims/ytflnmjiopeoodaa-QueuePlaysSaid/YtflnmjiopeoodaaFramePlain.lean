/- frame, plain: a frame as bytes, the frame that bytes begin with. -/
import Derived.Test.YtflnmjiopeoodaaMaskPlain
namespace FramePlain
open MaskPlain

/-- A length that is read is the one whose bytes these are. -/
theorem val_two (a b : Nat) : val [a, b] = 256 * a + b := by simp [val]
theorem val_eight (a b c d e f g h : Nat) : val [a, b, c, d, e, f, g, h] = 256 * (256 * (256 * (256 * (256 * (256 * (256 * a + b) + c) + d) + e) + f) + g) + h := by simp [val]
/-- The first byte's highest bit doesn't count. -/
theorem get_mod (x : Nat) (xs : List Nat) : getL (x % 128 :: xs) = getL (x :: xs) := by
  rw [getL, getL, Nat.mod_mod]
theorem get_canon {x : Nat} {xs : List Nat} {n k : Nat} (hs : ∀ y ∈ xs, y < 256) (h : getL (x :: xs) = (n, k, 0)) : putL n = some ((x % 128 :: xs).take k) ∧ k ≤ xs.length + 1 ∧ 0 < k := by
  rw [getL] at h
  by_cases h1 : x % 128 < 126
  · rw [if_pos h1] at h
    injection h with e1 e2
    injection e2 with e2 _
    subst e1 e2
    refine ⟨?_, by omega, by omega⟩
    unfold putL
    rw [if_neg (by omega), if_pos h1]; rfl
  rw [if_neg h1] at h
  by_cases h2 : x % 128 = 126
  · rw [if_pos h2] at h
    by_cases h3 : xs.length < 2
    · rw [if_pos h3] at h; injection h with _ e; injection e with _ e; cases e
    rw [if_neg h3] at h
    by_cases h4 : val (xs.take 2) < 126
    · rw [if_pos h4] at h; injection h with _ e; injection e with _ e; cases e
    rw [if_neg h4] at h
    injection h with e1 e2
    injection e2 with e2 _
    subst e1 e2
    have hl : (xs.take 2).length = 2 := by rw [List.length_take]; omega
    have hb := be_val (xs.take 2) (fun y hy => hs y (List.mem_of_mem_take hy))
    have hv := val_lt (xs.take 2) (fun y hy => hs y (List.mem_of_mem_take hy))
    rw [hl] at hb hv
    refine ⟨?_, by omega, by omega⟩
    unfold putL
    rw [if_neg (by omega), if_neg h4, if_pos (by omega), hb, h2]; rfl
  rw [if_neg h2] at h
  by_cases h3 : 0 < xs.length ∧ 128 ≤ xs.getD 0 0
  · rw [if_pos h3] at h; injection h with _ e; injection e with _ e; cases e
  rw [if_neg h3] at h
  by_cases h4 : 6 ≤ xs.length ∧ val (xs.take 6) = 0
  · rw [if_pos h4] at h; injection h with _ e; injection e with _ e; cases e
  rw [if_neg h4] at h
  by_cases h5 : xs.length < 8
  · rw [if_pos h5] at h; injection h with _ e; injection e with _ e; cases e
  rw [if_neg h5] at h
  injection h with e1 e2
  injection e2 with e2 _
  subst e1 e2
  have hl : (xs.take 8).length = 8 := by rw [List.length_take]; omega
  have hb := be_val (xs.take 8) (fun y hy => hs y (List.mem_of_mem_take hy))
  rw [hl] at hb
  have hx : x % 128 = 127 := by omega
  refine ⟨?_, by omega, by omega⟩
  match xs, h5 with
  | a :: b :: c :: d :: e :: f :: g :: i :: ys, _ =>
    have ha := hs a (by simp)
    have hb' := hs b (by simp)
    have hc := hs c (by simp)
    have hd := hs d (by simp)
    have he := hs e (by simp)
    have hf := hs f (by simp)
    have hg := hs g (by simp)
    have hi := hs i (by simp)
    simp only [List.take_succ_cons, List.take_zero, List.getD_cons_zero, List.length_cons] at h3 h4 hb ⊢
    have h4' : ¬ val [a, b, c, d, e, f] = 0 := fun hh => h4 ⟨by omega, hh⟩
    rw [show val [a, b, c, d, e, f] = 256 * (256 * (256 * (256 * (256 * a + b) + c) + d) + e) + f by simp [val]] at h4'
    rw [val_eight] at hb ⊢
    unfold putL
    rw [if_neg (by omega), if_neg (by omega), if_neg (by omega), hb, hx]
/-- What is known of a length stays so with more behind. -/
theorem get_more {xs : List Nat} (ys : List Nat) (h : (getL xs).2.2 ≠ 80) : getL (xs ++ ys) = getL xs := by
  cases xs with
  | nil => exact absurd rfl h
  | cons x xs =>
    rw [List.cons_append, getL, getL]
    rw [getL] at h
    by_cases h1 : x % 128 < 126
    · rw [if_pos h1, if_pos h1]
    rw [if_neg h1] at h ⊢
    rw [if_neg h1]
    by_cases h2 : x % 128 = 126
    · rw [if_pos h2] at h ⊢
      rw [if_pos h2]
      by_cases h3 : xs.length < 2
      · rw [if_pos h3] at h; exact absurd rfl h
      rw [if_neg h3, if_neg (by rw [List.length_append]; omega), List.take_append_of_le_length (by omega)]
    rw [if_neg h2] at h ⊢
    rw [if_neg h2]
    by_cases h3 : 0 < xs.length ∧ 128 ≤ xs.getD 0 0
    · rw [if_pos h3, if_pos ⟨by rw [List.length_append]; omega, by rw [List.getD_eq_getElem?_getD, List.getElem?_append_left h3.1, ← List.getD_eq_getElem?_getD]; exact h3.2⟩]
    rw [if_neg h3] at h ⊢
    by_cases h4 : 6 ≤ xs.length ∧ val (xs.take 6) = 0
    · have h5 : ¬ (0 < (xs ++ ys).length ∧ 128 ≤ (xs ++ ys).getD 0 0) := fun hh => h3 ⟨by omega, by
        have := hh.2
        rwa [List.getD_eq_getElem?_getD, List.getElem?_append_left (by omega), ← List.getD_eq_getElem?_getD] at this⟩
      rw [if_neg h5, if_pos h4, if_pos ⟨by rw [List.length_append]; omega, by rw [List.take_append_of_le_length h4.1]; exact h4.2⟩]
    rw [if_neg h4] at h ⊢
    by_cases h5 : xs.length < 8
    · rw [if_pos h5] at h; exact absurd rfl h
    have h6 : ¬ (0 < (xs ++ ys).length ∧ 128 ≤ (xs ++ ys).getD 0 0) := fun hh => h3 ⟨by omega, by
      have := hh.2
      rwa [List.getD_eq_getElem?_getD, List.getElem?_append_left (by omega), ← List.getD_eq_getElem?_getD] at this⟩
    have h7 : ¬ (6 ≤ (xs ++ ys).length ∧ val ((xs ++ ys).take 6) = 0) := fun hh => h4 ⟨by omega, by
      have := hh.2
      rwa [List.take_append_of_le_length (by omega)] at this⟩
    rw [if_neg h5, if_neg h6, if_neg h7, if_neg (by rw [List.length_append]; omega), List.take_append_of_le_length (by omega)]
theorem get_codes (xs : List Nat) : (getL xs).2.2 = 0 ∨ (getL xs).2.2 = 80 ∨ (getL xs).2.2 = 81 := by
  cases xs with
  | nil => exact .inr (.inl rfl)
  | cons x xs =>
    rw [getL]
    repeat' split
    all_goals simp

theorem get_le (xs : List Nat) : (getL xs).2.1 ≤ xs.length := by
  cases xs with
  | nil => exact Nat.le_refl _
  | cons x xs =>
    rw [getL, List.length_cons]
    by_cases h1 : x % 128 < 126
    · rw [if_pos h1]; show 1 ≤ _; omega
    rw [if_neg h1]
    by_cases h2 : x % 128 = 126
    · rw [if_pos h2]
      by_cases h3 : xs.length < 2
      · rw [if_pos h3]; exact Nat.zero_le _
      rw [if_neg h3]
      by_cases h4 : val (xs.take 2) < 126
      · rw [if_pos h4]; exact Nat.zero_le _
      rw [if_neg h4]; show 3 ≤ _; omega
    rw [if_neg h2]
    by_cases h3 : 0 < xs.length ∧ 128 ≤ xs.getD 0 0
    · rw [if_pos h3]; exact Nat.zero_le _
    rw [if_neg h3]
    by_cases h4 : 6 ≤ xs.length ∧ val (xs.take 6) = 0
    · rw [if_pos h4]; exact Nat.zero_le _
    rw [if_neg h4]
    by_cases h5 : xs.length < 8
    · rw [if_pos h5]; exact Nat.zero_le _
    rw [if_neg h5]; show 9 ≤ _; omega

/-- A frame. -/
structure Fr where
  fin : Bool
  op : Int
  masked : Bool
  key : List Nat
  data : List Nat
def zero4 : List Nat := [0, 0, 0, 0]
def Fr0 : Fr := ⟨false, 0, false, zero4, []⟩
/-- Is an op none of messages? -/
def ctl (op : Int) : Bool := decide (8 ≤ op) && decide (op ≤ 10)
/-- May a frame be, however long? -/
def form (f : Fr) : Bool := ((decide (0 ≤ f.op) && decide (f.op ≤ 2)) || (ctl f.op && f.fin && decide (f.data.length ≤ 125))) && (f.masked || decide (f.key = zero4))
def chk (f : Fr) : Nat := if form f = false then 91 else if 65536 < f.data.length then 92 else 0
/-- A length's bytes, or none. -/
def lenB (n : Nat) : List Nat := (putL n).getD []
/-- A frame's first byte. -/
def byte0 (f : Fr) : Nat := f.op.toNat + if f.fin then 128 else 0
/-- What stands ahead of the data. -/
def headB (f : Fr) : List Nat :=
  if f.masked then byte0 f :: ((lenB f.data.length).getD 0 0 + 128) :: (lenB f.data.length).drop 1 ++ f.key else byte0 f :: lenB f.data.length
/-- A frame's bytes. -/
def text (f : Fr) : List Nat := headB f ++ if f.masked then turn f.key 0 f.data else f.data
def size (f : Fr) : Nat := 2 + f.data.length + (if 65535 < f.data.length then 8 else if 125 < f.data.length then 2 else 0) + (if f.masked then 4 else 0)
/-- The op of a first byte may not be, or not so. -/
def bad (x : Nat) : Bool := decide (x / 16 % 8 ≠ 0) || decide (2 < x % 16 ∧ ¬ (8 ≤ x % 16 ∧ x % 16 ≤ 10)) || decide (8 ≤ x % 16 ∧ x < 128)
/-- The frame that stands behind a first byte and a length. -/
def rest (x y n k : Nat) (r : List Nat) : Fr × Nat × Nat :=
  if 128 ≤ y then
    (if r.length < 4 + n then (Fr0, 0, 90) else (⟨decide (128 ≤ x), ((x % 16 : Nat) : Int), true, r.take 4, turn (r.take 4) 0 ((r.drop 4).take n)⟩, 1 + k + 4 + n, 0))
  else if r.length < n then (Fr0, 0, 90) else (⟨decide (128 ≤ x), ((x % 16 : Nat) : Int), false, zero4, r.take n⟩, 1 + k + n, 0)
def getF (s : List Nat) (most : Int) : Fr × Nat × Nat :=
  match s with
  | [] => (Fr0, 0, 90)
  | x :: xs =>
    if bad x then (Fr0, 0, 91)
    else if 0 < xs.length ∧ 8 ≤ x % 16 ∧ 125 < xs.getD 0 0 % 128 then (Fr0, 0, 91)
    else if (getL xs).2.2 = 81 then (Fr0, 0, 91)
    else if (getL xs).2.2 = 80 then (Fr0, 0, 90)
    else if most < ((getL xs).1 : Int) then (Fr0, 0, 92)
    else rest x (xs.getD 0 0) (getL xs).1 (getL xs).2.1 (xs.drop (getL xs).2.1)

theorem lenB_some {n : Nat} (h : n ≤ 9223372036854775807) : putL n = some (lenB n) := by
  have := put_some n
  rw [decide_eq_true h] at this
  unfold lenB
  cases hp : putL n with
  | none => rw [hp] at this; cases this
  | some s => rfl
theorem lenB_length {n : Nat} (h : n ≤ 9223372036854775807) : (lenB n).length = if 65535 < n then 9 else if 125 < n then 3 else 1 := put_length (lenB_some h)
theorem lenB_small {n : Nat} (h : n ≤ 9223372036854775807) : ∀ x ∈ lenB n, x < 256 := put_small (lenB_some h)
theorem lenB_low {n : Nat} (h : n ≤ 9223372036854775807) : (lenB n).getD 0 0 < 128 ∧ (n ≤ 125 → (lenB n).getD 0 0 = n) := by
  have hs := lenB_some h
  unfold putL at hs
  rw [if_neg (by omega)] at hs
  by_cases h1 : n < 126
  · rw [if_pos h1] at hs; injection hs with hs; rw [← hs]; exact ⟨by show n < 128; omega, fun _ => rfl⟩
  · rw [if_neg h1] at hs
    by_cases h2 : n ≤ 65535
    · rw [if_pos h2] at hs; injection hs with hs; rw [← hs]; exact ⟨by show 126 < 128; omega, fun _ => by omega⟩
    · rw [if_neg h2] at hs; injection hs with hs; rw [← hs]; exact ⟨by show 127 < 128; omega, fun _ => by omega⟩
theorem text_length (f : Fr) (h : f.data.length ≤ 9223372036854775807) (hk : f.key.length = 4) : (text f).length = size f := by
  have hl := lenB_length h
  unfold text headB size
  cases f.masked with
  | true =>
    simp only [if_true, List.length_append, List.length_cons, List.length_drop, turn_length, hk, hl]
    split
    · omega
    · split <;> omega
  | false =>
    simp only [Bool.false_eq_true, if_false, List.length_append, List.length_cons, hl]
    split
    · omega
    · split <;> omega
theorem form_cases {f : Fr} (h : form f = true) : ((0 ≤ f.op ∧ f.op ≤ 2) ∨ (8 ≤ f.op ∧ f.op ≤ 10 ∧ f.fin = true ∧ f.data.length ≤ 125)) ∧ (f.masked = true ∨ f.key = zero4) := by
  unfold form ctl at h
  simp only [Bool.and_eq_true, Bool.or_eq_true, decide_eq_true_eq] at h
  obtain ⟨h1, h2⟩ := h
  refine ⟨?_, h2⟩
  rcases h1 with ⟨a, b⟩ | ⟨⟨⟨a, b⟩, c⟩, d⟩
  · exact .inl ⟨a, b⟩
  · exact .inr ⟨a, b, c, d⟩
theorem form_of {f : Fr} (h : ((0 ≤ f.op ∧ f.op ≤ 2) ∨ (8 ≤ f.op ∧ f.op ≤ 10 ∧ f.fin = true ∧ f.data.length ≤ 125)) ∧ (f.masked = true ∨ f.key = zero4)) : form f = true := by
  unfold form ctl
  simp only [Bool.and_eq_true, Bool.or_eq_true, decide_eq_true_eq]
  obtain ⟨h1, h2⟩ := h
  refine ⟨?_, h2⟩
  rcases h1 with ⟨a, b⟩ | ⟨a, b, c, d⟩
  · exact .inl ⟨a, b⟩
  · exact .inr ⟨⟨⟨a, b⟩, c⟩, d⟩
theorem byte0_facts {f : Fr} (h : form f = true) : bad (byte0 f) = false ∧ ((byte0 f % 16 : Nat) : Int) = f.op ∧ decide (128 ≤ byte0 f) = f.fin ∧ byte0 f < 256 ∧ (8 ≤ byte0 f % 16 → f.data.length ≤ 125) := by
  have hc := (form_cases h).1
  unfold byte0 bad
  cases hf : f.fin with
  | true =>
    simp only [if_true]
    rw [hf] at hc
    obtain ⟨k, hk⟩ : ∃ k : Nat, f.op = k := ⟨f.op.toNat, by omega⟩
    rw [hk] at hc ⊢
    rw [Int.toNat_natCast]
    refine ⟨?_, by omega, by simp, by omega, by omega⟩
    simp only [Bool.or_eq_false_iff, decide_eq_false_iff_not]
    omega
  | false =>
    simp only [Bool.false_eq_true, if_false, Nat.add_zero]
    rw [hf] at hc
    have hc2 : 0 ≤ f.op ∧ f.op ≤ 2 := by
      rcases hc with h | ⟨_, _, h, _⟩
      · exact h
      · cases h
    obtain ⟨k, hk⟩ : ∃ k : Nat, f.op = k := ⟨f.op.toNat, by omega⟩
    rw [hk] at hc2 ⊢
    rw [Int.toNat_natCast]
    refine ⟨?_, by omega, by simp; omega, by omega, by omega⟩
    simp only [Bool.or_eq_false_iff, decide_eq_false_iff_not]
    omega
theorem lenB_cons {n : Nat} (h : n ≤ 9223372036854775807) : lenB n = (lenB n).getD 0 0 :: (lenB n).drop 1 := by
  have hl := lenB_length h
  cases hb : lenB n with
  | nil => rw [hb] at hl; simp at hl; split at hl <;> (try split at hl) <;> omega
  | cons x xs => rfl
/-- A frame that may be is itself again, whatever stands behind; or it is too long. -/
theorem get_text {f : Fr} (hf : form f = true) (hn : f.data.length ≤ 9223372036854775807) (hk : f.key.length = 4) (more : List Nat) (most : Int) :
    getF (text f ++ more) most = if most < (f.data.length : Int) then (Fr0, 0, 92) else (f, size f, 0) := by
  have hz := text_length f hn hk
  obtain ⟨b1, b2, b3, b4, b5⟩ := byte0_facts hf
  obtain ⟨l1, l2⟩ := lenB_low hn
  have hp := lenB_some hn
  have hcons := lenB_cons hn
  have hlp : 0 < (lenB f.data.length).length := by rw [hcons]; simp
  have hll := lenB_length hn
  have hm2 := (form_cases hf).2
  rw [← hz]
  unfold text headB at hz ⊢
  by_cases hm : f.masked = true
  · rw [if_pos hm, if_pos hm] at hz ⊢
    have hgl : getL ((((lenB f.data.length).getD 0 0 + 128) :: (lenB f.data.length).drop 1) ++ (f.key ++ (turn f.key 0 f.data ++ more))) = (f.data.length, (lenB f.data.length).length, 0) := by
      rw [List.cons_append, ← get_mod, Nat.add_mod_right, Nat.mod_eq_of_lt l1, ← List.cons_append, ← hcons, get_put hp]
    simp only [List.cons_append, List.append_assoc] at hgl hz ⊢
    have hd : (((lenB f.data.length).getD 0 0 + 128) :: ((lenB f.data.length).drop 1 ++ (f.key ++ (turn f.key 0 f.data ++ more)))).drop (lenB f.data.length).length = f.key ++ (turn f.key 0 f.data ++ more) := by
      have e : (lenB f.data.length).length = ((lenB f.data.length).drop 1).length + 1 := by rw [List.length_drop]; omega
      conv => lhs; rw [e, List.drop_succ_cons]
      rw [List.drop_left]
    rw [getF, b1, if_neg (by simp), if_neg, hgl, if_neg (show ¬ (0 : Nat) = 81 by decide), if_neg (show ¬ (0 : Nat) = 80 by decide)]
    · dsimp only
      by_cases hmost : most < (f.data.length : Int)
      · rw [if_pos hmost, if_pos hmost]
      · rw [if_neg hmost, if_neg hmost, hd, rest, List.getD_cons_zero, if_pos (by omega), if_neg (by rw [List.length_append, List.length_append, turn_length]; omega)]
        have t1 : (f.key ++ (turn f.key 0 f.data ++ more)).take 4 = f.key := by rw [List.take_append_of_le_length (by omega), List.take_of_length_le (by omega)]
        have t2 : (f.key ++ (turn f.key 0 f.data ++ more)).drop 4 = turn f.key 0 f.data ++ more := by rw [← hk, List.drop_left]
        have t3 : (turn f.key 0 f.data ++ more).take f.data.length = turn f.key 0 f.data := by rw [List.take_append_of_le_length (by rw [turn_length]; omega), List.take_of_length_le (by rw [turn_length]; omega)]
        rw [t1, t2, t3, turn_twice, b2, b3]
        congr 1
        · cases f; simp only at hm ⊢; rw [hm]
        · congr 1
          simp only [List.length_cons, List.length_append, turn_length, List.length_drop]
          omega
    · intro ⟨_, h8, h125⟩
      rw [List.getD_cons_zero] at h125
      have := l2 (b5 h8)
      have := b5 h8
      omega
  · rw [if_neg hm, if_neg hm] at hz ⊢
    have hgl : getL (lenB f.data.length ++ (f.data ++ more)) = (f.data.length, (lenB f.data.length).length, 0) := get_put hp _
    simp only [List.cons_append, List.append_assoc] at hz ⊢
    rw [getF, b1, if_neg (by simp), if_neg, hgl, if_neg (show ¬ (0 : Nat) = 81 by decide), if_neg (show ¬ (0 : Nat) = 80 by decide)]
    · dsimp only
      by_cases hmost : most < (f.data.length : Int)
      · rw [if_pos hmost, if_pos hmost]
      · have hg0 : (lenB f.data.length ++ (f.data ++ more)).getD 0 0 = (lenB f.data.length).getD 0 0 := by
          rw [List.getD_eq_getElem?_getD, List.getElem?_append_left hlp, ← List.getD_eq_getElem?_getD]
        rw [if_neg hmost, if_neg hmost, List.drop_left, rest, hg0, if_neg (by omega), if_neg (by rw [List.length_append]; omega), b2, b3]
        have t3 : (f.data ++ more).take f.data.length = f.data := by rw [List.take_append_of_le_length (Nat.le_refl _), List.take_of_length_le (Nat.le_refl _)]
        rw [t3]
        have hkz : f.key = zero4 := hm2.resolve_left hm
        congr 1
        · cases f; simp only at hm hkz ⊢; rw [hkz]; simp at hm; rw [hm]
        · congr 1
          simp only [List.length_cons, List.length_append]
          omega
    · intro ⟨_, h8, h125⟩
      rw [List.getD_eq_getElem?_getD, List.getElem?_append_left hlp, ← List.getD_eq_getElem?_getD, l2 (b5 h8)] at h125
      have := b5 h8
      omega
/-- What is known of a beginning stays so with more behind. -/
theorem get_on {a : List Nat} (b : List Nat) (most : Int) (h : (getF a most).2.2 ≠ 90) : getF (a ++ b) most = getF a most := by
  cases a with
  | nil => exact absurd rfl h
  | cons x xs =>
    rw [List.cons_append, getF, getF]
    rw [getF] at h
    by_cases h1 : bad x = true
    · rw [if_pos h1, if_pos h1]
    rw [if_neg h1] at h ⊢
    rw [if_neg h1]
    by_cases h2 : 0 < xs.length ∧ 8 ≤ x % 16 ∧ 125 < xs.getD 0 0 % 128
    · rw [if_pos h2, if_pos]
      refine ⟨by rw [List.length_append]; omega, h2.2.1, ?_⟩
      rw [List.getD_eq_getElem?_getD, List.getElem?_append_left h2.1, ← List.getD_eq_getElem?_getD]; exact h2.2.2
    rw [if_neg h2] at h ⊢
    by_cases h80 : (getL xs).2.2 = 80
    · rw [if_neg (by omega), if_pos h80] at h; exact absurd rfl h
    have hm := get_more b h80
    have hp : 0 < xs.length := by
      cases xs with
      | nil => exact absurd rfl h80
      | cons _ _ => simp
    have hg0 : (xs ++ b).getD 0 0 = xs.getD 0 0 := by rw [List.getD_eq_getElem?_getD, List.getElem?_append_left hp, ← List.getD_eq_getElem?_getD]
    rw [hm, hg0, if_neg (fun hh => h2 ⟨hp, hh.2⟩)]
    by_cases h81 : (getL xs).2.2 = 81
    · rw [if_pos h81, if_pos h81]
    rw [if_neg h81, if_neg h80] at h ⊢
    rw [if_neg h81, if_neg h80]
    by_cases hmost : most < ((getL xs).1 : Int)
    · rw [if_pos hmost, if_pos hmost]
    rw [if_neg hmost] at h ⊢
    rw [if_neg hmost]
    obtain ⟨n, hn⟩ : ∃ n, (getL xs).1 = n := ⟨_, rfl⟩
    obtain ⟨k, hk⟩ : ∃ k, (getL xs).2.1 = k := ⟨_, rfl⟩
    rw [hn, hk] at h ⊢
    have hkl : k ≤ xs.length := by rw [← hk]; exact get_le xs
    rw [List.drop_append_of_le_length hkl]
    unfold rest at h ⊢
    by_cases hy : 128 ≤ xs.getD 0 0
    · rw [if_pos hy] at h ⊢
      rw [if_pos hy]
      by_cases hr : (xs.drop k).length < 4 + n
      · rw [if_pos hr] at h; exact absurd rfl h
      · rw [if_neg hr, if_neg (by rw [List.length_append]; omega), List.take_append_of_le_length (by omega), List.drop_append_of_le_length (by omega), List.take_append_of_le_length (by rw [List.length_drop]; omega)]
    · rw [if_neg hy] at h ⊢
      rw [if_neg hy]
      by_cases hr : (xs.drop k).length < n
      · rw [if_pos hr] at h; exact absurd rfl h
      · rw [if_neg hr, if_neg (by rw [List.length_append]; omega), List.take_append_of_le_length (by omega)]
theorem rest_codes (x y n k : Nat) (r : List Nat) : (rest x y n k r).2.2 = 0 ∨ (rest x y n k r = (Fr0, 0, 90)) := by
  unfold rest
  repeat' split
  all_goals first | exact .inl rfl | exact .inr rfl
theorem get_err (a : List Nat) (most : Int) : (getF a most).2.2 = 0 ∨ (∃ e, getF a most = (Fr0, 0, e) ∧ (e = 90 ∨ e = 91 ∨ e = 92)) := by
  cases a with
  | nil => exact .inr ⟨90, rfl, by omega⟩
  | cons x xs =>
    rw [getF]
    split
    · exact .inr ⟨91, rfl, by omega⟩
    split
    · exact .inr ⟨91, rfl, by omega⟩
    split
    · exact .inr ⟨91, rfl, by omega⟩
    split
    · exact .inr ⟨90, rfl, by omega⟩
    split
    · exact .inr ⟨92, rfl, by omega⟩
    rcases rest_codes x (xs.getD 0 0) (getL xs).1 (getL xs).2.1 (xs.drop (getL xs).2.1) with h | h
    · exact .inl h
    · exact .inr ⟨90, h, by omega⟩
/-- The bytes of a frame that is read are those that it was read of. -/
theorem get_ok {a : List Nat} {most : Int} {f : Fr} {n : Nat} (hs : ∀ y ∈ a, y < 256) (h : getF a most = (f, n, 0)) :
    form f = true ∧ text f = a.take n ∧ n ≤ a.length ∧ 2 ≤ n ∧ f.key.length = 4 ∧ (∀ y ∈ f.key, y < 256) ∧ (∀ y ∈ f.data, y < 256) ∧ (f.data.length : Int) ≤ most := by
  cases a with
  | nil => injection h with _ e; injection e with _ e; cases e
  | cons x xs =>
    have hx := hs x (List.mem_cons_self ..)
    have hxs : ∀ y ∈ xs, y < 256 := fun y hy => hs y (List.mem_cons_of_mem _ hy)
    rw [getF] at h
    by_cases h1 : bad x = true
    · rw [if_pos h1] at h; injection h with _ e; injection e with _ e; cases e
    rw [if_neg h1] at h
    by_cases h2 : 0 < xs.length ∧ 8 ≤ x % 16 ∧ 125 < xs.getD 0 0 % 128
    · rw [if_pos h2] at h; injection h with _ e; injection e with _ e; cases e
    rw [if_neg h2] at h
    by_cases h81 : (getL xs).2.2 = 81
    · rw [if_pos h81] at h; injection h with _ e; injection e with _ e; cases e
    rw [if_neg h81] at h
    by_cases h80 : (getL xs).2.2 = 80
    · rw [if_pos h80] at h; injection h with _ e; injection e with _ e; cases e
    rw [if_neg h80] at h
    by_cases hmost : most < ((getL xs).1 : Int)
    · rw [if_pos hmost] at h; injection h with _ e; injection e with _ e; cases e
    rw [if_neg hmost] at h
    have he0 : (getL xs).2.2 = 0 := by
      rcases get_codes xs with h0 | h0 | h0
      · exact h0
      · exact absurd h0 h80
      · exact absurd h0 h81
    cases xs with
    | nil => exact absurd rfl h80
    | cons y ys =>
      have hy := hxs y (List.mem_cons_self ..)
      have hys : ∀ z ∈ ys, z < 256 := fun z hz => hxs z (List.mem_cons_of_mem _ hz)
      obtain ⟨N, hN⟩ : ∃ N, (getL (y :: ys)).1 = N := ⟨_, rfl⟩
      obtain ⟨k, hk⟩ : ∃ k, (getL (y :: ys)).2.1 = k := ⟨_, rfl⟩
      have hg : getL (y :: ys) = (N, k, 0) := by rw [← hN, ← hk, ← he0]
      obtain ⟨c1, c2, c3⟩ := get_canon hys hg
      have hN63 : N ≤ 9223372036854775807 := by
        have := put_some N
        rw [c1] at this
        exact of_decide_eq_true this.symm
      have hlb : lenB N = (y % 128 :: ys).take k := by unfold lenB; rw [c1]; rfl
      have hll : (lenB N).length = k := by rw [hlb, List.length_take, List.length_cons]; omega
      rw [hN, hk, List.getD_cons_zero] at h
      rw [hN] at hmost
      have hkc : k ≤ (y :: ys).length := by rw [List.length_cons]; omega
      have hbad : x / 16 % 8 = 0 ∧ (x % 16 ≤ 2 ∨ (8 ≤ x % 16 ∧ x % 16 ≤ 10)) ∧ ¬ (8 ≤ x % 16 ∧ x < 128) := by
        have hb : bad x = false := by simpa using h1
        unfold bad at hb
        simp only [Bool.or_eq_false_iff, decide_eq_false_iff_not] at hb
        omega
      have h125 : 8 ≤ x % 16 → N ≤ 125 := fun h8 => by
        have hh : ¬ 125 < y % 128 := fun hq => h2 ⟨by simp, h8, by rw [List.getD_cons_zero]; exact hq⟩
        rw [getL, if_pos (by omega)] at hg
        injection hg with e _
        omega
      have hb0 : ∀ (m : Bool) (ke d : List Nat), byte0 ⟨decide (128 ≤ x), ((x % 16 : Nat) : Int), m, ke, d⟩ = x := fun m ke d => by
        unfold byte0
        simp only [Int.toNat_natCast]
        by_cases h128 : 128 ≤ x
        · rw [decide_eq_true h128, if_pos rfl]; omega
        · rw [decide_eq_false h128, if_neg (by simp)]; omega
      unfold rest at h
      by_cases hmask : 128 ≤ y
      · rw [if_pos hmask] at h
        by_cases hr : ((y :: ys).drop k).length < 4 + N
        · rw [if_pos hr] at h; injection h with _ e; injection e with _ e; cases e
        rw [if_neg hr] at h
        injection h with e1 e2
        injection e2 with e2 _
        obtain ⟨r, hrr⟩ : ∃ r, (y :: ys).drop k = r := ⟨_, rfl⟩
        have hra : (y :: ys).take k ++ r = y :: ys := by rw [← hrr, List.take_append_drop]
        have hrl : r.length + k = ys.length + 1 := by rw [← hrr, List.length_drop, List.length_cons]; omega
        have hrs : ∀ z ∈ r, z < 256 := fun z hz => hxs z (by rw [← hra]; exact List.mem_append_right _ hz)
        rw [hrr] at e1 hr
        have hkl : (r.take 4).length = 4 := by rw [List.length_take]; omega
        have hdl : (turn (r.take 4) 0 ((r.drop 4).take N)).length = N := by rw [turn_length, List.length_take, List.length_drop]; omega
        have hks : ∀ z ∈ r.take 4, z < 256 := fun z hz => hrs z (List.mem_of_mem_take hz)
        have hds : ∀ z ∈ turn (r.take 4) 0 ((r.drop 4).take N), z < 256 := turn_lt _ _ _ (fun z hz => hrs z (List.mem_of_mem_drop (List.mem_of_mem_take hz))) (fun i => by
          by_cases hi : i < (r.take 4).length
          · rw [List.getD_eq_getElem?_getD, List.getElem?_eq_getElem hi]; exact hks _ (List.getElem_mem hi)
          · rw [List.getD_eq_getElem?_getD, List.getElem?_eq_none (by omega)]; decide)
        have hy2 : lenB N = y % 128 :: ((y :: ys).take k).drop 1 := by
          rw [hlb]
          cases k with
          | zero => omega
          | succ k => rfl
        have hlow : y % 128 + 128 = y := by omega
        subst e1 e2
        refine ⟨form_of ⟨?_, .inl rfl⟩, ?_, by rw [List.length_cons, List.length_cons]; omega, by omega, hkl, hks, hds, by show ((turn (r.take 4) 0 ((r.drop 4).take N)).length : Int) ≤ most; rw [hdl]; omega⟩
        · show ((0 ≤ ((x % 16 : Nat) : Int) ∧ ((x % 16 : Nat) : Int) ≤ 2) ∨ (8 ≤ ((x % 16 : Nat) : Int) ∧ ((x % 16 : Nat) : Int) ≤ 10 ∧ decide (128 ≤ x) = true ∧ (turn (r.take 4) 0 ((r.drop 4).take N)).length ≤ 125))
          rw [hdl, decide_eq_true_eq]
          rcases hbad.2.1 with h | h
          · exact .inl (by omega)
          · exact .inr ⟨by omega, by omega, by omega, h125 h.1⟩
        · unfold text headB
          rw [if_pos rfl, if_pos rfl]
          simp only [hdl, turn_twice]
          rw [hb0, hy2, List.getD_cons_zero, List.drop_succ_cons, List.drop_zero, hlow]
          have e3 : 1 + k + 4 + N = (k + (4 + N)) + 1 := by omega
          rw [e3, List.take_succ_cons]
          conv => rhs; rw [← hra]
          have e4 : ((y :: ys).take k).length = k := by rw [List.length_take]; omega
          have e5 : ((y :: ys).take k ++ r).take (k + (4 + N)) = (y :: ys).take k ++ r.take (4 + N) := by
            conv => lhs; rw [show k + (4 + N) = ((y :: ys).take k).length + (4 + N) by rw [e4]]
            rw [List.take_length_add_append]
          have e6 : r.take (4 + N) = r.take 4 ++ (r.drop 4).take N := by rw [List.take_add]
          rw [e5, e6]
          have e7 : (y :: ys).take k = y :: ((y :: ys).take k).drop 1 := by
            cases k with
            | zero => omega
            | succ k => rfl
          conv => rhs; rw [e7]
          simp only [List.cons_append, List.append_assoc]
      · rw [if_neg hmask] at h
        by_cases hr : ((y :: ys).drop k).length < N
        · rw [if_pos hr] at h; injection h with _ e; injection e with _ e; cases e
        rw [if_neg hr] at h
        injection h with e1 e2
        injection e2 with e2 _
        obtain ⟨r, hrr⟩ : ∃ r, (y :: ys).drop k = r := ⟨_, rfl⟩
        have hra : (y :: ys).take k ++ r = y :: ys := by rw [← hrr, List.take_append_drop]
        have hrl : r.length + k = ys.length + 1 := by rw [← hrr, List.length_drop, List.length_cons]; omega
        have hrs : ∀ z ∈ r, z < 256 := fun z hz => hxs z (by rw [← hra]; exact List.mem_append_right _ hz)
        rw [hrr] at e1 hr
        have hdl : (r.take N).length = N := by rw [List.length_take]; omega
        have hlow : y % 128 = y := by omega
        rw [hlow] at hlb
        subst e1 e2
        refine ⟨form_of ⟨?_, .inr rfl⟩, ?_, by rw [List.length_cons, List.length_cons]; omega, by omega, rfl, fun z hz => by simp [zero4] at hz; omega, fun z hz => hrs z (List.mem_of_mem_take hz), by show ((r.take N).length : Int) ≤ most; rw [hdl]; omega⟩
        · show ((0 ≤ ((x % 16 : Nat) : Int) ∧ ((x % 16 : Nat) : Int) ≤ 2) ∨ (8 ≤ ((x % 16 : Nat) : Int) ∧ ((x % 16 : Nat) : Int) ≤ 10 ∧ decide (128 ≤ x) = true ∧ (r.take N).length ≤ 125))
          rw [hdl, decide_eq_true_eq]
          rcases hbad.2.1 with h | h
          · exact .inl (by omega)
          · exact .inr ⟨by omega, by omega, by omega, h125 h.1⟩
        · unfold text headB
          rw [if_neg (by simp), if_neg (by simp)]
          simp only [hdl]
          rw [hb0, hlb]
          have e3 : 1 + k + N = (k + N) + 1 := by omega
          rw [e3, List.take_succ_cons]
          conv => rhs; rw [← hra]
          have e4 : ((y :: ys).take k).length = k := by rw [List.length_take]; omega
          conv => rhs; rw [show k + N = ((y :: ys).take k).length + N by rw [e4], List.take_length_add_append]
          simp only [List.cons_append]
/-- As soon as the length is known. -/
theorem get_head {f : Fr} (hf : form f = true) (hn : f.data.length ≤ 9223372036854775807) (hk : f.key.length = 4) (most : Int) :
    getF ((text f).take (1 + (lenB f.data.length).length)) most = if most < (f.data.length : Int) then (Fr0, 0, 92) else if size f = 1 + (lenB f.data.length).length then (f, size f, 0) else (Fr0, 0, 90) := by
  have hz := text_length f hn hk
  by_cases hs : size f = 1 + (lenB f.data.length).length
  · rw [List.take_of_length_le (by omega), if_pos hs]
    have := get_text hf hn hk [] most
    rwa [List.append_nil] at this
  rw [if_neg hs]
  obtain ⟨b1, b2, b3, b4, b5⟩ := byte0_facts hf
  obtain ⟨l1, l2⟩ := lenB_low hn
  have hp := lenB_some hn
  have hcons := lenB_cons hn
  have hlp : 0 < (lenB f.data.length).length := by rw [hcons]; simp
  obtain ⟨L', Q, hL, htext, hget, hlow⟩ : ∃ L' Q : List Nat, L'.length = (lenB f.data.length).length ∧ text f = byte0 f :: (L' ++ Q) ∧ getL L' = (f.data.length, (lenB f.data.length).length, 0) ∧ L'.getD 0 0 % 128 = (lenB f.data.length).getD 0 0 := by
    unfold text headB
    by_cases hm : f.masked = true
    · rw [if_pos hm, if_pos hm]
      refine ⟨((lenB f.data.length).getD 0 0 + 128) :: (lenB f.data.length).drop 1, f.key ++ turn f.key 0 f.data, ?_, ?_, ?_, ?_⟩
      · rw [List.length_cons, List.length_drop]; omega
      · simp only [List.cons_append, List.append_assoc]
      · rw [← get_mod, Nat.add_mod_right, Nat.mod_eq_of_lt l1, ← hcons]
        have := get_put hp []
        rwa [List.append_nil] at this
      · rw [List.getD_cons_zero, Nat.add_mod_right, Nat.mod_eq_of_lt l1]
    · rw [if_neg hm, if_neg hm]
      refine ⟨lenB f.data.length, f.data, rfl, rfl, ?_, Nat.mod_eq_of_lt l1⟩
      have := get_put hp []
      rwa [List.append_nil] at this
  have hP : (text f).take (1 + (lenB f.data.length).length) = byte0 f :: L' := by
    rw [htext, Nat.add_comm, List.take_succ_cons, ← hL, List.take_left]
  by_cases hmost : most < (f.data.length : Int)
  · rw [if_pos hmost, hP, getF, b1, if_neg (by simp), if_neg, hget, if_neg (show ¬ (0 : Nat) = 81 by decide), if_neg (show ¬ (0 : Nat) = 80 by decide), if_pos hmost]
    intro ⟨_, h8, h125⟩
    rw [hlow] at h125
    have := l2 (b5 h8)
    have := b5 h8
    omega
  · rw [if_neg hmost]
    have hw : getF (text f) most = (f, size f, 0) := by
      have := get_text hf hn hk [] most
      rwa [List.append_nil, if_neg hmost] at this
    have h90 : (getF (byte0 f :: L') most).2.2 = 90 := by
      by_cases h : (getF (byte0 f :: L') most).2.2 = 90
      · exact h
      · exfalso
        have h1 := get_on Q most h
        rw [List.cons_append, ← htext, hw] at h1
        rw [getF, b1, if_neg (by simp), if_neg, hget, if_neg (show ¬ (0 : Nat) = 81 by decide), if_neg (show ¬ (0 : Nat) = 80 by decide), if_neg hmost] at h1
        · dsimp only at h1
          rw [List.drop_of_length_le (by omega)] at h1
          unfold rest at h1
          by_cases hy : 128 ≤ L'.getD 0 0
          · rw [if_pos hy, if_pos (by simp; omega)] at h1
            injection h1 with _ e; injection e with _ e; cases e
          · rw [if_neg hy] at h1
            by_cases h0 : ([] : List Nat).length < f.data.length
            · rw [if_pos h0] at h1
              injection h1 with _ e; injection e with _ e; cases e
            · rw [if_neg h0] at h1
              injection h1 with _ e; injection e with e _
              simp only [List.length_nil] at h0
              omega
        · intro ⟨_, h8, h125⟩
          rw [hlow] at h125
          have := l2 (b5 h8)
          have := b5 h8
          omega
    rw [hP]
    rcases get_err (byte0 f :: L') most with h | ⟨e, h, _⟩
    · rw [h] at h90; cases h90
    · rw [h] at h90 ⊢
      rw [show e = 90 from h90]
/-- With a mask it may be as without. -/
theorem form_mask {f : Fr} (h : f.masked = false) (hk : f.key = zero4) (k : List Nat) : form ⟨f.fin, f.op, true, k, f.data⟩ = form f := by
  unfold form
  rw [h, decide_eq_true hk]
  simp
theorem size_mask {f : Fr} (h : f.masked = false) (k : List Nat) : size ⟨f.fin, f.op, true, k, f.data⟩ = size f + 4 := by
  unfold size
  rw [h]
  simp
theorem chk_ok {f : Fr} (h : chk f = 0) : form f = true ∧ f.data.length ≤ 65536 := by
  unfold chk at h
  by_cases h1 : form f = false
  · rw [if_pos h1] at h; cases h
  · rw [if_neg h1] at h
    by_cases h2 : 65536 < f.data.length
    · rw [if_pos h2] at h; cases h
    · exact ⟨by simpa using h1, by omega⟩
theorem chk_of {f : Fr} (h : form f = true) (h2 : f.data.length ≤ 65536) : chk f = 0 := by
  unfold chk
  rw [if_neg (by rw [h]; simp), if_neg (by omega)]
end FramePlain
