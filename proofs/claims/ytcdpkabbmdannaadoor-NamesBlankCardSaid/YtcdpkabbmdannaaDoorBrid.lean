/- What the library's words (where a row of bytes is first, the pieces of a text, a text without the bytes of a set at its ends) are in the plain words on heads. -/
import Derived.Test.YtcdpkabbmdannaaDoorPlain
import Derived.Lib.Split
import Derived.Lib.SlTrimSet
import Derived.Lib.TrimByte
namespace HeadPlain
open Go

def toN (l : List UInt8) : List Nat := l.map (·.toNat)
@[simp] theorem toN_length (l : List UInt8) : (toN l).length = l.length := by simp [toN]
theorem toN_take (l : List UInt8) (n : Nat) : toN (l.take n) = (toN l).take n := by simp [toN]
theorem toN_drop (l : List UInt8) (n : Nat) : toN (l.drop n) = (toN l).drop n := by simp [toN]
theorem toN_append (a b : List UInt8) : toN (a ++ b) = toN a ++ toN b := by simp [toN]
theorem toN_inj {a b : List UInt8} (h : toN a = toN b) : a = b := (List.map_inj_right (fun x y (e : UInt8.toNat x = UInt8.toNat y) => UInt8.toNat_inj.1 e)).1 h
theorem toN_beq (a b : List UInt8) : (a == b) = (toN a == toN b) := by
  rw [Bool.eq_iff_iff, beq_iff_eq, beq_iff_eq]
  exact ⟨fun h => by rw [h], toN_inj⟩

theorem pre4 (l : List UInt8) : List.isPrefixOf ([13, 10, 13, 10] : List UInt8) l = four (toN l) := by
  rw [Bool.eq_iff_iff, List.isPrefixOf_iff_prefix]
  unfold four
  rw [beq_iff_eq]
  constructor
  · rintro ⟨r, rfl⟩; rfl
  · intro h
    have h2 : toN (l.take 4) = toN [13, 10, 13, 10] := by rw [toN_take, h]; rfl
    have h3 := toN_inj h2
    exact ⟨l.drop 4, by rw [← h3]; exact List.take_append_drop 4 l⟩
theorem pre2 (l : List UInt8) : List.isPrefixOf ([13, 10] : List UInt8) l = two (toN l) := by
  rw [Bool.eq_iff_iff, List.isPrefixOf_iff_prefix]
  unfold two
  rw [beq_iff_eq]
  constructor
  · rintro ⟨r, rfl⟩; rfl
  · intro h
    have h2 : toN (l.take 2) = toN [13, 10] := by rw [toN_take, h]; rfl
    have h3 := toN_inj h2
    exact ⟨l.drop 2, by rw [← h3]; exact List.take_append_drop 2 l⟩
theorem pre1 (c : UInt8) (x : UInt8) (l : List UInt8) : List.isPrefixOf [c] (x :: l) = decide (x.toNat = c.toNat) := by
  rw [Bool.eq_iff_iff, List.isPrefixOf_iff_prefix, decide_eq_true_eq]
  constructor
  · rintro ⟨r, h⟩; injection h with h; rw [h]
  · intro h; exact ⟨l, by rw [UInt8.toNat_inj.1 h]; rfl⟩
/-- A place, or none, as a number. -/
def pos : Option Nat → Int
  | none => -1
  | some i => (i : Int)
theorem pos_succ (o : Option Nat) : pos (o.map (· + 1)) = if pos o == -1 then -1 else pos o + 1 := by
  cases o with
  | none => rfl
  | some i =>
    have h : ((i : Int) == -1) = false := by rw [beq_eq_false_iff_ne]; omega
    show ((i + 1 : Nat) : Int) = if ((i : Int) == -1) = true then -1 else (i : Int) + 1
    rw [h, if_neg (by simp)]; omega
theorem index4 (l : List UInt8) : Lib.index l [13, 10, 13, 10] = pos (fnd (toN l)) := by
  induction l with
  | nil => rfl
  | cons x r ih =>
    unfold Lib.index
    rw [pre4, ih, show toN (x :: r) = x.toNat :: toN r from rfl, fnd]
    by_cases h : four (x.toNat :: toN r) = true
    · rw [if_pos h, if_pos h]; rfl
    · rw [if_neg h, if_neg h, pos_succ]
theorem index2 (l : List UInt8) : Lib.index l [13, 10] = pos (eol (toN l)) := by
  induction l with
  | nil => rfl
  | cons x r ih =>
    unfold Lib.index
    rw [pre2, ih, show toN (x :: r) = x.toNat :: toN r from rfl, eol]
    by_cases h : two (x.toNat :: toN r) = true
    · rw [if_pos h, if_pos h]; rfl
    · rw [if_neg h, if_neg h, pos_succ]
/-- Where a byte is first. -/
def fst (c : Nat) : List Nat → Option Nat
  | [] => none
  | x :: r => if x = c then some 0 else (fst c r).map (· + 1)
theorem index1 (c : UInt8) (l : List UInt8) : Lib.index l [c] = pos (fst c.toNat (toN l)) := by
  induction l with
  | nil => rfl
  | cons x r ih =>
    unfold Lib.index
    rw [pre1, ih, show toN (x :: r) = x.toNat :: toN r from rfl, fst]
    by_cases h : x.toNat = c.toNat
    · rw [if_pos (decide_eq_true h), if_pos h]; rfl
    · rw [if_neg (by rw [decide_eq_false h]; simp), if_neg h, pos_succ]
theorem cut_fst (c : Nat) (l : List Nat) : cut c l = (fst c l).map fun i => (l.take i, l.drop (i + 1)) := by
  induction l with
  | nil => rfl
  | cons x r ih =>
    rw [cut, fst]
    by_cases h : x = c
    · rw [if_pos h, if_pos h]; rfl
    · rw [if_neg h, if_neg h, ih]
      cases fst c r <;> rfl
theorem indexByte_mem (c : UInt8) (l : List UInt8) : decide (Lib.indexByte l c < 0) = !(toN l).contains c.toNat := by
  induction l with
  | nil => rfl
  | cons x r ih =>
    unfold Lib.indexByte
    have hge := Lib.indexByte_ge r c
    rw [show toN (x :: r) = x.toNat :: toN r from rfl, List.contains_cons]
    by_cases h : x = c
    · subst h; simp
    · have h2 : (x == c) = false := by rw [beq_eq_false_iff_ne]; exact h
      have h3 : (c.toNat == x.toNat) = false := by rw [beq_eq_false_iff_ne]; exact fun e => h (UInt8.toNat_inj.1 e.symm)
      rw [h2, if_neg (by simp), h3, Bool.false_or, ← ih]
      by_cases h4 : Lib.indexByte r c = -1
      · rw [h4]; rfl
      · have h5 : (Lib.indexByte r c == -1) = false := by rw [beq_eq_false_iff_ne]; exact h4
        rw [h5, if_neg (by simp)]
        congr 1
        rw [eq_iff_iff]; omega

/-- The lines of a text behind whose last line 13, 10 is thought. -/
theorem lines_miss (l : List Nat) (h : eol l = none) : lines (l ++ [13, 10]) = [l] := by
  obtain ⟨i, h1, h2⟩ := eol_end l
  rcases h2 with h2 | h2
  · rw [lines_eol h1, h2, List.take_append_of_le_length (Nat.le_refl _), List.take_of_length_le (Nat.le_refl _), List.drop_eq_nil_of_le (by simp)]
    rfl
  · exfalso
    obtain ⟨h3, h4⟩ := eol_drop h1
    have e : eol l = some i := by
      apply eol_of
      · rw [List.drop_append_of_le_length (by omega)] at h3
        unfold two at h3 ⊢
        rwa [List.take_append_of_le_length (by rw [List.length_drop]; omega)] at h3
      · intro j hj
        have := h4 j hj
        rw [List.drop_append_of_le_length (by omega)] at this
        unfold two at this ⊢
        rwa [List.take_append_of_le_length (by rw [List.length_drop]; omega)] at this
    rw [h] at e; cases e
theorem eol_app (l m : List Nat) (i : Nat) (h : eol l = some i) : eol (l ++ m) = some i := by
  obtain ⟨h3, h4⟩ := eol_drop h
  have hl : i + 2 ≤ l.length := by
    unfold two at h3
    have := congrArg List.length (beq_iff_eq.1 h3)
    rw [List.length_take, List.length_drop] at this
    simp only [List.length_cons, List.length_nil] at this
    omega
  apply eol_of
  · rw [List.drop_append_of_le_length (by omega)]
    unfold two at h3 ⊢
    rwa [List.take_append_of_le_length (by rw [List.length_drop]; omega)]
  · intro j hj
    have := h4 j hj
    rw [List.drop_append_of_le_length (by omega)]
    unfold two at this ⊢
    rwa [List.take_append_of_le_length (by rw [List.length_drop]; omega)]
theorem split_lines : ∀ (n : Nat) (l : List UInt8), l.length ≤ n → (Lib.splitK [13, 10] 0 (Lib.count l [13, 10]) l).map toN = lines (toN l ++ [13, 10])
  | n, l, hn => by
    cases he : eol (toN l) with
    | none =>
      have hi : Lib.index l [13, 10] = -1 := by rw [index2, he]; rfl
      rw [Lib.count_miss hi, lines_miss _ he]
      rfl
    | some i =>
      have hi : Lib.index l [13, 10] = (i : Int) := by rw [index2, he]; rfl
      have hl : i + 2 ≤ l.length := by
        have h3 := (eol_drop he).1
        unfold two at h3
        have := congrArg List.length (beq_iff_eq.1 h3)
        rw [List.length_take, List.length_drop, toN_length] at this
        simp only [List.length_cons, List.length_nil] at this
        omega
      have hm : ¬ (Lib.index l [13, 10] == -1) = true := by rw [hi]; simp
      have hc : Lib.count l [13, 10] = Lib.count (l.drop (i + 2)) [13, 10] + 1 := by
        rw [Lib.count_hit (by simp) hi, Nat.add_comm]; rfl
      rw [hc, Lib.splitK, if_neg hm, hi]
      cases n with
      | zero => omega
      | succ n =>
        have ih := split_lines n (l.drop (i + 2)) (by rw [List.length_drop]; omega)
        rw [List.map_cons]
        simp only [Int.toNat_natCast, Nat.add_zero, List.length_cons, List.length_nil, Nat.reduceAdd]
        rw [ih, lines_eol (eol_app _ [13, 10] _ he), toN_take, toN_drop, List.take_append_of_le_length (by rw [toN_length]; omega), List.drop_append_of_le_length (by rw [toN_length]; omega)]

/-- A first line's pieces, at the first two blanks. -/
theorem split_three (l : List UInt8) (p : List (List Nat)) (hp : (Lib.splitK [32] 0 (min 3 (l.length + 1) - 1) l).map toN = p) :
    (p.length < 3 ∧ rd1 (toN l) = none) ∨ ∃ a b c, p = [a, b, c] ∧ rd1 (toN l) = some (a, b, c) := by
  have cut1 : ∀ m : List UInt8, Lib.index m [32] = pos (fst 32 (toN m)) := fun m => index1 32 m
  have hk : ∀ k, k = min 3 (l.length + 1) - 1 → k = 0 ∧ l.length = 0 ∨ k = 1 ∧ l.length = 1 ∨ k = 2 := fun k h => by omega
  have step : ∀ (k : Nat) (m : List UInt8), (Lib.splitK [32] 0 (k + 1) m).map toN = match fst 32 (toN m) with
      | none => [toN m]
      | some i => (toN m).take i :: (Lib.splitK [32] 0 k (m.drop (i + 1))).map toN := fun k m => by
    rw [Lib.splitK, cut1]
    cases h : fst 32 (toN m) with
    | none => rfl
    | some i =>
      have h5 : (pos (some i) == -1) = false := by rw [beq_eq_false_iff_ne]; show (i : Int) ≠ -1; omega
      rw [h5, if_neg (by simp)]
      show toN (m.take i) :: _ = _
      rw [toN_take]
      rfl
  unfold rd1
  simp only [cut_fst]
  rcases hk _ rfl with ⟨h, hl⟩ | ⟨h, hl⟩ | h
  · left
    rw [h] at hp
    subst hp
    obtain rfl : l = [] := List.eq_nil_of_length_eq_zero hl
    exact ⟨by decide, rfl⟩
  · left
    rw [h, step 0] at hp
    match l, hl with
    | [x], _ =>
      by_cases hx : x.toNat = 32
      · have : fst 32 (toN [x]) = some 0 := by show fst 32 [x.toNat] = _; rw [fst, if_pos hx]
        rw [this] at hp ⊢
        subst hp
        exact ⟨by simp [Lib.splitK], by simp [toN, fst]⟩
      · have : fst 32 (toN [x]) = none := by show fst 32 [x.toNat] = _; rw [fst, if_neg hx]; rfl
        rw [this] at hp ⊢
        subst hp
        exact ⟨by simp, rfl⟩
  · rw [h, step 1] at hp
    cases h1 : fst 32 (toN l) with
    | none => rw [h1] at hp; subst hp; exact Or.inl ⟨by simp, rfl⟩
    | some i =>
      rw [h1] at hp
      simp only at hp
      rw [step 0] at hp
      simp only [Option.map_some, Option.bind_some]
      rw [toN_drop] at hp
      cases h2 : fst 32 ((toN l).drop (i + 1)) with
      | none => rw [h2] at hp; subst hp; exact Or.inl ⟨by simp, rfl⟩
      | some j =>
        rw [h2] at hp
        subst hp
        refine Or.inr ⟨_, _, _, rfl, ?_⟩
        simp only [Option.map_some]
        rw [toN_drop, toN_drop]
theorem libcut (l : List UInt8) : (match cut 58 (toN l) with | none => (Lib.cut l [58]).2.2 = false | some p => (Lib.cut l [58]).2.2 = true ∧ toN (Lib.cut l [58]).1 = p.1 ∧ toN (Lib.cut l [58]).2.1 = p.2) := by
  have hi : Lib.index l [58] = pos (fst 58 (toN l)) := index1 58 l
  rw [cut_fst]
  unfold Lib.cut
  rw [hi]
  cases h : fst 58 (toN l) with
  | none => rfl
  | some i =>
    simp only [Option.map_some]
    rw [if_pos (by show (0 : Int) ≤ (i : Int); omega)]
    exact ⟨rfl, by rw [toN_take]; rfl, by rw [toN_drop]; rfl⟩

theorem rtrim_cons (x : Nat) (r : List Nat) : rtrim (x :: r) = if rtrim r = [] then (if x = 32 ∨ x = 9 then [] else [x]) else x :: rtrim r := by
  unfold rtrim
  rw [List.reverse_cons]
  have h : ∀ l : List Nat, ltrim (l ++ [x]) = if ltrim l = [] then (if x = 32 ∨ x = 9 then [] else [x]) else ltrim l ++ [x] := by
    intro l
    induction l with
    | nil => rw [List.nil_append, ltrim, ltrim, ltrim, if_pos rfl]
    | cons y t ih =>
      rw [List.cons_append, ltrim, ltrim]
      by_cases hy : y = 32 ∨ y = 9
      · rw [if_pos hy, if_pos hy, ih]
      · rw [if_neg hy, if_neg hy, if_neg (by simp)]; rfl
  rw [h]
  by_cases h2 : ltrim r.reverse = []
  · have h3 : (ltrim r.reverse).reverse = [] := by rw [h2]; rfl
    rw [if_pos h2, if_pos h3]
    split <;> rfl
  · rw [if_neg h2, if_neg (by simpa using h2), List.reverse_append]; rfl
theorem trim_comm (l : List Nat) : ltrim (rtrim l) = rtrim (ltrim l) := by
  induction l with
  | nil => rfl
  | cons x r ih =>
    rw [rtrim_cons, ltrim]
    by_cases hx : x = 32 ∨ x = 9
    · rw [if_pos hx, if_pos hx, ← ih]
      by_cases h : rtrim r = []
      · rw [if_pos h, h]
      · rw [if_neg h, ltrim, if_pos hx]
    · rw [if_neg hx, if_neg hx, rtrim_cons, if_neg hx]
      by_cases h : rtrim r = []
      · rw [if_pos h]; exact ltrim_of x [] hx
      · rw [if_neg h]; exact ltrim_of x _ hx
theorem dropWhile_ltrim (l : List UInt8) : toN (l.dropWhile (([32, 9] : List UInt8).contains ·)) = ltrim (toN l) := by
  induction l with
  | nil => rfl
  | cons x r ih =>
    rw [List.dropWhile_cons, show toN (x :: r) = x.toNat :: toN r from rfl, ltrim]
    have e : ([32, 9] : List UInt8).contains x = decide (x.toNat = 32 ∨ x.toNat = 9) := by
      rw [Bool.eq_iff_iff, decide_eq_true_eq, List.contains_iff_mem, List.mem_cons, List.mem_singleton]
      constructor
      · rintro (rfl | rfl) <;> decide
      · rintro (h | h)
        · exact Or.inl (UInt8.toNat_inj.1 h)
        · exact Or.inr (UInt8.toNat_inj.1 h)
    rw [e]
    by_cases h : x.toNat = 32 ∨ x.toNat = 9
    · rw [if_pos (decide_eq_true h), if_pos h, ih]
    · rw [if_neg (by rw [decide_eq_false h]; simp), if_neg h]; rfl
theorem libtrim (l : List UInt8) : toN (Lib.trimS l [32, 9]) = trim (toN l) := by
  unfold Lib.trimS Lib.trimLeftS Lib.trimRightS
  rw [dropWhile_ltrim, trim_eq, ← trim_comm]
  congr 1
  unfold rtrim
  rw [show toN (List.dropWhile (fun x => List.contains [32, 9] x) l.reverse).reverse = (toN (List.dropWhile (fun x => List.contains [32, 9] x) l.reverse)).reverse from by unfold toN; rw [List.map_reverse], dropWhile_ltrim]
  unfold toN
  rw [List.map_reverse]
theorem dropWhile_le {α : Type} (p : α → Bool) (l : List α) : (l.dropWhile p).length ≤ l.length := by
  induction l with
  | nil => exact Nat.le_refl _
  | cons x r ih => rw [List.dropWhile_cons]; split <;> simp only [List.length_cons] <;> omega
theorem dropWhile_self {α : Type} (p : α → Bool) (l : List α) : l.dropWhile p = l ↔ ∀ x, l.head? = some x → p x = false := by
  cases l with
  | nil => simp
  | cons x r =>
    rw [List.dropWhile_cons]
    by_cases h : p x = true
    · rw [if_pos h]
      constructor
      · intro e
        have := dropWhile_le p r
        rw [e] at this
        simp only [List.length_cons] at this
        omega
      · intro e; have := e x rfl; rw [h] at this; cases this
    · rw [if_neg h]
      exact ⟨fun _ y hy => by injection hy with hy; subst hy; simpa using h, fun _ => rfl⟩
/-- A text is itself without blanks at its ends just if it has none there. -/
theorem libtrim1 (l : List UInt8) : (Lib.trimB l 32 == l) = ((toN l).head? != some 32 && (toN l).getLast? != some 32) := by
  rw [Bool.eq_iff_iff, beq_iff_eq, Bool.and_eq_true, bne_iff_ne, bne_iff_ne]
  have h1 : (toN l).head? ≠ some 32 ↔ ∀ x, l.head? = some x → (x == 32) = false := by
    unfold toN
    rw [List.head?_map]
    cases l.head? with
    | none => simp
    | some y =>
      simp only [Option.map_some, Option.some.injEq, ne_eq, beq_eq_false_iff_ne]
      constructor
      · rintro h x rfl e; exact h (by rw [e]; rfl)
      · intro h e; exact h y rfl (UInt8.toNat_inj.1 e)
  have h2 : (toN l).getLast? ≠ some 32 ↔ ∀ x, l.reverse.head? = some x → (x == 32) = false := by
    unfold toN
    rw [List.getLast?_map, List.head?_reverse]
    cases l.getLast? with
    | none => simp
    | some y =>
      simp only [Option.map_some, Option.some.injEq, ne_eq, beq_eq_false_iff_ne]
      constructor
      · rintro h x rfl e; exact h (by rw [e]; rfl)
      · intro h e; exact h y rfl (UInt8.toNat_inj.1 e)
  rw [h1, h2, ← dropWhile_self, ← dropWhile_self]
  unfold Lib.trimB Lib.trimLeftB Lib.trimRightB
  constructor
  · intro h
    have a1 := dropWhile_le (· == 32) l.reverse
    have a2 := dropWhile_le (· == 32) (l.reverse.dropWhile (· == 32)).reverse
    rw [h, List.length_reverse] at a2
    rw [List.length_reverse] at a1
    have a3 : l.reverse.dropWhile (· == 32) = l.reverse := by
      have hs := List.dropWhile_suffix (l := l.reverse) (· == (32 : UInt8))
      exact hs.eq_of_length (by rw [List.length_reverse]; omega)
    rw [a3, List.reverse_reverse] at h
    exact ⟨h, a3⟩
  · rintro ⟨h, k⟩
    rw [k, List.reverse_reverse, h]
end HeadPlain
