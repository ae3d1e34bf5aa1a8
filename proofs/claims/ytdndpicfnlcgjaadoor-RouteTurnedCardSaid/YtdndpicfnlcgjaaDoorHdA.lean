/- What the library's words (where a row of bytes is first, the pieces of a text, a text without the bytes of a set at its ends) are in the plain words on heads. -/
import Derived.Test.YtdndpicfnlcgjaaDoorPlain
import Derived.Lib.Split
import Derived.Lib.SlTrimSet
import Derived.Lib.TrimByte
import Derived.Test.YtdndpicfnlcgjaaDoorBase
import Derived.Deep.DeepCutAuto
set_option maxRecDepth 100000
namespace HeadPlain
open Go

def toN (l : List UInt8) : List Nat := l.map (·.toNat)
@[simp] theorem toN_length (l : List UInt8) : (toN l).length = l.length := by simp [toN]
theorem toN_take (l : List UInt8) (n : Nat) : toN (l.take n) = (toN l).take n := by simp [toN]
theorem toN_drop (l : List UInt8) (n : Nat) : toN (l.drop n) = (toN l).drop n := by simp [toN]
theorem toN_append (a b : List UInt8) : toN (a ++ b) = toN a ++ toN b := by simp [toN]
theorem toN_inj {a b : List UInt8} (h : toN a = toN b) : a = b := (List.map_inj_right (fun x y (e : UInt8.toNat x = UInt8.toNat y) => UInt8.toNat_inj.1 e)).1 h
theorem toN_beq (a b : List UInt8) : (a == b) = (toN a == toN b) := by
  rw [Bool.eq_iff_iff, beq_iff_eq, beq_iff_eq]
  exact ⟨fun h => by rw [h], toN_inj⟩

theorem pre4 (l : List UInt8) : List.isPrefixOf ([13, 10, 13, 10] : List UInt8) l = four (toN l) := by
  rw [Bool.eq_iff_iff, List.isPrefixOf_iff_prefix]
  unfold four
  rw [beq_iff_eq]
  constructor
  · rintro ⟨r, rfl⟩; rfl
  · intro h
    have h2 : toN (l.take 4) = toN [13, 10, 13, 10] := by rw [toN_take, h]; rfl
    have h3 := toN_inj h2
    exact ⟨l.drop 4, by rw [← h3]; exact List.take_append_drop 4 l⟩
theorem pre2 (l : List UInt8) : List.isPrefixOf ([13, 10] : List UInt8) l = two (toN l) := by
  rw [Bool.eq_iff_iff, List.isPrefixOf_iff_prefix]
  unfold two
  rw [beq_iff_eq]
  constructor
  · rintro ⟨r, rfl⟩; rfl
  · intro h
    have h2 : toN (l.take 2) = toN [13, 10] := by rw [toN_take, h]; rfl
    have h3 := toN_inj h2
    exact ⟨l.drop 2, by rw [← h3]; exact List.take_append_drop 2 l⟩
theorem pre1 (c : UInt8) (x : UInt8) (l : List UInt8) : List.isPrefixOf [c] (x :: l) = decide (x.toNat = c.toNat) := by
  rw [Bool.eq_iff_iff, List.isPrefixOf_iff_prefix, decide_eq_true_eq]
  constructor
  · rintro ⟨r, h⟩; injection h with h; rw [h]
  · intro h; exact ⟨l, by rw [UInt8.toNat_inj.1 h]; rfl⟩
/-- A place, or none, as a number. -/
def pos : Option Nat → Int
  | none => -1
  | some i => (i : Int)
theorem pos_succ (o : Option Nat) : pos (o.map (· + 1)) = if pos o == -1 then -1 else pos o + 1 := by
  cases o with
  | none => rfl
  | some i =>
    have h : ((i : Int) == -1) = false := by rw [beq_eq_false_iff_ne]; omega
    show ((i + 1 : Nat) : Int) = if ((i : Int) == -1) = true then -1 else (i : Int) + 1
    rw [h, if_neg (by simp)]; omega
theorem index4 (l : List UInt8) : Lib.index l [13, 10, 13, 10] = pos (fnd (toN l)) := by
  induction l with
  | nil => rfl
  | cons x r ih =>
    unfold Lib.index
    rw [pre4, ih, show toN (x :: r) = x.toNat :: toN r from rfl, fnd]
    by_cases h : four (x.toNat :: toN r) = true
    · rw [if_pos h, if_pos h]; rfl
    · rw [if_neg h, if_neg h, pos_succ]
theorem index2 (l : List UInt8) : Lib.index l [13, 10] = pos (eol (toN l)) := by
  induction l with
  | nil => rfl
  | cons x r ih =>
    unfold Lib.index
    rw [pre2, ih, show toN (x :: r) = x.toNat :: toN r from rfl, eol]
    by_cases h : two (x.toNat :: toN r) = true
    · rw [if_pos h, if_pos h]; rfl
    · rw [if_neg h, if_neg h, pos_succ]
/-- Where a byte is first. -/
def fst (c : Nat) : List Nat → Option Nat
  | [] => none
  | x :: r => if x = c then some 0 else (fst c r).map (· + 1)
theorem index1 (c : UInt8) (l : List UInt8) : Lib.index l [c] = pos (fst c.toNat (toN l)) := by
  induction l with
  | nil => rfl
  | cons x r ih =>
    unfold Lib.index
    rw [pre1, ih, show toN (x :: r) = x.toNat :: toN r from rfl, fst]
    by_cases h : x.toNat = c.toNat
    · rw [if_pos (decide_eq_true h), if_pos h]; rfl
    · rw [if_neg (by rw [decide_eq_false h]; simp), if_neg h, pos_succ]
theorem cut_fst (c : Nat) (l : List Nat) : cut c l = (fst c l).map fun i => (l.take i, l.drop (i + 1)) := by
  induction l with
  | nil => rfl
  | cons x r ih =>
    rw [cut, fst]
    by_cases h : x = c
    · rw [if_pos h, if_pos h]; rfl
    · rw [if_neg h, if_neg h, ih]
      cases fst c r <;> rfl
theorem indexByte_mem (c : UInt8) (l : List UInt8) : decide (Lib.indexByte l c < 0) = !(toN l).contains c.toNat := by
  induction l with
  | nil => rfl
  | cons x r ih =>
    unfold Lib.indexByte
    have hge := Lib.indexByte_ge r c
    rw [show toN (x :: r) = x.toNat :: toN r from rfl, List.contains_cons]
    by_cases h : x = c
    · subst h; simp
    · have h2 : (x == c) = false := by rw [beq_eq_false_iff_ne]; exact h
      have h3 : (c.toNat == x.toNat) = false := by rw [beq_eq_false_iff_ne]; exact fun e => h (UInt8.toNat_inj.1 e.symm)
      rw [h2, if_neg (by simp), h3, Bool.false_or, ← ih]
      by_cases h4 : Lib.indexByte r c = -1
      · rw [h4]; rfl
      · have h5 : (Lib.indexByte r c == -1) = false := by rw [beq_eq_false_iff_ne]; exact h4
        rw [h5, if_neg (by simp)]
        congr 1
        rw [eq_iff_iff]; omega

/-- The lines of a text behind whose last line 13, 10 is thought. -/
theorem lines_miss (l : List Nat) (h : eol l = none) : lines (l ++ [13, 10]) = [l] := by
  obtain ⟨i, h1, h2⟩ := eol_end l
  rcases h2 with h2 | h2
  · rw [lines_eol h1, h2, List.take_append_of_le_length (Nat.le_refl _), List.take_of_length_le (Nat.le_refl _), List.drop_eq_nil_of_le (by simp)]
    rfl
  · exfalso
    obtain ⟨h3, h4⟩ := eol_drop h1
    have e : eol l = some i := by
      apply eol_of
      · rw [List.drop_append_of_le_length (by omega)] at h3
        unfold two at h3 ⊢
        rwa [List.take_append_of_le_length (by rw [List.length_drop]; omega)] at h3
      · intro j hj
        have := h4 j hj
        rw [List.drop_append_of_le_length (by omega)] at this
        unfold two at this ⊢
        rwa [List.take_append_of_le_length (by rw [List.length_drop]; omega)] at this
    rw [h] at e; cases e
theorem eol_app (l m : List Nat) (i : Nat) (h : eol l = some i) : eol (l ++ m) = some i := by
  obtain ⟨h3, h4⟩ := eol_drop h
  have hl : i + 2 ≤ l.length := by
    unfold two at h3
    have := congrArg List.length (beq_iff_eq.1 h3)
    rw [List.length_take, List.length_drop] at this
    simp only [List.length_cons, List.length_nil] at this
    omega
  apply eol_of
  · rw [List.drop_append_of_le_length (by omega)]
    unfold two at h3 ⊢
    rwa [List.take_append_of_le_length (by rw [List.length_drop]; omega)]
  · intro j hj
    have := h4 j hj
    rw [List.drop_append_of_le_length (by omega)]
    unfold two at this ⊢
    rwa [List.take_append_of_le_length (by rw [List.length_drop]; omega)]
theorem split_lines : ∀ (n : Nat) (l : List UInt8), l.length ≤ n → (Lib.splitK [13, 10] 0 (Lib.count l [13, 10]) l).map toN = lines (toN l ++ [13, 10])
  | n, l, hn => by
    cases he : eol (toN l) with
    | none =>
      have hi : Lib.index l [13, 10] = -1 := by rw [index2, he]; rfl
      rw [Lib.count_miss hi, lines_miss _ he]
      rfl
    | some i =>
      have hi : Lib.index l [13, 10] = (i : Int) := by rw [index2, he]; rfl
      have hl : i + 2 ≤ l.length := by
        have h3 := (eol_drop he).1
        unfold two at h3
        have := congrArg List.length (beq_iff_eq.1 h3)
        rw [List.length_take, List.length_drop, toN_length] at this
        simp only [List.length_cons, List.length_nil] at this
        omega
      have hm : ¬ (Lib.index l [13, 10] == -1) = true := by rw [hi]; simp
      have hc : Lib.count l [13, 10] = Lib.count (l.drop (i + 2)) [13, 10] + 1 := by
        rw [Lib.count_hit (by simp) hi, Nat.add_comm]; rfl
      rw [hc, Lib.splitK, if_neg hm, hi]
      cases n with
      | zero => omega
      | succ n =>
        have ih := split_lines n (l.drop (i + 2)) (by rw [List.length_drop]; omega)
        rw [List.map_cons]
        simp only [Int.toNat_natCast, Nat.add_zero, List.length_cons, List.length_nil, Nat.reduceAdd]
        rw [ih, lines_eol (eol_app _ [13, 10] _ he), toN_take, toN_drop, List.take_append_of_le_length (by rw [toN_length]; omega), List.drop_append_of_le_length (by rw [toN_length]; omega)]

/-- A first line's pieces, at the first two blanks. -/
theorem split_three (l : List UInt8) (p : List (List Nat)) (hp : (Lib.splitK [32] 0 (min 3 (l.length + 1) - 1) l).map toN = p) :
    (p.length < 3 ∧ rd1 (toN l) = none) ∨ ∃ a b c, p = [a, b, c] ∧ rd1 (toN l) = some (a, b, c) := by
  have cut1 : ∀ m : List UInt8, Lib.index m [32] = pos (fst 32 (toN m)) := fun m => index1 32 m
  have hk : ∀ k, k = min 3 (l.length + 1) - 1 → k = 0 ∧ l.length = 0 ∨ k = 1 ∧ l.length = 1 ∨ k = 2 := fun k h => by omega
  have step : ∀ (k : Nat) (m : List UInt8), (Lib.splitK [32] 0 (k + 1) m).map toN = match fst 32 (toN m) with
      | none => [toN m]
      | some i => (toN m).take i :: (Lib.splitK [32] 0 k (m.drop (i + 1))).map toN := fun k m => by
    rw [Lib.splitK, cut1]
    cases h : fst 32 (toN m) with
    | none => rfl
    | some i =>
      have h5 : (pos (some i) == -1) = false := by rw [beq_eq_false_iff_ne]; show (i : Int) ≠ -1; omega
      rw [h5, if_neg (by simp)]
      show toN (m.take i) :: _ = _
      rw [toN_take]
      rfl
  unfold rd1
  simp only [cut_fst]
  rcases hk _ rfl with ⟨h, hl⟩ | ⟨h, hl⟩ | h
  · left
    rw [h] at hp
    subst hp
    obtain rfl : l = [] := List.eq_nil_of_length_eq_zero hl
    exact ⟨by decide, rfl⟩
  · left
    rw [h, step 0] at hp
    match l, hl with
    | [x], _ =>
      by_cases hx : x.toNat = 32
      · have : fst 32 (toN [x]) = some 0 := by show fst 32 [x.toNat] = _; rw [fst, if_pos hx]
        rw [this] at hp ⊢
        subst hp
        exact ⟨by simp [Lib.splitK], by simp [toN, fst]⟩
      · have : fst 32 (toN [x]) = none := by show fst 32 [x.toNat] = _; rw [fst, if_neg hx]; rfl
        rw [this] at hp ⊢
        subst hp
        exact ⟨by simp, rfl⟩
  · rw [h, step 1] at hp
    cases h1 : fst 32 (toN l) with
    | none => rw [h1] at hp; subst hp; exact Or.inl ⟨by simp, rfl⟩
    | some i =>
      rw [h1] at hp
      simp only at hp
      rw [step 0] at hp
      simp only [Option.map_some, Option.bind_some]
      rw [toN_drop] at hp
      cases h2 : fst 32 ((toN l).drop (i + 1)) with
      | none => rw [h2] at hp; subst hp; exact Or.inl ⟨by simp, rfl⟩
      | some j =>
        rw [h2] at hp
        subst hp
        refine Or.inr ⟨_, _, _, rfl, ?_⟩
        simp only [Option.map_some]
        rw [toN_drop, toN_drop]
theorem libcut (l : List UInt8) : (match cut 58 (toN l) with | none => (Lib.cut l [58]).2.2 = false | some p => (Lib.cut l [58]).2.2 = true ∧ toN (Lib.cut l [58]).1 = p.1 ∧ toN (Lib.cut l [58]).2.1 = p.2) := by
  have hi : Lib.index l [58] = pos (fst 58 (toN l)) := index1 58 l
  rw [cut_fst]
  unfold Lib.cut
  rw [hi]
  cases h : fst 58 (toN l) with
  | none => rfl
  | some i =>
    simp only [Option.map_some]
    rw [if_pos (by show (0 : Int) ≤ (i : Int); omega)]
    exact ⟨rfl, by rw [toN_take]; rfl, by rw [toN_drop]; rfl⟩

theorem rtrim_cons (x : Nat) (r : List Nat) : rtrim (x :: r) = if rtrim r = [] then (if x = 32 ∨ x = 9 then [] else [x]) else x :: rtrim r := by
  unfold rtrim
  rw [List.reverse_cons]
  have h : ∀ l : List Nat, ltrim (l ++ [x]) = if ltrim l = [] then (if x = 32 ∨ x = 9 then [] else [x]) else ltrim l ++ [x] := by
    intro l
    induction l with
    | nil => rw [List.nil_append, ltrim, ltrim, ltrim, if_pos rfl]
    | cons y t ih =>
      rw [List.cons_append, ltrim, ltrim]
      by_cases hy : y = 32 ∨ y = 9
      · rw [if_pos hy, if_pos hy, ih]
      · rw [if_neg hy, if_neg hy, if_neg (by simp)]; rfl
  rw [h]
  by_cases h2 : ltrim r.reverse = []
  · have h3 : (ltrim r.reverse).reverse = [] := by rw [h2]; rfl
    rw [if_pos h2, if_pos h3]
    split <;> rfl
  · rw [if_neg h2, if_neg (by simpa using h2), List.reverse_append]; rfl
theorem trim_comm (l : List Nat) : ltrim (rtrim l) = rtrim (ltrim l) := by
  induction l with
  | nil => rfl
  | cons x r ih =>
    rw [rtrim_cons, ltrim]
    by_cases hx : x = 32 ∨ x = 9
    · rw [if_pos hx, if_pos hx, ← ih]
      by_cases h : rtrim r = []
      · rw [if_pos h, h]
      · rw [if_neg h, ltrim, if_pos hx]
    · rw [if_neg hx, if_neg hx, rtrim_cons, if_neg hx]
      by_cases h : rtrim r = []
      · rw [if_pos h]; exact ltrim_of x [] hx
      · rw [if_neg h]; exact ltrim_of x _ hx
theorem dropWhile_ltrim (l : List UInt8) : toN (l.dropWhile (([32, 9] : List UInt8).contains ·)) = ltrim (toN l) := by
  induction l with
  | nil => rfl
  | cons x r ih =>
    rw [List.dropWhile_cons, show toN (x :: r) = x.toNat :: toN r from rfl, ltrim]
    have e : ([32, 9] : List UInt8).contains x = decide (x.toNat = 32 ∨ x.toNat = 9) := by
      rw [Bool.eq_iff_iff, decide_eq_true_eq, List.contains_iff_mem, List.mem_cons, List.mem_singleton]
      constructor
      · rintro (rfl | rfl) <;> decide
      · rintro (h | h)
        · exact Or.inl (UInt8.toNat_inj.1 h)
        · exact Or.inr (UInt8.toNat_inj.1 h)
    rw [e]
    by_cases h : x.toNat = 32 ∨ x.toNat = 9
    · rw [if_pos (decide_eq_true h), if_pos h, ih]
    · rw [if_neg (by rw [decide_eq_false h]; simp), if_neg h]; rfl
theorem libtrim (l : List UInt8) : toN (Lib.trimS l [32, 9]) = trim (toN l) := by
  unfold Lib.trimS Lib.trimLeftS Lib.trimRightS
  rw [dropWhile_ltrim, trim_eq, ← trim_comm]
  congr 1
  unfold rtrim
  rw [show toN (List.dropWhile (fun x => List.contains [32, 9] x) l.reverse).reverse = (toN (List.dropWhile (fun x => List.contains [32, 9] x) l.reverse)).reverse from by unfold toN; rw [List.map_reverse], dropWhile_ltrim]
  unfold toN
  rw [List.map_reverse]
theorem dropWhile_le {α : Type} (p : α → Bool) (l : List α) : (l.dropWhile p).length ≤ l.length := by
  induction l with
  | nil => exact Nat.le_refl _
  | cons x r ih => rw [List.dropWhile_cons]; split <;> simp only [List.length_cons] <;> omega
theorem dropWhile_self {α : Type} (p : α → Bool) (l : List α) : l.dropWhile p = l ↔ ∀ x, l.head? = some x → p x = false := by
  cases l with
  | nil => simp
  | cons x r =>
    rw [List.dropWhile_cons]
    by_cases h : p x = true
    · rw [if_pos h]
      constructor
      · intro e
        have := dropWhile_le p r
        rw [e] at this
        simp only [List.length_cons] at this
        omega
      · intro e; have := e x rfl; rw [h] at this; cases this
    · rw [if_neg h]
      exact ⟨fun _ y hy => by injection hy with hy; subst hy; simpa using h, fun _ => rfl⟩
/-- A text is itself without blanks at its ends just if it has none there. -/
theorem libtrim1 (l : List UInt8) : (Lib.trimB l 32 == l) = ((toN l).head? != some 32 && (toN l).getLast? != some 32) := by
  rw [Bool.eq_iff_iff, beq_iff_eq, Bool.and_eq_true, bne_iff_ne, bne_iff_ne]
  have h1 : (toN l).head? ≠ some 32 ↔ ∀ x, l.head? = some x → (x == 32) = false := by
    unfold toN
    rw [List.head?_map]
    cases l.head? with
    | none => simp
    | some y =>
      simp only [Option.map_some, Option.some.injEq, ne_eq, beq_eq_false_iff_ne]
      constructor
      · rintro h x rfl e; exact h (by rw [e]; rfl)
      · intro h e; exact h y rfl (UInt8.toNat_inj.1 e)
  have h2 : (toN l).getLast? ≠ some 32 ↔ ∀ x, l.reverse.head? = some x → (x == 32) = false := by
    unfold toN
    rw [List.getLast?_map, List.head?_reverse]
    cases l.getLast? with
    | none => simp
    | some y =>
      simp only [Option.map_some, Option.some.injEq, ne_eq, beq_eq_false_iff_ne]
      constructor
      · rintro h x rfl e; exact h (by rw [e]; rfl)
      · intro h e; exact h y rfl (UInt8.toNat_inj.1 e)
  rw [h1, h2, ← dropWhile_self, ← dropWhile_self]
  unfold Lib.trimB Lib.trimLeftB Lib.trimRightB
  constructor
  · intro h
    have a1 := dropWhile_le (· == 32) l.reverse
    have a2 := dropWhile_le (· == 32) (l.reverse.dropWhile (· == 32)).reverse
    rw [h, List.length_reverse] at a2
    rw [List.length_reverse] at a1
    have a3 : l.reverse.dropWhile (· == 32) = l.reverse := by
      have hs := List.dropWhile_suffix (l := l.reverse) (· == (32 : UInt8))
      exact hs.eq_of_length (by rw [List.length_reverse]; omega)
    rw [a3, List.reverse_reverse] at h
    exact ⟨h, a3⟩
  · rintro ⟨h, k⟩
    rw [k, List.reverse_reverse, h]
end HeadPlain
/- The given variables; letters' case, texts that are the same but for it; bytes that lie within bounds: the program's functions and the document's. -/
namespace Go.Proofs.YtdndpicfnlcgjaaDoor
open Go.RowKit HeadPlain

def spans : List Value := [.int .u8 97, .int .u8 122, .int .u8 65, .int .u8 90, .int .u8 48, .int .u8 57]
/-- The spans of a token's bytes lie in memory as the program's text lays them, and the library's variable holds some number. -/
structure Globs (w : World) : Prop where
  t : w.rangeAt 0 0 spans
  m : ∃ m : Int, w.cell? ⟨1, 0, none⟩ = some (.int .i64 m)
theorem Globs.size {w : World} (h : Globs w) : 2 ≤ w.heap.size := by
  obtain ⟨m, hm⟩ := h.m
  have h1 : (1 : Nat) < w.heap.size := block_lt_of_cell hm
  have h2 : (0 : Nat) < w.heap.size := block_lt_of_cell (show w.cell? ⟨0, 0 + 0, none⟩ = _ from h.t 0 _ rfl)
  omega
theorem Globs.below {w w' : World} {B : Nat} (h : Globs w) (hb : Below B w w') (hB : 2 ≤ B) : Globs w' :=
  ⟨fun j v hv => by rw [hb.cell (p := ⟨0, 0 + j, none⟩) (show 0 < B by omega)]; exact h.t j v hv, by
    obtain ⟨m, hm⟩ := h.m
    exact ⟨m, by rw [hb.cell (p := ⟨1, 0, none⟩) (show 1 < B by omega)]; exact hm⟩⟩
theorem Globs.of {w0 w : World} (h : Globs w0) (hb : Below w0.heap.size w0 w) : Globs w := h.below hb h.size

theorem up_lt {c : Nat} (h : c < 256) : up c < 256 := by unfold up; split <;> omega
theorem same_yes {a b : ByteArray} (hl : a.size = b.size) (h : ∀ j, j < a.size → up ((bytes a).getD j 0) = up ((bytes b).getD j 0)) : same (bytes a) (bytes b) = true := by
  rw [same_iff]
  refine ⟨by rw [bytes_length, bytes_length]; exact hl, fun i hi => h i (by rwa [bytes_length] at hi)⟩
theorem same_no {a b : ByteArray} (k : Nat) (hk : k < a.size) (h : up ((bytes a).getD k 0) ≠ up ((bytes b).getD k 0)) : same (bytes a) (bytes b) = false := by
  rw [Bool.eq_false_iff]
  intro e
  rw [same_iff] at e
  exact h (e.2 k (by rw [bytes_length]; exact hk))
theorem same_len {a b : ByteArray} (h : a.size ≠ b.size) : same (bytes a) (bytes b) = false := by
  rw [Bool.eq_false_iff]
  intro e
  have := same_length e
  rw [bytes_length, bytes_length] at this
  exact h this

/-- Nothing but the count of draws has moved. -/
def Still (w w' : World) : Prop := ∃ m, w' = w.drewN m
theorem Still.heap {w w' : World} (h : Still w w') : w'.heap = w.heap := by obtain ⟨m, rfl⟩ := h; rfl
theorem Still.below {w w' : World} (h : Still w w') : Below w.heap.size w w' := by obtain ⟨m, rfl⟩ := h; exact ⟨rfl, rfl, rfl, Nat.le_refl _, fun _ _ => rfl⟩
theorem Still.refl (w : World) : Still w w := ⟨0, rfl⟩
theorem Still.drewN {w w' : World} (h : Still w w') (n : Nat) : Still w (w'.drewN n) := by
  obtain ⟨m, rfl⟩ := h; exact ⟨m + n, World.drewN_drewN _ _ _⟩
theorem Still.trans {u v w : World} (h : Still u v) (k : Still v w) : Still u w := by
  obtain ⟨m, rfl⟩ := h; obtain ⟨n, rfl⟩ := k; exact ⟨m + n, World.drewN_drewN _ _ _⟩

theorem plain_get (c : Nat) (s : ByteArray) : plainB c (bytes s) = true ↔ ∀ j, j < s.size → c ≤ (bytes s).getD j 0 ∧ (bytes s).getD j 0 ≤ 126 := by
  rw [plainB_iff]
  unfold plain
  constructor
  · intro h j hj
    rw [← bytes_length] at hj
    have := h _ (List.getElem_mem hj)
    simpa [List.getD_eq_getElem?_getD, List.getElem?_eq_getElem hj] using this
  · intro h x hx
    obtain ⟨j, hj, rfl⟩ := List.getElem_of_mem hx
    have := h j (by rw [← bytes_length]; exact hj)
    simpa [List.getD_eq_getElem?_getD, List.getElem?_eq_getElem hj] using this
theorem plain_no {c : Nat} {s : ByteArray} (k : Nat) (hk : k < s.size) (h : ¬ (c ≤ (bytes s).getD k 0 ∧ (bytes s).getD k 0 ≤ 126)) : plainB c (bytes s) = false := by
  rw [Bool.eq_false_iff]
  intro e
  exact h ((plain_get c s).1 e k hk)

end Go.Proofs.YtdndpicfnlcgjaaDoor
/- Whether a text is a token, as the document says it. -/
namespace Go.Proofs.YtdndpicfnlcgjaaDoor
open Go.RowKit HeadPlain

def spanB (c : Nat) : Bool := (97 ≤ c && c ≤ 122) || (65 ≤ c && c ≤ 90) || (48 ≤ c && c ≤ 57)
theorem tokB_eq (c : Nat) : tokB c = (spanB c || (marks.take 15).contains c) := by
  unfold tokB spanB
  rw [show marks.take 15 = marks from rfl]
theorem take_mark (c k : Nat) (hk : k < 15) : (marks.take (k + 1)).contains c = ((marks.take k).contains c || marks.getD k 0 == c) := by
  have hl : k < marks.length := hk
  rw [List.take_succ_eq_append_getElem hl]
  rw [Bool.eq_iff_iff]
  simp only [List.contains_iff_mem, List.mem_append, List.mem_singleton, Bool.or_eq_true, beq_iff_eq]
  rw [List.getD_eq_getElem?_getD, List.getElem?_eq_getElem hl]
  simp [eq_comm]
theorem index_mark (k : Nat) (hk : k < 15) (W : World) : (Instr.index 9 (.string { data := #[33, 35, 36, 37, 38, 39, 42, 43, 45, 46, 94, 95, 96, 124, 126] }) (.int .i64 (k : Int))).run Tryd.prog W = .ok (.int .u8 ((marks.getD k 0 : Nat) : Int)) W := by
  match k, hk with
  | 0, _ => show _ = _; kernel_rfl
  | 1, _ => show _ = _; kernel_rfl
  | 2, _ => show _ = _; kernel_rfl
  | 3, _ => show _ = _; kernel_rfl
  | 4, _ => show _ = _; kernel_rfl
  | 5, _ => show _ = _; kernel_rfl
  | 6, _ => show _ = _; kernel_rfl
  | 7, _ => show _ = _; kernel_rfl
  | 8, _ => show _ = _; kernel_rfl
  | 9, _ => show _ = _; kernel_rfl
  | 10, _ => show _ = _; kernel_rfl
  | 11, _ => show _ = _; kernel_rfl
  | 12, _ => show _ = _; kernel_rfl
  | 13, _ => show _ = _; kernel_rfl
  | 14, _ => show _ = _; kernel_rfl
theorem token_get (s : ByteArray) : (bytes s).all tokB = true ↔ ∀ j, j < s.size → tokB ((bytes s).getD j 0) = true := by
  rw [List.all_eq_true]
  constructor
  · intro h j hj
    rw [← bytes_length] at hj
    have := h _ (List.getElem_mem hj)
    simpa [List.getD_eq_getElem?_getD, List.getElem?_eq_getElem hj] using this
  · intro h x hx
    obtain ⟨j, hj, rfl⟩ := List.getElem_of_mem hx
    have := h j (by rw [← bytes_length]; exact hj)
    simpa [List.getD_eq_getElem?_getD, List.getElem?_eq_getElem hj] using this
theorem token_no {s : ByteArray} (k : Nat) (hk : k < s.size) (h : tokB ((bytes s).getD k 0) = false) : token (bytes s) = false := by
  rw [Bool.eq_false_iff]
  intro e
  unfold token at e
  rw [Bool.and_eq_true, token_get] at e
  have := e.2 k hk
  rw [h] at this
  cases this
theorem token_yes {s : ByteArray} (h : ∀ j, j < s.size → tokB ((bytes s).getD j 0) = true) : token (bytes s) = decide (0 < s.size) := by
  unfold token
  rw [(token_get s).2 h, Bool.and_true, ← bytes_length]
  cases bytes s <;> simp

set_option maxHeartbeats 1000000 in
set_option maxRecDepth 100000 in
theorem tokenR_any (s : ByteArray) (W : World) (hs : s.size ≤ maxLen) : Calls Tryd.prog 24 #[.string s] W fun e w' => e = .returned (.bool (token (bytes s))) ∧ w' = W := by
  unfold maxLen at hs
  go_enter Tryd.func24, Tryd.ntmps24
  go_wp2
  go_loopw [3] (fun i wr => ∃ k : Nat, k ≤ s.size ∧ i = .int .i64 k ∧ wr = W ∧ Sl (∀ j, j < k → tokB ((bytes s).getD j 0) = true)) (fun i _ => s.size - (intOf i).toNat)
  case atStart => exact ⟨0, by omega, rfl, rfl, ⟨fun j hj => by omega⟩⟩
  case round =>
    rename World => W0
    obtain ⟨k, hk, rfl, rfl, HA⟩ := hrel
    by_cases hlt : k < s.size
    · obtain ⟨c, hc⟩ : ∃ c, (s[k]'hlt).toNat = c := ⟨_, rfl⟩
      have HC : Sl ((bytes s).getD k 0 = c) := ⟨by rw [bytes_getD s k hlt, ← hc]; rfl⟩
      go_upto_region 5 with fail
      go_cut [5] (fun s5 wx => s5 = .bool (spanB c) ∧ W0 = wx)
      case first =>
        by_cases a1 : 97 ≤ c
        · have a1' : (c : Int) ≥ 97 := by omega
          by_cases a2 : c ≤ 122
          · have a2' : (c : Int) ≤ 122 := by omega
            have e : spanB c = true := by unfold spanB; simp [a1, a2]
            go_wp2_with fail; go_meet; exact ⟨by rw [e], rfl⟩
          · have a2' : ((c : Int) ≤ 122) = False := by simp; omega
            have a3' : (c : Int) ≥ 65 := by omega
            have a4' : ((c : Int) ≤ 90) = False := by simp; omega
            have a5' : (c : Int) ≥ 48 := by omega
            have a6' : ((c : Int) ≤ 57) = False := by simp; omega
            have e : spanB c = false := by unfold spanB; simp; omega
            go_wp2_with fail; go_meet; exact ⟨by rw [e], rfl⟩
        · have a1' : ((c : Int) ≥ 97) = False := by simp; omega
          by_cases a3 : 65 ≤ c
          · have a3' : (c : Int) ≥ 65 := by omega
            by_cases a4 : c ≤ 90
            · have a4' : (c : Int) ≤ 90 := by omega
              have e : spanB c = true := by unfold spanB; simp [a3, a4]
              go_wp2_with fail; go_meet; exact ⟨by rw [e], rfl⟩
            · have a4' : ((c : Int) ≤ 90) = False := by simp; omega
              have a5' : (c : Int) ≥ 48 := by omega
              have a6' : ((c : Int) ≤ 57) = False := by simp; omega
              have e : spanB c = false := by unfold spanB; simp; omega
              go_wp2_with fail; go_meet; exact ⟨by rw [e], rfl⟩
          · have a3' : ((c : Int) ≥ 65) = False := by simp; omega
            by_cases a5 : 48 ≤ c
            · have a5' : (c : Int) ≥ 48 := by omega
              by_cases a6 : c ≤ 57
              · have a6' : (c : Int) ≤ 57 := by omega
                have e : spanB c = true := by unfold spanB; simp [a5, a6]
                go_wp2_with fail; go_meet; exact ⟨by rw [e], rfl⟩
              · have a6' : ((c : Int) ≤ 57) = False := by simp; omega
                have e : spanB c = false := by unfold spanB; simp; omega
                go_wp2_with fail; go_meet; exact ⟨by rw [e], rfl⟩
            · have a5' : ((c : Int) ≥ 48) = False := by simp; omega
              have e : spanB c = false := by unfold spanB; simp; omega
              go_wp2_with fail; go_meet; exact ⟨by rw [e], rfl⟩
      case rest =>
        obtain ⟨rfl, rfl⟩ := hcut
        go_wp2
        go_loopw [6, 5] (fun i o wr => ∃ m : Nat, m ≤ 15 ∧ i = .int .i64 m ∧ o = .bool (spanB c || (marks.take m).contains c) ∧ wr = W0) (fun i _ _ => 15 - (intOf i).toNat)
        case atStart => exact ⟨0, by omega, rfl, by simp, rfl⟩
        case round =>
          obtain ⟨m, hm, rfl, rfl, rfl⟩ := hrel
          by_cases hlm : m < 15
          · have hidx := index_mark m hlm
            have ht := take_mark c m hlm
            obtain ⟨x, hx⟩ : ∃ x, marks.getD m 0 = x := ⟨_, rfl⟩
            rw [hx] at hidx ht
            obtain ⟨b, hb⟩ : ∃ b, (spanB c || (marks.take m).contains c) = b := ⟨_, rfl⟩
            have HT : Sl ((spanB c || (marks.take (m + 1)).contains c) = (b || x == c)) := ⟨by rw [ht, ← Bool.or_assoc, hb]⟩
            rw [hb]
            clear ht hx
            cases hbb : b with
            | true =>
              rw [hbb] at HT
              go_wp2
              refine ⟨⟨m + 1, by omega, by go_num, by rw [HT.out]; rfl, trivial⟩, by simp [intOf]; omega⟩
            | false =>
              rw [hbb] at HT
              by_cases hxc : x = c
              · have hxc' : ((x : Int) == (c : Int)) = true := by simp [hxc]
                go_wp2
                refine ⟨⟨m + 1, by omega, by go_num, by rw [HT.out]; simp [hxc], trivial⟩, by simp [intOf]; omega⟩
              · have hxc' : ((x : Int) == (c : Int)) = false := by simp; omega
                go_wp2
                refine ⟨⟨m + 1, by omega, by go_num, by rw [HT.out]; simp [hxc], trivial⟩, by simp [intOf]; omega⟩
          · have hge : ((m : Int) < 15) = False := by simp; omega
            obtain rfl : m = 15 := by omega
            obtain ⟨b, hb⟩ : ∃ b, (spanB c || (marks.take 15).contains c) = b := ⟨_, rfl⟩
            have HT : Sl (tokB c = b) := ⟨by rw [tokB_eq, hb]⟩
            rw [hb]
            cases hbb : b with
            | true =>
              rw [hbb] at HT
              go_wp2
              refine ⟨⟨k + 1, by omega, by go_num, trivial, ⟨fun j hj => ?_⟩⟩, by simp [intOf]; omega⟩
              by_cases e : j = k
              · subst e; rw [HC.out]; exact HT.out
              · exact HA.out j (by omega)
            | false =>
              rw [hbb] at HT
              go_wp2
              go_ret
              exact ⟨ret_bool (token_no k hlt (by rw [HC.out]; exact HT.out)).symm, rfl⟩
    · have hge : ((k : Int) < (s.size : Int)) = False := by simp; omega
      have HT : Sl (token (bytes s) = decide (0 < s.size)) := ⟨token_yes (fun j hj => HA.out j (by omega))⟩
      by_cases h0 : 0 < s.size
      · have h0' : (s.size : Int) > 0 := by omega
        go_wp2
        go_ret
        exact ⟨ret_bool (by rw [HT.out]; simp [h0]), rfl⟩
      · have h0' : ((s.size : Int) > 0) = False := eq_false (by omega)
        go_wp2
        go_ret
        exact ⟨ret_bool (by rw [HT.out]; simp [h0]), rfl⟩
end Go.Proofs.YtdndpicfnlcgjaaDoor
