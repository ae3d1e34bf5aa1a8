/- Heads, plain facts: lines up to an empty one, where they end, a first line of three parts, fields; as the chapter tells it. Nothing here speaks of the program. -/
namespace HeadPlain

/-- Does a row begin with 13, 10, 13, 10? -/
def four (l : List Nat) : Bool := l.take 4 == [13, 10, 13, 10]
/-- Where 13, 10, 13, 10 is first. -/
def fnd : List Nat → Option Nat
  | [] => none
  | x :: r => if four (x :: r) = true then some 0 else (fnd r).map (· + 1)
/-- Lines, each with 13 and 10 behind it. -/
def join (ls : List (List Nat)) : List Nat := ls.flatMap fun l => l ++ [13, 10]
@[simp] theorem join_nil : join [] = [] := rfl
@[simp] theorem join_cons (l : List Nat) (ls : List (List Nat)) : join (l :: ls) = l ++ 13 :: 10 :: join ls := by simp [join]
theorem join_append (a b : List (List Nat)) : join (a ++ b) = join a ++ join b := by simp [join]
/-- The lines of a row, cut at each 13, 10. -/
def lines : List Nat → List (List Nat)
  | [] => []
  | [x] => [[x]]
  | x :: y :: r => if x = 13 ∧ y = 10 then [] :: lines r else match lines (y :: r) with
    | [] => [[x]]
    | l :: ls => (x :: l) :: ls
/-- No byte of a line is 13 or 10. -/
def Clear (l : List Nat) : Prop := ∀ x ∈ l, x ≠ 13 ∧ x ≠ 10
theorem lines_line (l : List Nat) (h : Clear l) (r : List Nat) : lines (l ++ 13 :: 10 :: r) = l :: lines r := by
  induction l with
  | nil => simp [lines]
  | cons x t ih =>
    have hx := h x (by simp)
    have ht := ih (fun y hy => h y (by simp [hy]))
    cases t with
    | nil =>
      show lines (x :: 13 :: 10 :: r) = _
      rw [lines, if_neg (by intro q; exact hx.1 q.1)]
      simp only [List.nil_append] at ht
      rw [ht]
    | cons y t =>
      show lines (x :: y :: (t ++ 13 :: 10 :: r)) = _
      rw [lines, if_neg (by intro q; exact hx.1 q.1)]
      rw [show y :: (t ++ 13 :: 10 :: r) = (y :: t) ++ 13 :: 10 :: r from rfl, ht]
theorem lines_join (ls : List (List Nat)) (h : ∀ l ∈ ls, Clear l) : lines (join ls) = ls := by
  induction ls with
  | nil => rfl
  | cons l ls ih => rw [join_cons, lines_line l (h l (by simp)), ih (fun m hm => h m (by simp [hm]))]
theorem four_false {x : Nat} {r : List Nat} (h : x ≠ 13) : four (x :: r) = false := by
  unfold four
  rw [List.take_succ_cons, beq_eq_false_iff_ne]
  intro e; injection e with e1 _; exact h e1
theorem fnd_line (l r : List Nat) (h : Clear l) : fnd (l ++ r) = (fnd r).map (· + l.length) := by
  induction l with
  | nil => simp
  | cons x t ih =>
    have hx := h x (by simp)
    rw [List.cons_append, fnd, if_neg (by rw [four_false hx.1]; simp), ih (fun y hy => h y (by simp [hy])), Option.map_map]
    congr 1
/-- Behind lines that are not empty the first 13, 10, 13, 10 is the end of the last one. -/
theorem fnd_join (l : List Nat) (ls : List (List Nat)) (more : List Nat) (h : ∀ m ∈ l :: ls, Clear m) (hne : ∀ m ∈ ls, m ≠ []) : fnd (join (l :: ls) ++ 13 :: 10 :: more) = some ((join (l :: ls)).length - 2) := by
  induction ls generalizing l with
  | nil =>
    simp only [join_cons, join_nil, List.append_assoc, List.cons_append, List.nil_append]
    rw [fnd_line l _ (h l (by simp))]
    simp [fnd, four]
  | cons m ls ih =>
    have hm := hne m (by simp)
    obtain ⟨x, t, rfl⟩ := List.exists_cons_of_ne_nil hm
    have hx := h (x :: t) (by simp) x (by simp)
    rw [join_cons, List.append_assoc, fnd_line l _ (h l (by simp))]
    have e : fnd (13 :: 10 :: (join ((x :: t) :: ls) ++ 13 :: 10 :: more)) = (fnd (join ((x :: t) :: ls) ++ 13 :: 10 :: more)).map (· + 2) := by
      have f1 : four (13 :: 10 :: (join ((x :: t) :: ls) ++ 13 :: 10 :: more)) = false := by
        rw [join_cons]
        simp only [List.cons_append]
        unfold four
        rw [List.take_succ_cons, List.take_succ_cons, List.take_succ_cons, beq_eq_false_iff_ne]
        intro e; injection e with _ e; injection e with _ e; injection e with e _; exact hx.1 e
      rw [fnd, if_neg (by rw [f1]; simp), fnd, if_neg (by rw [four_false (by decide)]; simp), Option.map_map]
      congr 1
    rw [List.cons_append, List.cons_append, e, ih (x :: t) (fun y hy => h y (by simp at hy ⊢; right; exact hy)) (fun y hy => hne y (by simp [hy]))]
    simp only [Option.map_some, List.length_append, List.length_cons, join_cons]
    congr 1
    omega
/-- Where a byte is first, and what stands behind it. -/
def cut (c : Nat) : List Nat → Option (List Nat × List Nat)
  | [] => none
  | x :: r => if x = c then some ([], r) else (cut c r).map fun p => (x :: p.1, p.2)
theorem cut_of (c : Nat) (a b : List Nat) (h : ∀ x ∈ a, x ≠ c) : cut c (a ++ c :: b) = some (a, b) := by
  induction a with
  | nil => simp [cut]
  | cons x t ih => rw [List.cons_append, cut, if_neg (h x (by simp)), ih (fun y hy => h y (by simp [hy]))]; rfl
theorem cut_some (c : Nat) (s a b : List Nat) (h : cut c s = some (a, b)) : s = a ++ c :: b ∧ ∀ x ∈ a, x ≠ c := by
  induction s generalizing a b with
  | nil => cases h
  | cons x t ih =>
    rw [cut] at h
    split at h
    · rename_i e; injection h with h; injection h with h1 h2; subst h1 h2 e; exact ⟨rfl, by simp⟩
    · rename_i e
      cases h2 : cut c t with
      | none => rw [h2] at h; cases h
      | some p =>
        rw [h2] at h; simp only [Option.map_some, Option.some.injEq, Prod.mk.injEq] at h
        obtain ⟨rfl, rfl⟩ := h
        obtain ⟨g1, g2⟩ := ih p.1 p.2 h2
        exact ⟨by rw [List.cons_append, ← g1], fun y hy => by
          rcases List.mem_cons.1 hy with rfl | hy
          · exact e
          · exact g2 y hy⟩
theorem cut_none (c : Nat) (s : List Nat) (h : cut c s = none) : ∀ x ∈ s, x ≠ c := by
  induction s with
  | nil => simp
  | cons x t ih =>
    rw [cut] at h
    split at h
    · cases h
    · rename_i e
      have := ih (by simpa using h)
      intro y hy
      rcases List.mem_cons.1 hy with rfl | hy
      · exact e
      · exact this y hy

/-- A row without blanks (32, 9) ahead. -/
def ltrim : List Nat → List Nat
  | [] => []
  | x :: r => if x = 32 ∨ x = 9 then ltrim r else x :: r
def trim (l : List Nat) : List Nat := (ltrim (ltrim l).reverse).reverse
def blank (x : Nat) : Prop := x = 32 ∨ x = 9
theorem ltrim_of (x : Nat) (r : List Nat) (h : ¬ (x = 32 ∨ x = 9)) : ltrim (x :: r) = x :: r := by rw [ltrim, if_neg h]
/-- All bytes from a to 126. -/
def plain (a : Nat) (l : List Nat) : Prop := ∀ x ∈ l, a ≤ x ∧ x ≤ 126
/-- A value: bytes from 32 to 126, no 32 at its ends. -/
def value (l : List Nat) : Prop := plain 32 l ∧ l.head? ≠ some 32 ∧ l.getLast? ≠ some 32
theorem ltrim_value {l : List Nat} (h : value l) : ltrim l = l := by
  cases l with
  | nil => rfl
  | cons x r =>
    have h1 := (h.1 x (by simp)).1
    have h2 : x ≠ 32 := fun e => h.2.1 (by rw [e]; rfl)
    exact ltrim_of x r (by omega)
theorem value_reverse {l : List Nat} (h : value l) : value l.reverse :=
  ⟨fun x hx => h.1 x (by simpa using hx), by rw [List.head?_reverse]; exact h.2.2, by rw [List.getLast?_reverse]; exact h.2.1⟩
theorem trim_value {l : List Nat} (h : value l) : trim l = l := by
  unfold trim
  rw [ltrim_value h, ltrim_value (value_reverse h), List.reverse_reverse]
theorem trim_blank {l : List Nat} (h : value l) : trim (32 :: l) = l := by
  unfold trim
  rw [ltrim, if_pos (Or.inl rfl)]
  exact trim_value h
def marks : List Nat := [33, 35, 36, 37, 38, 39, 42, 43, 45, 46, 94, 95, 96, 124, 126]
/-- A byte of a token. -/
def tokB (x : Nat) : Bool := (97 ≤ x && x ≤ 122) || (65 ≤ x && x ≤ 90) || (48 ≤ x && x ≤ 57) || marks.contains x
def token (l : List Nat) : Bool := !l.isEmpty && l.all tokB
theorem tokB_range {x : Nat} (h : tokB x = true) : 33 ≤ x ∧ x ≤ 126 ∧ x ≠ 58 := by
  unfold tokB marks at h
  simp only [Bool.or_eq_true, Bool.and_eq_true, decide_eq_true_eq, List.contains_iff_mem, List.mem_cons, List.not_mem_nil, or_false] at h
  omega

/-- A head: its first line's three parts, its fields. -/
structure Hd where
  a : List Nat
  b : List Nat
  c : List Nat
  fs : List (List Nat × List Nat)
/-- May it be, but for its size? -/
structure Form (h : Hd) : Prop where
  a : h.a ≠ [] ∧ plain 33 h.a
  b : h.b ≠ [] ∧ plain 33 h.b
  c : value h.c
  fs : ∀ f ∈ h.fs, token f.1 = true ∧ value f.2
def line1 (h : Hd) : List Nat := h.a ++ 32 :: (h.b ++ 32 :: h.c)
def lineF (f : List Nat × List Nat) : List Nat := f.1 ++ 58 :: 32 :: f.2
/-- Its bytes. -/
def text (h : Hd) : List Nat := join (line1 h :: h.fs.map lineF) ++ [13, 10]
/-- A first line as three parts. -/
def rd1 (l : List Nat) : Option (List Nat × List Nat × List Nat) := (cut 32 l).bind fun p => (cut 32 p.2).map fun q => (p.1, q.1, q.2)
/-- A field's line. -/
def rdF (l : List Nat) : Option (List Nat × List Nat) := (cut 58 l).map fun p => (p.1, trim p.2)
def rdFs : List (List Nat) → Option (List (List Nat × List Nat))
  | [] => some []
  | l :: ls => (rdF l).bind fun f => (rdFs ls).map fun fs => f :: fs
/-- The head of lines, whether it may be or not. -/
def rdL : List (List Nat) → Option Hd
  | [] => none
  | l :: ls => (rd1 l).bind fun p => (rdFs ls).map fun fs => ⟨p.1, p.2.1, p.2.2, fs⟩
theorem rd1_line (h : Hd) (hf : Form h) : rd1 (line1 h) = some (h.a, h.b, h.c) := by
  have ha : ∀ x ∈ h.a, x ≠ 32 := fun x hx => by have := (hf.a.2 x hx).1; omega
  have hb : ∀ x ∈ h.b, x ≠ 32 := fun x hx => by have := (hf.b.2 x hx).1; omega
  unfold rd1 line1
  rw [cut_of 32 h.a _ ha]
  simp only [Option.bind_some]
  rw [cut_of 32 h.b _ hb]
  rfl
theorem rdF_line (f : List Nat × List Nat) (ht : token f.1 = true) (hv : value f.2) : rdF (lineF f) = some f := by
  have hn : ∀ x ∈ f.1, x ≠ 58 := fun x hx => by
    unfold token at ht
    rw [Bool.and_eq_true, List.all_eq_true] at ht
    exact (tokB_range (ht.2 x hx)).2.2
  unfold rdF lineF
  rw [cut_of 58 f.1 _ hn]
  simp only [Option.map_some]
  rw [trim_blank hv]
theorem rdFs_lines (fs : List (List Nat × List Nat)) (h : ∀ f ∈ fs, token f.1 = true ∧ value f.2) : rdFs (fs.map lineF) = some fs := by
  induction fs with
  | nil => rfl
  | cons f fs ih =>
    obtain ⟨h1, h2⟩ := h f (by simp)
    rw [List.map_cons, rdFs, rdF_line f h1 h2]
    simp only [Option.bind_some]
    rw [ih (fun g hg => h g (by simp [hg]))]
    rfl
theorem rdL_lines (h : Hd) (hf : Form h) : rdL (line1 h :: h.fs.map lineF) = some h := by
  rw [rdL, rd1_line h hf]
  simp only [Option.bind_some]
  rw [rdFs_lines h.fs hf.fs]
  rfl
theorem clear_plain {a : Nat} {l : List Nat} (ha : 14 ≤ a) (h : plain a l) : Clear l := fun x hx => by have := (h x hx).1; omega
theorem clear_append {a b : List Nat} (h : Clear a) (k : Clear b) : Clear (a ++ b) := fun x hx => by
  rcases List.mem_append.1 hx with hx | hx
  · exact h x hx
  · exact k x hx
theorem clear_cons {x : Nat} {l : List Nat} (hx : x ≠ 13 ∧ x ≠ 10) (h : Clear l) : Clear (x :: l) := fun y hy => by
  rcases List.mem_cons.1 hy with rfl | hy
  · exact hx
  · exact h y hy
theorem clear_token {l : List Nat} (h : token l = true) : Clear l := fun x hx => by
  unfold token at h
  rw [Bool.and_eq_true, List.all_eq_true] at h
  have := (tokB_range (h.2 x hx)).1
  omega
theorem clear_lines (h : Hd) (hf : Form h) : ∀ l ∈ line1 h :: h.fs.map lineF, Clear l := by
  intro l hl
  rcases List.mem_cons.1 hl with rfl | hl
  · exact clear_append (clear_plain (by decide) hf.a.2) (clear_cons (by decide) (clear_append (clear_plain (by decide) hf.b.2) (clear_cons (by decide) (clear_plain (by decide) hf.c.1))))
  · obtain ⟨f, hfm, rfl⟩ := List.mem_map.1 hl
    obtain ⟨h1, h2⟩ := hf.fs f hfm
    exact clear_append (clear_token h1) (clear_cons (by decide) (clear_cons (by decide) (clear_plain (by decide) h2.1)))
theorem lineF_ne (f : List Nat × List Nat) : lineF f ≠ [] := by unfold lineF; simp

/-- What Read tells: more is wanted, too long, not of the form, or a head and how many bytes it has. -/
inductive Res where
  | more | long | form | ok (h : Hd) (n : Nat)
/-- Bytes of which n are ahead of 13, 10, 13, 10. -/
def rdAt (s : List Nat) (n : Nat) : Option Hd := rdL (lines (s.take (n + 2)))
theorem rdAt_text (h : Hd) (hf : Form h) (more : List Nat) : fnd (text h ++ more) = some ((text h).length - 4) ∧ rdAt (text h ++ more) ((text h).length - 4) = some h := by
  have hl : (text h).length = (join (line1 h :: h.fs.map lineF)).length + 2 := by rw [text, List.length_append]; rfl
  have hj : 2 ≤ (join (line1 h :: h.fs.map lineF)).length := by rw [join_cons, List.length_append, List.length_cons, List.length_cons]; omega
  constructor
  · have := fnd_join (line1 h) (h.fs.map lineF) more (clear_lines h hf) (fun m hm => by obtain ⟨f, _, rfl⟩ := List.mem_map.1 hm; exact lineF_ne f)
    rw [hl, text, List.append_assoc]
    show fnd (join _ ++ 13 :: 10 :: more) = _
    rw [this]
    congr 1
  · unfold rdAt
    rw [hl, text, List.append_assoc, List.take_append_of_le_length (by omega), List.take_of_length_le (by omega), lines_join _ (clear_lines h hf)]
    exact rdL_lines h hf

theorem four_length {l : List Nat} (h : four l = true) : 4 ≤ l.length := by
  unfold four at h
  have := congrArg List.length (beq_iff_eq.1 h)
  rw [List.length_take] at this
  simp only [List.length_cons, List.length_nil] at this
  omega
theorem four_take {l : List Nat} (k : Nat) (h : 4 ≤ k) : four (l.take k) = four l := by
  unfold four; rw [List.take_take, Nat.min_eq_left h]
theorem fnd_length {s : List Nat} {n : Nat} (h : fnd s = some n) : n + 4 ≤ s.length ∧ four (s.drop n) = true := by
  induction s generalizing n with
  | nil => cases h
  | cons x r ih =>
    rw [fnd] at h
    split at h
    · rename_i h4; injection h with h; subst h; exact ⟨by have := four_length h4; omega, h4⟩
    · cases h2 : fnd r with
      | none => rw [h2] at h; cases h
      | some m =>
        rw [h2] at h; simp only [Option.map_some, Option.some.injEq] at h
        subst h
        obtain ⟨h3, h4⟩ := ih h2
        exact ⟨by simp only [List.length_cons]; omega, h4⟩
/-- Of a beginning: the same place, if it is whole there; none else. -/
theorem fnd_take (s : List Nat) (k : Nat) : fnd (s.take k) = (fnd s).bind fun n => if n + 4 ≤ k then some n else none := by
  induction s generalizing k with
  | nil => simp [fnd]
  | cons x r ih =>
    cases k with
    | zero =>
      rw [List.take_zero, fnd]
      cases h : fnd (x :: r) with
      | none => rfl
      | some n => simp
    | succ k =>
      rw [List.take_succ_cons, fnd, fnd]
      by_cases h4 : four (x :: r) = true
      · by_cases hk : 4 ≤ k + 1
        · have e : four (x :: r.take k) = true := by
            rw [← List.take_succ_cons, four_take _ hk]; exact h4
          rw [if_pos e, if_pos h4]
          simp only [Option.bind_some]
          rw [if_pos (by omega)]
        · have e : ¬ four (x :: r.take k) = true := fun q => by
            have := four_length q
            rw [List.length_cons, List.length_take] at this
            omega
          rw [if_neg e, if_pos h4]
          simp only [Option.bind_some]
          rw [if_neg (by omega), ih]
          cases h : fnd r with
          | none => rfl
          | some n => simp only [Option.bind_some]; rw [if_neg (by omega)]; rfl
      · have e : ¬ four (x :: r.take k) = true := fun q => by
          have := four_length q
          rw [List.length_cons, List.length_take] at this
          rw [← List.take_succ_cons, four_take _ (by omega)] at q
          exact h4 q
        rw [if_neg e, if_neg h4, ih]
        cases h : fnd r with
        | none => rfl
        | some n =>
          simp only [Option.bind_some, Option.map_some]
          by_cases hn : n + 4 ≤ k
          · rw [if_pos hn, if_pos (by omega)]; rfl
          · rw [if_neg hn, if_neg (by omega)]; rfl
theorem fnd_take_none {s : List Nat} {k : Nat} (h : fnd (s.take k) = none) {n : Nat} (hn : fnd s = some n) : k < n + 4 := by
  rw [fnd_take, hn] at h
  simp only [Option.bind_some] at h
  split at h
  · cases h
  · omega
theorem fnd_take_some {s : List Nat} {k n : Nat} (h : fnd (s.take k) = some n) : fnd s = some n ∧ n + 4 ≤ k := by
  rw [fnd_take] at h
  cases h2 : fnd s with
  | none => rw [h2] at h; cases h
  | some m =>
    rw [h2] at h; simp only [Option.bind_some] at h
    split at h
    · injection h with h; subst h; exact ⟨rfl, by assumption⟩
    · cases h
theorem rdAt_take (s : List Nat) (k n : Nat) (h : n + 4 ≤ k) : rdAt (s.take k) n = rdAt s n := by
  unfold rdAt; rw [List.take_take, Nat.min_eq_left (by omega)]

/-- May a head be, as a test. -/
def plainB (a : Nat) (l : List Nat) : Bool := l.all fun x => decide (a ≤ x ∧ x ≤ 126)
theorem plainB_iff (a : Nat) (l : List Nat) : plainB a l = true ↔ plain a l := by simp [plainB, plain]
def valueB (l : List Nat) : Bool := plainB 32 l && (l.head? != some 32 && l.getLast? != some 32)
theorem valueB_iff (l : List Nat) : valueB l = true ↔ value l := by simp [valueB, value, plainB_iff]
def formB (h : Hd) : Bool := (!h.a.isEmpty && plainB 33 h.a) && ((!h.b.isEmpty && plainB 33 h.b) && (valueB h.c && h.fs.all fun f => token f.1 && valueB f.2))
theorem formB_iff (h : Hd) : formB h = true ↔ Form h := by
  simp only [formB, Bool.and_eq_true, plainB_iff, valueB_iff, List.all_eq_true, Bool.not_eq_true', List.isEmpty_eq_false_iff]
  constructor
  · rintro ⟨h1, h2, h3, h4⟩; exact ⟨h1, h2, h3, h4⟩
  · rintro ⟨h1, h2, h3, h4⟩; exact ⟨h1, h2, h3, h4⟩
/-- Read, as the chapter tells it. -/
def rd (s : List Nat) : Res :=
  match fnd s with
  | none => if 2048 ≤ s.length then .long else .more
  | some n => if 2048 < n + 4 then .long else match rdAt s n with
    | none => .form
    | some h => if formB h = true then (if 32 < h.fs.length then .long else .ok h (n + 4)) else .form
/-- What is right is itself again, whatever stands behind. -/
theorem rd_text (h : Hd) (hf : Form h) (more : List Nat) (h1 : h.fs.length ≤ 32) (h2 : (text h).length ≤ 2048) : rd (text h ++ more) = .ok h (text h).length := by
  obtain ⟨e1, e2⟩ := rdAt_text h hf more
  have hj : 4 ≤ (text h).length := by
    rw [text, List.length_append, join_cons, List.length_append, List.length_cons, List.length_cons, List.length_cons, List.length_cons]; omega
  unfold rd
  rw [e1]
  simp only [e2]
  rw [if_neg (by omega), if_pos ((formB_iff h).2 hf), if_neg (by omega)]
  congr 1; omega
theorem rd_ok {s : List Nat} {h : Hd} {n : Nat} (e : rd s = .ok h n) : Form h ∧ h.fs.length ≤ 32 ∧ 4 ≤ n ∧ n ≤ 2048 ∧ n ≤ s.length ∧ fnd s = some (n - 4) := by
  unfold rd at e
  cases hf : fnd s with
  | none => rw [hf] at e; simp only at e; split at e <;> cases e
  | some m =>
    rw [hf] at e; simp only at e
    split at e
    · cases e
    · cases hr : rdAt s m with
      | none => rw [hr] at e; cases e
      | some g =>
        rw [hr] at e; simp only at e
        split at e
        · split at e
          · cases e
          · injection e with e1 e2
            subst e1 e2
            exact ⟨(formB_iff _).1 (by assumption), by omega, by omega, by omega, (fnd_length hf).1, rfl⟩
        · cases e
/-- Of a beginning it is nothing yet, or the same. -/
theorem rd_take (s : List Nat) (k : Nat) (hs : s.length < 2048) (hk : k ≤ s.length) :
    (rd (s.take k) = .more ∧ ∀ h n, rd s = .ok h n → k < n) ∨ (rd (s.take k) ≠ .more ∧ rd (s.take k) = rd s) := by
  cases hf : fnd (s.take k) with
  | none =>
    left
    constructor
    · unfold rd; rw [hf]; simp only; rw [if_neg (by rw [List.length_take]; omega)]
    · intro h n e
      obtain ⟨_, _, h4, _, _, hs⟩ := rd_ok e
      have := fnd_take_none hf hs
      omega
  | some n =>
    right
    obtain ⟨h1, h2⟩ := fnd_take_some hf
    have e : rd (s.take k) = rd s := by
      unfold rd; rw [hf, h1]; simp only [rdAt_take s k n h2]
    refine ⟨?_, e⟩
    rw [e]
    unfold rd
    rw [h1]
    simp only
    split
    · simp
    · split
      · simp
      · split
        · split <;> simp
        · simp

/-- A letter, a to z as A to Z. -/
def up (x : Nat) : Nat := if 97 ≤ x ∧ x ≤ 122 then x - 32 else x
/-- The same but for case. -/
def same (a b : List Nat) : Bool := a.map up == b.map up
theorem same_refl (a : List Nat) : same a a = true := by simp [same]
theorem same_comm (a b : List Nat) : same a b = same b a := by unfold same; rw [Bool.eq_iff_iff, beq_iff_eq, beq_iff_eq]; exact eq_comm
theorem same_trans {a b c : List Nat} (h : same a b = true) (k : same b c = true) : same a c = true := by
  unfold same at *; rw [beq_iff_eq] at *; rw [h, k]
theorem same_length {a b : List Nat} (h : same a b = true) : a.length = b.length := by
  unfold same at h
  have := congrArg List.length (beq_iff_eq.1 h)
  simpa using this
/-- Byte by byte. -/
theorem same_iff (a b : List Nat) : same a b = true ↔ a.length = b.length ∧ ∀ i, i < a.length → up (a.getD i 0) = up (b.getD i 0) := by
  constructor
  · intro h
    refine ⟨same_length h, fun i hi => ?_⟩
    have hl := same_length h
    unfold same at h
    have e := congrArg (fun l => l.getD i 0) (beq_iff_eq.1 h)
    simpa [List.getD_eq_getElem?_getD, List.getElem?_map, List.getElem?_eq_getElem hi, List.getElem?_eq_getElem (hl ▸ hi : i < b.length)] using e
  · rintro ⟨hl, h⟩
    unfold same
    rw [beq_iff_eq]
    apply List.ext_getElem (by simpa using hl)
    intro i h1 h2
    have hi : i < a.length := by simpa using h1
    have := h i hi
    simpa [List.getD_eq_getElem?_getD, List.getElem?_eq_getElem hi, List.getElem?_eq_getElem (hl ▸ hi : i < b.length)] using this
/-- The values of a name. -/
def get (fs : List (List Nat × List Nat)) (name : List Nat) : List (List Nat) := (fs.filter fun f => same f.1 name).map (·.2)
theorem get_snoc (fs : List (List Nat × List Nat)) (f : List Nat × List Nat) (name : List Nat) : get (fs ++ [f]) name = if same f.1 name = true then get fs name ++ [f.2] else get fs name := by
  unfold get
  rw [List.filter_append, List.map_append]
  by_cases h : same f.1 name = true <;> simp [h]
theorem token_each (a : List Nat) : token a = (!a.isEmpty && a.all fun x => token [x]) := by
  unfold token
  congr 1
  simp
theorem token_append {a b : List Nat} (h : token a = true) (k : token b = true) : token (a ++ b) = true := by
  unfold token at *
  simp only [Bool.and_eq_true, Bool.not_eq_true', List.isEmpty_eq_false_iff] at *
  exact ⟨by simp [h.1], by rw [List.all_append, h.2, k.2]; rfl⟩
theorem token_blank (a b : List Nat) : token (a ++ 32 :: b) = false := by
  unfold token
  rw [List.all_append, List.all_cons, show tokB 32 = false from by decide]
  simp

/-- Does a row begin with 13, 10? -/
def two (l : List Nat) : Bool := l.take 2 == [13, 10]
/-- Where 13, 10 is first. -/
def eol : List Nat → Option Nat
  | [] => none
  | x :: r => if two (x :: r) = true then some 0 else (eol r).map (· + 1)
theorem two_iff (x y : Nat) (r : List Nat) : two (x :: y :: r) = true ↔ x = 13 ∧ y = 10 := by
  unfold two
  rw [List.take_succ_cons, List.take_succ_cons, List.take_zero, beq_iff_eq]
  simp
theorem two_one (x : Nat) : two [x] = false := by unfold two; rw [beq_eq_false_iff_ne]; simp
/-- The first line, and those behind it. -/
theorem lines_eol {l : List Nat} {i : Nat} (h : eol l = some i) : lines l = l.take i :: lines (l.drop (i + 2)) := by
  induction l generalizing i with
  | nil => cases h
  | cons x r ih =>
    cases r with
    | nil =>
      rw [eol, if_neg (by rw [two_one]; simp), eol] at h
      cases h
    | cons y r =>
      rw [eol] at h
      by_cases h2 : two (x :: y :: r) = true
      · rw [if_pos h2] at h
        injection h with h
        subst h
        rw [lines, if_pos ((two_iff x y r).1 h2)]
        rfl
      · rw [if_neg h2] at h
        cases h3 : eol (y :: r) with
        | none => rw [h3] at h; cases h
        | some j =>
          rw [h3] at h
          simp only [Option.map_some, Option.some.injEq] at h
          subst h
          rw [lines, if_neg (fun q => h2 ((two_iff x y r).2 q)), ih h3]
          rfl
theorem eol_drop {l : List Nat} {i : Nat} (h : eol l = some i) : two (l.drop i) = true ∧ ∀ j, j < i → two (l.drop j) = false := by
  induction l generalizing i with
  | nil => cases h
  | cons x r ih =>
    rw [eol] at h
    by_cases h2 : two (x :: r) = true
    · rw [if_pos h2] at h; injection h with h; subst h; exact ⟨h2, fun j hj => absurd hj (Nat.not_lt_zero j)⟩
    · rw [if_neg h2] at h
      cases h3 : eol r with
      | none => rw [h3] at h; cases h
      | some k =>
        rw [h3] at h
        simp only [Option.map_some, Option.some.injEq] at h
        subst h
        obtain ⟨g1, g2⟩ := ih h3
        refine ⟨g1, fun j hj => ?_⟩
        cases j with
        | zero => simpa using h2
        | succ j => exact g2 j (by omega)
theorem eol_of {l : List Nat} {i : Nat} (h1 : two (l.drop i) = true) (h2 : ∀ j, j < i → two (l.drop j) = false) : eol l = some i := by
  induction l generalizing i with
  | nil => rw [List.drop_nil] at h1; cases h1
  | cons x r ih =>
    rw [eol]
    cases i with
    | zero => rw [List.drop_zero] at h1; rw [if_pos h1]
    | succ i =>
      have := h2 0 (by omega)
      rw [if_neg (by rw [List.drop_zero] at this; rw [this]; simp), ih (i := i) h1 (fun j hj => h2 (j + 1) (by omega))]
      rfl
/-- A row that ends with 13, 10 has a line's end; it is the last one, or as much stands behind it. -/
theorem eol_end (u : List Nat) : ∃ i, eol (u ++ [13, 10]) = some i ∧ (i = u.length ∨ i + 2 ≤ u.length) := by
  induction u with
  | nil => exact ⟨0, by decide, Or.inl rfl⟩
  | cons x r ih =>
    obtain ⟨i, h1, h2⟩ := ih
    rw [List.cons_append, eol]
    by_cases h3 : two (x :: (r ++ [13, 10])) = true
    · refine ⟨0, by rw [if_pos h3], ?_⟩
      cases r with
      | nil =>
        have := (two_iff x 13 [10]).1 h3
        omega
      | cons y r => right; simp only [List.length_cons]; omega
    · refine ⟨i + 1, by rw [if_neg h3, h1]; rfl, ?_⟩
      simp only [List.length_cons]; omega

/-- Where a byte is first; the length, if it isn't there. -/
def idx (c : Nat) : List Nat → Nat
  | [] => 0
  | x :: r => if x = c then 0 else idx c r + 1
theorem idx_le (c : Nat) (l : List Nat) : idx c l ≤ l.length := by
  induction l with
  | nil => exact Nat.le_refl _
  | cons x r ih => rw [idx]; split <;> simp only [List.length_cons] <;> omega
theorem idx_of {c : Nat} {l : List Nat} {i : Nat} (hi : i ≤ l.length) (h1 : i < l.length → l.getD i 0 = c) (h2 : ∀ j, j < i → l.getD j 0 ≠ c) : idx c l = i := by
  induction l generalizing i with
  | nil => simp at hi; subst hi; rfl
  | cons x r ih =>
    rw [idx]
    cases i with
    | zero =>
      have : x = c := by simpa using h1 (by simp)
      rw [if_pos this]
    | succ i =>
      have hx : x ≠ c := by simpa using h2 0 (by omega)
      rw [if_neg hx, ih (i := i) (by simp at hi; omega) (fun h => by simpa using h1 (by simp; omega)) (fun j hj => by simpa using h2 (j + 1) (by omega))]
theorem cut_idx (c : Nat) (l : List Nat) : cut c l = if idx c l = l.length then none else some (l.take (idx c l), l.drop (idx c l + 1)) := by
  induction l with
  | nil => rfl
  | cons x r ih =>
    rw [cut, idx]
    by_cases hx : x = c
    · rw [if_pos hx, if_pos hx, if_neg (by simp)]; rfl
    · rw [if_neg hx, if_neg hx, ih]
      by_cases hl : idx c r = r.length
      · rw [if_pos hl, if_pos (by simp only [List.length_cons]; omega)]; rfl
      · rw [if_neg hl, if_neg (by simp only [List.length_cons]; omega)]; rfl
/-- A row without blanks behind. -/
def rtrim (l : List Nat) : List Nat := (ltrim l.reverse).reverse
theorem trim_eq (l : List Nat) : trim l = rtrim (ltrim l) := rfl
theorem rtrim_snoc (l : List Nat) (x : Nat) : rtrim (l ++ [x]) = if x = 32 ∨ x = 9 then rtrim l else l ++ [x] := by
  unfold rtrim
  rw [List.reverse_append, List.reverse_singleton, List.singleton_append, ltrim]
  split
  · rfl
  · simp
theorem rtrim_nil : rtrim [] = [] := rfl
theorem ltrim_length (l : List Nat) : (ltrim l).length ≤ l.length := by
  induction l with
  | nil => exact Nat.le_refl _
  | cons x r ih => rw [ltrim]; split <;> simp only [List.length_cons] <;> omega
theorem trim_length (l : List Nat) : (trim l).length ≤ l.length := by
  unfold trim
  rw [List.length_reverse]
  exact Nat.le_trans (ltrim_length _) (by rw [List.length_reverse]; exact ltrim_length l)
end HeadPlain
