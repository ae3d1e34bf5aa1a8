/- Lists of tokens, plain facts: pieces between commas, their trimmed texts; as the chapter tells it and as a reader goes, byte by byte. Nothing here speaks of the program. -/
import Derived.Test.YthlagngpllahkaaGreatDoorPlain
namespace HeadPlain

/-- What stands between commas (44). -/
def pieces : List Nat → List (List Nat)
  | [] => [[]]
  | x :: r => if x = 44 then [] :: pieces r else match pieces r with
    | [] => [[x]]
    | p :: ps => (x :: p) :: ps
theorem pieces_ne (l : List Nat) : ∃ p ps, pieces l = p :: ps := by
  induction l with
  | nil => exact ⟨_, _, rfl⟩
  | cons x r ih =>
    obtain ⟨p, ps, e⟩ := ih
    rw [pieces, e]
    split
    · exact ⟨_, _, rfl⟩
    · exact ⟨_, _, rfl⟩
theorem pieces_comma (a b : List Nat) : pieces (a ++ 44 :: b) = pieces a ++ pieces b := by
  induction a with
  | nil => simp [pieces]
  | cons x a ih =>
    rw [List.cons_append, pieces, pieces, ih]
    obtain ⟨p, ps, e⟩ := pieces_ne a
    rw [e]
    split <;> rfl
theorem pieces_cons {x : Nat} (hx : x ≠ 44) {l p : List Nat} {ps : List (List Nat)} (e : pieces l = p :: ps) : pieces (x :: l) = (x :: p) :: ps := by
  rw [pieces, if_neg hx, e]
theorem pieces_front {a : List Nat} (ha : ∀ x ∈ a, x ≠ 44) {l p : List Nat} {ps : List (List Nat)} (e : pieces l = p :: ps) : pieces (a ++ l) = (a ++ p) :: ps := by
  induction a with
  | nil => exact e
  | cons x a ih => exact pieces_cons (ha x (by simp)) (ih (fun y hy => ha y (by simp [hy])))
theorem pieces_back (l : List Nat) {x : Nat} (hx : x ≠ 44) : ∃ qs q, pieces l = qs ++ [q] ∧ pieces (l ++ [x]) = qs ++ [q ++ [x]] := by
  induction l with
  | nil => exact ⟨[], [], rfl, by simp [pieces, hx]⟩
  | cons y l ih =>
    obtain ⟨qs, q, e1, e2⟩ := ih
    by_cases hy : y = 44
    · subst hy
      refine ⟨[] :: qs, q, ?_, ?_⟩
      · rw [pieces, if_pos rfl, e1]; rfl
      · rw [List.cons_append, pieces, if_pos rfl, e2]; rfl
    · cases qs with
      | nil =>
        refine ⟨[], y :: q, ?_, ?_⟩
        · exact pieces_cons hy e1
        · exact pieces_cons hy e2
      | cons p ps =>
        refine ⟨(y :: p) :: ps, q, ?_, ?_⟩
        · exact pieces_cons hy e1
        · exact pieces_cons hy e2
/-- The tokens of pieces; nothing, if one is none. -/
def collect : List (List Nat) → Option (List (List Nat))
  | [] => some []
  | p :: ps => if trim p = [] then collect ps else if token (trim p) = true then (collect ps).map (fun ts => trim p :: ts) else none
def comb (a b : Option (List (List Nat))) : Option (List (List Nat)) := a.bind fun x => b.map fun y => x ++ y
theorem collect_append (a b : List (List Nat)) : collect (a ++ b) = comb (collect a) (collect b) := by
  induction a with
  | nil => simp [collect, comb]
  | cons p a ih =>
    rw [List.cons_append, collect, collect, ih]
    split
    · rfl
    · split
      · cases collect a with
        | none => rfl
        | some x => cases collect b <;> simp [comb]
      · rfl
/-- A value's tokens. -/
def toks (l : List Nat) : Option (List (List Nat)) := collect (pieces l)
theorem toks_comma (a b : List Nat) : toks (a ++ 44 :: b) = comb (toks a) (toks b) := by
  unfold toks
  rw [pieces_comma, collect_append]
theorem comb_nil (a : Option (List (List Nat))) : comb a (some []) = a := by cases a <;> simp [comb]
theorem nil_comb (a : Option (List (List Nat))) : comb (some []) a = a := by cases a <;> simp [comb]
theorem comb_assoc (a b c : Option (List (List Nat))) : comb (comb a b) c = comb a (comb b c) := by cases a <;> cases b <;> cases c <;> simp [comb]
theorem toks_nil : toks [] = some [] := by decide
theorem trim_front {x : Nat} (hx : x = 32 ∨ x = 9) (l : List Nat) : trim (x :: l) = trim l := by
  rw [trim_eq, trim_eq, ltrim, if_pos hx]
theorem ltrim_snoc (l : List Nat) {x : Nat} (hx : x = 32 ∨ x = 9) : ltrim (l ++ [x]) = if ltrim l = [] then [] else ltrim l ++ [x] := by
  induction l with
  | nil => simp [ltrim, hx]
  | cons y l ih =>
    rw [List.cons_append, ltrim, ltrim, ih]
    by_cases hy : y = 32 ∨ y = 9
    · rw [if_pos hy, if_pos hy]
    · rw [if_neg hy, if_neg hy]; simp
theorem trim_back {x : Nat} (hx : x = 32 ∨ x = 9) (l : List Nat) : trim (l ++ [x]) = trim l := by
  rw [trim_eq, trim_eq, ltrim_snoc l hx]
  split
  · rename_i h; rw [h]
  · rw [rtrim_snoc, if_pos hx]
/-- A blank or a comma ahead doesn't matter. -/
theorem toks_front {x : Nat} (hx : x = 32 ∨ x = 9 ∨ x = 44) (l : List Nat) : toks (x :: l) = toks l := by
  by_cases h : x = 44
  · subst h
    have := toks_comma [] l
    rw [List.nil_append, toks_nil, nil_comb] at this
    exact this
  · obtain ⟨p, ps, e⟩ := pieces_ne l
    unfold toks
    rw [pieces_cons h e, e, collect, collect, trim_front (by omega)]
theorem toks_back {x : Nat} (hx : x = 32 ∨ x = 9 ∨ x = 44) (l : List Nat) : toks (l ++ [x]) = toks l := by
  by_cases h : x = 44
  · subst h
    rw [toks_comma, toks_nil, comb_nil]
  · obtain ⟨qs, q, e1, e2⟩ := pieces_back l h
    unfold toks
    rw [e1, e2, collect_append, collect_append]
    simp only [collect]
    rw [trim_back (by omega)]
theorem toks_fronts {b : List Nat} (hb : ∀ x ∈ b, x = 32 ∨ x = 9 ∨ x = 44) (l : List Nat) : toks (b ++ l) = toks l := by
  induction b with
  | nil => rfl
  | cons x b ih => rw [List.cons_append, toks_front (hb x (by simp)), ih (fun y hy => hb y (by simp [hy]))]
theorem toks_backs {b : List Nat} (hb : ∀ x ∈ b, x = 32 ∨ x = 9 ∨ x = 44) (l : List Nat) : toks (l ++ b) = toks l := by
  induction b generalizing l with
  | nil => rw [List.append_nil]
  | cons x b ih => rw [show l ++ x :: b = (l ++ [x]) ++ b by simp, ih (fun y hy => hb y (by simp [hy])), toks_back (hb x (by simp))]
/-- The tokens of values. -/
def toksAll : List (List Nat) → Option (List (List Nat))
  | [] => some []
  | l :: ls => comb (toks l) (toksAll ls)
theorem toksAll_append (a b : List (List Nat)) : toksAll (a ++ b) = comb (toksAll a) (toksAll b) := by
  induction a with
  | nil => rw [List.nil_append, toksAll, nil_comb]
  | cons l a ih => rw [List.cons_append, toksAll, toksAll, ih, comb_assoc]
/-- Values, each with a comma behind, in one. -/
theorem toks_joined (ls : List (List Nat)) : toks (ls.flatMap fun l => l ++ [44]) = toksAll ls := by
  induction ls with
  | nil => exact toks_nil
  | cons l ls ih => rw [List.flatMap_cons, List.append_assoc, List.singleton_append, toks_comma, ih, toksAll]
theorem toks_blanks {b : List Nat} (hb : ∀ x ∈ b, x = 32 ∨ x = 9 ∨ x = 44) (ls : List (List Nat)) : toks (ls.flatMap fun l => b ++ l ++ b ++ [44]) = toksAll ls := by
  induction ls with
  | nil => exact toks_nil
  | cons l ls ih => rw [List.flatMap_cons, List.append_assoc, List.singleton_append, toks_comma, ih, toksAll, toks_backs hb, toks_fronts hb]
/-- A token by itself. -/
theorem token_not {l : List Nat} (h : token l = true) : ∀ x ∈ l, x ≠ 44 ∧ x ≠ 32 ∧ x ≠ 9 := fun x hx => by
  unfold token at h
  rw [Bool.and_eq_true, List.all_eq_true] at h
  have h1 := h.2 x hx
  have h2 := tokB_range h1
  refine ⟨fun e => ?_, by omega, by omega⟩
  subst e
  revert h1
  decide
theorem toks_token {l : List Nat} (h : token l = true) : toks l = some [l] := by
  have hn := token_not h
  have hp : pieces l = [l] := by
    have := pieces_front (a := l) (fun x hx => (hn x hx).1) (l := []) (p := []) (ps := []) rfl
    simpa using this
  have ht : trim l = l := by
    rw [trim_eq]
    have h1 : ltrim l = l := by
      cases l with
      | nil => rfl
      | cons x r => rw [ltrim, if_neg (by have := hn x (by simp); omega)]
    rw [h1]
    rcases List.eq_nil_or_concat l with rfl | ⟨r, x, rfl⟩
    · rfl
    · rw [List.concat_eq_append, rtrim_snoc, if_neg (by have := hn x (by simp); omega)]
  have hne : l ≠ [] := fun e => by subst e; simp [token] at h
  unfold toks
  rw [hp, collect, ht, if_neg hne, if_pos h]
  rfl
/-- Tokens written anew. -/
theorem toks_anew (ts : List (List Nat)) (h : ∀ t ∈ ts, token t = true) : toks (ts.flatMap fun t => 32 :: t ++ [9, 44]) = some ts := by
  induction ts with
  | nil => exact toks_nil
  | cons t ts ih =>
    rw [List.flatMap_cons, show 32 :: t ++ [9, 44] ++ ts.flatMap (fun t => 32 :: t ++ [9, 44]) = (32 :: (t ++ [9])) ++ 44 :: ts.flatMap (fun t => 32 :: t ++ [9, 44]) by simp, toks_comma, toks_front (Or.inl rfl), toks_back (Or.inr (Or.inl rfl)), toks_token (h t (by simp)), ih (fun u hu => h u (by simp [hu]))]
    rfl
theorem collect_tokens : ∀ (ps : List (List Nat)) (ts : List (List Nat)), collect ps = some ts → ∀ t ∈ ts, token t = true
  | [], ts, h => by simp only [collect, Option.some.injEq] at h; subst h; simp
  | p :: ps, ts, h => by
    rw [collect] at h
    split at h
    · exact collect_tokens ps ts h
    · split at h
      · rename_i ht
        cases hc : collect ps with
        | none => rw [hc] at h; cases h
        | some us =>
          rw [hc] at h
          simp only [Option.map_some, Option.some.injEq] at h
          subst h
          intro t ht'
          rcases List.mem_cons.1 ht' with rfl | ht'
          · exact ht
          · exact collect_tokens ps us hc t ht'
      · cases h
theorem toksAll_tokens {ls ts : List (List Nat)} (h : toksAll ls = some ts) : ∀ t ∈ ts, token t = true := by
  induction ls generalizing ts with
  | nil => simp only [toksAll, Option.some.injEq] at h; subst h; simp
  | cons l ls ih =>
    rw [toksAll] at h
    cases h1 : toks l with
    | none => rw [h1] at h; cases h
    | some x =>
      cases h2 : toksAll ls with
      | none => rw [h1, h2] at h; cases h
      | some y =>
        rw [h1, h2] at h
        simp only [comb, Option.bind_some, Option.map_some, Option.some.injEq] at h
        subst h
        intro t ht
        rcases List.mem_append.1 ht with ht | ht
        · exact collect_tokens _ _ h1 t ht
        · exact ih h2 t ht
/-- What is no token, no blank and no comma spoils a value, wherever it stands. -/
theorem collect_bad {p : List Nat} {ps : List (List Nat)} (h0 : trim p ≠ []) (h1 : token (trim p) = false) : collect (p :: ps) = none := by
  rw [collect, if_neg h0, if_neg (by rw [h1]; simp)]
theorem ltrim_mem {x : Nat} (hx : ¬ (x = 32 ∨ x = 9)) {l : List Nat} (h : x ∈ l) : x ∈ ltrim l := by
  induction l with
  | nil => cases h
  | cons y l ih =>
    rw [ltrim]
    split
    · rename_i hy
      rcases List.mem_cons.1 h with rfl | h
      · exact absurd hy hx
      · exact ih h
    · exact h
theorem trim_mem {x : Nat} (hx : ¬ (x = 32 ∨ x = 9)) {l : List Nat} (h : x ∈ l) : x ∈ trim l := by
  unfold trim
  rw [List.mem_reverse]
  exact ltrim_mem hx (by rw [List.mem_reverse]; exact ltrim_mem hx h)
theorem token_mem {l : List Nat} {x : Nat} (h : x ∈ l) (hx : tokB x = false) : token l = false := by
  unfold token
  rw [Bool.and_eq_false_iff]
  right
  rw [List.all_eq_false]
  exact ⟨x, h, by rw [hx]; simp⟩
theorem toks_bad {a r : List Nat} {x : Nat} (ha : ∀ y ∈ a, y ≠ 44) (h1 : x ≠ 44) (h2 : ¬ (x = 32 ∨ x = 9)) (h3 : tokB x = false) : toks (a ++ x :: r) = none := by
  obtain ⟨p, ps, e⟩ := pieces_ne r
  unfold toks
  rw [pieces_front ha (pieces_cons h1 e)]
  have hm := trim_mem h2 (show x ∈ a ++ x :: p by simp)
  exact collect_bad (fun e => by rw [e] at hm; cases hm) (token_mem hm h3)
/-- A blank within. -/
theorem toks_within {a bs r : List Nat} {x y : Nat} (ha : ∀ z ∈ a, tokB z = true) (hne : a ≠ []) (hx : x = 32 ∨ x = 9) (hbs : ∀ z ∈ bs, z = 32 ∨ z = 9) (h1 : y ≠ 44) (h2 : ¬ (y = 32 ∨ y = 9)) : toks (a ++ x :: (bs ++ y :: r)) = none := by
  obtain ⟨p, ps, e⟩ := pieces_ne r
  have hb : ∀ z, tokB z = true → z ≠ 44 ∧ ¬ (z = 32 ∨ z = 9) := fun z hz => by
    have := tokB_range hz
    exact ⟨fun e => by subst e; revert hz; decide, by omega⟩
  unfold toks
  rw [pieces_front (fun z hz => (hb z (ha z hz)).1) (pieces_cons (show x ≠ 44 by omega) (pieces_front (fun z hz => by have := hbs z hz; omega) (pieces_cons h1 e)))]
  cases a with
  | nil => exact absurd rfl hne
  | cons c a =>
    have hc := (hb c (ha c (by simp))).2
    have el : ltrim (c :: a ++ x :: (bs ++ y :: p)) = c :: a ++ x :: (bs ++ y :: p) := by rw [List.cons_append, ltrim, if_neg hc]
    have hm : x ∈ trim (c :: a ++ x :: (bs ++ y :: p)) := by
      rw [trim_eq, el]
      unfold rtrim
      rw [List.mem_reverse]
      have : ∀ q : List Nat, x ∈ ltrim (q ++ y :: (bs.reverse ++ x :: (c :: a).reverse)) := fun q => by
        induction q with
        | nil => rw [List.nil_append, ltrim, if_neg h2]; simp
        | cons z q ih =>
          rw [List.cons_append, ltrim]
          split
          · exact ih
          · simp
      have := this p.reverse
      simpa using this
    have hx3 : tokB x = false := by
      cases h : tokB x with
      | false => rfl
      | true => exact absurd hx (hb x h).2
    exact collect_bad (fun e => by rw [e] at hm; cases hm) (token_mem hm hx3)
/-- Which blanks, and how many, doesn't matter. -/
theorem toks_run {a bs cs c : List Nat} (ha : ∀ z ∈ a, tokB z = true) (hne : a ≠ []) (hbs : ∀ z ∈ bs, z = 32 ∨ z = 9) (hb0 : bs ≠ []) (hcs : ∀ z ∈ cs, z = 32 ∨ z = 9) (hc0 : cs ≠ []) (hc : c = [] ∨ ∃ y d, c = y :: d ∧ ¬ (y = 32 ∨ y = 9)) : toks (a ++ (bs ++ c)) = toks (a ++ (cs ++ c)) := by
  have w3 : ∀ {l : List Nat}, (∀ z ∈ l, z = 32 ∨ z = 9) → ∀ z ∈ l, z = 32 ∨ z = 9 ∨ z = 44 := fun h z hz => by have := h z hz; omega
  rcases hc with rfl | ⟨y, d, rfl, hy⟩
  · rw [List.append_nil, List.append_nil, toks_backs (w3 hbs), toks_backs (w3 hcs)]
  · by_cases h44 : y = 44
    · subst h44
      rw [← List.append_assoc, ← List.append_assoc, toks_comma, toks_comma, toks_backs (w3 hbs), toks_backs (w3 hcs)]
    · cases bs with
      | nil => exact absurd rfl hb0
      | cons p ps =>
        cases cs with
        | nil => exact absurd rfl hc0
        | cons q qs =>
          rw [List.cons_append, List.cons_append, toks_within ha hne (hbs p (by simp)) (fun z hz => hbs z (by simp [hz])) h44 hy, toks_within ha hne (hcs q (by simp)) (fun z hz => hcs z (by simp [hz])) h44 hy]
theorem blanks_rest (r : List Nat) : ∃ b c, r = b ++ c ∧ ((∀ z ∈ b, z = 32 ∨ z = 9) ∧ (c = [] ∨ ∃ y d, c = y :: d ∧ ¬ (y = 32 ∨ y = 9))) := by
  induction r with
  | nil => exact ⟨[], [], rfl, by simp, Or.inl rfl⟩
  | cons y r ih =>
    by_cases hy : y = 32 ∨ y = 9
    · obtain ⟨b, c, e, h1, h2⟩ := ih
      exact ⟨y :: b, c, by rw [e]; rfl, fun z hz => by
        rcases List.mem_cons.1 hz with rfl | hz
        · exact hy
        · exact h1 z hz, h2⟩
    · exact ⟨[], y :: r, rfl, by simp, Or.inr ⟨y, r, rfl, hy⟩⟩
/-- A blank behind a blank doesn't matter. -/
theorem toks_more {a r : List Nat} {x : Nat} (ha : ∀ z ∈ a, tokB z = true) (hx : x = 32 ∨ x = 9) : toks (a ++ 32 :: x :: r) = toks (a ++ 32 :: r) := by
  by_cases hne : a = []
  · subst hne
    rw [List.nil_append, List.nil_append, toks_front (Or.inl rfl), toks_front (Or.inl rfl), toks_front (by omega)]
  · obtain ⟨b, c, rfl, h1, h2⟩ := blanks_rest r
    exact toks_run (bs := 32 :: x :: b) (cs := 32 :: b) ha hne (fun z hz => by
      rcases List.mem_cons.1 hz with rfl | hz
      · exact Or.inl rfl
      · rcases List.mem_cons.1 hz with rfl | hz
        · exact hx
        · exact h1 z hz) (by simp) (fun z hz => by
      rcases List.mem_cons.1 hz with rfl | hz
      · exact Or.inl rfl
      · exact h1 z hz) (by simp) h2
theorem toks_swap {a r : List Nat} {x : Nat} (ha : ∀ z ∈ a, tokB z = true) (hne : a ≠ []) (hx : x = 32 ∨ x = 9) : toks (a ++ x :: r) = toks (a ++ 32 :: r) := by
  obtain ⟨b, c, rfl, h1, h2⟩ := blanks_rest r
  exact toks_run (bs := x :: b) (cs := 32 :: b) ha hne (fun z hz => by
    rcases List.mem_cons.1 hz with rfl | hz
    · exact hx
    · exact h1 z hz) (by simp) (fun z hz => by
    rcases List.mem_cons.1 hz with rfl | hz
    · exact Or.inl rfl
    · exact h1 z hz) (by simp) h2
/-- A reader that goes byte by byte: what it has, the token that it is in, whether a blank stands behind that. -/
def refL : List (List Nat) → List Nat → Bool → List Nat → Option (List (List Nat))
  | out, tok, _, [] => some (if tok = [] then out else out ++ [tok])
  | out, tok, bl, x :: r =>
    if x = 44 then refL (if tok = [] then out else out ++ [tok]) [] false r
    else if x = 32 ∨ x = 9 then refL out tok (!tok.isEmpty) r
    else if bl = true ∨ tokB x = false then none
    else refL out (tok ++ [x]) bl r
theorem toks_one {tok : List Nat} (h : ∀ z ∈ tok, tokB z = true) : toks tok = some (if tok = [] then [] else [tok]) := by
  by_cases hne : tok = []
  · subst hne; exact toks_nil
  · rw [if_neg hne]
    refine toks_token ?_
    unfold token
    rw [Bool.and_eq_true, List.all_eq_true]
    exact ⟨by cases tok with | nil => exact absurd rfl hne | cons a b => rfl, h⟩
theorem refL_eq (l : List Nat) : ∀ (out : List (List Nat)) (tok : List Nat) (bl : Bool), (∀ z ∈ tok, tokB z = true) → (bl = true → tok ≠ []) →
    refL out tok bl l = (toks (tok ++ (if bl = true then [32] else []) ++ l)).map fun ts => out ++ ts := by
  induction l with
  | nil =>
    intro out tok bl ht hb
    have e : toks (tok ++ (if bl = true then [32] else []) ++ []) = toks tok := by
      rw [List.append_nil]
      cases bl with
      | false => simp
      | true => exact toks_back (Or.inl rfl) tok
    rw [e, toks_one ht, refL]
    split <;> simp
  | cons x r ih =>
    intro out tok bl ht hb
    rw [refL]
    by_cases h44 : x = 44
    · subst h44
      have e : toks (tok ++ (if bl = true then [32] else [])) = toks tok := by
        cases bl with
        | false => simp
        | true => exact toks_back (Or.inl rfl) tok
      rw [if_pos rfl, ih _ _ _ (by simp) (by simp), toks_comma, e, toks_one ht]
      simp only [List.nil_append, Bool.false_eq_true, if_false]
      cases toks r with
      | none => rfl
      | some ts => by_cases hne : tok = [] <;> simp [comb, hne]
    · rw [if_neg h44]
      by_cases hx : x = 32 ∨ x = 9
      · rw [if_pos hx]
        by_cases hne : tok = []
        · subst hne
          have hbf : bl = false := by cases bl with | false => rfl | true => exact absurd rfl (hb rfl)
          subst hbf
          rw [ih _ _ _ ht (by simp)]
          simp only [List.isEmpty_nil, Bool.not_true, Bool.false_eq_true, if_false, List.nil_append]
          rw [toks_front (by omega)]
        · have hi : (!tok.isEmpty) = true := by cases tok with | nil => exact absurd rfl hne | cons a b => rfl
          rw [hi, ih _ _ _ ht (fun _ => hne)]
          congr 1
          simp only [if_true, List.append_assoc, List.singleton_append]
          cases bl with
          | true =>
            simp only [if_true, List.singleton_append]
            exact (toks_more ht hx).symm
          | false =>
            simp only [Bool.false_eq_true, if_false, List.nil_append]
            exact (toks_swap ht hne hx).symm
      · rw [if_neg hx]
        by_cases hbt : bl = true ∨ tokB x = false
        · rw [if_pos hbt]
          symm
          rw [Option.map_eq_none_iff]
          rcases hbt with rfl | h3
          · simp only [if_true, List.append_assoc, List.singleton_append]
            exact toks_within (bs := []) ht (hb rfl) (Or.inl rfl) (by simp) h44 hx
          · refine toks_bad (fun z hz => ?_) h44 hx h3
            rcases List.mem_append.1 hz with hz | hz
            · intro e; subst e; have := ht _ hz; revert this; decide
            · split at hz
              · simp at hz; omega
              · cases hz
        · rw [if_neg hbt]
          have hbf : bl = false := by cases bl with | false => rfl | true => exact absurd (Or.inl rfl) hbt
          have hxt : tokB x = true := by cases h : tokB x with | true => rfl | false => exact absurd (Or.inr h) hbt
          subst hbf
          rw [ih _ _ _ (fun z hz => by
            rcases List.mem_append.1 hz with hz | hz
            · exact ht z hz
            · simp at hz; subst hz; exact hxt) (by simp)]
          simp
theorem refL_toks (l : List Nat) : refL [] [] false l = toks l := by
  rw [refL_eq l [] [] false (by simp) (by simp)]
  simp
/-- Letters' case. -/
theorem up_range (x : Nat) : (97 ≤ x ∧ x ≤ 122 ∧ up x = x - 32) ∨ (¬ (97 ≤ x ∧ x ≤ 122) ∧ up x = x) := by
  unfold up
  by_cases h : 97 ≤ x ∧ x ≤ 122
  · rw [if_pos h]; exact Or.inl ⟨h.1, h.2, rfl⟩
  · rw [if_neg h]; exact Or.inr ⟨h, rfl⟩
theorem tokB_up (x : Nat) : tokB (up x) = tokB x := by
  rcases up_range x with ⟨h1, h2, e⟩ | ⟨_, e⟩
  · rw [e]
    have a1 : tokB x = true := by unfold tokB; simp [h1, h2]
    have a2 : tokB (x - 32) = true := by
      unfold tokB
      have h3 : 65 ≤ x - 32 := by omega
      have h4 : x - 32 ≤ 90 := by omega
      simp [h3, h4]
    rw [a1, a2]
  · rw [e]
theorem token_up (l : List Nat) : token (l.map up) = token l := by
  unfold token
  rw [List.all_map, List.isEmpty_map]
  congr 2
  funext x
  exact tokB_up x
theorem ltrim_up (l : List Nat) : ltrim (l.map up) = (ltrim l).map up := by
  induction l with
  | nil => rfl
  | cons x l ih =>
    rw [List.map_cons, ltrim, ltrim]
    have e : (up x = 32 ∨ up x = 9) ↔ (x = 32 ∨ x = 9) := by
      rcases up_range x with ⟨h1, h2, e⟩ | ⟨_, e⟩ <;> rw [e] <;> omega
    by_cases h : x = 32 ∨ x = 9
    · rw [if_pos h, if_pos (e.2 h), ih]
    · rw [if_neg h, if_neg (fun k => h (e.1 k))]; rfl
theorem trim_up (l : List Nat) : trim (l.map up) = (trim l).map up := by
  unfold trim
  rw [ltrim_up, ← List.map_reverse, ltrim_up, ← List.map_reverse]
theorem pieces_up (l : List Nat) : pieces (l.map up) = (pieces l).map (fun p => p.map up) := by
  induction l with
  | nil => rfl
  | cons x l ih =>
    obtain ⟨p, ps, e⟩ := pieces_ne l
    rw [List.map_cons, pieces, pieces, ih, e]
    have e44 : up x = 44 ↔ x = 44 := by
      rcases up_range x with ⟨h1, h2, e⟩ | ⟨_, e⟩ <;> rw [e] <;> omega
    by_cases h : x = 44
    · rw [if_pos h, if_pos (e44.2 h)]; rfl
    · rw [if_neg h, if_neg (fun k => h (e44.1 k))]; rfl
theorem collect_up (ps : List (List Nat)) : collect (ps.map fun p => p.map up) = (collect ps).map (fun ts => ts.map fun t => t.map up) := by
  induction ps with
  | nil => rfl
  | cons p ps ih =>
    rw [List.map_cons, collect, collect, trim_up, token_up, ih]
    by_cases h : trim p = []
    · rw [if_pos h, if_pos (by rw [h]; rfl)]
    · rw [if_neg h, if_neg (fun k => h (List.map_eq_nil_iff.1 k))]
      split
      · cases collect ps <;> rfl
      · rfl
theorem toks_up (l : List Nat) : toks (l.map up) = (toks l).map (fun ts => ts.map fun t => t.map up) := by
  unfold toks
  rw [pieces_up, collect_up]
theorem toksAll_up (ls : List (List Nat)) : toksAll (ls.map fun l => l.map up) = (toksAll ls).map (fun ts => ts.map fun t => t.map up) := by
  induction ls with
  | nil => rfl
  | cons l ls ih =>
    rw [List.map_cons, toksAll, toksAll, toks_up, ih]
    cases toks l with
    | none => rfl
    | some x => cases toksAll ls <;> simp [comb]
theorem up_up (x : Nat) : up (up x) = up x := by
  rcases up_range x with ⟨h1, h2, e⟩ | ⟨h, e⟩
  · rw [e]
    rcases up_range (x - 32) with ⟨h3, _, _⟩ | ⟨_, e2⟩
    · omega
    · exact e2
  · rw [e, e]
theorem same_up (a b : List Nat) : same (a.map up) b = same a b := by
  unfold same
  rw [List.map_map]
  congr 2
  funext x
  exact up_up x
/-- Have values a token? -/
def hasT (t : List Nat) (ls : List (List Nat)) : Bool := match toksAll ls with
  | none => false
  | some ts => ts.any fun u => same u t
theorem hasT_up (t : List Nat) (ls : List (List Nat)) : hasT t (ls.map fun l => l.map up) = hasT t ls := by
  unfold hasT
  rw [toksAll_up]
  cases toksAll ls with
  | none => rfl
  | some ts =>
    simp only [Option.map_some]
    rw [List.any_map]
    congr 1
    funext u
    exact same_up u t
theorem hasT_same (t : List Nat) (ls : List (List Nat)) : hasT (t.map up) ls = hasT t ls := by
  unfold hasT
  cases toksAll ls with
  | none => rfl
  | some ts =>
    simp only
    congr 1
    funext u
    rw [same_comm, same_up, same_comm]
end HeadPlain
