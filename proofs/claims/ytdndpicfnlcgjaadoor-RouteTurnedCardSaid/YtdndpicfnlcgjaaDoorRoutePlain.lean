/- route, plain: what is below what, which route is picked, and what is admitted. -/
import Derived.Test.YtdndpicfnlcgjaaDoorPlain
namespace RoutePlain

/-- A route: its prefix, its protocol, and where it goes to. -/
structure Rt where
  pre : List Nat
  pro : List Nat
  to : List Nat
deriving DecidableEq
/-- A path up to its question mark. -/
def stem (p : List Nat) : List Nat := p.takeWhile (fun x => x != 63)
theorem stem_cons (x : Nat) (l : List Nat) : stem (x :: l) = if x = 63 then [] else x :: stem l := by
  unfold stem
  rw [List.takeWhile_cons]
  by_cases h : x = 63 <;> simp [h]
theorem stem_le (p : List Nat) : (stem p).length ≤ p.length := by
  induction p with
  | nil => exact Nat.le_refl _
  | cons x l ih =>
    rw [stem_cons]
    split
    · simp
    · simp only [List.length_cons]; omega
theorem stem_take (p : List Nat) : stem p = p.take (stem p).length := by
  induction p with
  | nil => rfl
  | cons x l ih =>
    rw [stem_cons]
    split
    · rfl
    · rw [List.length_cons, List.take_succ_cons, ← ih]
theorem stem_no (p : List Nat) : ∀ x ∈ stem p, x ≠ 63 := by
  induction p with
  | nil => exact fun x hx => absurd hx List.not_mem_nil
  | cons y l ih =>
    intro x hx
    rw [stem_cons] at hx
    by_cases h : y = 63
    · rw [if_pos h] at hx; exact absurd hx List.not_mem_nil
    · rw [if_neg h] at hx
      rcases List.mem_cons.1 hx with rfl | hx
      · exact h
      · exact ih x hx
theorem stem_self {p : List Nat} (h : ∀ x ∈ p, x ≠ 63) : stem p = p := by
  induction p with
  | nil => rfl
  | cons x l ih =>
    rw [stem_cons, if_neg (h x List.mem_cons_self), ih (fun y hy => h y (List.mem_cons_of_mem _ hy))]
/-- Where the stem ends: at a question mark, or at the end. -/
theorem stem_at (p : List Nat) (h : (stem p).length < p.length) : p.getD (stem p).length 0 = 63 := by
  induction p with
  | nil => simp at h
  | cons x l ih =>
    rw [stem_cons] at h ⊢
    by_cases hx : x = 63
    · rw [if_pos hx] at h ⊢; simpa using hx
    · rw [if_neg hx] at h ⊢
      rw [List.length_cons] at h ⊢
      have := ih (by simpa using h)
      simpa using this
theorem stem_before (p : List Nat) (i : Nat) (h : i < (stem p).length) : p.getD i 0 ≠ 63 := by
  have h1 : p.getD i 0 = (stem p).getD i 0 := by
    rw [stem_take p, List.getD_eq_getElem?_getD, List.getD_eq_getElem?_getD, List.getElem?_take_of_lt h]
  rw [h1, List.getD_eq_getElem?_getD, List.getElem?_eq_getElem h]
  exact stem_no p _ (List.getElem_mem _)
/-- What stands behind a question mark doesn't matter. -/
theorem stem_mark (a b : List Nat) : stem (a ++ 63 :: b) = stem a := by
  induction a with
  | nil => rw [List.nil_append, stem_cons, if_pos rfl]; rfl
  | cons x l ih => rw [List.cons_append, stem_cons, stem_cons, ih]
theorem stem_more {a : List Nat} (h : stem a = a) (b : List Nat) : stem (a ++ b) = a ++ stem b := by
  induction a with
  | nil => rfl
  | cons x l ih =>
    rw [stem_cons] at h
    by_cases hx : x = 63
    · rw [if_pos hx] at h; cases h
    · rw [if_neg hx] at h
      injection h with _ h
      rw [List.cons_append, stem_cons, if_neg hx, ih h, List.cons_append]
/-- Is a path below a prefix? -/
def below (p f : List Nat) : Bool := decide ((stem p).take f.length = f) && (decide ((stem p).length = f.length) || decide ((stem p).getD f.length 0 = 47) || decide (f.getLast? = some 47))
theorem below_pre {p f : List Nat} (h : below p f = true) : (stem p).take f.length = f ∧ f.length ≤ (stem p).length := by
  unfold below at h
  simp only [Bool.and_eq_true, decide_eq_true_eq] at h
  refine ⟨h.1, ?_⟩
  have := congrArg List.length h.1
  rw [List.length_take] at this
  omega
/-- Prefixes of one path that are as long are the same. -/
theorem below_same {p f g : List Nat} (h : below p f = true) (k : below p g = true) (hl : f.length = g.length) : f = g := by
  rw [← (below_pre h).1, ← (below_pre k).1, hl]
theorem below_mark (a b f : List Nat) : below (a ++ 63 :: b) f = below a f := by unfold below; rw [stem_mark]
/-- With more behind a path still is below what it was below. -/
theorem below_more {a f : List Nat} (b : List Nat) (h : below a f = true) (ha : stem a = a) : below (a ++ 47 :: b) f = true := by
  obtain ⟨h1, h2⟩ := below_pre h
  rw [ha] at h1 h2
  unfold below at h ⊢
  rw [ha] at h
  rw [stem_more ha, stem_cons, if_neg (by decide)]
  simp only [Bool.and_eq_true, Bool.or_eq_true, decide_eq_true_eq] at h ⊢
  refine ⟨by rw [List.take_append_of_le_length h2]; exact h1, ?_⟩
  rcases h.2 with (h3 | h3) | h3
  · refine .inl (.inr ?_)
    rw [← h3, List.getD_eq_getElem?_getD, List.getElem?_append_right (Nat.le_refl _), Nat.sub_self]; rfl
  · by_cases hl : f.length < a.length
    · refine .inl (.inr ?_)
      rw [List.getD_eq_getElem?_getD, List.getElem?_append_left hl, ← List.getD_eq_getElem?_getD]; exact h3
    · refine .inl (.inr ?_)
      have he : f.length = a.length := by omega
      rw [he, List.getD_eq_getElem?_getD, List.getElem?_append_right (Nat.le_refl _), Nat.sub_self]; rfl
  · exact .inr h3
theorem below_self {a : List Nat} (ha : stem a = a) : below a a = true := by
  unfold below
  rw [ha, List.take_length]
  simp
/-- All that begins with / is below it. -/
theorem below_root (l : List Nat) : below (47 :: l) [47] = true := by
  unfold below
  rw [stem_cons, if_neg (by decide)]
  simp
/-- Does a route fit? -/
def fits (p : List Nat) (ps : List (List Nat)) (r : Rt) : Bool := below p r.pre && (decide (r.pro = []) || decide (r.pro ∈ ps))
/-- Is b better than a? -/
def better (a b : Rt) : Bool := decide (a.pre.length < b.pre.length) || (decide (b.pre.length = a.pre.length) && (decide (a.pro = []) && decide (b.pro ≠ [])))
def step (p : List Nat) (ps : List (List Nat)) (o : Option Rt) (r : Rt) : Option Rt :=
  if fits p ps r then (match o with
    | none => some r
    | some a => if better a r then some r else some a) else o
/-- The route that is picked. -/
def pick (p : List Nat) (ps : List (List Nat)) (rs : List Rt) : Option Rt := rs.foldl (step p ps) none
theorem pick_nil (p : List Nat) (ps : List (List Nat)) : pick p ps [] = none := rfl
theorem pick_snoc (p : List Nat) (ps : List (List Nat)) (rs : List Rt) (r : Rt) : pick p ps (rs ++ [r]) = step p ps (pick p ps rs) r := by unfold pick; rw [List.foldl_append]; rfl
/-- What is known of the one that is picked. -/
def Best (p : List Nat) (ps : List (List Nat)) (rs : List Rt) : Option Rt → Prop
  | none => ∀ x ∈ rs, fits p ps x = false
  | some r => r ∈ rs ∧ fits p ps r = true ∧ ∀ x ∈ rs, fits p ps x = true → better r x = false
theorem better_up {a b x : Rt} (h : better a b = true) (k : better a x = false) : better b x = false := by
  unfold better at h k ⊢
  simp only [Bool.or_eq_true, Bool.and_eq_true, decide_eq_true_eq, Bool.or_eq_false_iff, Bool.and_eq_false_iff, decide_eq_false_iff_not] at h k ⊢
  rcases h with h | ⟨h1, h2, h3⟩
  · refine ⟨by omega, .inl (by omega)⟩
  · refine ⟨by omega, ?_⟩
    exact .inr (.inl h3)
theorem better_self (a : Rt) : better a a = false := by
  unfold better
  simp only [Bool.or_eq_false_iff, Bool.and_eq_false_iff, decide_eq_false_iff_not]
  refine ⟨by omega, .inr ?_⟩
  by_cases h : a.pro = []
  · exact .inr (fun e => e h)
  · exact .inl h
theorem pick_best (p : List Nat) (ps : List (List Nat)) : ∀ (n : Nat) (rs : List Rt), rs.length = n → Best p ps rs (pick p ps rs)
  | 0, rs, h => by
    obtain rfl := List.eq_nil_of_length_eq_zero h
    exact fun x hx => absurd hx List.not_mem_nil
  | n + 1, rs, h => by
    have hne : rs ≠ [] := fun e => by rw [e] at h; cases h
    have hd := (List.dropLast_concat_getLast hne).symm
    have ih := pick_best p ps n rs.dropLast (by rw [List.length_dropLast, h]; rfl)
    obtain ⟨r, hr⟩ : ∃ r, rs.getLast hne = r := ⟨_, rfl⟩
    obtain ⟨qs, hq⟩ : ∃ q, rs.dropLast = q := ⟨_, rfl⟩
    rw [hr, hq] at hd
    rw [hq] at ih
    subst hd
    rw [pick_snoc]
    unfold step
    by_cases hf : fits p ps r = true
    · rw [if_pos hf]
      cases hp : pick p ps qs with
      | none =>
        rw [hp] at ih
        refine ⟨by simp, hf, fun x hx hx2 => ?_⟩
        rcases List.mem_append.1 hx with h1 | h1
        · rw [ih x h1] at hx2; cases hx2
        · rw [List.mem_singleton] at h1; subst h1; exact better_self x
      | some a =>
        rw [hp] at ih
        obtain ⟨i1, i2, i3⟩ := ih
        show Best p ps (qs ++ [r]) (if better a r = true then some r else some a)
        by_cases hb : better a r = true
        · rw [if_pos hb]
          refine ⟨by simp, hf, fun x hx hx2 => ?_⟩
          rcases List.mem_append.1 hx with h1 | h1
          · exact better_up hb (i3 x h1 hx2)
          · rw [List.mem_singleton] at h1; subst h1; exact better_self x
        · rw [if_neg hb]
          refine ⟨List.mem_append_left _ i1, i2, fun x hx hx2 => ?_⟩
          rcases List.mem_append.1 hx with h1 | h1
          · exact i3 x h1 hx2
          · rw [List.mem_singleton] at h1; subst h1; simpa using hb
    · rw [if_neg hf]
      have hf' : fits p ps r = false := by simpa using hf
      cases hp : pick p ps qs with
      | none =>
        rw [hp] at ih
        intro x hx
        rcases List.mem_append.1 hx with h1 | h1
        · exact ih x h1
        · rw [List.mem_singleton] at h1; subst h1; exact hf'
      | some a =>
        rw [hp] at ih
        obtain ⟨i1, i2, i3⟩ := ih
        refine ⟨List.mem_append_left _ i1, i2, fun x hx hx2 => ?_⟩
        rcases List.mem_append.1 hx with h1 | h1
        · exact i3 x h1 hx2
        · rw [List.mem_singleton] at h1; subst h1; rw [hf'] at hx2; cases hx2
theorem pick_some {p : List Nat} {ps : List (List Nat)} {rs : List Rt} {r : Rt} (h : pick p ps rs = some r) : r ∈ rs ∧ fits p ps r = true ∧ ∀ x ∈ rs, fits p ps x = true → better r x = false := by
  have := pick_best p ps _ rs rfl
  rw [h] at this
  exact this
theorem pick_none {p : List Nat} {ps : List (List Nat)} {rs : List Rt} (h : pick p ps rs = none) : ∀ x ∈ rs, fits p ps x = false := by
  have := pick_best p ps _ rs rfl
  rw [h] at this
  exact this
/-- None that fits has a longer prefix. -/
theorem pick_long {p : List Nat} {ps : List (List Nat)} {rs : List Rt} {r x : Rt} (h : pick p ps rs = some r) (hx : x ∈ rs) (hf : fits p ps x = true) : x.pre.length ≤ r.pre.length := by
  have := (pick_some h).2.2 x hx hf
  unfold better at this
  simp only [Bool.or_eq_false_iff, decide_eq_false_iff_not] at this
  omega
theorem fits_below {p : List Nat} {ps : List (List Nat)} {r : Rt} (h : fits p ps r = true) : below p r.pre = true ∧ (r.pro = [] ∨ r.pro ∈ ps) := by
  unfold fits at h
  simpa only [Bool.and_eq_true, Bool.or_eq_true, decide_eq_true_eq] using h
/-- Two that are best of the same ones, of one protocol, have the same prefix and protocol. -/
theorem best_same {p q : List Nat} {rs : List Rt} {a b : Rt} (ha : a ∈ rs ∧ fits p [q] a = true ∧ ∀ x ∈ rs, fits p [q] x = true → better a x = false) (hb : b ∈ rs ∧ fits p [q] b = true ∧ ∀ x ∈ rs, fits p [q] x = true → better b x = false) : a.pre = b.pre ∧ a.pro = b.pro := by
  have h1 := ha.2.2 b hb.1 hb.2.1
  have h2 := hb.2.2 a ha.1 ha.2.1
  obtain ⟨a1, a2⟩ := fits_below ha.2.1
  obtain ⟨b1, b2⟩ := fits_below hb.2.1
  unfold better at h1 h2
  simp only [Bool.or_eq_false_iff, Bool.and_eq_false_iff, decide_eq_false_iff_not] at h1 h2
  have hl : a.pre.length = b.pre.length := by omega
  refine ⟨below_same a1 b1 hl, ?_⟩
  simp only [List.mem_singleton] at a2 b2
  rcases a2 with a2 | a2 <;> rcases b2 with b2 | b2
  · rw [a2, b2]
  · rcases h1.2 with h | h | h
    · exact absurd hl.symm h
    · exact absurd a2 h
    · have hb0 : b.pro = [] := Classical.byContradiction h
      rw [a2, hb0]
  · rcases h2.2 with h | h | h
    · exact absurd hl h
    · exact absurd b2 h
    · have ha0 : a.pro = [] := Classical.byContradiction h
      rw [ha0, b2]
  · rw [a2, b2]
/-- Where prefixes and protocols are there once each, the order doesn't matter. -/
theorem pick_turned {p q : List Nat} {rs qs : List Rt} (hm : ∀ x, x ∈ rs ↔ x ∈ qs) (hu : ∀ x ∈ rs, ∀ y ∈ rs, x.pre = y.pre → x.pro = y.pro → x = y) : pick p [q] rs = pick p [q] qs := by
  cases h1 : pick p [q] rs with
  | none =>
    cases h2 : pick p [q] qs with
    | none => rfl
    | some b =>
      obtain ⟨i1, i2, _⟩ := pick_some h2
      have := pick_none h1 b ((hm b).2 i1)
      rw [i2] at this; cases this
  | some a =>
    obtain ⟨j1, j2, j3⟩ := pick_some h1
    cases h2 : pick p [q] qs with
    | none =>
      have := pick_none h2 a ((hm a).1 j1)
      rw [j2] at this; cases this
    | some b =>
      obtain ⟨i1, i2, i3⟩ := pick_some h2
      obtain ⟨e1, e2⟩ := best_same (p := p) (q := q) (rs := rs) ⟨j1, j2, j3⟩ ⟨(hm b).2 i1, i2, fun x hx => i3 x ((hm x).1 hx)⟩
      rw [hu a j1 b ((hm b).2 i1) e1 e2]
/-- A route of all paths behind the others: it is picked where no other one is. -/
theorem pick_root (l to : List Nat) (ps : List (List Nat)) (rs : List Rt) : pick (47 :: l) ps (rs ++ [⟨[47], [], to⟩]) = match pick (47 :: l) ps rs with
    | none => some ⟨[47], [], to⟩
    | some r => if r.pre.length < 1 then some ⟨[47], [], to⟩ else some r := by
  rw [pick_snoc]
  unfold step
  have hf : fits (47 :: l) ps ⟨[47], [], to⟩ = true := by unfold fits; simp [below_root]
  rw [if_pos hf]
  cases h : pick (47 :: l) ps rs with
  | none => rfl
  | some r =>
    show (if better r ⟨[47], [], to⟩ = true then _ else _) = _
    have hb : better r ⟨[47], [], to⟩ = decide (r.pre.length < 1) := by unfold better; simp
    rw [hb]
    by_cases hr : r.pre.length < 1
    · simp [hr]
    · simp [hr]
/-- What is admitted: the route, and 0, or the status. -/
def admit (rs : List Rt) (os : List (List Nat)) (table : Int) (p : List Nat) (ps : List (List Nat)) (o : List Nat) (n : Int) : Option Rt × Int :=
  if decide (os = []) || decide (o ∈ os) then (match pick p ps rs with
    | none => (none, 404)
    | some r => if table ≤ n then (none, 503) else (some r, 0)) else (none, 403)
theorem admit_cases (rs : List Rt) (os : List (List Nat)) (table : Int) (p : List Nat) (ps : List (List Nat)) (o : List Nat) (n : Int) :
    ((admit rs os table p ps o n).2 = 403 ∧ (admit rs os table p ps o n).1 = none ∧ os ≠ [] ∧ o ∉ os) ∨
    ((os = [] ∨ o ∈ os) ∧ (admit rs os table p ps o n).2 = 404 ∧ (admit rs os table p ps o n).1 = none ∧ pick p ps rs = none) ∨
    ((os = [] ∨ o ∈ os) ∧ (admit rs os table p ps o n).2 = 503 ∧ (admit rs os table p ps o n).1 = none ∧ table ≤ n ∧ ∃ r, pick p ps rs = some r) ∨
    ((os = [] ∨ o ∈ os) ∧ (admit rs os table p ps o n).2 = 0 ∧ n < table ∧ ∃ r, pick p ps rs = some r ∧ (admit rs os table p ps o n).1 = some r) := by
  unfold admit
  by_cases h : os = [] ∨ o ∈ os
  · rw [if_pos (by rcases h with h | h <;> simp [h])]
    cases hp : pick p ps rs with
    | none => exact .inr (.inl ⟨h, rfl, rfl, rfl⟩)
    | some r =>
      by_cases ht : table ≤ n
      · exact .inr (.inr (.inl ⟨h, by simp [ht], by simp [ht], ht, r, rfl⟩))
      · exact .inr (.inr (.inr ⟨h, by simp [ht], by omega, r, rfl, by simp [ht]⟩))
  · have h' : os ≠ [] ∧ o ∉ os := ⟨fun e => h (.inl e), fun e => h (.inr e)⟩
    rw [if_neg (by simp [h'.1, h'.2])]
    exact .inl ⟨rfl, rfl, h'.1, h'.2⟩
end RoutePlain
