/- The texts below, joined. -/
import Derived.Test.YtlahonjmfecikaaGreatDoorZc
import Derived.Deep.DeepCutAuto
import Derived.SliceStrings
import Derived.ProofKit
set_option maxRecDepth 100000
namespace StreamPlain
open MaskPlain FramePlain
def one (s : List Nat) (masked : Bool) (most : Int) : Fr × Nat × Nat :=
  match s with
  | [] => (Fr0, 0, 90)
  | x :: xs =>
    if bad x then (Fr0, 0, 91)
    else if 0 < xs.length ∧ decide (128 ≤ xs.getD 0 0) ≠ masked then (Fr0, 0, 100)
    else getF (x :: xs) most
theorem one_cons (x : Nat) (xs : List Nat) (masked : Bool) (most : Int) : one (x :: xs) masked most = if bad x then (Fr0, 0, 91) else if 0 < xs.length ∧ decide (128 ≤ xs.getD 0 0) ≠ masked then (Fr0, 0, 100) else getF (x :: xs) most := rfl
theorem get_cons (x : Nat) (xs : List Nat) (most : Int) : getF (x :: xs) most = if bad x then (Fr0, 0, 91)
    else if 0 < xs.length ∧ 8 ≤ x % 16 ∧ 125 < xs.getD 0 0 % 128 then (Fr0, 0, 91)
    else if (getL xs).2.2 = 81 then (Fr0, 0, 91)
    else if (getL xs).2.2 = 80 then (Fr0, 0, 90)
    else if most < ((getL xs).1 : Int) then (Fr0, 0, 92)
    else rest x (xs.getD 0 0) (getL xs).1 (getL xs).2.1 (xs.drop (getL xs).2.1) := rfl
theorem get_first (x : Nat) (most : Int) : (getF [x] most).2.2 = if bad x then 91 else 90 := by
  rw [get_cons]
  by_cases h : bad x = true
  · rw [if_pos h, if_pos h]
  · rw [if_neg h, if_neg h]; rfl
theorem one_on {a : List Nat} (b : List Nat) (masked : Bool) (most : Int) (h : (one a masked most).2.2 ≠ 90) : one (a ++ b) masked most = one a masked most := by
  cases a with
  | nil => exact absurd rfl h
  | cons x xs =>
    rw [List.cons_append, one_cons, one_cons]
    rw [one_cons] at h
    by_cases h1 : bad x = true
    · rw [if_pos h1, if_pos h1]
    rw [if_neg h1] at h ⊢
    rw [if_neg h1]
    by_cases h2 : 0 < xs.length ∧ decide (128 ≤ xs.getD 0 0) ≠ masked
    · have hg : (xs ++ b).getD 0 0 = xs.getD 0 0 := by
        rw [List.getD_eq_getElem?_getD, List.getElem?_append_left h2.1, ← List.getD_eq_getElem?_getD]
      rw [if_pos h2, if_pos ⟨by rw [List.length_append]; omega, by rw [hg]; exact h2.2⟩]
    · rw [if_neg h2] at h ⊢
      cases xs with
      | nil =>
        rw [get_first, if_neg h1] at h
        exact absurd rfl h
      | cons y ys =>
        have h3 : ¬ (0 < (y :: ys ++ b).length ∧ decide (128 ≤ (y :: ys ++ b).getD 0 0) ≠ masked) := fun hh => h2 ⟨by simp, hh.2⟩
        rw [if_neg h3, ← List.cons_append]
        exact get_on b most h
theorem one_err (a : List Nat) (masked : Bool) (most : Int) : (one a masked most).2.2 = 0 ∨ (∃ e, one a masked most = (Fr0, 0, e) ∧ (e = 90 ∨ e = 91 ∨ e = 92 ∨ e = 100)) := by
  cases a with
  | nil => exact .inr ⟨90, rfl, .inl rfl⟩
  | cons x xs =>
    rw [one_cons]
    by_cases h1 : bad x = true
    · rw [if_pos h1]; exact .inr ⟨91, rfl, by omega⟩
    rw [if_neg h1]
    by_cases h2 : 0 < xs.length ∧ decide (128 ≤ xs.getD 0 0) ≠ masked
    · rw [if_pos h2]; exact .inr ⟨100, rfl, by omega⟩
    · rw [if_neg h2]
      rcases get_err (x :: xs) most with h | ⟨e, h, he⟩
      · exact .inl h
      · exact .inr ⟨e, h, by omega⟩
theorem one_ok {a : List Nat} {masked : Bool} {most : Int} {f : Fr} {n : Nat} (h : one a masked most = (f, n, 0)) : getF a most = (f, n, 0) ∧ 0 < a.length := by
  cases a with
  | nil => injection h with _ h; injection h with _ h; cases h
  | cons x xs =>
    rw [one_cons] at h
    by_cases h1 : bad x = true
    · rw [if_pos h1] at h; injection h with _ h; injection h with _ h; cases h
    rw [if_neg h1] at h
    by_cases h2 : 0 < xs.length ∧ decide (128 ≤ xs.getD 0 0) ≠ masked
    · rw [if_pos h2] at h; injection h with _ h; injection h with _ h; cases h
    · rw [if_neg h2] at h; exact ⟨h, by simp⟩
def allN : Nat → List Nat → Bool → Int → List Fr × Nat × Nat
  | 0, s, _, _ => ([], 0, s.length)
  | k + 1, s, masked, most =>
    if (one s masked most).2.2 = 90 then ([], 0, s.length)
    else if (one s masked most).2.2 ≠ 0 then ([], (one s masked most).2.2, 0)
    else ((one s masked most).1 :: (allN k (s.drop (one s masked most).2.1) masked most).1, (allN k (s.drop (one s masked most).2.1) masked most).2)
theorem allN_succ (k : Nat) (s : List Nat) (masked : Bool) (most : Int) : allN (k + 1) s masked most =
    if (one s masked most).2.2 = 90 then ([], 0, s.length)
    else if (one s masked most).2.2 ≠ 0 then ([], (one s masked most).2.2, 0)
    else ((one s masked most).1 :: (allN k (s.drop (one s masked most).2.1) masked most).1, (allN k (s.drop (one s masked most).2.1) masked most).2) := rfl
def all (s : List Nat) (masked : Bool) (most : Int) : List Fr × Nat × Nat := allN s.length s masked most
theorem one_len {a : List Nat} {masked : Bool} {most : Int} (hs : ∀ y ∈ a, y < 256) (h : (one a masked most).2.2 = 0) : 2 ≤ (one a masked most).2.1 ∧ (one a masked most).2.1 ≤ a.length := by
  obtain ⟨⟨f, n, e⟩, ho⟩ : ∃ r, one a masked most = r := ⟨_, rfl⟩
  rw [ho] at h ⊢
  simp only at h
  subst h
  obtain ⟨_, _, h3, h4, _⟩ := get_ok hs (one_ok ho).1
  exact ⟨h4, h3⟩
theorem allN_more (masked : Bool) (most : Int) : ∀ (k : Nat) (s : List Nat), (∀ y ∈ s, y < 256) → s.length ≤ k → allN (k + 1) s masked most = allN k s masked most
  | 0, s, _, h => by
    obtain rfl : s = [] := List.eq_nil_of_length_eq_zero (by omega)
    rfl
  | k + 1, s, hs, h => by
    have e1 := allN_succ (k + 1) s masked most
    have e2 := allN_succ k s masked most
    rw [e1, e2]
    by_cases h1 : (one s masked most).2.2 = 90
    · rw [if_pos h1, if_pos h1]
    rw [if_neg h1, if_neg h1]
    by_cases h2 : (one s masked most).2.2 ≠ 0
    · rw [if_pos h2, if_pos h2]
    rw [if_neg h2, if_neg h2]
    have h3 := one_len hs (by omega : (one s masked most).2.2 = 0)
    have ih := allN_more masked most k (s.drop (one s masked most).2.1) (fun y hy => hs y (List.mem_of_mem_drop hy)) (by rw [List.length_drop]; omega)
    rw [ih]
theorem allN_enough (masked : Bool) (most : Int) (s : List Nat) (hs : ∀ y ∈ s, y < 256) : ∀ k, s.length ≤ k → allN k s masked most = all s masked most := by
  intro k hk
  obtain ⟨d, rfl⟩ : ∃ d, k = s.length + d := ⟨k - s.length, by omega⟩
  clear hk
  induction d with
  | zero => rfl
  | succ d ih => rw [← Nat.add_assoc, allN_more masked most _ s hs (by omega)]; exact ih
theorem all_step (s : List Nat) (masked : Bool) (most : Int) (hs : ∀ y ∈ s, y < 256) : all s masked most =
    if (one s masked most).2.2 = 90 then ([], 0, s.length)
    else if (one s masked most).2.2 ≠ 0 then ([], (one s masked most).2.2, 0)
    else ((one s masked most).1 :: (all (s.drop (one s masked most).2.1) masked most).1, (all (s.drop (one s masked most).2.1) masked most).2) := by
  rw [← allN_enough masked most s hs (s.length + 1) (by omega), allN_succ]
  by_cases h1 : (one s masked most).2.2 = 90
  · rw [if_pos h1, if_pos h1]
  rw [if_neg h1, if_neg h1]
  by_cases h2 : (one s masked most).2.2 ≠ 0
  · rw [if_pos h2, if_pos h2]
  rw [if_neg h2, if_neg h2, allN_enough masked most _ (fun y hy => hs y (List.mem_of_mem_drop hy)) _ (by rw [List.length_drop]; omega)]
theorem all_left (masked : Bool) (most : Int) : ∀ (k : Nat) (s : List Nat), s.length ≤ k → (∀ y ∈ s, y < 256) → (all s masked most).2.2 ≤ s.length
  | 0, s, h, hs => by
    obtain rfl : s = [] := List.eq_nil_of_length_eq_zero (by omega)
    exact Nat.zero_le _
  | k + 1, s, h, hs => by
    rw [all_step s masked most hs]
    by_cases h1 : (one s masked most).2.2 = 90
    · rw [if_pos h1]; exact Nat.le_refl _
    rw [if_neg h1]
    by_cases h2 : (one s masked most).2.2 ≠ 0
    · rw [if_pos h2]; exact Nat.zero_le _
    rw [if_neg h2]
    have h3 := one_len hs (by omega : (one s masked most).2.2 = 0)
    have ih := all_left masked most k (s.drop (one s masked most).2.1) (by rw [List.length_drop]; omega) (fun y hy => hs y (List.mem_of_mem_drop hy))
    rw [List.length_drop] at ih
    show (all (s.drop (one s masked most).2.1) masked most).2.2 ≤ s.length
    omega
theorem all_append (masked : Bool) (most : Int) (b : List Nat) (hb : ∀ y ∈ b, y < 256) : ∀ (k : Nat) (a : List Nat), a.length ≤ k → (∀ y ∈ a, y < 256) → all (a ++ b) masked most =
    if (all a masked most).2.1 = 0 then ((all a masked most).1 ++ (all (a.drop (a.length - (all a masked most).2.2) ++ b) masked most).1, (all (a.drop (a.length - (all a masked most).2.2) ++ b) masked most).2) else all a masked most
  | 0, a, h, ha => by
    obtain rfl : a = [] := List.eq_nil_of_length_eq_zero (by omega)
    rfl
  | k + 1, a, h, ha => by
    have hab : ∀ y ∈ a ++ b, y < 256 := fun y hy => by rcases List.mem_append.1 hy with hy | hy; exact ha y hy; exact hb y hy
    by_cases h1 : (one a masked most).2.2 = 90
    · have e : all a masked most = ([], 0, a.length) := by rw [all_step a masked most ha, if_pos h1]
      rw [e]
      simp
    · have ho := one_on b masked most h1
      by_cases h2 : (one a masked most).2.2 ≠ 0
      · have e : all a masked most = ([], (one a masked most).2.2, 0) := by rw [all_step a masked most ha, if_neg h1, if_pos h2]
        rw [e, if_neg h2, all_step _ masked most hab, ho, if_neg h1, if_pos h2]
      · have h3 := one_len ha (by omega : (one a masked most).2.2 = 0)
        obtain ⟨n, hn⟩ : ∃ n, (one a masked most).2.1 = n := ⟨_, rfl⟩
        have e : all a masked most = ((one a masked most).1 :: (all (a.drop n) masked most).1, (all (a.drop n) masked most).2) := by rw [all_step a masked most ha, if_neg h1, if_neg h2, hn]
        have e2 : all (a ++ b) masked most = ((one a masked most).1 :: (all (a.drop n ++ b) masked most).1, (all (a.drop n ++ b) masked most).2) := by
          rw [all_step _ masked most hab, ho, if_neg h1, if_neg h2, hn, List.drop_append_of_le_length (by omega)]
        have ih := all_append masked most b hb k (a.drop n) (by rw [List.length_drop]; omega) (fun y hy => ha y (List.mem_of_mem_drop hy))
        have hl := all_left masked most (a.drop n).length (a.drop n) (Nat.le_refl _) (fun y hy => ha y (List.mem_of_mem_drop hy))
        rw [List.length_drop] at hl
        rw [e2, ih, e]
        by_cases h4 : (all (a.drop n) masked most).2.1 = 0
        · rw [if_pos h4, if_pos h4]
          have h5 : (a.drop n).drop ((a.drop n).length - (all (a.drop n) masked most).2.2) = a.drop (a.length - (all (a.drop n) masked most).2.2) := by
            rw [List.drop_drop, List.length_drop]; congr 1; omega
          rw [h5]; rfl
        · rw [if_neg h4, if_neg h4]
theorem all_rest (masked : Bool) (most : Int) : ∀ (k : Nat) (s : List Nat), s.length ≤ k → (∀ y ∈ s, y < 256) → (all s masked most).2.1 = 0 → (one (s.drop (s.length - (all s masked most).2.2)) masked most).2.2 = 90
  | 0, s, h, hs, h0 => by
    obtain rfl : s = [] := List.eq_nil_of_length_eq_zero (by omega)
    rfl
  | k + 1, s, h, hs, h0 => by
    by_cases h1 : (one s masked most).2.2 = 90
    · rw [show all s masked most = ([], 0, s.length) by rw [all_step s masked most hs, if_pos h1]]
      simpa using h1
    by_cases h2 : (one s masked most).2.2 ≠ 0
    · rw [show all s masked most = ([], (one s masked most).2.2, 0) by rw [all_step s masked most hs, if_neg h1, if_pos h2]] at h0
      exact absurd h0 h2
    have h3 := one_len hs (by omega : (one s masked most).2.2 = 0)
    obtain ⟨n, hn⟩ : ∃ n, (one s masked most).2.1 = n := ⟨_, rfl⟩
    rw [hn] at h3
    have e : all s masked most = ((one s masked most).1 :: (all (s.drop n) masked most).1, (all (s.drop n) masked most).2) := by rw [all_step s masked most hs, if_neg h1, if_neg h2, hn]
    rw [e] at h0 ⊢
    have ih := all_rest masked most k (s.drop n) (by rw [List.length_drop]; omega) (fun y hy => hs y (List.mem_of_mem_drop hy)) h0
    have hl := all_left masked most (s.drop n).length (s.drop n) (Nat.le_refl _) (fun y hy => hs y (List.mem_of_mem_drop hy))
    rw [List.length_drop] at hl
    rw [List.drop_drop, List.length_drop] at ih
    have h5 : n + (s.length - n - (all (s.drop n) masked most).2.2) = s.length - (all (s.drop n) masked most).2.2 := by omega
    rw [h5] at ih
    exact ih
theorem one_text {f : Fr} {masked : Bool} {most : Int} (hf : form f = true) (hm : f.masked = masked) (hk : f.key.length = 4) (hd : (f.data.length : Int) ≤ most) (hmo : most ≤ 9223372036854775807) (more : List Nat) : one (text f ++ more) masked most = (f, size f, 0) := by
  have hn : f.data.length ≤ 9223372036854775807 := by omega
  have hg := get_text hf hn hk more most
  rw [if_neg (by omega)] at hg
  obtain ⟨b1, _⟩ := byte0_facts hf
  obtain ⟨l1, _⟩ := lenB_low hn
  have hpos : 0 < (lenB f.data.length).length := by rw [lenB_length hn]; split <;> (try split) <;> omega
  have ht : ∃ y ys, text f = byte0 f :: y :: ys ∧ decide (128 ≤ y) = f.masked := by
    unfold text headB
    obtain ⟨L, hL⟩ : ∃ L, lenB f.data.length = L := ⟨_, rfl⟩
    rw [hL] at hpos l1 ⊢
    cases L with
    | nil => cases hpos
    | cons y ys =>
      have hy : y < 128 := l1
      by_cases h : f.masked = true
      · rw [if_pos h, if_pos h]
        exact ⟨y + 128, ys ++ f.key ++ turn f.key 0 f.data, by simp, by rw [h]; exact decide_eq_true (by omega)⟩
      · rw [if_neg h, if_neg h]
        exact ⟨y, ys ++ f.data, by simp, by rw [Bool.eq_false_iff.2 h]; exact decide_eq_false (by omega)⟩
  obtain ⟨y, ys, e, hy⟩ := ht
  rw [e] at hg ⊢
  rw [List.cons_append] at hg ⊢
  rw [one_cons, if_neg (by rw [b1]; decide), if_neg (fun hh => hh.2 (by show decide (128 ≤ y) = masked; rw [hy, hm]))]
  exact hg
end StreamPlain
set_option maxRecDepth 100000
namespace Go.Proofs.YtlahonjmfecikaaGreatDoor.Stm
open Go.RowKit MaskPlain FramePlain StreamPlain Mas Fra
def cv (f : Fr) : List Value := [.bool f.fin, .int .i64 f.op, .bool f.masked, .int .u8 ((f.key.getD 0 0 : Nat) : Int), .int .u8 ((f.key.getD 1 0 : Nat) : Int), .int .u8 ((f.key.getD 2 0 : Nat) : Int), .int .u8 ((f.key.getD 3 0 : Nat) : Int), .string (strOf f.data)]
theorem cv_val (f : Fr) : valF f = .agg (cv f).toArray := rfl
def cvs (fs : List Fr) : List Value := fs.flatMap cv
theorem cvs_cons (f : Fr) (fs : List Fr) : cvs (f :: fs) = cv f ++ cvs fs := rfl
theorem cvs_length (fs : List Fr) : (cvs fs).length = fs.length * 8 := by
  induction fs with
  | nil => rfl
  | cons f fs ih => rw [cvs_cons, List.length_append, ih]; simp [cv]; omega
theorem cvs_append (a b : List Fr) : cvs (a ++ b) = cvs a ++ cvs b := by simp [cvs]
theorem cv_one (f : Fr) : ∀ u ∈ cv f, u.oneCell' = true := fun u hu => by
  simp only [cv, List.mem_cons, List.not_mem_nil, or_false] at hu
  rcases hu with rfl | rfl | rfl | rfl | rfl | rfl | rfl | rfl <;> rfl
theorem cvs_one {fs : List Fr} : ∀ u ∈ cvs fs, u.oneCell' = true := fun u hu => by
  simp only [cvs, List.mem_flatMap] at hu
  obtain ⟨f, _, hf⟩ := hu
  exact cv_one f u hf
theorem cvs_get : ∀ (fs : List Fr) (i : Nat), i < fs.length → ∀ j, j < 8 → (cvs fs)[i * 8 + j]? = (cv (fs.getD i Fr0))[j]?
  | [], i, hi, _, _ => by simp at hi
  | f :: fs, 0, _, j, hj => by
    rw [cvs_cons, Nat.zero_mul, Nat.zero_add, List.getElem?_append_left (by simpa [cv] using hj)]; rfl
  | f :: fs, i + 1, hi, j, hj => by
    rw [cvs_cons, show (i + 1) * 8 + j = i * 8 + j + 8 from by omega, List.getElem?_append_right (by simp [cv])]
    have := cvs_get fs i (by simpa using hi) j hj
    simpa [cv] using this
theorem cvs_at {fs : List Fr} {j : Nat} {u : Value} (h : (cvs fs)[j]? = some u) : j / 8 < fs.length ∧ (cv (fs.getD (j / 8) Fr0))[j % 8]? = some u := by
  have hj : j < (cvs fs).length := (List.getElem?_eq_some_iff.1 h).1
  rw [cvs_length] at hj
  refine ⟨by omega, ?_⟩
  rw [← cvs_get fs (j / 8) (by omega) (j % 8) (by omega), ← h]
  congr 1; omega
def OwnR (W : World) (base : Nat) (v : Value) (fs : List Fr) : Prop := W.ownsRow base 61 8 v fs.length (cvs fs)
def FrsAt (W : World) (v : Value) (fs : List Fr) : Prop :=
  ∃ (a : Option Addr) (cap sb so : Nat), v = .slice a fs.length cap ∧ fs.length ≤ cap ∧ (0 < fs.length → a = some ⟨sb, so, none⟩) ∧ ∀ i, i < fs.length → ∀ j, j < 8 → W.cell? ⟨sb, so + i * 8 + j, none⟩ = (cv (fs.getD i Fr0))[j]?
theorem cv_some (f : Fr) (j : Nat) (hj : j < 8) : ∃ u, (cv f)[j]? = some u := ⟨_, List.getElem?_eq_getElem (by simpa [cv] using hj)⟩
theorem FrsAt.below {w w' : World} {v : Value} {fs : List Fr} (h : FrsAt w v fs) (hb : Below w.heap.size w w') : FrsAt w' v fs := by
  obtain ⟨a, cap, sb, so, h1, hc, h3, h4⟩ := h
  refine ⟨a, cap, sb, so, h1, hc, h3, fun i hi j hj => ?_⟩
  have g := h4 i hi j hj
  obtain ⟨u, hu⟩ := cv_some (fs.getD i Fr0) j hj
  rw [hu] at g ⊢
  have k0 := block_lt_of_cell g
  rw [hb.cell (p := ⟨sb, so + i * 8 + j, none⟩) k0]; exact g
theorem FrsAt.grown {w w' : World} {v : Value} {fs : List Fr} {r : Option Nat} (h : FrsAt w v fs) (hg : w.grownBy w' r) (hne : ∀ g, v.ownBlock = some g → some g ≠ r) : FrsAt w' v fs := by
  obtain ⟨a, cap, sb, so, rfl, hc, h3, h4⟩ := h
  refine ⟨a, cap, sb, so, rfl, hc, h3, fun i hi j hj => ?_⟩
  have g := h4 i hi j hj
  obtain ⟨u, hu⟩ := cv_some (fs.getD i Fr0) j hj
  rw [hu] at g ⊢
  have k0 : sb < w.heap.size := block_lt_of_cell g
  obtain rfl := h3 (by omega)
  have hb : w'.heap[sb]? = w.heap[sb]? := hg.block sb k0 (hne sb rfl)
  rw [World.cell?_of_block (w := w) hb]; exact g
theorem FrsAt.two {w w' : World} {v : Value} {fs : List Fr} {b p : Nat} (h : FrsAt w v fs) (k : Two w w' b p) (h1 : v.ownBlock ≠ some b) (h2 : v.ownBlock ≠ some p) : FrsAt w' v fs := by
  obtain ⟨a, cap, sb, so, rfl, hc, h3, h4⟩ := h
  refine ⟨a, cap, sb, so, rfl, hc, h3, fun i hi j hj => ?_⟩
  have g := h4 i hi j hj
  obtain ⟨u, hu⟩ := cv_some (fs.getD i Fr0) j hj
  rw [hu] at g ⊢
  have k0 : sb < w.heap.size := block_lt_of_cell g
  obtain rfl := h3 (by omega)
  have hb : w'.heap[sb]? = w.heap[sb]? := k.block sb k0 (fun e => h1 (by simp [Value.ownBlock, e])) (fun e => h2 (by simp [Value.ownBlock, e]))
  rw [World.cell?_of_block (w := w) hb]; exact g
theorem OwnR.below {w w' : World} {base : Nat} {v : Value} {l : List Fr} (h : OwnR w base v l) (hb : Below w.heap.size w w') : OwnR w' base v l := own_below h hb
theorem OwnR.two {w w' : World} {base b p : Nat} {v : Value} {l : List Fr} (h : OwnR w base v l) (k : Two w w' b p) (h1 : v.ownBlock ≠ some b) (h2 : v.ownBlock ≠ some p) : OwnR w' base v l := by
  obtain ⟨hl, hh⟩ := h
  refine ⟨hl, ?_⟩
  rcases hh with ⟨rfl, hz⟩ | ⟨g, cap, cur, rfl, hg, hx, hr⟩
  · exact .inl ⟨rfl, hz⟩
  · refine .inr ⟨g, cap, cur, rfl, hg, ?_, hr⟩
    rw [k.block g (Array.getElem?_eq_some_iff.1 hx).1 (fun e => h1 (by simp [Value.ownBlock, e])) (fun e => h2 (by simp [Value.ownBlock, e]))]
    exact hx
theorem ownR_nil (R : World) (base : Nat) : OwnR R base (.slice none 0 0) [] := World.ownsRow_nil _ _ _ _
theorem OwnR.slice {W : World} {base : Nat} {v : Value} {l : List Fr} (h : OwnR W base v l) : ∃ a c, v = .slice a l.length c := by
  obtain ⟨_, h2⟩ := h
  rcases h2 with ⟨rfl, hz⟩ | ⟨g, cap, cur, rfl, _⟩
  · rw [hz]; exact ⟨_, _, rfl⟩
  · exact ⟨_, _, rfl⟩
theorem OwnR.frs {W : World} {base : Nat} {v : Value} {fs : List Fr} (ho : OwnR W base v fs) : FrsAt W v fs := by
  obtain ⟨h1, h2⟩ := ho
  rcases h2 with ⟨rfl, hz⟩ | ⟨g, cap, cur, rfl, hg, hh, hc1, hc2, hsz, htk⟩
  · exact ⟨none, 0, 0, 0, by rw [hz], by omega, fun h => by omega, fun i hi => by omega⟩
  · refine ⟨some ⟨g, 0, none⟩, cap, g, 0, rfl, hc1, fun _ => rfl, fun i hi j hj => ?_⟩
    have k := cvs_get fs i hi j hj
    rw [Nat.zero_add, ← k, cell_of_row _ _ _ _ _ _ hh, ← htk, List.getElem?_take_of_lt (by omega)]
    simp
theorem OwnR.ge {W : World} {base : Nat} {v : Value} {l : List Fr} (h : OwnR W base v l) {g : Nat} (hg : v.ownBlock = some g) : base ≤ g := by
  obtain ⟨_, h2⟩ := h
  rcases h2 with ⟨rfl, _⟩ | ⟨k, cap, cur, rfl, hk, _⟩
  · cases hg
  · have : k = g := by simpa [Value.ownBlock] using hg
    omega
theorem OwnR.kind {W : World} {base g : Nat} {v : Value} {l : List Fr} {cs : Array Value} {t : TypeId} (ho : OwnR W base v l) (h : W.heap[g]? = some (.cells cs t (0, 0))) (ht : t ≠ 61) : v.ownBlock ≠ some g := fun e => by
  obtain ⟨_, h2⟩ := ho
  rcases h2 with ⟨rfl, _⟩ | ⟨k, cap, cur, rfl, _, hh, _⟩
  · cases e
  · obtain rfl : k = g := by simpa [Value.ownBlock] using e
    rw [h] at hh
    injection hh with hh
    injection hh with _ h4
    exact ht h4
theorem OwnR.keeps {W W' : World} {base B : Nat} {w0 : World} {v : Value} {l : List Fr} (h : OwnR W base v l) (hB : Below B w0 W) (hg : W.grownBy W' v.ownBlock) (hb : B ≤ base) (hs : B ≤ W.heap.size) : Below B w0 W' :=
  hB.grown hg hs (fun _ hk => Nat.le_trans hb (h.ge hk))
theorem info43 : ∃ i, Tryz.prog.info? 61 = some i ∧ i.zero = some (.agg #[.bool false, .int .i64 0, .bool false, .int .u8 0, .int .u8 0, .int .u8 0, .int .u8 0, .string ByteArray.empty]) ∧ i.size = 8 ∧ i.bytes = 40 := by
  have h5 : (Tryz.prog.info? 61).map (fun i => (i.zero, i.size, i.bytes)) = some (some (.agg #[.bool false, .int .i64 0, .bool false, .int .u8 0, .int .u8 0, .int .u8 0, .int .u8 0, .string ByteArray.empty]), 8, 40) := by kernel_rfl
  cases hi : Tryz.prog.info? 61 with
  | none => rw [hi] at h5; cases h5
  | some i =>
    rw [hi] at h5
    simp only [Option.map_some, Option.some.injEq, Prod.mk.injEq] at h5
    exact ⟨i, rfl, h5.1, h5.2.1, h5.2.2⟩
theorem own_app {P : Program} {w : World} (base : Nat) (t ty e : TypeId) (i : TypeInfo) (z : Value) (size bytes : Nat) (ht : P.underlying t = some (.slice e)) (hi : P.info? e = some i) (hz : i.zero = some z)
    (hsize : i.size = size) (hby : i.bytes = bytes) (hzs : z.cells.size = size) (hsz : 0 < size)
    (v : Value) (n : Nat) (xs : List Value) (hown : w.ownsRow base e size v n xs)
    (a : Addr) (m c : Nat) (news : List Value) (hl : news.length = m * size) (hnews : ∀ j u, news[j]? = some u → w.cell? (a.add j) = some u) (h1 : ∀ u ∈ news, u.oneCell' = true)
    (h63 : n + m ≤ maxLen) (hbytes : (n + m) * bytes ≤ 140737488355328) (hbase : base ≤ w.heap.size) :
    ∃ v' w', (Builtin.append_ #[t, t] ty #[v, .slice (some a) m c]).run P w = .ok v' w' ∧ w'.ownsRow base e size v' (n + m) (xs ++ news) ∧ w.grownBy w' v.ownBlock ∧
      (v'.ownBlock = v.ownBlock ∨ v'.ownBlock = some w.heap.size) := by
  obtain ⟨v', w', hr, h2, h3, _⟩ := run_append_own (P := P) w base t ty e i z size bytes ht hi hz hsize hby hzs hsz v n xs hown a m c news hl hnews h1 h63 hbytes hbase
  refine ⟨v', w', hr, h2, h3, ?_⟩
  subst hsize hby
  rcases hown.2 with ⟨rfl, rfl⟩ | ⟨g, cap, cur, rfl, hbg, hg, hnc, hcm, hcs, htake⟩
  · have hx : xs = [] := List.eq_nil_of_length_eq_zero (by simpa using hown.1)
    subst hx
    obtain ⟨v2, w2, hr2, h4, _, h5⟩ := run_append_own (P := P) w w.heap.size t ty e i z i.size i.bytes ht hi hz rfl rfl hzs hsz _ 0 [] (World.ownsRow_nil w w.heap.size e i.size) a m c news hl hnews h1 h63 hbytes (Nat.le_refl _)
    rw [hr] at hr2
    injection hr2 with e1 e2
    subst e1 e2
    by_cases hm : m = 0
    · rw [h5.2 ⟨rfl, hm⟩]; exact .inl rfl
    · have hr3 := run_append_nil (P := P) w t ty e i z ht hi hz a m c news hl hnews (by omega) (by unfold maxLen at h63; omega) (by have hb := hbytes; simp only [Nat.zero_add] at hb; omega)
      rw [hr] at hr3
      injection hr3 with e1 e2
      rw [e1]; exact .inr rfl
  · by_cases hroom : n + m ≤ cap
    · have hfit : n * i.size + news.length ≤ cur.size := by rw [hl, hcs, ← Nat.add_mul]; exact Nat.mul_le_mul_right _ hroom
      have hr2 := run_append_room (P := P) (ty := ty) w t e i ht hi g n cap cur hg a m c news hl hnews h1 hroom hfit
      rw [hr] at hr2
      injection hr2 with e1 e2
      rw [e1]; exact .inl rfl
    · have holds : ∀ j u, xs[j]? = some u → w.cell? ((⟨g, 0, none⟩ : Addr).add j) = some u := hown.cells (g := g) rfl
      have hr2 := run_append_grow (P := P) w t ty e i z ht hi hz ⟨g, 0, none⟩ n cap xs hown.1 holds a m c news hl hnews (by omega) (by unfold maxLen at h63; omega) (growslice_fits (by omega) hbytes)
      rw [hr] at hr2
      injection hr2 with e1 e2
      rw [e1]; exact .inr rfl
theorem add_frs {Z : World} {base : Nat} {v0 x : Value} {m l : List Fr} (hown : OwnR Z base v0 m) (hx : FrsAt Z x l) (hl : m.length + l.length ≤ 1000000) (hbase : base ≤ Z.heap.size) :
    ∃ v1 w1, (Builtin.append_ #[34, 34] 34 #[v0, x]).run Tryz.prog Z = .ok v1 w1 ∧ OwnR w1 base v1 (m ++ l) ∧ Z.grownBy w1 v0.ownBlock ∧ (v1.ownBlock = v0.ownBlock ∨ v1.ownBlock = some Z.heap.size) := by
  obtain ⟨i0, hi0, hz0, hz1, hz2⟩ := info43
  obtain ⟨ad, cap, sb, so, rfl, hcap, had, hcell⟩ := hx
  have key : ∀ a : Addr, (0 < l.length → a = ⟨sb, so, none⟩) → ∃ v1 w1, (Builtin.append_ #[34, 34] 34 #[v0, .slice (some a) l.length cap]).run Tryz.prog Z = .ok v1 w1 ∧ OwnR w1 base v1 (m ++ l) ∧ Z.grownBy w1 v0.ownBlock ∧ (v1.ownBlock = v0.ownBlock ∨ v1.ownBlock = some Z.heap.size) := fun a ha => by
    obtain ⟨v', w', h1, h2, h3, h4⟩ := own_app (P := Tryz.prog) (w := Z) base 34 34 61 i0 _ 8 40 Tryz.underlying34 hi0 hz0 hz1 hz2 rfl (by decide) v0 m.length (cvs m) hown a l.length cap (cvs l) (cvs_length l) (fun j u hu => by
      obtain ⟨hi, h⟩ := cvs_at hu
      obtain rfl := ha (by omega)
      have g1 := hcell _ hi (j % 8) (by omega)
      rw [Addr.add_mid, ← h, ← g1]
      congr 2; omega) cvs_one (by unfold maxLen; omega) (by omega) hbase
    refine ⟨v', w', h1, ?_, h3, h4⟩
    unfold OwnR
    rw [List.length_append, cvs_append]
    exact h2
  cases ad with
  | some a => exact key a (fun h => by have := had h; injection this)
  | none =>
    have hz : l.length = 0 := by
      by_cases h : 0 < l.length
      · have := had h; cases this
      · omega
    have hf : l = [] := List.eq_nil_of_length_eq_zero hz
    subst hf
    refine ⟨v0, Z, ?_, by rw [List.append_nil]; exact hown, grown_refl _ _, .inl rfl⟩
    rcases hown.2 with ⟨rfl, _⟩ | ⟨g, c, cur, rfl, _, _, hnc, _⟩
    · simp [Builtin.append_, run_underlying Tryz.underlying34, sizeOf, typeInfo, hi0, Builtin.lenOf, Builtin.firstCells]
    · simp [Builtin.append_, run_underlying Tryz.underlying34, sizeOf, typeInfo, hi0, Builtin.lenOf, Builtin.firstCells, storeCells]
      intro hc
      exact absurd hc (by omega)
theorem frs_one {W : World} {g : Nat} {f : Fr} {cs : Array Value} {t : TypeId} (h : W.heap[g]? = some (.cells cs t (0, 0))) (hc : cs = (cv f).toArray) : FrsAt W (.slice (some ⟨g, 0, none⟩) 1 1) [f] := by
  subst hc
  refine ⟨_, 1, g, 0, rfl, Nat.le_refl _, fun _ => rfl, fun i hi j hj => ?_⟩
  obtain rfl : i = 0 := by simpa using hi
  rw [cell_of_row _ _ _ _ _ _ h, List.getElem?_toArray]
  congr 1; omega
theorem app_frs {w : World} {ops : Array Oper} {rest : List Oper} {o : Oper} {a : Act} {Q : Exit → Act → World → Prop} (hgd : o.guard = none) (s x : Operand)
    (ho : o.op = .call { callee := .builtin .append, args := #[s, x], argTypes := #[34, 34] }) (hty : o.type = 34) (base : Nat) (v u : Value) (fs gs : List Fr) (hs : a.eval s = v) (hown : OwnR w base v fs)
    (hx : a.eval x = u) (hu : FrsAt w u gs) (hl : fs.length + gs.length ≤ 1000000) (hbase : base ≤ w.heap.size)
    (h : ∀ v' w', Sl (OwnR w' base v' (fs ++ gs)) → Sl (w.grownBy w' v.ownBlock) → wpList Tryz.prog ops Q rest (a.put o.dst v') w') : wpList Tryz.prog ops Q (o :: rest) a w := by
  obtain ⟨v1, w1, hrun, h1, h2, _⟩ := add_frs hown hu hl hbase
  refine wpList_plain hgd fun K hK => ?_
  unfold Oper.wp
  have hy : (execOp a.eval o).run Tryz.prog w = .ok (.value v1) w1 := by
    simp [execOp, ho, hty, resolve, invoke, builtin, hs, hx, hrun, Result.andThen]
  rw [hy, Oper.upon_value]
  exact hK _ _ (h v1 w1 ⟨h1⟩ ⟨h2⟩)
end Go.Proofs.YtlahonjmfecikaaGreatDoor.Stm
set_option maxRecDepth 100000
namespace Go.Proofs.YtlahonjmfecikaaGreatDoor.Stm
open Go.RowKit MaskPlain FramePlain StreamPlain Mas Fra
structure StrmAt (w0 W : World) (b : Nat) (masked : Bool) (most : Int) (part : List Nat) (err : Nat) (v : Value) : Prop where
  X : W.heap[b]? = some (.cells #[.bool masked, .int .i64 most, v, .int .i64 (err : Int)] 119 (0, 0))
  O : W.ownsRow w0.heap.size 5 1 v part.length (u8s part)
  B : w0.heap.size ≤ b
  L : Below w0.heap.size w0 W
def ob (v : Value) (b : Nat) : Nat := v.ownBlock.getD b
section
variable {w0 W W' : World} {b : Nat} {masked : Bool} {most : Int} {part : List Nat} {err : Nat} {v : Value}
theorem StrmAt.lt (h : StrmAt w0 W b masked most part err v) : b < W.heap.size := (Array.getElem?_eq_some_iff.1 h.X).1
theorem StrmAt.below (h : StrmAt w0 W b masked most part err v) (k : Below W.heap.size W W') : StrmAt w0 W' b masked most part err v :=
  ⟨below_key h.X k, own_below h.O k, h.B, h.L.trans (k.mono h.L.size)⟩
theorem StrmAt.slice (h : StrmAt w0 W b masked most part err v) : ∃ a c, v = .slice a part.length c ∧ part.length ≤ c := by
  rcases h.O.2 with ⟨rfl, hz⟩ | ⟨g, cap, cur, rfl, _, _, hc, _⟩
  · rw [hz]; exact ⟨_, _, rfl, Nat.le_refl _⟩
  · exact ⟨_, _, rfl, hc⟩
theorem own_src' {base : Nat} {bs : List Nat} (h : W.ownsRow base 5 1 v bs.length (u8s bs)) : SrcAt W v bs := by
  by_cases hp : 0 < bs.length
  · obtain ⟨_, _, _, _, k⟩ := own_src h hp; exact k
  · obtain rfl : bs = [] := List.eq_nil_of_length_eq_zero (by omega)
    rcases h.2 with ⟨rfl, hz⟩ | ⟨g, cap, cur, rfl, _, _, hc, _⟩
    · exact ⟨none, 0, 0, 0, rfl, Nat.le_refl _, fun h => absurd h (by decide), fun i hi => absurd hi (by simp)⟩
    · exact ⟨_, cap, g, 0, rfl, hc, fun _ => rfl, fun i hi => absurd hi (by simp)⟩
theorem StrmAt.src (h : StrmAt w0 W b masked most part err v) : SrcAt W v part := own_src' h.O
theorem StrmAt.cells (h : StrmAt w0 W b masked most part err v) : W.cell? ⟨b, 0, none⟩ = some (.bool masked) ∧ W.cell? ⟨b, 1, none⟩ = some (.int .i64 most) ∧ W.cell? ⟨b, 2, none⟩ = some v ∧ W.cell? ⟨b, 3, none⟩ = some (.int .i64 (err : Int)) := by
  refine ⟨?_, ?_, ?_, ?_⟩ <;> (rw [cell_of_row _ _ _ _ _ _ h.X]; rfl)
theorem StrmAt.froz (h : StrmAt w0 W b masked most part err v) (i : Nat) : W.frozen? ⟨b, i, none⟩ = false := frozen_of_row _ _ _ _ _ h.X
end
theorem new_yes (masked : Bool) (most : Int) (w0 w : World) (hL : Below w0.heap.size w0 w) (hm : 125 ≤ most ∧ most ≤ 65536) :
    Calls Tryz.prog 38 #[.bool masked, .int .i64 most] w fun e w' => e = .returned (.tuple #[.pointer (some ⟨w.heap.size, 0, none⟩), .int .i64 0]) ∧ Sl (StrmAt w0 w' w.heap.size masked most [] 0 (.slice none 0 0)) ∧ Sl (Below w.heap.size w w') := by
  have h1 : (most < 125) = False := eq_false (by omega)
  have h2 : (most > 65536) = False := eq_false (by omega)
  have HL := Sl.mk hL
  clear hm hL
  go_enter Tryz.func38, Tryz.ntmps38
  go_wp2
  go_ret2
  exact ⟨rfl, ⟨⟨alloc_new _ _ _ rfl, World.ownsRow_nil _ _ _ _, HL.out.size, HL.out.alloc HL.out.size _⟩⟩, ⟨(Below.refl _ _).alloc (Nat.le_refl _) _⟩⟩
theorem part_any {w0 W : World} {b : Nat} {masked : Bool} {most : Int} {part : List Nat} {err : Nat} {v : Value} (h : StrmAt w0 W b masked most part err v) :
    Calls Tryz.prog 67 #[.pointer (some ⟨b, 0, none⟩)] W fun e w' => e = .returned (.int .i64 (part.length : Int)) ∧ W = w' := by
  obtain ⟨a, c, rfl, _⟩ := h.slice
  obtain ⟨_, _, c2, _⟩ := h.cells
  clear h
  obtain ⟨n, hn⟩ : ∃ n, part.length = n := ⟨_, rfl⟩
  rw [hn] at c2 ⊢
  clear hn
  go_enter Tryz.func67, Tryz.ntmps67
  go_wp2
  go_ret
  exact ⟨rfl, rfl⟩
theorem unlike_any {w0 W : World} {b : Nat} {masked : Bool} {most : Int} {part : List Nat} {err : Nat} {v : Value} (h : StrmAt w0 W b masked most part err v) (y : Nat) (hy : y < 256) :
    Calls Tryz.prog 108 #[.pointer (some ⟨b, 0, none⟩), .int .u8 (y : Int)] W fun e w' => e = .returned (.bool (decide (128 ≤ y) != masked)) ∧ W = w' := by
  obtain ⟨c0, _, _, _⟩ := h.cells
  have ha := and_128 y hy
  clear h
  have hne0 : ((((if 128 ≤ y then 128 else 0 : Nat) : Int)) != 0) = decide (128 ≤ y) := by
    by_cases h : 128 ≤ y
    · rw [if_pos h, decide_eq_true h]; rfl
    · rw [if_neg h, decide_eq_false h]; rfl
  obtain ⟨ax, hax⟩ : ∃ ax : Nat, (if 128 ≤ y then 128 else 0 : Nat) = ax := ⟨_, rfl⟩
  obtain ⟨d, hd⟩ : ∃ d, decide (128 ≤ y) = d := ⟨_, rfl⟩
  rw [hax] at ha hne0
  rw [hd] at hne0 ⊢
  clear hax hd
  go_enter Tryz.func108, Tryz.ntmps108
  go_wp2
  go_ret
  exact ⟨rfl, rfl⟩
end Go.Proofs.YtlahonjmfecikaaGreatDoor.Stm
set_option maxRecDepth 100000
namespace Go.Proofs.YtlahonjmfecikaaGreatDoor.Stm
open Go.RowKit MaskPlain FramePlain StreamPlain Mas Fra
theorem getf_zero (a : Option Addr) (cap : Nat) (most : Int) (w : World) : Calls Tryz.prog 109 #[.slice a 0 cap, .int .i64 most] w fun e w' => e = .returned (resF (getF [] most)) ∧ Sl (Below w.heap.size w w') := by
  obtain ⟨w1, hw1⟩ : ∃ w1, w.alloc (.cells #[.bool false, .int .i64 0, .bool false, .int .u8 0, .int .u8 0, .int .u8 0, .int .u8 0, .string { data := #[] }] 61) = w1 := ⟨_, rfl⟩
  have HB1 : Sl (Below w.heap.size w w1) := ⟨by rw [← hw1]; exact (bx_below w _).out⟩
  have HZ1 : Sl (w1.heap[w.heap.size]? = some (.cells #[.bool false, .int .i64 0, .bool false, .int .u8 0, .int .u8 0, .int .u8 0, .int .u8 0, .string { data := #[] }] 61 (0, 0))) := ⟨by rw [← hw1]; exact bx_new _ _⟩
  have HQ : Sl (getF [] most = (Fr0, 0, 90)) := ⟨rfl⟩
  go_enter Tryz.func109, Tryz.ntmps109
  have HI := fr_info (cs := #[.bool false, .int .i64 0, .bool false, .int .u8 0, .int .u8 0, .int .u8 0, .int .u8 0, .string { data := #[] }]) rfl
  go_wp2_with (refine wpList_store_row rfl 61 (.tmp 4) (.tmp 14) rfl w.heap.size #[.bool false, .int .i64 0, .bool false, .int .u8 0, .int .u8 0, .int .u8 0, .int .u8 0, .string { data := #[] }] rfl rfl 61 #[.bool false, .int .i64 0, .bool false, .int .u8 0, .int .u8 0, .int .u8 0, .int .u8 0, .string { data := #[] }] HZ1.out HI rfl (fr_all _ _ _ _ _ _ _ _) ?_)
  refine bodyPost_ret (ret_fr rfl _ _ w.heap.size 61 _ (0, 0) rfl (setRow_heap _ _ _ _ _ _ HZ1.out) rfl) rfl ?_
  rw [HQ.out]
  exact ⟨rfl, ⟨below_setRow HB1.out (Nat.le_refl _) _⟩⟩
theorem fget_any (a : Option Addr) (L cap : Nat) (bs : List Nat) (most : Int) (w : World) (hg : Globs w) (hv : SrcAt w (.slice a L cap) bs) (hbl : bs.length = L) (hsm : Small 256 bs) (hm : L ≤ 100000) (hmo : most ≤ 9223372036854775807) :
    Calls Tryz.prog 109 #[.slice a L cap, .int .i64 most] w fun e w' => e = .returned (resF (getF bs most)) ∧ Sl (Below w.heap.size w w') := by
  by_cases h0 : L = 0
  · subst h0
    obtain rfl : bs = [] := List.eq_nil_of_length_eq_zero hbl
    exact getf_zero a cap most w
  · have hv' := hv
    obtain ⟨a', c', sb, so, he, _, ha, _⟩ := hv'
    injection he with e1 e2 e3
    rw [ha (by omega)] at e1
    subst e1
    exact getf_any sb so L cap bs most w hg hv hbl hsm hm hmo
theorem slice_to {W : World} {ev : Operand → Value} {o : Oper} {x : Operand} {sb so L cap : Nat} (ho : o.op = .slice 49 x none (some (.const (.int .i64 1))) none) (hx : ev x = .slice (some ⟨sb, so, none⟩) L cap) (hev : ev (.const (.int .i64 1)) = .int .i64 1) (hc : 1 ≤ cap) :
    (execOp ev o).run Tryz.prog W = .ok (.value (.slice (some ⟨sb, so, none⟩) 1 cap)) W := by
  simp only [execOp, ho, hx, hev, Option.map_some, Option.map_none]
  have hc' : (1 : Int) ≤ (cap : Int) := by omega
  go_simp
theorem one_short {bs : List Nat} (h : bs.length ≤ 1) (masked : Bool) (most : Int) : one bs masked most = getF bs most := by
  match bs, h with
  | [], _ => rfl
  | [x], _ =>
    by_cases hb : bad x = true
    · rw [one_cons, if_pos hb, get_cons, if_pos hb]
    · rw [one_cons, if_neg hb, if_neg (fun hh => absurd hh.1 (by decide))]
theorem one_like {x y : Nat} {ys : List Nat} {masked : Bool} (h : (decide (128 ≤ y) != masked) = false) (most : Int) : one (x :: y :: ys) masked most = getF (x :: y :: ys) most := by
  by_cases hb : bad x = true
  · rw [one_cons, if_pos hb, get_cons, if_pos hb]
  · rw [one_cons, if_neg hb, if_neg (fun hh => hh.2 (by simpa using h))]
theorem one_unlike {x y : Nat} {ys : List Nat} {masked : Bool} (hb : bad x = false) (h : (decide (128 ≤ y) != masked) = true) (most : Int) : one (x :: y :: ys) masked most = (Fr0, 0, 100) := by
  rw [one_cons, if_neg (by rw [hb]; decide), if_pos ⟨by simp, by simpa using h⟩]
theorem val_parts (f : Fr) : ∃ rf ro rm, ∃ ka kb kc kd : Nat, ∃ rd, valF f = (.agg #[.bool rf, .int .i64 ro, .bool rm, .int .u8 ((ka : Nat) : Int), .int .u8 ((kb : Nat) : Int), .int .u8 ((kc : Nat) : Int), .int .u8 ((kd : Nat) : Int), .string rd]) := ⟨_, _, _, _, _, _, _, _, rfl⟩
set_option maxHeartbeats 4000000 in
theorem get_any {w0 W : World} {b : Nat} {masked : Bool} {most : Int} {part : List Nat} {err : Nat} {v : Value} (hs : StrmAt w0 W b masked most part err v) (a : Option Addr) (L cap : Nat) (bs : List Nat) (hg : Globs w0) (hv : SrcAt W (.slice a L cap) bs) (hbl : bs.length = L) (hsm : Small 256 bs) (hm : L ≤ 100000) (hmo : most ≤ 9223372036854775807) :
    Calls Tryz.prog 83 #[.pointer (some ⟨b, 0, none⟩), .slice a L cap] W fun e w' => e = .returned (resF (one bs masked most)) ∧ Sl (Below W.heap.size W w') := by
  have HG := Sl.mk hg
  have HV := Sl.mk hv
  have HST := Sl.mk hs
  obtain ⟨f, n, k, hgf⟩ : ∃ f n k, getF bs most = (f, n, k) := ⟨_, _, _, rfl⟩
  obtain ⟨rf, ro, rm, ka, kb, kc, kd, rd, hval⟩ := val_parts f
  have FW : ∀ V, Globs V → SrcAt V (.slice a L cap) bs → Calls Tryz.prog 109 #[.slice a L cap, .int .i64 most] V fun e w' => e = .returned (.tuple #[.agg #[.bool rf, .int .i64 ro, .bool rm, .int .u8 ((ka : Nat) : Int), .int .u8 ((kb : Nat) : Int), .int .u8 ((kc : Nat) : Int), .int .u8 ((kd : Nat) : Int), .string rd], .int .i64 (n : Int), .int .i64 (k : Int)]) ∧ Sl (Below V.heap.size V w') := fun V h1 h2 => by
    have := fget_any a L cap bs most V h1 h2 hbl hsm hm hmo
    rw [hgf, resF, hval] at this
    exact this
  obtain ⟨wa, hwa⟩ : ∃ w1, W.alloc (.cells #[.bool false, .int .i64 0, .bool false, .int .u8 0, .int .u8 0, .int .u8 0, .int .u8 0, .string { data := #[] }] 61) = w1 := ⟨_, rfl⟩
  have HB1 : Sl (Below W.heap.size W wa) := ⟨by rw [← hwa]; exact (bx_below W _).out⟩
  have HZ1 : Sl (wa.heap[W.heap.size]? = some (.cells #[.bool false, .int .i64 0, .bool false, .int .u8 0, .int .u8 0, .int .u8 0, .int .u8 0, .string { data := #[] }] 61 (0, 0))) := ⟨by rw [← hwa]; exact bx_new _ _⟩
  have HST1 : Sl (StrmAt w0 wa b masked most part err v) := ⟨hs.below HB1.out⟩
  obtain ⟨_, c1, _, _⟩ := HST1.out.cells
  by_cases hL : L ≤ 1
  · have hq : ((L : Int) > 1) = False := eq_false (by omega)
    have HQ : Sl (resF (one bs masked most) = .tuple #[.agg #[.bool rf, .int .i64 ro, .bool rm, .int .u8 ((ka : Nat) : Int), .int .u8 ((kb : Nat) : Int), .int .u8 ((kc : Nat) : Int), .int .u8 ((kd : Nat) : Int), .string rd], .int .i64 (n : Int), .int .i64 (k : Int)]) := ⟨by
      rw [one_short (by omega), hgf, resF, hval]⟩
    clear hgf hval hs hg hv hbl hsm hm hmo hL
    go_enter Tryz.func83, Tryz.ntmps83
    go_wp2_with fail
    refine (FW wa (HG.out.below HST1.out.L HG.out.size) (HV.out.below (Nat.le_refl _) HB1.out)).mono ?_
    rintro e w4 ⟨rfl, HX4⟩
    have HB4 : Sl (Below W.heap.size W w4) := ⟨HB1.out.trans (HX4.out.mono HB1.out.size)⟩
    have HZ4 : Sl (w4.heap[W.heap.size]? = some (.cells #[.bool false, .int .i64 0, .bool false, .int .u8 0, .int .u8 0, .int .u8 0, .int .u8 0, .string { data := #[] }] 61 (0, 0))) := ⟨below_key HZ1.out HX4.out⟩
    clear FW HX4
    have HI := fr_info (cs := #[.bool rf, .int .i64 ro, .bool rm, .int .u8 ((ka : Nat) : Int), .int .u8 ((kb : Nat) : Int), .int .u8 ((kc : Nat) : Int), .int .u8 ((kd : Nat) : Int), .string rd]) rfl
    go_wp2_with (refine wpList_store_row rfl 61 (.tmp 4) (.tmp 42) rfl W.heap.size #[.bool rf, .int .i64 ro, .bool rm, .int .u8 ((ka : Nat) : Int), .int .u8 ((kb : Nat) : Int), .int .u8 ((kc : Nat) : Int), .int .u8 ((kd : Nat) : Int), .string rd] rfl rfl 61 #[.bool false, .int .i64 0, .bool false, .int .u8 0, .int .u8 0, .int .u8 0, .int .u8 0, .string { data := #[] }] HZ4.out HI rfl (fr_all _ _ _ _ _ _ _ _) ?_)
    refine bodyPost_ret (ret_fr rfl _ _ W.heap.size 61 _ (0, 0) rfl (setRow_heap _ _ _ _ _ _ HZ4.out) rfl) rfl ?_
    rw [HQ.out]
    exact ⟨rfl, ⟨below_setRow HB4.out (Nat.le_refl _) _⟩⟩
  · obtain ⟨x, y, ys, rfl⟩ : ∃ x y ys, bs = x :: y :: ys := by
      match bs, hbl with
      | x :: y :: ys, _ => exact ⟨x, y, ys, rfl⟩
      | [x], h => simp at h; omega
      | [], h => simp at h; omega
    have hq : ((L : Int) > 1) = True := eq_true (by omega)
    have hy : y < 256 := hsm y (by simp)
    obtain ⟨sb, so, rfl, hcap, hc1⟩ : ∃ sb so, a = some ⟨sb, so, none⟩ ∧ L ≤ cap ∧ W.cell? ⟨sb, so + 1, none⟩ = some (.int .u8 (y : Int)) := by
      obtain ⟨a', c', sb, so, he, h1, h2, h3⟩ := hv
      injection he with e1 e2 e3
      exact ⟨sb, so, by rw [e1]; exact h2 (by simp), by omega, h3 1 (by simp)⟩
    have hcy : wa.cell? ⟨sb, so + 1, none⟩ = some (.int .u8 (y : Int)) := (HB1.out.cell (block_lt_of_cell hc1)).trans hc1
    have CU := unlike_any HST1.out y hy
    obtain ⟨u, hu⟩ : ∃ u, (decide (128 ≤ y) != masked) = u := ⟨_, rfl⟩
    rw [hu] at CU
    cases u with
    | false =>
      have HQ : Sl (resF (one (x :: y :: ys) masked most) = .tuple #[.agg #[.bool rf, .int .i64 ro, .bool rm, .int .u8 ((ka : Nat) : Int), .int .u8 ((kb : Nat) : Int), .int .u8 ((kc : Nat) : Int), .int .u8 ((kd : Nat) : Int), .string rd], .int .i64 (n : Int), .int .i64 (k : Int)]) := ⟨by
        rw [one_like hu, hgf, resF, hval]⟩
      clear hgf hval hs hg hv hbl hsm hm hmo hL hu hc1 hy
      go_enter Tryz.func83, Tryz.ntmps83
      go_wp2_with fail
      refine CU.mono ?_
      rintro e w2 ⟨rfl, rfl⟩
      go_wp2_with fail
      refine (FW wa (HG.out.below HST1.out.L HG.out.size) (HV.out.below (Nat.le_refl _) HB1.out)).mono ?_
      rintro e w4 ⟨rfl, HX4⟩
      have HB4 : Sl (Below W.heap.size W w4) := ⟨HB1.out.trans (HX4.out.mono HB1.out.size)⟩
      have HZ4 : Sl (w4.heap[W.heap.size]? = some (.cells #[.bool false, .int .i64 0, .bool false, .int .u8 0, .int .u8 0, .int .u8 0, .int .u8 0, .string { data := #[] }] 61 (0, 0))) := ⟨below_key HZ1.out HX4.out⟩
      clear FW HX4
      have HI := fr_info (cs := #[.bool rf, .int .i64 ro, .bool rm, .int .u8 ((ka : Nat) : Int), .int .u8 ((kb : Nat) : Int), .int .u8 ((kc : Nat) : Int), .int .u8 ((kd : Nat) : Int), .string rd]) rfl
      go_wp2_with (refine wpList_store_row rfl 61 (.tmp 4) (.tmp 42) rfl W.heap.size #[.bool rf, .int .i64 ro, .bool rm, .int .u8 ((ka : Nat) : Int), .int .u8 ((kb : Nat) : Int), .int .u8 ((kc : Nat) : Int), .int .u8 ((kd : Nat) : Int), .string rd] rfl rfl 61 #[.bool false, .int .i64 0, .bool false, .int .u8 0, .int .u8 0, .int .u8 0, .int .u8 0, .string { data := #[] }] HZ4.out HI rfl (fr_all _ _ _ _ _ _ _ _) ?_)
      refine bodyPost_ret (ret_fr rfl _ _ W.heap.size 61 _ (0, 0) rfl (setRow_heap _ _ _ _ _ _ HZ4.out) rfl) rfl ?_
      rw [HQ.out]
      exact ⟨rfl, ⟨below_setRow HB4.out (Nat.le_refl _) _⟩⟩
    | true =>
      have HQ : Sl (bad x = true → resF (one (x :: y :: ys) masked most) = .tuple #[.agg #[.bool false, .int .i64 0, .bool false, .int .u8 0, .int .u8 0, .int .u8 0, .int .u8 0, .string { data := #[] }], .int .i64 0, .int .i64 91]) := ⟨fun h => by
        rw [one_cons, if_pos h]; rfl⟩
      have HQ2 : Sl (bad x = false → resF (one (x :: y :: ys) masked most) = .tuple #[.agg #[.bool false, .int .i64 0, .bool false, .int .u8 0, .int .u8 0, .int .u8 0, .int .u8 0, .string { data := #[] }], .int .i64 0, .int .i64 100]) := ⟨fun h => by
        rw [one_unlike h hu]; rfl⟩
      obtain ⟨f1, n1, k1, hg1⟩ : ∃ f n k, getF [x] most = (f, n, k) := ⟨_, _, _, rfl⟩
      clear hval
      obtain ⟨rf, ro, rm, ka, kb, kc, kd, rd, hval⟩ := val_parts f1
      have HK : Sl ((bad x = true ∧ k1 = 91) ∨ (bad x = false ∧ k1 = 90)) := ⟨by
        have := get_first x most
        rw [hg1] at this
        by_cases h : bad x = true
        · rw [if_pos h] at this; exact .inl ⟨h, this⟩
        · rw [if_neg h] at this; exact .inr ⟨by simpa using h, this⟩⟩
      have HV1 : Sl (SrcAt wa (.slice (some ⟨sb, so, none⟩) 1 cap) [x]) := ⟨by
        have h := src_sub (hv.below (Nat.le_refl _) HB1.out) 0 1 cap so (fun _ => rfl) (by omega) (by omega) hbl
        exact h⟩
      have FO : ∀ V, Globs V → SrcAt V (.slice (some ⟨sb, so, none⟩) 1 cap) [x] → Calls Tryz.prog 109 #[.slice (some ⟨sb, so, none⟩) 1 cap, .int .i64 most] V fun e w' => e = .returned (.tuple #[.agg #[.bool rf, .int .i64 ro, .bool rm, .int .u8 ((ka : Nat) : Int), .int .u8 ((kb : Nat) : Int), .int .u8 ((kc : Nat) : Int), .int .u8 ((kd : Nat) : Int), .string rd], .int .i64 (n1 : Int), .int .i64 (k1 : Int)]) ∧ Sl (Below V.heap.size V w') := fun V h1 h2 => by
        have := fget_any (some ⟨sb, so, none⟩) 1 cap [x] most V h1 h2 rfl (fun z hz => hsm z (by simp at hz; simp [hz])) (by omega) hmo
        rw [hg1, resF, hval] at this
        exact this
      have hcap : 1 ≤ cap := by omega
      clear hgf hval hg1 hs hg hv hbl hsm hm hmo hL hu hc1 hy FW
      go_enter Tryz.func83, Tryz.ntmps83
      go_wp2_with fail
      refine CU.mono ?_
      rintro e w2 ⟨rfl, rfl⟩
      clear CU
      go_upto_region 2 with fail
      obtain ⟨R, hR⟩ : ∃ R, wa.drew = R := ⟨_, rfl⟩
      have HS0 : Below wa.heap.size wa R := by rw [← hR]; exact (Below.refl _ _).drew
      refine wp_region_noPanic ?_
      refine wp_region_held (S := fun V => Below wa.heap.size wa V) (by kernel_rfl) ?_
      change wpAnyH _ _ _ _ _ _ _ _ wa.drew
      rw [hR]
      clear hR
      refine heldTake (d := some 21) (op := .move (Operand.tmp 1)) (g := none) 0 ?v0z rfl (by kernel_rfl) (by kernel_rfl) (by kernel_rfl) (by kernel_rfl) ?y0z HS0 ?_
      case y0z => intro o' ho W hS; simp only [execOp, ho]; go_simp; try rfl
      simp only [Act.put, List.setIfInBounds_toArray, List.set_cons_zero, List.set_cons_succ]
      refine heldTake (d := some 22) (op := .slice 49 (Operand.tmp 21) none (some (Operand.const (Value.int IntKind.i64 1))) none) (g := none) 1 (.slice (some ⟨sb, so, none⟩) 1 cap) rfl (by kernel_rfl) (by kernel_rfl) (by kernel_rfl) (by kernel_rfl) ?y1z HS0 ?_
      case y1z => intro o' ho W hS; exact slice_to ho (by rfl) (by rfl) hcap
      simp only [Act.put, List.setIfInBounds_toArray, List.set_cons_zero, List.set_cons_succ]
      refine heldTake (d := some 23) (op := .move (Operand.tmp 0)) (g := none) 2 ?v2z rfl (by kernel_rfl) (by kernel_rfl) (by kernel_rfl) (by kernel_rfl) ?y2z HS0 ?_
      case y2z => intro o' ho W hS; simp only [execOp, ho]; go_simp; try rfl
      simp only [Act.put, List.setIfInBounds_toArray, List.set_cons_zero, List.set_cons_succ]
      refine heldTake (d := some 24) (op := .nilCheck (Operand.tmp 23)) (g := none) 3 ?v3z rfl (by kernel_rfl) (by kernel_rfl) (by kernel_rfl) (by kernel_rfl) ?y3z HS0 ?_
      case y3z => intro o' ho W hS; simp only [execOp, ho]; go_simp; try rfl
      simp only [Act.put, List.setIfInBounds_toArray, List.set_cons_zero, List.set_cons_succ]
      refine heldTake (d := some 25) (op := .fieldAddr 119 (Operand.tmp 24) 1) (g := none) 4 ?v4z rfl (by kernel_rfl) (by kernel_rfl) (by kernel_rfl) (by kernel_rfl) ?y4z HS0 ?_
      case y4z => intro o' ho W hS; simp only [execOp, ho]; go_simp; try rfl
      simp only [Act.put, List.setIfInBounds_toArray, List.set_cons_zero, List.set_cons_succ]
      refine heldTake (d := some 26) (op := .load 3 (Operand.tmp 25)) (g := none) 5 ?v5z rfl (by kernel_rfl) (by kernel_rfl) (by kernel_rfl) (by kernel_rfl) ?y5z HS0 ?_
      case y5z => intro o' ho W hS; obtain ⟨_, d1, _, _⟩ := (HST1.out.below (hS.mono (Nat.le_refl _))).cells; simp only [execOp, ho]; go_simp; try rfl
      simp only [Act.put, List.setIfInBounds_toArray, List.set_cons_zero, List.set_cons_succ]
      obtain ⟨Aw, hA⟩ : ∃ V, R.alloc (.cells #[.bool false, .int .i64 0, .bool false, .int .u8 0, .int .u8 0, .int .u8 0, .int .u8 0, .string { data := #[] }] 61) = V := ⟨_, rfl⟩
      have HSA : Below wa.heap.size wa Aw := by rw [← hA]; exact HS0.alloc HS0.size _
      refine heldCA2 (di := some 7) (opi := .alloc 61) (dj := some 27) (opj := .call { callee := Callee.value (Operand.func 109), args := #[Operand.tmp 22, Operand.tmp 26], argTypes := #[49, 3] }) (ti := 0) (tj := 109) 11 6 (.pointer (some ⟨R.heap.size, 0, none⟩)) Aw 109 #[.slice (some ⟨sb, so, none⟩) 1 cap, .int .i64 most] rfl rfl (by kernel_rfl) ?y11a ?y6a HSA ?first ?second
      case y11a => intro o' ho ht; simp only [execOp, ho]; go_simp; first | done | rw [hA] | rfl
      case y6a => intro o' ho ht; simp only [execOp, ho]; go_simp; try rfl
      case first =>
        simp only [Act.put, List.setIfInBounds_toArray, List.set_cons_zero, List.set_cons_succ]
        refine heldCall (d := some 27) (op := .call { callee := Callee.value (Operand.func 109), args := #[Operand.tmp 22, Operand.tmp 26], argTypes := #[49, 3] }) (g := none) 6 109 #[.slice (some ⟨sb, so, none⟩) 1 cap, .int .i64 most] rfl (by kernel_rfl) (by kernel_rfl) ?y6p ?_
        case y6p => intro o' ho; simp only [execOp, ho]; go_simp; try rfl
        refine (FO Aw (HG.out.below (HST1.out.below HSA).L HG.out.size) (HV1.out.below (Nat.le_refl _) HSA)).mono ?_
        rintro e Zf ⟨rfl, HXZ⟩
        have HSZf : Below wa.heap.size wa Zf := HSA.trans (HXZ.out.mono HSA.size)
        refine ⟨_, rfl, HSZf, ?_⟩
        simp only [Act.put, List.setIfInBounds_toArray, List.set_cons_zero, List.set_cons_succ]
        refine heldTake (d := some 20) (op := .move (Operand.tmp 27)) (g := none) 7 ?v7f rfl (by kernel_rfl) (by kernel_rfl) (by kernel_rfl) (by kernel_rfl) ?y7f HSZf ?_
        case y7f => intro o' ho W hS; simp only [execOp, ho]; go_simp; try rfl
        simp only [Act.put, List.setIfInBounds_toArray, List.set_cons_zero, List.set_cons_succ]
        refine heldTake (d := some 28) (op := .extract (Operand.tmp 20) 0) (g := none) 8 ?v8f rfl (by kernel_rfl) (by kernel_rfl) (by kernel_rfl) (by kernel_rfl) ?y8f HSZf ?_
        case y8f => intro o' ho W hS; simp only [execOp, ho]; go_simp; try rfl
        simp only [Act.put, List.setIfInBounds_toArray, List.set_cons_zero, List.set_cons_succ]
        refine heldTake (d := some 29) (op := .extract (Operand.tmp 20) 1) (g := none) 9 ?v9f rfl (by kernel_rfl) (by kernel_rfl) (by kernel_rfl) (by kernel_rfl) ?y9f HSZf ?_
        case y9f => intro o' ho W hS; simp only [execOp, ho]; go_simp; try rfl
        simp only [Act.put, List.setIfInBounds_toArray, List.set_cons_zero, List.set_cons_succ]
        refine heldTake (d := some 30) (op := .extract (Operand.tmp 20) 2) (g := none) 10 ?v10f rfl (by kernel_rfl) (by kernel_rfl) (by kernel_rfl) (by kernel_rfl) ?y10f HSZf ?_
        case y10f => intro o' ho W hS; simp only [execOp, ho]; go_simp; try rfl
        simp only [Act.put, List.setIfInBounds_toArray, List.set_cons_zero, List.set_cons_succ]
        have HQf : wa.heap.size ≤ R.heap.size := HS0.size
        have HFf : Zf.heap[R.heap.size]? = some (.cells #[.bool false, .int .i64 0, .bool false, .int .u8 0, .int .u8 0, .int .u8 0, .int .u8 0, .string { data := #[] }] 61 (0, 0)) := below_key (by rw [← hA]; exact bx_new _ _) HXZ.out
        clear HXZ hA HSA
        obtain ⟨Yf, hYf⟩ : ∃ Y, Zf.setRow R.heap.size #[.bool rf, .int .i64 ro, .bool rm, .int .u8 ((ka : Nat) : Int), .int .u8 ((kb : Nat) : Int), .int .u8 ((kc : Nat) : Int), .int .u8 ((kd : Nat) : Int), .string rd] = Y := ⟨_, rfl⟩
        have HSYf : Below wa.heap.size wa Yf := by rw [← hYf]; exact below_setRow HSZf HQf _
        refine heldStore (d := none) (op := .store 61 (Operand.tmp 7) (Operand.tmp 28)) (g := none) (t := 0) 12 Yf rfl (by kernel_rfl) (by kernel_rfl) ?y12f HSYf ?_
        case y12f => intro o' ho ht; rw [← hYf]; exact store8 ho (by rfl) (by rfl) HFf ⟨rfl, rfl⟩ (fr_all _ _ _ _ _ _ _ _)
        simp only [Act.put]
        refine heldTake (d := some 8) (op := .assign (Operand.tmp 29)) (g := none) 13 ?v13f rfl (by kernel_rfl) (by kernel_rfl) (by kernel_rfl) (by kernel_rfl) ?y13f HSYf ?_
        case y13f => intro o' ho W hS; simp only [execOp, ho]; go_simp; try rfl
        simp only [Act.put, List.setIfInBounds_toArray, List.set_cons_zero, List.set_cons_succ]
        refine heldTake (d := some 9) (op := .assign (Operand.tmp 30)) (g := none) 14 ?v14f rfl (by kernel_rfl) (by kernel_rfl) (by kernel_rfl) (by kernel_rfl) ?y14f HSYf ?_
        case y14f => intro o' ho W hS; simp only [execOp, ho]; go_simp; try rfl
        simp only [Act.put, List.setIfInBounds_toArray, List.set_cons_zero, List.set_cons_succ]
        refine wpAnyH_done (by kernel_rfl) ?_ _
        refine NoPanic.normal ?_
        have HBY : Sl (Below W.heap.size W Yf) := ⟨HB1.out.trans (HSYf.mono HB1.out.size)⟩
        have HZY : Sl (Yf.heap[W.heap.size]? = some (.cells #[.bool false, .int .i64 0, .bool false, .int .u8 0, .int .u8 0, .int .u8 0, .int .u8 0, .string { data := #[] }] 61 (0, 0))) := ⟨below_key HZ1.out HSYf⟩
        clear HS0 HSZf HQf HFf hYf HSYf
        rcases HK.out with ⟨hb, rfl⟩ | ⟨hb, rfl⟩
        · have hq9 : (((91 : Nat) : Int) == 91) = true := rfl
          have HI := fr_info (cs := #[.bool false, .int .i64 0, .bool false, .int .u8 0, .int .u8 0, .int .u8 0, .int .u8 0, .string { data := #[] }]) rfl
          go_wp2_with (refine wpList_store_row rfl 61 (.tmp 4) (.tmp 33) rfl W.heap.size #[.bool false, .int .i64 0, .bool false, .int .u8 0, .int .u8 0, .int .u8 0, .int .u8 0, .string { data := #[] }] rfl rfl 61 #[.bool false, .int .i64 0, .bool false, .int .u8 0, .int .u8 0, .int .u8 0, .int .u8 0, .string { data := #[] }] HZY.out HI rfl (fr_all _ _ _ _ _ _ _ _) ?_)
          refine bodyPost_ret (ret_fr rfl _ _ W.heap.size 61 _ (0, 0) rfl (setRow_heap _ _ _ _ _ _ HZY.out) rfl) rfl ?_
          rw [HQ.out hb]
          exact ⟨rfl, ⟨below_setRow HBY.out (Nat.le_refl _) _⟩⟩
        · have hq9 : (((90 : Nat) : Int) == 91) = false := rfl
          have HI := fr_info (cs := #[.bool false, .int .i64 0, .bool false, .int .u8 0, .int .u8 0, .int .u8 0, .int .u8 0, .string { data := #[] }]) rfl
          go_wp2_with (refine wpList_store_row rfl 61 (.tmp 4) (.tmp 35) rfl W.heap.size #[.bool false, .int .i64 0, .bool false, .int .u8 0, .int .u8 0, .int .u8 0, .int .u8 0, .string { data := #[] }] rfl rfl 61 #[.bool false, .int .i64 0, .bool false, .int .u8 0, .int .u8 0, .int .u8 0, .int .u8 0, .string { data := #[] }] HZY.out HI rfl (fr_all _ _ _ _ _ _ _ _) ?_)
          refine bodyPost_ret (ret_fr rfl _ _ W.heap.size 61 _ (0, 0) rfl (setRow_heap _ _ _ _ _ _ HZY.out) rfl) rfl ?_
          rw [HQ2.out hb]
          exact ⟨rfl, ⟨below_setRow HBY.out (Nat.le_refl _) _⟩⟩
      case second =>
        refine (FO R (HG.out.below (HST1.out.below HS0).L HG.out.size) (HV1.out.below (Nat.le_refl _) HS0)).mono ?_
        rintro e Xs ⟨rfl, HXZ⟩
        have HSX : Below wa.heap.size wa Xs := HS0.trans (HXZ.out.mono HS0.size)
        refine ⟨_, rfl, HSX, ?_⟩
        simp only [Act.put, List.setIfInBounds_toArray, List.set_cons_zero, List.set_cons_succ]
        refine heldTake (d := some 20) (op := .move (Operand.tmp 27)) (g := none) 7 ?v7s rfl (by kernel_rfl) (by kernel_rfl) (by kernel_rfl) (by kernel_rfl) ?y7s HSX ?_
        case y7s => intro o' ho W hS; simp only [execOp, ho]; go_simp; try rfl
        simp only [Act.put, List.setIfInBounds_toArray, List.set_cons_zero, List.set_cons_succ]
        refine heldTake (d := some 28) (op := .extract (Operand.tmp 20) 0) (g := none) 8 ?v8s rfl (by kernel_rfl) (by kernel_rfl) (by kernel_rfl) (by kernel_rfl) ?y8s HSX ?_
        case y8s => intro o' ho W hS; simp only [execOp, ho]; go_simp; try rfl
        simp only [Act.put, List.setIfInBounds_toArray, List.set_cons_zero, List.set_cons_succ]
        refine heldTake (d := some 29) (op := .extract (Operand.tmp 20) 1) (g := none) 9 ?v9s rfl (by kernel_rfl) (by kernel_rfl) (by kernel_rfl) (by kernel_rfl) ?y9s HSX ?_
        case y9s => intro o' ho W hS; simp only [execOp, ho]; go_simp; try rfl
        simp only [Act.put, List.setIfInBounds_toArray, List.set_cons_zero, List.set_cons_succ]
        refine heldTake (d := some 30) (op := .extract (Operand.tmp 20) 2) (g := none) 10 ?v10s rfl (by kernel_rfl) (by kernel_rfl) (by kernel_rfl) (by kernel_rfl) ?y10s HSX ?_
        case y10s => intro o' ho W hS; simp only [execOp, ho]; go_simp; try rfl
        simp only [Act.put, List.setIfInBounds_toArray, List.set_cons_zero, List.set_cons_succ]
        obtain ⟨Zs, hZs⟩ : ∃ V, Xs.alloc (.cells #[.bool false, .int .i64 0, .bool false, .int .u8 0, .int .u8 0, .int .u8 0, .int .u8 0, .string { data := #[] }] 61) = V := ⟨_, rfl⟩
        have HSZs : Below wa.heap.size wa Zs := by rw [← hZs]; exact HSX.alloc HSX.size _
        refine heldRunT (d := some 7) (op := .alloc 61) (g := none) (t := 0) 11 (.pointer (some ⟨Xs.heap.size, 0, none⟩)) Zs rfl (by kernel_rfl) (by kernel_rfl) ?y11s HSZs ?_
        case y11s => intro o' ho _; simp only [execOp, ho]; go_simp; first | done | rw [hZs] | rfl
        simp only [Act.put, List.setIfInBounds_toArray, List.set_cons_zero, List.set_cons_succ]
        have HQs : wa.heap.size ≤ Xs.heap.size := HSX.size
        have HFs : Zs.heap[Xs.heap.size]? = some (.cells #[.bool false, .int .i64 0, .bool false, .int .u8 0, .int .u8 0, .int .u8 0, .int .u8 0, .string { data := #[] }] 61 (0, 0)) := by rw [← hZs]; exact bx_new _ _
        clear HXZ HSX hZs
        obtain ⟨Ys, hYs⟩ : ∃ Y, Zs.setRow Xs.heap.size #[.bool rf, .int .i64 ro, .bool rm, .int .u8 ((ka : Nat) : Int), .int .u8 ((kb : Nat) : Int), .int .u8 ((kc : Nat) : Int), .int .u8 ((kd : Nat) : Int), .string rd] = Y := ⟨_, rfl⟩
        have HSYs : Below wa.heap.size wa Ys := by rw [← hYs]; exact below_setRow HSZs HQs _
        refine heldStore (d := none) (op := .store 61 (Operand.tmp 7) (Operand.tmp 28)) (g := none) (t := 0) 12 Ys rfl (by kernel_rfl) (by kernel_rfl) ?y12s HSYs ?_
        case y12s => intro o' ho ht; rw [← hYs]; exact store8 ho (by rfl) (by rfl) HFs ⟨rfl, rfl⟩ (fr_all _ _ _ _ _ _ _ _)
        simp only [Act.put]
        refine heldTake (d := some 8) (op := .assign (Operand.tmp 29)) (g := none) 13 ?v13s rfl (by kernel_rfl) (by kernel_rfl) (by kernel_rfl) (by kernel_rfl) ?y13s HSYs ?_
        case y13s => intro o' ho W hS; simp only [execOp, ho]; go_simp; try rfl
        simp only [Act.put, List.setIfInBounds_toArray, List.set_cons_zero, List.set_cons_succ]
        refine heldTake (d := some 9) (op := .assign (Operand.tmp 30)) (g := none) 14 ?v14s rfl (by kernel_rfl) (by kernel_rfl) (by kernel_rfl) (by kernel_rfl) ?y14s HSYs ?_
        case y14s => intro o' ho W hS; simp only [execOp, ho]; go_simp; try rfl
        simp only [Act.put, List.setIfInBounds_toArray, List.set_cons_zero, List.set_cons_succ]
        refine wpAnyH_done (by kernel_rfl) ?_ _
        refine NoPanic.normal ?_
        have HBY : Sl (Below W.heap.size W Ys) := ⟨HB1.out.trans (HSYs.mono HB1.out.size)⟩
        have HZY : Sl (Ys.heap[W.heap.size]? = some (.cells #[.bool false, .int .i64 0, .bool false, .int .u8 0, .int .u8 0, .int .u8 0, .int .u8 0, .string { data := #[] }] 61 (0, 0))) := ⟨below_key HZ1.out HSYs⟩
        clear HS0 HSZs HQs HFs hYs HSYs
        rcases HK.out with ⟨hb, rfl⟩ | ⟨hb, rfl⟩
        · have hq9 : (((91 : Nat) : Int) == 91) = true := rfl
          have HI := fr_info (cs := #[.bool false, .int .i64 0, .bool false, .int .u8 0, .int .u8 0, .int .u8 0, .int .u8 0, .string { data := #[] }]) rfl
          go_wp2_with (refine wpList_store_row rfl 61 (.tmp 4) (.tmp 33) rfl W.heap.size #[.bool false, .int .i64 0, .bool false, .int .u8 0, .int .u8 0, .int .u8 0, .int .u8 0, .string { data := #[] }] rfl rfl 61 #[.bool false, .int .i64 0, .bool false, .int .u8 0, .int .u8 0, .int .u8 0, .int .u8 0, .string { data := #[] }] HZY.out HI rfl (fr_all _ _ _ _ _ _ _ _) ?_)
          refine bodyPost_ret (ret_fr rfl _ _ W.heap.size 61 _ (0, 0) rfl (setRow_heap _ _ _ _ _ _ HZY.out) rfl) rfl ?_
          rw [HQ.out hb]
          exact ⟨rfl, ⟨below_setRow HBY.out (Nat.le_refl _) _⟩⟩
        · have hq9 : (((90 : Nat) : Int) == 91) = false := rfl
          have HI := fr_info (cs := #[.bool false, .int .i64 0, .bool false, .int .u8 0, .int .u8 0, .int .u8 0, .int .u8 0, .string { data := #[] }]) rfl
          go_wp2_with (refine wpList_store_row rfl 61 (.tmp 4) (.tmp 35) rfl W.heap.size #[.bool false, .int .i64 0, .bool false, .int .u8 0, .int .u8 0, .int .u8 0, .int .u8 0, .string { data := #[] }] rfl rfl 61 #[.bool false, .int .i64 0, .bool false, .int .u8 0, .int .u8 0, .int .u8 0, .int .u8 0, .string { data := #[] }] HZY.out HI rfl (fr_all _ _ _ _ _ _ _ _) ?_)
          refine bodyPost_ret (ret_fr rfl _ _ W.heap.size 61 _ (0, 0) rfl (setRow_heap _ _ _ _ _ _ HZY.out) rfl) rfl ?_
          rw [HQ2.out hb]
          exact ⟨rfl, ⟨below_setRow HBY.out (Nat.le_refl _) _⟩⟩
end Go.Proofs.YtlahonjmfecikaaGreatDoor.Stm
set_option maxRecDepth 100000
namespace Go.Proofs.YtlahonjmfecikaaGreatDoor.Stm
open Go.RowKit MaskPlain FramePlain StreamPlain Mas Fra
def fromA (a : Option Addr) (r cap : Nat) : Option Addr := if cap = r then a else a.map (·.add r)
theorem slice_from {W : World} {ev : Operand → Value} {o : Oper} {x y : Operand} {a : Option Addr} {L cap r : Nat} (ho : o.op = .slice 49 x (some y) none none) (hx : ev x = .slice a L cap) (hy : ev y = .int .i64 (r : Int)) (h : r ≤ L) :
    (execOp ev o).run Tryz.prog W = .ok (.value (.slice (fromA a r cap) (L - r) (cap - r))) W := by
  have hs := Tryz.underlying49
  obtain ⟨i0, hi, hz0, hz1, hz2⟩ := info5'
  unfold execOp
  simp only [ho, hx, hy, Option.map_none, Option.map_some, Sem.run_bind]
  rw [run_sliceAt_slice (h := hs), run_slice_l (ht := hs) (h0 := by omega) (h1 := by omega)]
  simp [sizeOf, typeInfo, show Tryz.prog.elem 49 = 5 from rfl, hi, hz1, sliced, fromA]
theorem SrcAt.from {W : World} {a : Option Addr} {L cap r : Nat} {bs : List Nat} (h : SrcAt W (.slice a L cap) bs) (hr : r ≤ L) (hl : bs.length = L) : SrcAt W (.slice (fromA a r cap) (L - r) (cap - r)) (bs.drop r) := by
  obtain ⟨a', c', sb, so, he, h1, h2, h3⟩ := h
  injection he with e1 e2 e3
  subst e1 e3
  refine ⟨_, _, sb, so + r, by rw [List.length_drop, hl], by rw [List.length_drop]; omega, fun hp => ?_, fun i hi => ?_⟩
  · rw [List.length_drop] at hp
    unfold fromA
    rw [if_neg (by omega), h2 (by omega), Option.map_some, Addr.add_mid]
  · rw [List.length_drop] at hi
    rw [Nat.add_assoc, h3 (r + i) (by omega)]
    congr 3
    rw [List.getD_eq_getElem?_getD, List.getD_eq_getElem?_getD, List.getElem?_drop]
theorem ret_fr2 {fn : Func} {p u : Tmp} (h : fn.results = #[.cell p 61, .tmp u]) (tmps : Array Value) (w : World) (g : Nat) (t : TypeId) (cs : Array Value) (fr : Nat × Nat)
    (hp : tmps.getD p undef = .pointer (some ⟨g, 0, none⟩)) (hg : w.heap[g]? = some (.cells cs t fr)) (hs : cs.size = 8) :
    (results fn tmps).run Tryz.prog w = .ok (.tuple #[.agg cs, tmps.getD u undef]) w := by
  have hi : (Tryz.prog.info? 61).map (·.size) = some cs.size := fr_info hs
  have hp' : tmps[p]?.getD undef = .pointer (some ⟨g, 0, none⟩) := by simpa using hp
  simp only [results, h]
  simp [Result.andThen, hp', asAddr, run_loadVar_row (P := Tryz.prog) w g t 61 cs fr _ hg Tryz.underlying61 rfl hi]
theorem grown_then {w w1 w2 : World} {r : Option Nat} (h : w.grownBy w1 r) (k : Below w.heap.size w1 w2) : w.grownBy w2 r :=
  ⟨k.os.trans h.os, k.tape.trans h.tape, k.output.trans h.output, Nat.le_trans h.size k.size, fun j hj hne => (k.block j hj).trans (h.block j hj hne)⟩
theorem cell_of_one {W : World} {g : Nat} {v : Value} {t : TypeId} (h : W.heap[g]? = some (.cells #[v] t (0, 0))) : W.cell? ⟨g, 0, none⟩ = some v := by rw [cell_of_row _ _ _ _ _ _ h]; rfl
theorem free_of_one {W : World} {g : Nat} {v : Value} {t : TypeId} (h : W.heap[g]? = some (.cells #[v] t (0, 0))) : W.frozen? ⟨g, 0, none⟩ = false := frozen_of_row _ _ _ _ _ h
theorem one_setCell {W : World} {g : Nat} {v u : Value} {t : TypeId} (h : W.heap[g]? = some (.cells #[v] t (0, 0))) : (W.setCell ⟨g, 0, none⟩ u).heap[g]? = some (.cells #[u] t (0, 0)) := by
  rw [heap_setCell_same _ _ _ _ _ _ h]; rfl
set_option maxHeartbeats 4000000 in
theorem next_any {w0 W : World} {b : Nat} {masked : Bool} {most : Int} {bs : List Nat} {v : Value} (hs : StrmAt w0 W b masked most bs 0 v) (hg : Globs w0) (C R r : Nat) (f : Fr) (n k : Nat) (hC : W.heap[C]? = some (.cells #[.pointer (some ⟨b, 0, none⟩)] 77 (0, 0))) (hR : W.heap[R]? = some (.cells #[.int .i64 (r : Int)] 3 (0, 0)))
    (hr : r ≤ bs.length) (hsm : Small 256 bs) (hm : bs.length ≤ 100000) (hmo : most ≤ 9223372036854775807) (h1 : one (bs.drop r) masked most = (f, n, k)) (hn : r + n ≤ bs.length) :
    Calls Tryz.prog 82 #[.pointer (some ⟨C, 0, none⟩), .pointer (some ⟨R, 0, none⟩)] W fun e w' => e = .returned (.tuple #[valF f, .int .i64 (k : Int)]) ∧ Sl (w'.heap[R]? = some (.cells #[.int .i64 ((r + n : Nat) : Int)] 3 (0, 0))) ∧ Sl (W.grownBy w' (some R)) := by
  have HG := Sl.mk hg
  obtain ⟨rf, ro, rm, ka, kb, kc, kd, rd, hval⟩ := val_parts f
  obtain ⟨a, cap, rfl, hcap⟩ := hs.slice
  obtain ⟨L, hL⟩ : ∃ L, bs.length = L := ⟨_, rfl⟩
  rw [hL] at hs hcap hr hm hn
  obtain ⟨a', ha'⟩ : ∃ a', fromA a r cap = a' := ⟨_, rfl⟩
  obtain ⟨wa, hwa⟩ : ∃ w1, W.alloc (.cells #[.bool false, .int .i64 0, .bool false, .int .u8 0, .int .u8 0, .int .u8 0, .int .u8 0, .string { data := #[] }] 61) = w1 := ⟨_, rfl⟩
  have HB1 : Sl (Below W.heap.size W wa) := ⟨by rw [← hwa]; exact (bx_below W _).out⟩
  have HZ1 : Sl (wa.heap[W.heap.size]? = some (.cells #[.bool false, .int .i64 0, .bool false, .int .u8 0, .int .u8 0, .int .u8 0, .int .u8 0, .string { data := #[] }] 61 (0, 0))) := ⟨by rw [← hwa]; exact bx_new _ _⟩
  have HSW : Sl (wa.heap.size = W.heap.size + 1) := ⟨by rw [← hwa]; exact alloc_size _ _⟩
  have HST1 : Sl (StrmAt w0 wa b masked most bs 0 (.slice a L cap)) := ⟨hs.below HB1.out⟩
  have HR1 : Sl (wa.heap[R]? = some (.cells #[.int .i64 (r : Int)] 3 (0, 0))) := ⟨below_key hR HB1.out⟩
  have HRL : Sl (R < W.heap.size) := ⟨(Array.getElem?_eq_some_iff.1 hR).1⟩
  obtain ⟨_, _, hp1, _⟩ := HST1.out.cells
  have hc1 := cell_of_one (below_key hC HB1.out)
  have hr1 := cell_of_one HR1.out
  have hCl : C < wa.heap.size := block_lt_of_cell hc1
  have hbl : b < wa.heap.size := block_lt_of_cell hp1
  have hRl : R < wa.heap.size := block_lt_of_cell hr1
  have hsl : ∀ (V : World) (ev : Operand → Value) (o : Oper) (x y : Operand), o.op = .slice 49 x (some y) none none → ev x = .slice a L cap → ev y = .int .i64 (r : Int) → (execOp ev o).run Tryz.prog V = .ok (.value (.slice a' (L - r) (cap - r))) V := fun V ev o x y ho hx hy => by
    rw [← ha']; exact slice_from ho hx hy hr
  have CG : ∀ V, Below wa.heap.size wa V → Calls Tryz.prog 83 #[.pointer (some ⟨b, 0, none⟩), .slice a' (L - r) (cap - r)] V fun e w' => e = .returned (.tuple #[.agg #[.bool rf, .int .i64 ro, .bool rm, .int .u8 ((ka : Nat) : Int), .int .u8 ((kb : Nat) : Int), .int .u8 ((kc : Nat) : Int), .int .u8 ((kd : Nat) : Int), .string rd], .int .i64 (n : Int), .int .i64 (k : Int)]) ∧ Sl (Below V.heap.size V w') := fun V hB => by
    have hS := HST1.out.below hB
    have hsrc : SrcAt V (.slice a' (L - r) (cap - r)) (bs.drop r) := by rw [← ha']; exact SrcAt.from hS.src hr hL
    have := get_any hS a' (L - r) (cap - r) (bs.drop r) HG.out hsrc (by rw [List.length_drop, hL]) (hsm.drop r) (by omega) hmo
    rw [h1, resF, hval] at this
    exact this
  clear ha' h1 hs hC hR hsm hmo hg hL hcap
  go_enter Tryz.func82, Tryz.ntmps82
  go_upto_region 1 with fail
  obtain ⟨Rw, hRw⟩ : ∃ R, wa.drew = R := ⟨_, rfl⟩
  have HS0 : Below wa.heap.size wa Rw := by rw [← hRw]; exact (Below.refl _ _).drew
  refine wp_region_noPanic ?_
  refine wp_region_held (S := fun V => Below wa.heap.size wa V) (by kernel_rfl) ?_
  change wpAnyH _ _ _ _ _ _ _ _ wa.drew
  rw [hRw]
  clear hRw
  refine heldTake (d := some 8) (op := .load 77 (Operand.tmp 0)) (g := none) 0 ?v0 rfl (by kernel_rfl) (by kernel_rfl) (by kernel_rfl) (by kernel_rfl) ?y0 HS0 ?_
  case y0 => intro o' ho W hS; have hcx : W.cell? ⟨C, 0, none⟩ = some (.pointer (some ⟨b, 0, none⟩)) := (hS.cell hCl).trans hc1; simp only [execOp, ho]; go_simp; try rfl
  simp only [Act.put, List.setIfInBounds_toArray, List.set_cons_zero, List.set_cons_succ]
  refine heldTake (d := some 9) (op := .load 77 (Operand.tmp 0)) (g := none) 1 ?v1 rfl (by kernel_rfl) (by kernel_rfl) (by kernel_rfl) (by kernel_rfl) ?y1 HS0 ?_
  case y1 => intro o' ho W hS; have hcx : W.cell? ⟨C, 0, none⟩ = some (.pointer (some ⟨b, 0, none⟩)) := (hS.cell hCl).trans hc1; simp only [execOp, ho]; go_simp; try rfl
  simp only [Act.put, List.setIfInBounds_toArray, List.set_cons_zero, List.set_cons_succ]
  refine heldTake (d := some 10) (op := .nilCheck (Operand.tmp 9)) (g := none) 2 ?v2 rfl (by kernel_rfl) (by kernel_rfl) (by kernel_rfl) (by kernel_rfl) ?y2 HS0 ?_
  case y2 => intro o' ho W hS; simp only [execOp, ho]; go_simp; try rfl
  simp only [Act.put, List.setIfInBounds_toArray, List.set_cons_zero, List.set_cons_succ]
  refine heldTake (d := some 11) (op := .fieldAddr 119 (Operand.tmp 10) 2) (g := none) 3 ?v3 rfl (by kernel_rfl) (by kernel_rfl) (by kernel_rfl) (by kernel_rfl) ?y3 HS0 ?_
  case y3 => intro o' ho W hS; simp only [execOp, ho]; go_simp; try rfl
  simp only [Act.put, List.setIfInBounds_toArray, List.set_cons_zero, List.set_cons_succ]
  refine heldTake (d := some 12) (op := .load 49 (Operand.tmp 11)) (g := none) 4 ?v4 rfl (by kernel_rfl) (by kernel_rfl) (by kernel_rfl) (by kernel_rfl) ?y4 HS0 ?_
  case y4 => intro o' ho W hS; have hcx : W.cell? ⟨b, 2, none⟩ = some (.slice a L cap) := (hS.cell hbl).trans hp1; simp only [execOp, ho]; go_simp; try rfl
  simp only [Act.put, List.setIfInBounds_toArray, List.set_cons_zero, List.set_cons_succ]
  refine heldTake (d := some 13) (op := .load 3 (Operand.tmp 1)) (g := none) 5 ?v5 rfl (by kernel_rfl) (by kernel_rfl) (by kernel_rfl) (by kernel_rfl) ?y5 HS0 ?_
  case y5 => intro o' ho W hS; have hcx : W.cell? ⟨R, 0, none⟩ = some (.int .i64 (r : Int)) := (hS.cell hRl).trans hr1; simp only [execOp, ho]; go_simp; try rfl
  simp only [Act.put, List.setIfInBounds_toArray, List.set_cons_zero, List.set_cons_succ]
  refine heldTake (d := some 14) (op := .slice 49 (Operand.tmp 12) (some (Operand.tmp 13)) none none) (g := none) 6 (.slice a' (L - r) (cap - r)) rfl (by kernel_rfl) (by kernel_rfl) (by kernel_rfl) (by kernel_rfl) ?y6 HS0 ?_
  case y6 => intro o' ho W hS; exact hsl W _ o' _ _ ho (by rfl) (by rfl)
  simp only [Act.put, List.setIfInBounds_toArray, List.set_cons_zero, List.set_cons_succ]
  obtain ⟨Aw, hA⟩ : ∃ V, Rw.alloc (.cells #[.bool false, .int .i64 0, .bool false, .int .u8 0, .int .u8 0, .int .u8 0, .int .u8 0, .string { data := #[] }] 61) = V := ⟨_, rfl⟩
  have HSA : Below wa.heap.size wa Aw := by rw [← hA]; exact HS0.alloc HS0.size _
  refine heldCA2 (di := some 4) (opi := .alloc 61) (dj := some 15) (opj := .call { callee := Callee.value (Operand.func 83), args := #[Operand.tmp 8, Operand.tmp 14], argTypes := #[77, 49] }) (ti := 0) (tj := 109) 12 7 (.pointer (some ⟨Rw.heap.size, 0, none⟩)) Aw 83 #[.pointer (some ⟨b, 0, none⟩), .slice a' (L - r) (cap - r)] rfl rfl (by kernel_rfl) ?y12a ?y7a HSA ?first ?second
  case y12a => intro o' ho ht; simp only [execOp, ho]; go_simp; first | done | rw [hA] | rfl
  case y7a => intro o' ho ht; simp only [execOp, ho]; go_simp; try rfl
  case first =>
    simp only [Act.put, List.setIfInBounds_toArray, List.set_cons_zero, List.set_cons_succ]
    refine heldCall (d := some 15) (op := .call { callee := Callee.value (Operand.func 83), args := #[Operand.tmp 8, Operand.tmp 14], argTypes := #[77, 49] }) (g := none) 7 83 #[.pointer (some ⟨b, 0, none⟩), .slice a' (L - r) (cap - r)] rfl (by kernel_rfl) (by kernel_rfl) ?y7p ?_
    case y7p => intro o' ho; simp only [execOp, ho]; go_simp; try rfl
    refine (CG Aw HSA).mono ?_
    rintro e Zf ⟨rfl, HXZ⟩
    have HSZf : Below wa.heap.size wa Zf := HSA.trans (HXZ.out.mono HSA.size)
    refine ⟨_, rfl, HSZf, ?_⟩
    simp only [Act.put, List.setIfInBounds_toArray, List.set_cons_zero, List.set_cons_succ]
    refine heldTake (d := some 7) (op := .move (Operand.tmp 15)) (g := none) 8 ?v8f rfl (by kernel_rfl) (by kernel_rfl) (by kernel_rfl) (by kernel_rfl) ?y8f HSZf ?_
    case y8f => intro o' ho W hS; simp only [execOp, ho]; go_simp; try rfl
    simp only [Act.put, List.setIfInBounds_toArray, List.set_cons_zero, List.set_cons_succ]
    refine heldTake (d := some 16) (op := .extract (Operand.tmp 7) 0) (g := none) 9 ?v9f rfl (by kernel_rfl) (by kernel_rfl) (by kernel_rfl) (by kernel_rfl) ?y9f HSZf ?_
    case y9f => intro o' ho W hS; simp only [execOp, ho]; go_simp; try rfl
    simp only [Act.put, List.setIfInBounds_toArray, List.set_cons_zero, List.set_cons_succ]
    refine heldTake (d := some 17) (op := .extract (Operand.tmp 7) 1) (g := none) 10 ?v10f rfl (by kernel_rfl) (by kernel_rfl) (by kernel_rfl) (by kernel_rfl) ?y10f HSZf ?_
    case y10f => intro o' ho W hS; simp only [execOp, ho]; go_simp; try rfl
    simp only [Act.put, List.setIfInBounds_toArray, List.set_cons_zero, List.set_cons_succ]
    refine heldTake (d := some 18) (op := .extract (Operand.tmp 7) 2) (g := none) 11 ?v11f rfl (by kernel_rfl) (by kernel_rfl) (by kernel_rfl) (by kernel_rfl) ?y11f HSZf ?_
    case y11f => intro o' ho W hS; simp only [execOp, ho]; go_simp; try rfl
    simp only [Act.put, List.setIfInBounds_toArray, List.set_cons_zero, List.set_cons_succ]
    have HQf : wa.heap.size ≤ Rw.heap.size := HS0.size
    have HFf : Zf.heap[Rw.heap.size]? = some (.cells #[.bool false, .int .i64 0, .bool false, .int .u8 0, .int .u8 0, .int .u8 0, .int .u8 0, .string { data := #[] }] 61 (0, 0)) := below_key (by rw [← hA]; exact bx_new _ _) HXZ.out
    clear HXZ hA HSA
    obtain ⟨Yf, hYf⟩ : ∃ Y, Zf.setRow Rw.heap.size #[.bool rf, .int .i64 ro, .bool rm, .int .u8 ((ka : Nat) : Int), .int .u8 ((kb : Nat) : Int), .int .u8 ((kc : Nat) : Int), .int .u8 ((kd : Nat) : Int), .string rd] = Y := ⟨_, rfl⟩
    have HSYf : Below wa.heap.size wa Yf := by rw [← hYf]; exact below_setRow HSZf HQf _
    have HFY : Sl (Yf.heap[Rw.heap.size]? = some (.cells #[.bool rf, .int .i64 ro, .bool rm, .int .u8 ((ka : Nat) : Int), .int .u8 ((kb : Nat) : Int), .int .u8 ((kc : Nat) : Int), .int .u8 ((kd : Nat) : Int), .string rd] 61 (0, 0))) := ⟨by rw [← hYf]; exact setRow_heap _ _ _ _ _ _ HFf⟩
    refine heldStore (d := none) (op := .store 61 (Operand.tmp 4) (Operand.tmp 16)) (g := none) (t := 0) 13 Yf rfl (by kernel_rfl) (by kernel_rfl) ?y13f HSYf ?_
    case y13f => intro o' ho ht; rw [← hYf]; exact store8 ho (by rfl) (by rfl) HFf ⟨rfl, rfl⟩ (fr_all _ _ _ _ _ _ _ _)
    simp only [Act.put]
    refine heldTake (d := some 5) (op := .assign (Operand.tmp 17)) (g := none) 14 ?v14f rfl (by kernel_rfl) (by kernel_rfl) (by kernel_rfl) (by kernel_rfl) ?y14f HSYf ?_
    case y14f => intro o' ho W hS; simp only [execOp, ho]; go_simp; try rfl
    simp only [Act.put, List.setIfInBounds_toArray, List.set_cons_zero, List.set_cons_succ]
    refine heldTake (d := some 6) (op := .assign (Operand.tmp 18)) (g := none) 15 ?v15f rfl (by kernel_rfl) (by kernel_rfl) (by kernel_rfl) (by kernel_rfl) ?y15f HSYf ?_
    case y15f => intro o' ho W hS; simp only [execOp, ho]; go_simp; try rfl
    simp only [Act.put, List.setIfInBounds_toArray, List.set_cons_zero, List.set_cons_succ]
    refine wpAnyH_done (by kernel_rfl) ?_ _
    refine NoPanic.normal ?_
    have HBY : Sl (Below W.heap.size W Yf) := ⟨HB1.out.trans (HSYf.mono HB1.out.size)⟩
    have HZY : Sl (Yf.heap[W.heap.size]? = some (.cells #[.bool false, .int .i64 0, .bool false, .int .u8 0, .int .u8 0, .int .u8 0, .int .u8 0, .string { data := #[] }] 61 (0, 0))) := ⟨below_key HZ1.out HSYf⟩
    have HRY : Sl (Yf.heap[R]? = some (.cells #[.int .i64 (r : Int)] 3 (0, 0))) := ⟨below_key HR1.out HSYf⟩
    have hq : wa.heap.size ≤ Rw.heap.size := HQf
    have hlt : R < W.heap.size := HRL.out
    have hsz : wa.heap.size = W.heap.size + 1 := HSW.out
    clear HS0 HSZf HQf HFf hYf HSYf hc1 hp1 hr1 hCl hbl hRl CG
    have HNE : Sl (Rw.heap.size ≠ R) := ⟨by omega⟩
    obtain ⟨e0, e1, e2, e3, e4, e5, e6, e7⟩ := bx8 HFY.out
    have hne := HNE.out
    have hr2 := cell_of_one HRY.out
    have hf2 := free_of_one HRY.out
    have HI := fr_info (cs := #[.bool rf, .int .i64 ro, .bool rm, .int .u8 ((ka : Nat) : Int), .int .u8 ((kb : Nat) : Int), .int .u8 ((kc : Nat) : Int), .int .u8 ((kd : Nat) : Int), .string rd]) rfl
    have HZ2 : Sl ((Yf.setCell ⟨R, 0, none⟩ (.int .i64 ((r : Int) + (n : Int)))).heap[W.heap.size]? = some (.cells #[.bool false, .int .i64 0, .bool false, .int .u8 0, .int .u8 0, .int .u8 0, .int .u8 0, .string { data := #[] }] 61 (0, 0))) := ⟨by rw [heap_setCell_other _ _ _ _ (by show W.heap.size ≠ R; omega)]; exact HZY.out⟩
    go_wp2_with (refine wpList_store_row rfl 61 (.tmp 2) (.tmp 22) rfl W.heap.size #[.bool rf, .int .i64 ro, .bool rm, .int .u8 ((ka : Nat) : Int), .int .u8 ((kb : Nat) : Int), .int .u8 ((kc : Nat) : Int), .int .u8 ((kd : Nat) : Int), .string rd] rfl rfl 61 #[.bool false, .int .i64 0, .bool false, .int .u8 0, .int .u8 0, .int .u8 0, .int .u8 0, .string { data := #[] }] HZ2.out HI rfl (fr_all _ _ _ _ _ _ _ _) ?_)
    refine bodyPost_ret (ret_fr2 rfl _ _ W.heap.size 61 _ (0, 0) rfl (setRow_heap _ _ _ _ _ _ HZ2.out) rfl) rfl ?_
    refine ⟨by rw [hval]; rfl, ⟨?_⟩, ⟨grown_then (grown_trans (grown_below HBY.out (some R)) (grown_setCell Yf R 0 _)) (below_setRow (Below.refl _ _) (Nat.le_refl _) _)⟩⟩
    rw [setRow_other _ _ _ _ (by omega), one_setCell HRY.out, Int.natCast_add]
  case second =>
    refine (CG Rw HS0).mono ?_
    rintro e Xs ⟨rfl, HXZ⟩
    have HSX : Below wa.heap.size wa Xs := HS0.trans (HXZ.out.mono HS0.size)
    refine ⟨_, rfl, HSX, ?_⟩
    simp only [Act.put, List.setIfInBounds_toArray, List.set_cons_zero, List.set_cons_succ]
    refine heldTake (d := some 7) (op := .move (Operand.tmp 15)) (g := none) 8 ?v8s rfl (by kernel_rfl) (by kernel_rfl) (by kernel_rfl) (by kernel_rfl) ?y8s HSX ?_
    case y8s => intro o' ho W hS; simp only [execOp, ho]; go_simp; try rfl
    simp only [Act.put, List.setIfInBounds_toArray, List.set_cons_zero, List.set_cons_succ]
    refine heldTake (d := some 16) (op := .extract (Operand.tmp 7) 0) (g := none) 9 ?v9s rfl (by kernel_rfl) (by kernel_rfl) (by kernel_rfl) (by kernel_rfl) ?y9s HSX ?_
    case y9s => intro o' ho W hS; simp only [execOp, ho]; go_simp; try rfl
    simp only [Act.put, List.setIfInBounds_toArray, List.set_cons_zero, List.set_cons_succ]
    refine heldTake (d := some 17) (op := .extract (Operand.tmp 7) 1) (g := none) 10 ?v10s rfl (by kernel_rfl) (by kernel_rfl) (by kernel_rfl) (by kernel_rfl) ?y10s HSX ?_
    case y10s => intro o' ho W hS; simp only [execOp, ho]; go_simp; try rfl
    simp only [Act.put, List.setIfInBounds_toArray, List.set_cons_zero, List.set_cons_succ]
    refine heldTake (d := some 18) (op := .extract (Operand.tmp 7) 2) (g := none) 11 ?v11s rfl (by kernel_rfl) (by kernel_rfl) (by kernel_rfl) (by kernel_rfl) ?y11s HSX ?_
    case y11s => intro o' ho W hS; simp only [execOp, ho]; go_simp; try rfl
    simp only [Act.put, List.setIfInBounds_toArray, List.set_cons_zero, List.set_cons_succ]
    obtain ⟨Zs, hZs⟩ : ∃ V, Xs.alloc (.cells #[.bool false, .int .i64 0, .bool false, .int .u8 0, .int .u8 0, .int .u8 0, .int .u8 0, .string { data := #[] }] 61) = V := ⟨_, rfl⟩
    have HSZs : Below wa.heap.size wa Zs := by rw [← hZs]; exact HSX.alloc HSX.size _
    refine heldRunT (d := some 4) (op := .alloc 61) (g := none) (t := 0) 12 (.pointer (some ⟨Xs.heap.size, 0, none⟩)) Zs rfl (by kernel_rfl) (by kernel_rfl) ?y12s HSZs ?_
    case y12s => intro o' ho _; simp only [execOp, ho]; go_simp; first | done | rw [hZs] | rfl
    simp only [Act.put, List.setIfInBounds_toArray, List.set_cons_zero, List.set_cons_succ]
    have HQs : wa.heap.size ≤ Xs.heap.size := HSX.size
    have HFs : Zs.heap[Xs.heap.size]? = some (.cells #[.bool false, .int .i64 0, .bool false, .int .u8 0, .int .u8 0, .int .u8 0, .int .u8 0, .string { data := #[] }] 61 (0, 0)) := by rw [← hZs]; exact bx_new _ _
    clear HXZ HSX hZs
    obtain ⟨Ys, hYs⟩ : ∃ Y, Zs.setRow Xs.heap.size #[.bool rf, .int .i64 ro, .bool rm, .int .u8 ((ka : Nat) : Int), .int .u8 ((kb : Nat) : Int), .int .u8 ((kc : Nat) : Int), .int .u8 ((kd : Nat) : Int), .string rd] = Y := ⟨_, rfl⟩
    have HSYs : Below wa.heap.size wa Ys := by rw [← hYs]; exact below_setRow HSZs HQs _
    have HFY : Sl (Ys.heap[Xs.heap.size]? = some (.cells #[.bool rf, .int .i64 ro, .bool rm, .int .u8 ((ka : Nat) : Int), .int .u8 ((kb : Nat) : Int), .int .u8 ((kc : Nat) : Int), .int .u8 ((kd : Nat) : Int), .string rd] 61 (0, 0))) := ⟨by rw [← hYs]; exact setRow_heap _ _ _ _ _ _ HFs⟩
    refine heldStore (d := none) (op := .store 61 (Operand.tmp 4) (Operand.tmp 16)) (g := none) (t := 0) 13 Ys rfl (by kernel_rfl) (by kernel_rfl) ?y13s HSYs ?_
    case y13s => intro o' ho ht; rw [← hYs]; exact store8 ho (by rfl) (by rfl) HFs ⟨rfl, rfl⟩ (fr_all _ _ _ _ _ _ _ _)
    simp only [Act.put]
    refine heldTake (d := some 5) (op := .assign (Operand.tmp 17)) (g := none) 14 ?v14s rfl (by kernel_rfl) (by kernel_rfl) (by kernel_rfl) (by kernel_rfl) ?y14s HSYs ?_
    case y14s => intro o' ho W hS; simp only [execOp, ho]; go_simp; try rfl
    simp only [Act.put, List.setIfInBounds_toArray, List.set_cons_zero, List.set_cons_succ]
    refine heldTake (d := some 6) (op := .assign (Operand.tmp 18)) (g := none) 15 ?v15s rfl (by kernel_rfl) (by kernel_rfl) (by kernel_rfl) (by kernel_rfl) ?y15s HSYs ?_
    case y15s => intro o' ho W hS; simp only [execOp, ho]; go_simp; try rfl
    simp only [Act.put, List.setIfInBounds_toArray, List.set_cons_zero, List.set_cons_succ]
    refine wpAnyH_done (by kernel_rfl) ?_ _
    refine NoPanic.normal ?_
    have HBY : Sl (Below W.heap.size W Ys) := ⟨HB1.out.trans (HSYs.mono HB1.out.size)⟩
    have HZY : Sl (Ys.heap[W.heap.size]? = some (.cells #[.bool false, .int .i64 0, .bool false, .int .u8 0, .int .u8 0, .int .u8 0, .int .u8 0, .string { data := #[] }] 61 (0, 0))) := ⟨below_key HZ1.out HSYs⟩
    have HRY : Sl (Ys.heap[R]? = some (.cells #[.int .i64 (r : Int)] 3 (0, 0))) := ⟨below_key HR1.out HSYs⟩
    have hq : wa.heap.size ≤ Xs.heap.size := HQs
    have hlt : R < W.heap.size := HRL.out
    have hsz : wa.heap.size = W.heap.size + 1 := HSW.out
    clear HS0 HSZs HQs HFs hYs HSYs hc1 hp1 hr1 hCl hbl hRl CG
    have HNE : Sl (Xs.heap.size ≠ R) := ⟨by omega⟩
    obtain ⟨e0, e1, e2, e3, e4, e5, e6, e7⟩ := bx8 HFY.out
    have hne := HNE.out
    have hr2 := cell_of_one HRY.out
    have hf2 := free_of_one HRY.out
    have HI := fr_info (cs := #[.bool rf, .int .i64 ro, .bool rm, .int .u8 ((ka : Nat) : Int), .int .u8 ((kb : Nat) : Int), .int .u8 ((kc : Nat) : Int), .int .u8 ((kd : Nat) : Int), .string rd]) rfl
    have HZ2 : Sl ((Ys.setCell ⟨R, 0, none⟩ (.int .i64 ((r : Int) + (n : Int)))).heap[W.heap.size]? = some (.cells #[.bool false, .int .i64 0, .bool false, .int .u8 0, .int .u8 0, .int .u8 0, .int .u8 0, .string { data := #[] }] 61 (0, 0))) := ⟨by rw [heap_setCell_other _ _ _ _ (by show W.heap.size ≠ R; omega)]; exact HZY.out⟩
    go_wp2_with (refine wpList_store_row rfl 61 (.tmp 2) (.tmp 22) rfl W.heap.size #[.bool rf, .int .i64 ro, .bool rm, .int .u8 ((ka : Nat) : Int), .int .u8 ((kb : Nat) : Int), .int .u8 ((kc : Nat) : Int), .int .u8 ((kd : Nat) : Int), .string rd] rfl rfl 61 #[.bool false, .int .i64 0, .bool false, .int .u8 0, .int .u8 0, .int .u8 0, .int .u8 0, .string { data := #[] }] HZ2.out HI rfl (fr_all _ _ _ _ _ _ _ _) ?_)
    refine bodyPost_ret (ret_fr2 rfl _ _ W.heap.size 61 _ (0, 0) rfl (setRow_heap _ _ _ _ _ _ HZ2.out) rfl) rfl ?_
    refine ⟨by rw [hval]; rfl, ⟨?_⟩, ⟨grown_then (grown_trans (grown_below HBY.out (some R)) (grown_setCell Ys R 0 _)) (below_setRow (Below.refl _ _) (Nat.le_refl _) _)⟩⟩
    rw [setRow_other _ _ _ _ (by omega), one_setCell HRY.out, Int.natCast_add]
end Go.Proofs.YtlahonjmfecikaaGreatDoor.Stm
set_option maxRecDepth 100000
namespace Go.Proofs.YtlahonjmfecikaaGreatDoor.Stm
open Go.RowKit MaskPlain FramePlain StreamPlain Mas Fra
def PL (T : List Nat) (masked : Bool) (most : Int) (fs : List Fr) (f : Fr) (k r : Nat) : Prop := ∃ r0 n, r = r0 + n ∧ r ≤ T.length ∧ one (T.drop r0) masked most = (f, n, k) ∧ (k ≠ 0 → n = 0) ∧ all T masked most = (fs ++ (all (T.drop r0) masked most).1, (all (T.drop r0) masked most).2) ∧ 2 * fs.length ≤ r0
theorem one_n {s : List Nat} {masked : Bool} {most : Int} {f : Fr} {n k : Nat} (hs : Small 256 s) (h : one s masked most = (f, n, k)) : n ≤ s.length ∧ (k ≠ 0 → n = 0) ∧ (k = 0 → 2 ≤ n) := by
  rcases one_err s masked most with h1 | ⟨e, h1, he⟩
  · have h2 := one_len hs h1
    rw [h] at h1 h2
    simp only at h1 h2
    exact ⟨h2.2, fun h3 => absurd h1 h3, fun _ => h2.1⟩
  · rw [h] at h1
    injection h1 with _ h1
    injection h1 with h2 h3
    exact ⟨by omega, fun _ => h2, fun h4 => by omega⟩
theorem pl_start {T : List Nat} (masked : Bool) (most : Int) (hs : Small 256 T) : ∃ f n k, one (T.drop 0) masked most = (f, n, k) ∧ n ≤ T.length ∧ PL T masked most [] f k n := by
  obtain ⟨⟨f, n, k⟩, h⟩ : ∃ x, one T masked most = x := ⟨_, rfl⟩
  obtain ⟨h1, h2, _⟩ := one_n hs h
  exact ⟨f, n, k, h, h1, 0, n, by omega, h1, h, h2, by simp, by simp⟩
theorem pl_step {T : List Nat} {masked : Bool} {most : Int} {fs : List Fr} {f : Fr} {r : Nat} (hs : Small 256 T) (h : PL T masked most fs f 0 r) :
    ∃ f' n' k', one (T.drop r) masked most = (f', n', k') ∧ r + n' ≤ T.length ∧ PL T masked most (fs ++ [f]) f' k' (r + n') := by
  obtain ⟨r0, n, rfl, hr, h1, _, h3, h4⟩ := h
  obtain ⟨⟨f', n', k'⟩, h'⟩ : ∃ x, one (T.drop (r0 + n)) masked most = x := ⟨_, rfl⟩
  obtain ⟨g1, g2, _⟩ := one_n (hs.drop _) h'
  have g3 := (one_n (hs.drop _) h1).2.2 rfl
  rw [List.length_drop] at g1
  refine ⟨f', n', k', h', by omega, r0 + n, n', rfl, by omega, h', g2, ?_, by rw [List.length_append]; simp; omega⟩
  rw [h3, all_step (T.drop r0) masked most (hs.drop _), h1, if_neg (by simp), if_neg (by simp), List.drop_drop]
  simp
theorem pl_more {T : List Nat} {masked : Bool} {most : Int} {fs : List Fr} {f : Fr} {r : Nat} (hs : Small 256 T) (h : PL T masked most fs f 90 r) : all T masked most = (fs, 0, T.length - r) ∧ r ≤ T.length := by
  obtain ⟨r0, n, rfl, hr, h1, h2, h3, _⟩ := h
  obtain rfl := h2 (by decide)
  rw [h3, all_step (T.drop r0) masked most (hs.drop _), h1, if_pos rfl, List.length_drop]
  simp at hr ⊢; omega
theorem pl_err {T : List Nat} {masked : Bool} {most : Int} {fs : List Fr} {f : Fr} {k r : Nat} (hs : Small 256 T) (h : PL T masked most fs f k r) (h0 : k ≠ 0) (h9 : k ≠ 90) : all T masked most = (fs, k, 0) := by
  obtain ⟨r0, n, rfl, hr, h1, h2, h3, _⟩ := h
  rw [h3, all_step (T.drop r0) masked most (hs.drop _), h1, if_neg h9, if_pos h0]
  simp
theorem add_bs {Z : World} {base : Nat} {v x : Value} {m l : List Nat} (hown : Z.ownsRow base 5 1 v m.length (u8s m)) (hx : SrcAt Z x l) (hl : m.length + l.length ≤ 1000000) (hbase : base ≤ Z.heap.size) :
    ∃ v1 w1, (Builtin.append_ #[49, 49] 49 #[v, x]).run Tryz.prog Z = .ok v1 w1 ∧ w1.ownsRow base 5 1 v1 (m ++ l).length (u8s (m ++ l)) ∧ Z.grownBy w1 v.ownBlock ∧ (v1.ownBlock = v.ownBlock ∨ v1.ownBlock = some Z.heap.size) := by
  obtain ⟨i0, hi0, hz0, hz1, hz2⟩ := info5'
  obtain ⟨a, cap, sb, so, rfl, hc, ha, hcell⟩ := hx
  cases a with
  | none =>
    have h0 : l = [] := by
      cases l with
      | nil => rfl
      | cons x xs => exact absurd (ha (by simp)) (by simp)
    subst h0
    refine ⟨v, Z, ?_, by rw [List.append_nil]; exact hown, grown_refl _ _, .inl rfl⟩
    rcases hown.2 with ⟨rfl, _⟩ | ⟨g, c, cur, rfl, _, _, hnc, _⟩
    · simp [Builtin.append_, run_underlying Tryz.underlying49, sizeOf, typeInfo, hi0, Builtin.lenOf, Builtin.firstCells]
    · simp [Builtin.append_, run_underlying Tryz.underlying49, sizeOf, typeInfo, hi0, Builtin.lenOf, Builtin.firstCells, storeCells]
      intro hc
      exact absurd hc (by omega)
  | some ad =>
    obtain ⟨v', w', h1, h2, h3, h4⟩ := own_app (P := Tryz.prog) (w := Z) base 49 49 5 i0 _ 1 1 Tryz.underlying49 hi0 hz0 hz1 hz2 rfl (by decide) v m.length (u8s m) hown ad l.length cap (u8s l) (by simp) (fun j u hu => by
      have hj : j < l.length := by have := (List.getElem?_eq_some_iff.1 hu).1; simpa using this
      have had := ha (by omega)
      injection had with had
      subst had
      rw [Addr.add_mid, hcell j hj, ← hu, u8s_get l j hj]) (u8s_one l) (by unfold maxLen; omega) (by omega) hbase
    exact ⟨v', w', h1, by rw [List.length_append, u8s_append]; exact h2, h3, h4⟩
theorem run_appB {ev : Operand → Value} {o : Oper} {x y : Operand} {Z w1 : World} {v0 src v1 : Value} {t : TypeId} (ho : o.op = .call { callee := .builtin .append, args := #[x, y], argTypes := #[t, t] }) (ht : o.type = t) (hs : ev x = v0) (hx : ev y = src)
    (hap : (Builtin.append_ #[t, t] t #[v0, src]).run Tryz.prog Z = .ok v1 w1) : (execOp ev o).run Tryz.prog Z = .ok (.value v1) w1 := by
  unfold execOp
  simp only [ho, ht, resolve, invoke, builtin, Sem.run_bind, Sem.run_pure, Result.andThen_ok, List.map_toArray, List.map_cons, List.map_nil, hs, hx, hap]
theorem ownB_kind {W : World} {base g n : Nat} {v : Value} {xs : List Value} {cs : Array Value} {t : TypeId} (ho : W.ownsRow base 5 1 v n xs) (h : W.heap[g]? = some (.cells cs t (0, 0))) (ht : t ≠ 5) : v.ownBlock ≠ some g := fun e => by
  obtain ⟨_, h2⟩ := ho
  rcases h2 with ⟨rfl, _⟩ | ⟨k, cap, cur, rfl, _, hh, _⟩
  · cases e
  · obtain rfl : k = g := by simpa [Value.ownBlock] using e
    rw [h] at hh
    injection hh with hh
    injection hh with _ h4
    exact ht h4
theorem own_base {W : World} {base base' e size n : Nat} {v : Value} {xs : List Value} (h : W.ownsRow base e size v n xs) (hb : base' ≤ base) : W.ownsRow base' e size v n xs := by
  refine ⟨h.1, ?_⟩
  rcases h.2 with hn | ⟨g, cap, cur, rfl, hg, r⟩
  · exact .inl hn
  · exact .inr ⟨g, cap, cur, rfl, Nat.le_trans hb hg, r⟩
theorem StrmAt.ge {w0 W : World} {b : Nat} {masked : Bool} {most : Int} {part : List Nat} {err : Nat} {v : Value} (h : StrmAt w0 W b masked most part err v) : w0.heap.size ≤ ob v b := by
  unfold ob
  rcases h.O.2 with ⟨rfl, hz⟩ | ⟨g, cap, cur, rfl, hg, _⟩
  · exact h.B
  · exact hg
theorem ob_ne {v : Value} {b g : Nat} (h1 : g ≠ b) (h2 : v.ownBlock ≠ some g) : g ≠ ob v b := fun e => by
  unfold ob at e
  cases h : v.ownBlock with
  | none => rw [h] at e; exact h1 e
  | some k => rw [h] at e h2; exact h2 (by rw [e]; rfl)
theorem StrmAt.grown {w0 W W' : World} {b : Nat} {masked : Bool} {most : Int} {part : List Nat} {err : Nat} {v : Value} {r : Option Nat} (h : StrmAt w0 W b masked most part err v) (g : W.grownBy W' r) (hb : ∀ k, r = some k → k ≠ b ∧ v.ownBlock ≠ some k ∧ w0.heap.size ≤ k) : StrmAt w0 W' b masked most part err v where
  X := by rw [g.block b h.lt (fun e => (hb b e.symm).1 rfl)]; exact h.X
  O := h.O.kept g (by cases r with
    | none => cases hv : v.ownBlock <;> simp
    | some k => exact .inr (hb k rfl).2.1)
  B := h.B
  L := h.L.grown g h.L.size (fun k hk => (hb k hk).2.2)
theorem two_grown {W w w' : World} {b p : Nat} {r : Option Nat} (h : Two W w b p) (g : w.grownBy w' r) (hr : ∀ k, r = some k → W.heap.size ≤ k) : Two W w' b p :=
  ⟨g.os.trans h.os, g.tape.trans h.tape, g.output.trans h.output, Nat.le_trans h.size g.size, fun k hk h1 h2 => (g.block k (Nat.lt_of_lt_of_le hk h.size) (fun e => by have := hr k e.symm; omega)).trans (h.block k hk h1 h2)⟩
theorem two_below {W w w' : World} {b p : Nat} (h : Two W w b p) (g : Below w.heap.size w w') : Two W w' b p := two_grown h (grown_below g none) (fun k hk => by cases hk)
theorem strm_fed {w0 W w2 : World} {b : Nat} {masked : Bool} {most : Int} {part T : List Nat} {err : Nat} {v v1 : Value} (h : StrmAt w0 W b masked most part err v) (g : W.grownBy w2 v.ownBlock) (ho : w2.ownsRow w0.heap.size 5 1 v1 T.length (u8s T)) :
    StrmAt w0 (w2.setCell ⟨b, 2, none⟩ v1) b masked most T err v1 ∧ Two W (w2.setCell ⟨b, 2, none⟩ v1) b (ob v b) := by
  have hk := ownB_kind h.O h.X (by decide)
  have hb2 : w2.heap[b]? = some (.cells #[.bool masked, .int .i64 most, v, .int .i64 (err : Int)] 119 (0, 0)) := by rw [g.block b h.lt (fun e => hk e.symm)]; exact h.X
  have hk2 := ownB_kind ho hb2 (by decide)
  have hL : Below w0.heap.size w0 w2 := h.L.grown g h.L.size (fun k hk => by have := (h.O.lt k hk).1; omega)
  refine ⟨⟨by rw [heap_setCell_same _ _ _ _ _ _ hb2]; rfl, ho.kept (grown_setCell w2 b 2 v1) (.inr hk2), h.B, hL.grown (grown_setCell w2 b 2 v1) hL.size (fun k hk => by injection hk with hk; have := h.B; omega)⟩, ?_⟩
  have g2 := grown_setCell w2 b 2 v1
  exact ⟨g2.os.trans g.os, g2.tape.trans g.tape, g2.output.trans g.output, Nat.le_trans g.size g2.size, fun k hk h1 h2 => (g2.block k (Nat.lt_of_lt_of_le hk g.size) (fun e => h1 (by injection e))).trans (g.block k hk (fun e => h2 (by unfold ob; rw [← e]; rfl)))⟩
structure LR (w0 W : World) (b C R q B : Nat) (masked : Bool) (most : Int) (T : List Nat) (v v1 : Value) (wr : World) (u : Value) (fs : List Fr) (f : Fr) (k r : Nat) : Prop where
  hS : StrmAt w0 wr b masked most T 0 v1
  hC : wr.heap[C]? = some (.cells #[.pointer (some ⟨b, 0, none⟩)] 77 (0, 0))
  hR : wr.heap[R]? = some (.cells #[.int .i64 (r : Int)] 3 (0, 0))
  hQ : wr.heap[q]? = some (.cells (cv f).toArray 61 (0, 0))
  hO : OwnR wr B u fs
  hN : B ≤ wr.heap.size
  hK : W.heap.size ≤ R ∧ W.heap.size ≤ q ∧ q < B
  hT : Two W wr b (ob v b)
  hP : PL T masked most fs f k r
section
variable {w0 W wr : World} {b C R q B : Nat} {masked : Bool} {most : Int} {T : List Nat} {v v1 u : Value} {fs : List Fr} {f : Fr} {k r : Nat}
theorem LR.below {w' : World} (h : LR w0 W b C R q B masked most T v v1 wr u fs f k r) (g : Below wr.heap.size wr w') : LR w0 W b C R q B masked most T v v1 w' u fs f k r where
  hS := h.hS.below g
  hC := below_key h.hC g
  hR := below_key h.hR g
  hQ := below_key h.hQ g
  hO := h.hO.below g
  hN := Nat.le_trans h.hN g.size
  hK := h.hK
  hT := two_below h.hT g
  hP := h.hP
theorem LR.told {w' : World} (h : LR w0 W b C R q B masked most T v v1 wr u fs f k r) (hW : w0.heap.size ≤ W.heap.size) (g : wr.grownBy w' u.ownBlock) :
    StrmAt w0 w' b masked most T 0 v1 ∧ w'.heap[C]? = some (.cells #[.pointer (some ⟨b, 0, none⟩)] 77 (0, 0)) ∧ w'.heap[R]? = some (.cells #[.int .i64 (r : Int)] 3 (0, 0)) ∧ w'.heap[q]? = some (.cells (cv f).toArray 61 (0, 0)) ∧ B ≤ w'.heap.size ∧ Two W w' b (ob v b) := by
  obtain ⟨k1, k2, k3⟩ := h.hK
  have kb := h.hO.kind h.hS.X (by decide)
  have kc := h.hO.kind h.hC (by decide)
  have kr := h.hO.kind h.hR (by decide)
  have lt : ∀ {j : Nat} {o : Obj}, wr.heap[j]? = some o → j < wr.heap.size := fun h => (Array.getElem?_eq_some_iff.1 h).1
  refine ⟨h.hS.grown g (fun k hk => ⟨fun e => kb (by rw [← e]; exact hk), fun e => ?_, by have := h.hO.ge hk; omega⟩), ?_, ?_, ?_, Nat.le_trans h.hN g.size, two_grown h.hT g (fun k hk => by have := h.hO.ge hk; omega)⟩
  · rcases h.hO.2 with ⟨rfl, _⟩ | ⟨g', cap, cur, rfl, _, hh, _⟩
    · cases hk
    · obtain rfl : g' = k := by simpa [Value.ownBlock] using hk
      exact ownB_kind h.hS.O hh (by decide) e
  · rw [g.block _ (lt h.hC) (fun e => kc e.symm)]; exact h.hC
  · rw [g.block _ (lt h.hR) (fun e => kr e.symm)]; exact h.hR
  · rw [g.block _ (lt h.hQ) (fun e => by have := h.hO.ge e.symm; omega)]; exact h.hQ
theorem LR.next {w1 w2 : World} {u' : Value} {f' : Fr} {k' r' : Nat} (hS : StrmAt w0 w1 b masked most T 0 v1) (hC : w1.heap[C]? = some (.cells #[.pointer (some ⟨b, 0, none⟩)] 77 (0, 0))) (hR : w2.heap[R]? = some (.cells #[.int .i64 (r' : Int)] 3 (0, 0))) (hR1 : w1.heap[R]? = some (.cells #[.int .i64 (r : Int)] 3 (0, 0)))
    (hQ : w1.heap[q]? = some (.cells (cv f).toArray 61 (0, 0))) (hO : OwnR w1 B u' (fs ++ [f])) (hN : B ≤ w1.heap.size) (hK : W.heap.size ≤ R ∧ W.heap.size ≤ q ∧ q < B) (hT : Two W w1 b (ob v b)) (g : w1.grownBy w2 (some R)) (hP : PL T masked most (fs ++ [f]) f' k' r') (hW : w0.heap.size ≤ W.heap.size) :
    LR w0 W b C R q B masked most T v v1 (w2.setRow q (cv f').toArray) u' (fs ++ [f]) f' k' r' := by
  have lt : ∀ {j : Nat} {o : Obj}, w1.heap[j]? = some o → j < w1.heap.size := fun h => (Array.getElem?_eq_some_iff.1 h).1
  have kq : R ≠ q := fun e => by rw [e, hQ] at hR1; injection hR1 with h; injection h with _ h; exact absurd h (by decide)
  have kc : R ≠ C := fun e => by rw [e, hC] at hR1; injection hR1 with h; injection h with _ h; exact absurd h (by decide)
  have kb : R ≠ b := fun e => by rw [e, hS.X] at hR1; injection hR1 with h; injection h with _ h; exact absurd h (by decide)
  have kqb : q ≠ b := fun e => by rw [e, hS.X] at hQ; injection hQ with h; injection h with _ h; exact absurd h (by decide)
  have kqc : q ≠ C := fun e => by rw [e, hC] at hQ; injection hQ with h; injection h with _ h; exact absurd h (by decide)
  have S2 := hS.grown g (fun k hk => by
    injection hk with hk
    subst hk
    exact ⟨kb, ownB_kind hS.O hR1 (by decide), by omega⟩)
  have Q2 : w2.heap[q]? = some (.cells (cv f).toArray 61 (0, 0)) := by rw [g.block _ (lt hQ) (fun e => kq (by injection e with e; exact e.symm))]; exact hQ
  have g2 := grown_setRow w2 q (cv f').toArray
  have O2 : OwnR w2 B u' (fs ++ [f]) := hO.kept g (.inr (hO.kind hR1 (by decide)))
  exact {
    hS := S2.grown g2 (fun k hk => by
      injection hk with hk
      subst hk
      exact ⟨kqb, ownB_kind S2.O Q2 (by decide), by omega⟩)
    hC := by rw [setRow_other _ _ _ _ (fun e => kqc e.symm), g.block _ (lt hC) (fun e => kc (by injection e with e; exact e.symm))]; exact hC
    hR := by rw [setRow_other _ _ _ _ kq]; exact hR
    hQ := setRow_heap _ _ _ _ _ _ Q2
    hO := O2.kept g2 (.inr (fun e => by have := O2.ge e; omega))
    hN := Nat.le_trans hN (Nat.le_trans g.size g2.size)
    hK := hK
    hT := two_grown (two_grown hT g (fun k hk => by injection hk with hk; omega)) g2 (fun k hk => by injection hk with hk; omega)
    hP := hP }
end
theorem LR.start {w0 W w4 w5 : World} {b C R : Nat} {masked : Bool} {most : Int} {T : List Nat} {v v1 : Value} {f : Fr} {k r : Nat} {r0 : Int} {z : Array Value} (hS : StrmAt w0 w4 b masked most T 0 v1) (hC : w4.heap[C]? = some (.cells #[.pointer (some ⟨b, 0, none⟩)] 77 (0, 0))) (hR1 : w4.heap[R]? = some (.cells #[.int .i64 r0] 3 (0, 0))) (hR : w5.heap[R]? = some (.cells #[.int .i64 (r : Int)] 3 (0, 0)))
    (hK : W.heap.size ≤ R) (hT : Two W w4 b (ob v b)) (g : w4.grownBy w5 (some R)) (hP : PL T masked most [] f k r) (hW : w0.heap.size ≤ W.heap.size) :
    LR w0 W b C R w5.heap.size (w5.heap.size + 1) masked most T v v1 ((w5.alloc (.cells z 61)).setRow w5.heap.size (cv f).toArray) (.slice none 0 0) [] f k r := by
  have lt : ∀ {j : Nat} {o : Obj}, w4.heap[j]? = some o → j < w4.heap.size := fun h => (Array.getElem?_eq_some_iff.1 h).1
  have kc : R ≠ C := fun e => by rw [e, hC] at hR1; injection hR1 with h; injection h with _ h; exact absurd h (by decide)
  have kb : R ≠ b := fun e => by rw [e, hS.X] at hR1; injection hR1 with h; injection h with _ h; exact absurd h (by decide)
  have S2 := hS.grown g (fun k hk => by
    injection hk with hk
    subst hk
    exact ⟨kb, ownB_kind hS.O hR1 (by decide), by omega⟩)
  have BL : Below w5.heap.size w5 ((w5.alloc (.cells z 61)).setRow w5.heap.size (cv f).toArray) := below_setRow ((Below.refl _ _).alloc (Nat.le_refl _) _) (Nat.le_refl _) _
  have C2 : w5.heap[C]? = some (.cells #[.pointer (some ⟨b, 0, none⟩)] 77 (0, 0)) := by rw [g.block _ (lt hC) (fun e => kc (by injection e with e; exact e.symm))]; exact hC
  have T2 := two_grown hT g (fun k hk => by injection hk with hk; omega)
  exact {
    hS := S2.below BL
    hC := below_key C2 BL
    hR := below_key hR BL
    hQ := setRow_heap _ _ _ _ _ _ (alloc_new _ _ _ rfl)
    hO := ownR_nil _ _
    hN := by have := (grown_setRow (w5.alloc (.cells z 61)) w5.heap.size (cv f).toArray).size; rw [alloc_size] at this; exact this
    hK := ⟨hK, by have := hT.size; have := g.size; omega, by omega⟩
    hT := two_below T2 BL
    hP := hP }
theorem strm_err {w0 W : World} {b : Nat} {masked : Bool} {most : Int} {T : List Nat} {v1 : Value} (h : StrmAt w0 W b masked most T 0 v1) (e : Nat) :
    StrmAt w0 ((W.setCell ⟨b, 3, none⟩ (.int .i64 (e : Int))).setCell ⟨b, 2, none⟩ (.slice none 0 0)) b masked most [] e (.slice none 0 0) ∧ W.grownBy ((W.setCell ⟨b, 3, none⟩ (.int .i64 (e : Int))).setCell ⟨b, 2, none⟩ (.slice none 0 0)) (some b) ∧
      (W.setCell ⟨b, 3, none⟩ (.int .i64 (e : Int))).cell? ⟨b, 2, none⟩ = some v1 ∧ (W.setCell ⟨b, 3, none⟩ (.int .i64 (e : Int))).frozen? ⟨b, 2, none⟩ = false := by
  have h1 : (W.setCell ⟨b, 3, none⟩ (.int .i64 (e : Int))).heap[b]? = some (.cells #[.bool masked, .int .i64 most, v1, .int .i64 (e : Int)] 119 (0, 0)) := by rw [heap_setCell_same _ _ _ _ _ _ h.X]; rfl
  have g := grown_trans (grown_setCell W b 3 (.int .i64 (e : Int))) (grown_setCell (W.setCell ⟨b, 3, none⟩ (.int .i64 (e : Int))) b 2 (.slice none 0 0))
  refine ⟨⟨by rw [heap_setCell_same _ _ _ _ _ _ h1]; rfl, World.ownsRow_nil _ _ _ _, h.B, h.L.grown g h.L.size (fun k hk => by injection hk with hk; have := h.B; omega)⟩, g, ?_, frozen_of_row _ _ _ _ _ h1⟩
  rw [cell_of_row _ _ _ _ _ _ h1]; rfl
theorem strm_cut {w0 W w2 : World} {b : Nat} {masked : Bool} {most : Int} {part T : List Nat} {err : Nat} {v v1 : Value} (h : StrmAt w0 W b masked most part err v) (g : W.grownBy w2 none) (ho : w2.ownsRow w0.heap.size 5 1 v1 T.length (u8s T)) :
    StrmAt w0 (w2.setCell ⟨b, 2, none⟩ v1) b masked most T err v1 ∧ W.grownBy (w2.setCell ⟨b, 2, none⟩ v1) (some b) := by
  have g' : ∀ r, W.grownBy w2 r := fun r => ⟨g.os, g.tape, g.output, g.size, fun k hk _ => g.block k hk (by simp)⟩
  exact ⟨(strm_fed h (g' _) ho).1, grown_trans (g' _) (grown_setCell _ _ _ _)⟩
theorem two_left {W w w' : World} {b p : Nat} (h : Two W w b p) (g : w.grownBy w' (some b)) : Two W w' b p := h.trans (Two.left g)
def lenV (v : Value) : Nat := match v with | .slice _ n _ => n | _ => 0
theorem OwnR.len {W : World} {base : Nat} {v : Value} {l : List Fr} (h : OwnR W base v l) : lenV v = l.length := by
  obtain ⟨a, c, rfl⟩ := h.slice; rfl
theorem pl_len {T : List Nat} {masked : Bool} {most : Int} {fs : List Fr} {f : Fr} {k r : Nat} (h : PL T masked most fs f k r) : fs.length ≤ T.length ∧ r ≤ T.length := by
  obtain ⟨r0, n, rfl, hr, _, _, _, h4⟩ := h
  omega
end Go.Proofs.YtlahonjmfecikaaGreatDoor.Stm
set_option maxRecDepth 100000
namespace Go.Proofs.YtlahonjmfecikaaGreatDoor.Fra
open Go.RowKit MaskPlain FramePlain Mas
theorem strOf_app (a b : List Nat) : strOf (a ++ b) = strOf a ++ strOf b := by
  refine ByteArray.ext ?_
  simp [strOf, strOfNums, ByteArray.data_append]
end Go.Proofs.YtlahonjmfecikaaGreatDoor.Fra
namespace Go.Proofs.YtlahonjmfecikaaGreatDoor
open Go.RowKit Go.WideShapes Go.ChangeShapes
def StrsAt (W : World) (v : Value) (l : List ByteArray) : Prop :=
  ∃ (a : Option Addr) (cap sb so : Nat), v = .slice a l.length cap ∧ l.length ≤ maxLen ∧ (0 < l.length → a = some ⟨sb, so, none⟩) ∧ (∀ i, i < l.length → W.cell? ⟨sb, so + i, none⟩ = some (.string (l.getD i ByteArray.empty))) ∧
    ∀ i, (l.getD i ByteArray.empty).size ≤ maxLen
theorem strsAt_of_trod {H : Type} {enc : TypeId × Value → H} {W : World} {ad : Option Addr} {len cap : Nat} {d : DataW H} {p : List MemPlace} (h : DataW.Trod enc Tryz.prog W 0 (fun _ => true) true 23 (.slice ad len cap) d p) :
    ∃ l, StrsAt W (.slice ad len cap) l := by
  obtain ⟨fuel, hf⟩ := h
  rcases open_strings Tryz.underlying23 Tryz.underlying9 (by kernel_rfl) hf with ⟨hcs, _⟩ | ⟨a, len', cap', ss, hcs, _, hl, hm, hz, _, hcell, hws⟩
  · simp [Value.cells] at hcs
    obtain ⟨rfl, rfl, rfl⟩ := hcs
    exact ⟨[], none, 0, 0, 0, rfl, by simp, fun h => by simp at h, fun i hi => by simp at hi, fun i => by simp [List.getD]⟩
  · simp [Value.cells] at hcs
    obtain ⟨rfl, rfl, rfl⟩ := hcs
    have hlen : (ss.take len).length = len := by simp at hz; simp; omega
    have hg : ∀ i, i < len → (ss.take len).getD i ByteArray.empty = ss.getD i ByteArray.empty := fun i hi => by simp [List.getD, hi]
    refine ⟨ss.take len, some a, cap, a.block, a.off, by rw [hlen], by rw [hlen]; omega, fun hp => ?_, fun i hi => ?_, fun i => ?_⟩
    · rw [hlen] at hp
      have hc := hcell 0 (by simp at hz; omega)
      obtain ⟨b, off, spot⟩ := a
      have hspot : spot = none := by simpa [Addr.add] using World.cell?_spot hc
      rw [hspot]
    · rw [hlen] at hi
      have hc := hcell i (by simp at hz; omega)
      obtain ⟨b, off, spot⟩ := a
      have hspot : spot = none := by simpa [Addr.add] using World.cell?_spot (hcell 0 (by simp at hz; omega))
      subst hspot
      rw [Addr.add_mid] at hc
      rw [hg i hi, hc]
    · by_cases hi : i < len
      · rw [hg i hi]
        have hi' : i < ss.length := by simp at hz; omega
        have := hws ss[i] (List.getElem_mem hi')
        simpa [List.getD, List.getElem?_eq_getElem hi'] using this
      · rw [List.getD, List.getElem?_eq_none (by rw [hlen]; omega)]
        exact Nat.zero_le _
end Go.Proofs.YtlahonjmfecikaaGreatDoor
