/- msg, plain: what frames come to. -/
import Derived.Test.YtflnmjiopeoodaaUtfPlain
import Derived.Test.YtflnmjiopeoodaaFramePlain
import Derived.Test.YtflnmjiopeoodaaClosePlain
namespace MsgPlain
open FramePlain (Fr form ctl zero4 form_cases form_of form_mask)
open ClosePlain (getC get_err)
open UtfPlain (s0 uright uend ustep uend_iff uright_le)

/-- An event. -/
structure Ev where
  op : Int
  code : Int
  data : List Nat
deriving DecidableEq
/-- A machine: what was wrong, whether an end came, whether a message is begun, of which op, and its bytes. -/
structure Ms where
  err : Nat
  over : Bool
  begun : Bool
  op : Int
  text : List Nat
deriving DecidableEq
def M0 : Ms := ⟨0, false, false, 0, []⟩
def bad (e : Nat) : Ms := ⟨e, false, false, 0, []⟩
def done : Ms := ⟨0, true, false, 0, []⟩
/-- Are bytes so far letters, or, at the end, whole? -/
def okT (op : Int) (fin : Bool) (t : List Nat) : Bool := !(decide (op = 1) && (decide (uright s0 t < t.length) || (fin && !ClosePlain.lets t)))
/-- A frame of a message. -/
def more (most : Int) (fin : Bool) (op : Int) (t : List Nat) : Ms × Option Ev :=
  if most < (t.length : Int) then (bad 121, none)
  else if okT op fin t = false then (bad 122, none)
  else if fin = true then (M0, some ⟨op, 0, t⟩) else (⟨0, false, true, op, t⟩, none)
/-- What a frame comes to where nothing was wrong and no end came. -/
def step (most : Int) (st : Ms) (f : Fr) : Ms × Option Ev :=
  if form f = false then (bad 120, none)
  else if f.op = 9 ∨ f.op = 10 then (st, some ⟨f.op, 0, f.data⟩)
  else if f.op = 8 then
    if (getC f.data).2.2 = 0 then (done, some ⟨8, (getC f.data).1, (getC f.data).2.1⟩) else (bad (getC f.data).2.2, none)
  else if decide (f.op = 0) ≠ st.begun then (bad 120, none)
  else more most f.fin (if st.begun then st.op else f.op) (st.text ++ f.data)
def take (most : Int) (st : Ms) (f : Fr) : Ms × Option Ev := if st.err ≠ 0 ∨ st.over = true then (st, none) else step most st f
/-- Of frames, one by one. -/
def run (most : Int) (st : Ms) : List Fr → Ms × List Ev
  | [] => (st, [])
  | f :: l => ((run most (take most st f).1 l).1, (take most st f).2.toList ++ (run most (take most st f).1 l).2)
theorem run_cons (most : Int) (st : Ms) (f : Fr) (l : List Fr) : run most st (f :: l) = ((run most (take most st f).1 l).1, (take most st f).2.toList ++ (run most (take most st f).1 l).2) := rfl
theorem run_append (most : Int) : ∀ (a b : List Fr) (st : Ms), run most st (a ++ b) = ((run most (run most st a).1 b).1, (run most st a).2 ++ (run most (run most st a).1 b).2)
  | [], b, st => by simp [run]
  | f :: a, b, st => by rw [List.cons_append, run_cons, run_cons, run_append most a b, List.append_assoc]
theorem run_one (most : Int) (st : Ms) (f : Fr) : run most st [f] = ((take most st f).1, (take most st f).2.toList) := by simp [run]
/-- What a machine may be: nothing else is kept behind an error, or an end, or where no message is begun. -/
structure Fit (most : Int) (st : Ms) : Prop where
  err : st.err ≠ 0 → st = bad st.err
  over : st.over = true → st = done
  idle : st.begun = false → st.text = [] ∧ st.op = 0
  op : st.begun = true → st.op = 1 ∨ st.op = 2
  most : (st.text.length : Int) ≤ most
  small : ∀ y ∈ st.text, y < 256
  right : st.op = 1 → uright s0 st.text = st.text.length
theorem fit0 {most : Int} (h : 0 ≤ most) : Fit most M0 := ⟨fun h => absurd rfl h, fun h => (by cases h), fun _ => ⟨rfl, rfl⟩, fun h => (by cases h), h, fun _ hy => (by cases hy), fun h => (by cases h)⟩
theorem fit_bad {most : Int} (h : 0 ≤ most) (e : Nat) : Fit most (bad e) := ⟨fun _ => rfl, fun h => (by cases h), fun _ => ⟨rfl, rfl⟩, fun h => (by cases h), h, fun _ hy => (by cases hy), fun h => (by cases h)⟩
theorem fit_done {most : Int} (h : 0 ≤ most) : Fit most done := ⟨fun h => absurd rfl h, fun _ => rfl, fun _ => ⟨rfl, rfl⟩, fun h => (by cases h), h, fun _ hy => (by cases hy), fun h => (by cases h)⟩
theorem okT_right {op : Int} {fin : Bool} {t : List Nat} (h : okT op fin t = true) (h1 : op = 1) : uright s0 t = t.length := by
  unfold okT at h
  rw [decide_eq_true h1, Bool.true_and, Bool.not_eq_true', Bool.or_eq_false_iff, decide_eq_false_iff_not] at h
  have := uright_le t s0
  omega
theorem fit_more {most : Int} (h : 0 ≤ most) {fin : Bool} {op : Int} {t : List Nat} (ho : op = 1 ∨ op = 2) (hs : ∀ y ∈ t, y < 256) : Fit most (more most fin op t).1 := by
  unfold more
  split
  · exact fit_bad h _
  split
  · exact fit_bad h _
  split
  · exact fit0 h
  · rename_i h1 h2 _
    exact ⟨fun h => absurd rfl h, fun h => (by cases h), fun h => (by cases h), fun _ => ho, by show ((t.length : Nat) : Int) ≤ most; omega, hs, fun h => okT_right (by simpa using h2) h⟩
theorem fit_take {most : Int} (h : 0 ≤ most) {st : Ms} {f : Fr} (hf : Fit most st) (hs : ∀ y ∈ f.data, y < 256) : Fit most (take most st f).1 := by
  unfold take
  split
  · exact hf
  unfold step
  split
  · exact fit_bad h _
  rename_i hform
  split
  · exact hf
  split
  · split
    · exact fit_done h
    · exact fit_bad h _
  split
  · exact fit_bad h _
  rename_i h1 h2 h3
  refine fit_more h ?_ (fun y hy => ?_)
  · split
    · rename_i hb; exact hf.op hb
    · rename_i hb
      have hb' : st.begun = false := by simpa using hb
      rw [hb'] at h3
      have h0 : f.op ≠ 0 := fun e => h3 (by rw [e]; simp)
      have := (form_cases (f := f) (by simpa using hform)).1
      omega
  · rcases List.mem_append.1 hy with hy | hy
    · exact hf.small y hy
    · exact hs y hy
theorem fit_run {most : Int} (h : 0 ≤ most) : ∀ (l : List Fr) {st : Ms}, Fit most st → (∀ f ∈ l, ∀ y ∈ f.data, y < 256) → Fit most (run most st l).1
  | [], _, hf, _ => hf
  | f :: l, st, hf, hs => fit_run h l (fit_take h hf (hs f (by simp))) (fun g hg => hs g (by simp [hg]))
/-- Behind an error, or an end, nothing comes to anything. -/
theorem take_stop (most : Int) {st : Ms} (h : st.err ≠ 0 ∨ st.over = true) (f : Fr) : take most st f = (st, none) := if_pos h
theorem run_stop (most : Int) {st : Ms} (h : st.err ≠ 0 ∨ st.over = true) : ∀ l, run most st l = (st, [])
  | [] => rfl
  | f :: l => by
    rw [run_cons, take_stop most h, run_stop most h l]
    rfl
theorem take_go (most : Int) {st : Ms} (h1 : st.err = 0) (h2 : st.over = false) (f : Fr) : take most st f = step most st f := if_neg (by rw [h1, h2]; simp)
theorem stop_text {most : Int} {st : Ms} (hf : Fit most st) (h : st.err ≠ 0 ∨ st.over = true) : st.text = [] := by
  rcases h with h | h
  · rw [hf.err h]; rfl
  · rw [hf.over h]; rfl
/-- Where nothing is told the state is as it was, or a frame of a message came, or something is wrong. -/
theorem step_none {most : Int} {st : Ms} {f : Fr} (h : (step most st f).2 = none) : (step most st f).1.err ≠ 0 ∨ f.fin = false := by
  unfold step at h ⊢
  by_cases a1 : form f = false
  · rw [if_pos a1] at h ⊢; exact .inl (by decide)
  rw [if_neg a1] at h ⊢
  by_cases a2 : f.op = 9 ∨ f.op = 10
  · rw [if_pos a2] at h; cases h
  rw [if_neg a2] at h ⊢
  by_cases a3 : f.op = 8
  · rw [if_pos a3] at h ⊢
    by_cases a4 : (getC f.data).2.2 = 0
    · rw [if_pos a4] at h; cases h
    · rw [if_neg a4]; exact .inl a4
  rw [if_neg a3] at h ⊢
  by_cases a4 : decide (f.op = 0) ≠ st.begun
  · rw [if_pos a4]; exact .inl (by decide)
  rw [if_neg a4] at h ⊢
  unfold more at h ⊢
  by_cases a5 : most < ((st.text ++ f.data).length : Int)
  · rw [if_pos a5]; exact .inl (by decide)
  rw [if_neg a5] at h ⊢
  by_cases a6 : okT (if st.begun then st.op else f.op) f.fin (st.text ++ f.data) = false
  · rw [if_pos a6]; exact .inl (by decide)
  rw [if_neg a6] at h ⊢
  by_cases a7 : f.fin = true
  · rw [if_pos a7] at h; cases h
  · exact .inr (by simpa using a7)
/-- A frame that is told, with nothing wrong. -/
theorem step_err {most : Int} {st : Ms} {f : Fr} (h0 : st.err = 0) (h : (step most st f).2 ≠ none) : (step most st f).1.err = 0 := by
  unfold step at h ⊢
  by_cases a1 : form f = false
  · rw [if_pos a1] at h; exact absurd rfl h
  rw [if_neg a1] at h ⊢
  by_cases a2 : f.op = 9 ∨ f.op = 10
  · rw [if_pos a2]; exact h0
  rw [if_neg a2] at h ⊢
  by_cases a3 : f.op = 8
  · rw [if_pos a3] at h ⊢
    by_cases a4 : (getC f.data).2.2 = 0
    · rw [if_pos a4]; rfl
    · rw [if_neg a4] at h; exact absurd rfl h
  rw [if_neg a3] at h ⊢
  by_cases a4 : decide (f.op = 0) ≠ st.begun
  · rw [if_pos a4] at h; exact absurd rfl h
  rw [if_neg a4] at h ⊢
  unfold more at h ⊢
  by_cases a5 : most < ((st.text ++ f.data).length : Int)
  · rw [if_pos a5] at h; exact absurd rfl h
  rw [if_neg a5] at h ⊢
  by_cases a6 : okT (if st.begun then st.op else f.op) f.fin (st.text ++ f.data) = false
  · rw [if_pos a6] at h; exact absurd rfl h
  rw [if_neg a6] at h ⊢
  by_cases a7 : f.fin = true
  · rw [if_pos a7]; rfl
  · rw [if_neg a7] at h; exact absurd rfl h
/-- Control frames that tell something: pings and pongs. -/
theorem step_ping (most : Int) (st : Ms) {op : Int} (ho : op = 9 ∨ op = 10) (k : List Nat) (m : Bool) {d : List Nat} (hd : d.length ≤ 125) (hk : m = true ∨ k = zero4) : step most st ⟨true, op, m, k, d⟩ = (st, some ⟨op, 0, d⟩) := by
  unfold step
  rw [if_neg (by rw [form_of ⟨.inr ⟨by show 8 ≤ op; omega, by show op ≤ 10; omega, rfl, hd⟩, hk⟩]; decide), if_pos ho]
/-- A frame of text or binary that begins a message. -/
theorem step_first (most : Int) {op : Int} (ho : op = 1 ∨ op = 2) (fin : Bool) (d : List Nat) : step most M0 ⟨fin, op, false, zero4, d⟩ = more most fin op d := by
  unfold step
  rw [if_neg (by rw [form_of ⟨.inl ⟨by show 0 ≤ op; omega, by show op ≤ 2; omega⟩, .inr rfl⟩]; decide), if_neg (by show ¬ (op = 9 ∨ op = 10); omega), if_neg (by show ¬ op = 8; omega), if_neg (by show ¬ (decide (op = 0) ≠ false); rw [decide_eq_false (by omega)]; simp)]
  rfl
/-- One of more. -/
theorem step_more (most : Int) (op : Int) (fin : Bool) (t d : List Nat) : step most ⟨0, false, true, op, t⟩ ⟨fin, 0, false, zero4, d⟩ = more most fin op (t ++ d) := by
  unfold step
  rw [if_neg (by rw [form_of ⟨.inl ⟨by show (0 : Int) ≤ 0; omega, by show (0 : Int) ≤ 2; omega⟩, .inr rfl⟩]; decide), if_neg (by show ¬ ((0 : Int) = 9 ∨ (0 : Int) = 10); omega), if_neg (by show ¬ (0 : Int) = 8; omega), if_neg (by show ¬ (decide ((0 : Int) = 0) ≠ true); simp)]
  rfl
/-- More of no message. -/
theorem step_more_none (most : Int) (fin : Bool) (d : List Nat) : step most M0 ⟨fin, 0, false, zero4, d⟩ = (bad 120, none) := by
  unfold step
  rw [if_neg (by rw [form_of ⟨.inl ⟨by show (0 : Int) ≤ 0; omega, by show (0 : Int) ≤ 2; omega⟩, .inr rfl⟩]; decide), if_neg (by show ¬ ((0 : Int) = 9 ∨ (0 : Int) = 10); omega), if_neg (by show ¬ (0 : Int) = 8; omega), if_pos (by show decide ((0 : Int) = 0) ≠ false; simp)]
/-- A message in one that is begun. -/
theorem step_in (most : Int) {op : Int} (ho : op = 1 ∨ op = 2) (o' : Int) (fin : Bool) (t d : List Nat) : step most ⟨0, false, true, o', t⟩ ⟨fin, op, false, zero4, d⟩ = (bad 120, none) := by
  unfold step
  rw [if_neg (by rw [form_of ⟨.inl ⟨by show 0 ≤ op; omega, by show op ≤ 2; omega⟩, .inr rfl⟩]; decide), if_neg (by show ¬ (op = 9 ∨ op = 10); omega), if_neg (by show ¬ op = 8; omega), if_pos (by show decide (op = 0) ≠ true; rw [decide_eq_false (by omega)]; simp)]
theorem okT_bin (fin : Bool) (t : List Nat) : okT 2 fin t = true := by unfold okT; simp
/-- Binary ones have no letters. -/
theorem more_bin (most : Int) (fin : Bool) (t : List Nat) : more most fin 2 t = if most < (t.length : Int) then (bad 121, none) else if fin = true then (M0, some ⟨2, 0, t⟩) else (⟨0, false, true, 2, t⟩, none) := by
  unfold more
  rw [if_neg (c := okT 2 fin t = false) (by rw [okT_bin]; decide)]
/-- Whether frames were masked doesn't matter. -/
theorem take_mask (most : Int) (st : Ms) (fin : Bool) (op : Int) (k d : List Nat) : take most st ⟨fin, op, true, k, d⟩ = take most st ⟨fin, op, false, zero4, d⟩ := by
  have h := form_mask (f := ⟨fin, op, false, zero4, d⟩) rfl rfl k
  unfold take step
  rw [h]
theorem uright_take' (l : List Nat) : ∀ (s : UtfPlain.St) (i : Nat), uright s (l.take i) = min i (uright s l) := by
  induction l with
  | nil => intro s i; simp [uright]
  | cons b r ih =>
    intro s i
    match i with
    | 0 => simp [uright]
    | i + 1 =>
      simp only [List.take_succ_cons, uright]
      cases ustep s b with
      | none => simp
      | some t => simp only [ih t i]; omega
/-- A beginning of bytes that are right is right. -/
theorem part_right {t : List Nat} {k : Nat} (h : uright s0 (t.take k) < (t.take k).length) : uright s0 t < t.length := by
  have h1 := uright_take' t s0 k
  rw [List.length_take] at h
  rw [h1] at h
  omega
/-- A part that is wrong makes the whole wrong, by the same error. -/
theorem more_part {most : Int} {op : Int} {t : List Nat} {k : Nat} (hm : (t.length : Int) ≤ most) (h : (more most false op (t.take k)).1.err ≠ 0) : more most false op (t.take k) = (bad 122, none) ∧ more most true op t = (bad 122, none) := by
  have hk : ¬ most < ((t.take k).length : Int) := by rw [List.length_take]; omega
  have a : okT op false (t.take k) = false := by
    by_cases a : okT op false (t.take k) = false
    · exact a
    · unfold more at h
      rw [if_neg hk, if_neg a] at h
      exact absurd rfl h
  have b : okT op true t = false := by
    unfold okT at a ⊢
    simp only [Bool.not_eq_false', Bool.and_eq_true, decide_eq_true_eq, Bool.false_and, Bool.or_false] at a
    simp only [Bool.not_eq_false', Bool.and_eq_true, decide_eq_true_eq, Bool.or_eq_true]
    exact ⟨a.1, .inl (part_right a.2)⟩
  exact ⟨by unfold more; rw [if_neg hk, if_pos a], by unfold more; rw [if_neg (by omega), if_pos b]⟩
theorem more_go {most : Int} {op : Int} {t : List Nat} (h : (more most false op t).1.err = 0) : more most false op t = (⟨0, false, true, op, t⟩, none) := by
  unfold more at h ⊢
  by_cases a : most < (t.length : Int)
  · rw [if_pos a] at h; cases h
  rw [if_neg a] at h ⊢
  by_cases b : okT op false t = false
  · rw [if_pos b] at h; cases h
  rw [if_neg b]
  rfl
theorem more_err (most : Int) (fin : Bool) (op : Int) (t : List Nat) : (more most fin op t).1.err = 0 ∨ ((more most fin op t).2 = none ∧ ((more most fin op t).1 = bad 121 ∨ (more most fin op t).1 = bad 122)) := by
  unfold more
  split
  · exact .inr ⟨rfl, .inl rfl⟩
  split
  · exact .inr ⟨rfl, .inr rfl⟩
  split
  · exact .inl rfl
  · exact .inl rfl
end MsgPlain
