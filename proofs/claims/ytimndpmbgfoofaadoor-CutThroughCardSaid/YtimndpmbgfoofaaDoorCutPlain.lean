/- cut, plain: a message as frames, and joined again; what such frames come to. -/
import Derived.Test.YtimndpmbgfoofaaDoorMsgPlain
namespace CutPlain
open FramePlain (Fr Fr0 form ctl zero4 form_of)
open MsgPlain
open UtfPlain (s0 uright)

/-- A message as frames of at most so many bytes, by at most n + 1 of them. -/
def frsN : Nat → Nat → Int → List Nat → List Fr
  | 0, _, op, t => [⟨true, op, false, zero4, t⟩]
  | n + 1, most, op, t => if t.length ≤ most then [⟨true, op, false, zero4, t⟩] else ⟨false, op, false, zero4, t.take most⟩ :: frsN n most 0 (t.drop most)
def frs (most : Nat) (op : Int) (t : List Nat) : List Fr := frsN t.length most op t
theorem frsN_more {most : Nat} (hm : 1 ≤ most) : ∀ (n k : Nat) (op : Int) (t : List Nat), t.length ≤ n → t.length ≤ k → frsN n most op t = frsN k most op t
  | 0, 0, _, _, _, _ => rfl
  | 0, k + 1, op, t, h, _ => by
    have : t = [] := List.eq_nil_of_length_eq_zero (by omega)
    subst this
    simp [frsN]
  | n + 1, 0, op, t, _, h => by
    have : t = [] := List.eq_nil_of_length_eq_zero (by omega)
    subst this
    simp [frsN]
  | n + 1, k + 1, op, t, h1, h2 => by
    simp only [frsN]
    by_cases h : t.length ≤ most
    · rw [if_pos h, if_pos h]
    · rw [if_neg h, if_neg h, frsN_more hm n k 0 (t.drop most) (by rw [List.length_drop]; omega) (by rw [List.length_drop]; omega)]
/-- The last one, or one and the rest. -/
theorem frs_last {most : Nat} {op : Int} {t : List Nat} (h : t.length ≤ most) : frs most op t = [⟨true, op, false, zero4, t⟩] := by
  unfold frs
  cases ht : t.length with
  | zero => rfl
  | succ n => simp only [frsN]; rw [if_pos h]
theorem frs_more {most : Nat} (hm : 1 ≤ most) {op : Int} {t : List Nat} (h : ¬ t.length ≤ most) : frs most op t = ⟨false, op, false, zero4, t.take most⟩ :: frs most 0 (t.drop most) := by
  unfold frs
  match hl : t.length with
  | 0 => omega
  | n + 1 =>
    simp only [frsN]
    rw [if_neg h, frsN_more hm n (t.drop most).length 0 (t.drop most) (by rw [List.length_drop]; omega) (Nat.le_refl _)]
theorem frs_pos (most : Nat) (hm : 1 ≤ most) (op : Int) (t : List Nat) : 0 < (frs most op t).length := by
  by_cases h : t.length ≤ most
  · rw [frs_last h]; exact Nat.one_pos
  · rw [frs_more hm h]; simp
/-- How many they are. -/
def cnt (size most : Nat) : Nat := if size = 0 then 1 else (size + most - 1) / most
theorem cnt_one {size most : Nat} (hm : 1 ≤ most) (h : size ≤ most) : cnt size most = 1 := by
  unfold cnt
  by_cases h0 : size = 0
  · rw [if_pos h0]
  · rw [if_neg h0]
    refine Nat.div_eq_of_lt_le ?_ ?_ <;> omega
theorem cnt_more {size most : Nat} (hm : 1 ≤ most) (h : ¬ size ≤ most) : cnt size most = cnt (size - most) most + 1 := by
  unfold cnt
  rw [if_neg (by omega), if_neg (by omega)]
  have e : size + most - 1 = size - most + most - 1 + most := by omega
  rw [e, Nat.add_div_right _ (by omega)]
theorem frs_length {most : Nat} (hm : 1 ≤ most) : ∀ (n : Nat) (op : Int) (t : List Nat), t.length ≤ n → (frs most op t).length = cnt t.length most
  | n, op, t, hn => by
    by_cases h : t.length ≤ most
    · rw [frs_last h, cnt_one hm h]; rfl
    · match n, hn with
      | 0, hn => omega
      | n + 1, hn =>
        rw [frs_more hm h, List.length_cons, frs_length hm n 0 (t.drop most) (by rw [List.length_drop]; omega), List.length_drop, cnt_more hm h]
/-- So many are enough, and one less isn't. -/
theorem cnt_enough {size most : Nat} (hm : 1 ≤ most) : 1 ≤ cnt size most ∧ size ≤ cnt size most * most ∧ (cnt size most = 1 ∨ (cnt size most - 1) * most < size) ∧ cnt size most ≤ size + 1 := by
  unfold cnt
  by_cases h : size = 0
  · rw [if_pos h]; omega
  · rw [if_neg h]
    have h1 := Nat.div_add_mod (size + most - 1) most
    have h2 := Nat.mod_lt (size + most - 1) (show 0 < most by omega)
    generalize (size + most - 1) / most = q at *
    have hc : most * q = q * most := Nat.mul_comm _ _
    have hq : 1 ≤ q := by
      rcases Nat.eq_zero_or_pos q with h0 | h0
      · subst h0; simp at h1; omega
      · exact h0
    have hs : (q - 1) * most = q * most - most := by rw [Nat.sub_mul, Nat.one_mul]
    have hqm : q ≤ q * most := Nat.le_mul_of_pos_right q hm
    refine ⟨hq, by omega, .inr (by omega), ?_⟩
    have : q - 1 ≤ (q - 1) * most := Nat.le_mul_of_pos_right (q - 1) hm
    omega
/-- The i-th of them. -/
theorem frs_get {most : Nat} (hm : 1 ≤ most) : ∀ (i : Nat) (op : Int) (t : List Nat), i < (frs most op t).length →
    (frs most op t).getD i Fr0 = ⟨decide (i + 1 = (frs most op t).length), if i = 0 then op else 0, false, zero4, (t.drop (i * most)).take most⟩
  | i, op, t, hi => by
    by_cases h : t.length ≤ most
    · rw [frs_last h] at hi ⊢
      obtain rfl : i = 0 := by simpa using hi
      simp [List.take_of_length_le h]
    · rw [frs_more hm h] at hi ⊢
      have hp := frs_pos most hm 0 (t.drop most)
      match i, hi with
      | 0, _ =>
        rw [List.getD_cons_zero, if_pos rfl, Nat.zero_mul, List.drop_zero, decide_eq_false (by rw [List.length_cons]; omega)]
      | i + 1, hi =>
        have hi' : i < (frs most 0 (t.drop most)).length := by simpa using hi
        have hg := frs_get hm i 0 (t.drop most) hi'
        rw [List.getD_cons_succ, hg]
        simp only [List.length_cons, List.drop_drop, Nat.add_right_cancel_iff, ite_self, Nat.add_eq_zero_iff, Nat.one_ne_zero, and_false, if_false]
        congr 3
        rw [Nat.succ_mul]; omega
/-- Their data joined are the data. -/
def dataOf (l : List Fr) : List Nat := l.flatMap Fr.data
theorem dataOf_cons (f : Fr) (l : List Fr) : dataOf (f :: l) = f.data ++ dataOf l := rfl
theorem dataOf_append (a b : List Fr) : dataOf (a ++ b) = dataOf a ++ dataOf b := by simp [dataOf]
theorem frs_data {most : Nat} (hm : 1 ≤ most) : ∀ (n : Nat) (op : Int) (t : List Nat), t.length ≤ n → dataOf (frs most op t) = t
  | n, op, t, hn => by
    by_cases h : t.length ≤ most
    · rw [frs_last h]; simp [dataOf]
    · match n, hn with
      | 0, hn => omega
      | n + 1, hn =>
        rw [frs_more hm h, dataOf_cons, frs_data hm n 0 (t.drop most) (by rw [List.length_drop]; omega), List.take_append_drop]
/-- May frames be joined? One by one: first is whether none came yet. -/
def okJ : Bool → List Fr → Bool
  | _, [] => false
  | first, [f] => f.fin && (if first then decide (f.op = 1 ∨ f.op = 2) else decide (f.op = 0))
  | first, f :: g :: l => !f.fin && (if first then decide (f.op = 1 ∨ f.op = 2) else decide (f.op = 0)) && okJ false (g :: l)
def join (l : List Fr) : Int × List Nat × Bool := if okJ true l then ((l.getD 0 Fr0).op, dataOf l, true) else (0, [], false)
theorem okJ_cons (first : Bool) (f : Fr) {l : List Fr} (hl : l ≠ []) : okJ first (f :: l) = (!f.fin && (if first then decide (f.op = 1 ∨ f.op = 2) else decide (f.op = 0)) && okJ false l) := by
  match l, hl with
  | g :: l, _ => rfl
theorem okJ_frs {most : Nat} (hm : 1 ≤ most) : ∀ (n : Nat) (first : Bool) (op : Int) (t : List Nat), t.length ≤ n → (if first then op = 1 ∨ op = 2 else op = 0) → okJ first (frs most op t) = true
  | n, first, op, t, hn, ho => by
    have hc : (if first then decide (op = 1 ∨ op = 2) else decide (op = 0)) = true := by
      cases first
      · exact decide_eq_true ho
      · exact decide_eq_true ho
    by_cases h : t.length ≤ most
    · rw [frs_last h]; show (true && _) = true; rw [Bool.true_and]; exact hc
    · match n, hn with
      | 0, hn => omega
      | n + 1, hn =>
        have hp := frs_pos most hm 0 (t.drop most)
        rw [frs_more hm h, okJ_cons first _ (fun e => by rw [e] at hp; simp at hp), okJ_frs hm n false 0 (t.drop most) (by rw [List.length_drop]; omega) rfl]
        show (!false && _ && true) = true
        rw [hc]; rfl
theorem join_frs {most : Nat} (hm : 1 ≤ most) {op : Int} (ho : op = 1 ∨ op = 2) (t : List Nat) : join (frs most op t) = (op, t, true) := by
  unfold join
  rw [if_pos (okJ_frs hm t.length true op t (Nat.le_refl _) ho), frs_data hm t.length op t (Nat.le_refl _), frs_get hm 0 op t (frs_pos most hm op t)]
  rfl
/-- Only the last one of frames that may be joined has Fin. -/
theorem okJ_fin : ∀ {first : Bool} {l : List Fr}, okJ first l = true → ∀ i, i < l.length → (l.getD i Fr0).fin = decide (i + 1 = l.length)
  | first, [f], h, i, hi => by
    obtain rfl : i = 0 := by simpa using hi
    simp only [okJ, Bool.and_eq_true] at h
    simpa using h.1
  | first, f :: g :: l, h, i, hi => by
    simp only [okJ, Bool.and_eq_true, Bool.not_eq_true'] at h
    match i, hi with
    | 0, _ => simp [h.1.1]
    | i + 1, hi =>
      have := okJ_fin h.2 i (by simpa using hi)
      rw [List.getD_cons_succ, this]
      simp
theorem okJ_ne {first : Bool} {l : List Fr} (h : okJ first l = true) : l ≠ [] := fun e => by subst e; cases h
theorem okJ_op : ∀ {first : Bool} {l : List Fr}, okJ first l = true → ∀ i, i < l.length → (if i = 0 ∧ first = true then (l.getD i Fr0).op = 1 ∨ (l.getD i Fr0).op = 2 else (l.getD i Fr0).op = 0)
  | first, [f], h, i, hi => by
    obtain rfl : i = 0 := by simpa using hi
    simp only [okJ, Bool.and_eq_true] at h
    cases first <;> simpa using h.2
  | first, f :: g :: l, h, i, hi => by
    simp only [okJ, Bool.and_eq_true, Bool.not_eq_true'] at h
    match i, hi with
    | 0, _ => cases first <;> simpa using h.1.2
    | i + 1, hi =>
      have := okJ_op h.2 i (by simpa using hi)
      rw [List.getD_cons_succ]
      simpa using this
/-- Frames of a message through a machine: the state behind i of them. -/
def mid (op : Int) (t : List Nat) (most i : Nat) : Ms := if i = 0 then M0 else ⟨0, false, true, op, t.take (i * most)⟩
theorem mid_take {B : Int} {most : Nat} {op : Int} {t : List Nat} {i : Nat} (ho : op = 1 ∨ op = 2) (hi : i * most ≤ t.length) (fin : Bool) :
    MsgPlain.take B (mid op t most i) ⟨fin, if i = 0 then op else 0, false, zero4, (t.drop (i * most)).take most⟩ = more B fin op (t.take ((i + 1) * most)) := by
  have e : t.take (i * most) ++ (t.drop (i * most)).take most = t.take ((i + 1) * most) := by
    rw [Nat.succ_mul, List.take_add]
  unfold mid
  by_cases h : i = 0
  · subst h
    rw [if_pos rfl, if_pos rfl, take_go B rfl rfl, ← e]
    simp only [Nat.zero_mul, List.take_zero, List.drop_zero, List.nil_append]
    exact step_first B ho fin _
  · rw [if_neg h, if_neg h, take_go B rfl rfl, ← e]
    exact step_more B op fin _ _
/-- Of more than one no one is empty. -/
theorem frs_full {most : Nat} (hm : 1 ≤ most) (op : Int) (t : List Nat) (i : Nat) (hi : i < (frs most op t).length) (h2 : 2 ≤ (frs most op t).length) : 0 < ((frs most op t).getD i Fr0).data.length := by
  rw [frs_get hm i op t hi]
  have hl := frs_length hm t.length op t (Nat.le_refl _)
  obtain ⟨_, _, h3, _⟩ := cnt_enough (size := t.length) hm
  rw [← hl] at h3
  have h4 : ((frs most op t).length - 1) * most < t.length := by
    rcases h3 with h3 | h3
    · omega
    · exact h3
  have h5 : i * most ≤ ((frs most op t).length - 1) * most := Nat.mul_le_mul_right _ (by omega)
  show 0 < ((t.drop (i * most)).take most).length
  rw [List.length_take, List.length_drop]
  omega
theorem split_at (l : List Fr) (k : Nat) (hk : k < l.length) : l = l.take k ++ (l.getD k Fr0 :: l.drop (k + 1)) := by
  have h := (List.take_append_drop k l).symm
  rw [List.drop_eq_getElem_cons hk] at h
  rw [List.getD_eq_getElem?_getD, List.getElem?_eq_getElem hk]
  exact h
/-- Without one of them it is none, or less. -/
theorem once_less {most : Nat} (hm : 1 ≤ most) (op : Int) (t : List Nat) (k : Nat) (hk : k < (frs most op t).length) (h : okJ true ((frs most op t).take k ++ (frs most op t).drop (k + 1)) = true) : (dataOf ((frs most op t).take k ++ (frs most op t).drop (k + 1))).length < t.length := by
  have hd := frs_data hm t.length op t (Nat.le_refl _)
  have hs := split_at (frs most op t) k hk
  have h2 : 2 ≤ (frs most op t).length := by
    have h1 := okJ_ne h
    by_cases h3 : 2 ≤ (frs most op t).length
    · exact h3
    · exfalso
      obtain rfl : k = 0 := by omega
      apply h1
      rw [List.take_zero, List.nil_append, List.drop_eq_nil_of_le (by omega)]
  have hp := frs_full hm op t k hk h2
  have e : dataOf (frs most op t) = dataOf ((frs most op t).take k) ++ (((frs most op t).getD k Fr0).data ++ dataOf ((frs most op t).drop (k + 1))) := by
    rw [← dataOf_cons, ← dataOf_append, ← hs]
  rw [hd] at e
  have e2 := congrArg List.length e
  rw [List.length_append, List.length_append] at e2
  rw [dataOf_append, List.length_append]
  omega
/-- With one of them twice it is none, or more. -/
theorem once_more {most : Nat} (hm : 1 ≤ most) (op : Int) (t : List Nat) (k : Nat) (hk : k < (frs most op t).length) (h : okJ true ((frs most op t).take (k + 1) ++ (frs most op t).drop k) = true) : t.length < (dataOf ((frs most op t).take (k + 1) ++ (frs most op t).drop k)).length := by
  have hd := frs_data hm t.length op t (Nat.le_refl _)
  have hs := split_at (frs most op t) k hk
  have h2 : 2 ≤ (frs most op t).length := by
    by_cases h3 : 2 ≤ (frs most op t).length
    · exact h3
    · exfalso
      have hp := frs_pos most hm op t
      obtain rfl : k = 0 := by omega
      have hl : (frs most op t).length = 1 := by omega
      have hf := okJ_fin h 0 (by rw [List.length_append, List.length_take, List.drop_zero]; omega)
      have hg : ((frs most op t).take (0 + 1) ++ (frs most op t).drop 0).getD 0 Fr0 = (frs most op t).getD 0 Fr0 := by
        rw [List.getD_eq_getElem?_getD, List.getD_eq_getElem?_getD, List.getElem?_append_left (by rw [List.length_take]; omega), List.getElem?_take_of_lt (by omega)]
      rw [hg, frs_get hm 0 op t hk] at hf
      have h4 : decide (0 + 1 = (frs most op t).length) = true := decide_eq_true (by omega)
      have h5 : decide (0 + 1 = ((frs most op t).take (0 + 1) ++ (frs most op t).drop 0).length) = false := decide_eq_false (by rw [List.length_append, List.length_take, List.drop_zero]; omega)
      rw [h5] at hf
      exact Bool.noConfusion (h4.symm.trans hf)
  have hp := frs_full hm op t k hk h2
  have e : dataOf (frs most op t) = dataOf ((frs most op t).take k) ++ (((frs most op t).getD k Fr0).data ++ dataOf ((frs most op t).drop (k + 1))) := by
    rw [← dataOf_cons, ← dataOf_append, ← hs]
  have e3 : (frs most op t).take (k + 1) = (frs most op t).take k ++ [(frs most op t).getD k Fr0] := by
    rw [List.take_add_one, List.getElem?_eq_getElem hk, List.getD_eq_getElem?_getD, List.getElem?_eq_getElem hk]; rfl
  have e4 : (frs most op t).drop k = (frs most op t).getD k Fr0 :: (frs most op t).drop (k + 1) := by
    rw [List.drop_eq_getElem_cons hk, List.getD_eq_getElem?_getD, List.getElem?_eq_getElem hk]; rfl
  rw [hd] at e
  have e2 := congrArg List.length e
  rw [List.length_append, List.length_append] at e2
  have e5 : (dataOf [(frs most op t).getD k Fr0]).length = ((frs most op t).getD k Fr0).data.length := by rw [dataOf_cons, List.length_append]; simp [dataOf]
  have e6 : (dataOf ((frs most op t).take (k + 1))).length = (dataOf ((frs most op t).take k)).length + ((frs most op t).getD k Fr0).data.length := by rw [e3, dataOf_append, List.length_append, e5]
  have e7 : (dataOf ((frs most op t).drop k)).length = ((frs most op t).getD k Fr0).data.length + (dataOf ((frs most op t).drop (k + 1))).length := by rw [e4, dataOf_cons, List.length_append]
  rw [dataOf_append, List.length_append, e6, e7]
  omega
/-- Frames' bytes, or what is wrong with the first that may not be. -/
def bytesF : List Fr → List Nat × Nat
  | [] => ([], 0)
  | f :: l => if FramePlain.chk f ≠ 0 then ([], FramePlain.chk f) else if (bytesF l).2 ≠ 0 then ([], (bytesF l).2) else (FramePlain.text f ++ (bytesF l).1, 0)
theorem bytesF_err : ∀ (l : List Fr), (bytesF l).2 ≠ 0 → (bytesF l).1 = []
  | [], h => absurd rfl h
  | f :: l, h => by
    unfold bytesF at h ⊢
    by_cases h1 : FramePlain.chk f ≠ 0
    · rw [if_pos h1]
    · rw [if_neg h1] at h ⊢
      by_cases h2 : (bytesF l).2 ≠ 0
      · rw [if_pos h2]
      · rw [if_neg h2] at h; exact absurd rfl h
theorem bytesF_append : ∀ (a b : List Fr), bytesF (a ++ b) = if (bytesF a).2 ≠ 0 then ([], (bytesF a).2) else if (bytesF b).2 ≠ 0 then ([], (bytesF b).2) else ((bytesF a).1 ++ (bytesF b).1, 0)
  | [], b => by
    rw [List.nil_append]
    show bytesF b = if (0 : Nat) ≠ 0 then _ else _
    rw [if_neg (by decide)]
    by_cases h : (bytesF b).2 ≠ 0
    · rw [if_pos h, ← bytesF_err b h]
    · rw [if_neg h]
      have h' : (bytesF b).2 = 0 := by omega
      rw [← h']; rfl
  | f :: a, b => by
    rw [List.cons_append]
    simp only [bytesF]
    rw [bytesF_append a b]
    by_cases h1 : FramePlain.chk f = 0 <;> by_cases h2 : (bytesF a).2 = 0 <;> by_cases h3 : (bytesF b).2 = 0 <;> simp [h1, h2, h3]
/-- Frames with masks: K tells a number's key. -/
def msk (K : Nat → List Nat) : List Fr → List Nat → List Fr
  | f :: l, d :: ds => ⟨f.fin, f.op, true, K d, f.data⟩ :: msk K l ds
  | _, _ => []
theorem msk_length (K : Nat → List Nat) : ∀ (l : List Fr) (ds : List Nat), l.length ≤ ds.length → (msk K l ds).length = l.length
  | [], _, _ => by simp [msk]
  | f :: l, [], h => by simp at h
  | f :: l, d :: ds, h => by
    simp only [msk, List.length_cons]
    rw [msk_length K l ds (by simpa using h)]
theorem msk_get (K : Nat → List Nat) : ∀ (l : List Fr) (ds : List Nat) (i : Nat), l.length ≤ ds.length → i < l.length →
    (msk K l ds).getD i Fr0 = ⟨(l.getD i Fr0).fin, (l.getD i Fr0).op, true, K (ds.getD i 0), (l.getD i Fr0).data⟩
  | f :: l, d :: ds, 0, _, _ => rfl
  | f :: l, d :: ds, i + 1, h, hi => by
    simp only [msk, List.getD_cons_succ]
    exact msk_get K l ds i (by simpa using h) (by simpa using hi)
  | f :: l, [], _, h, _ => by simp at h
/-- Frame by frame a message goes through a machine: the last one tells it. -/
theorem mid_step (B : Int) {most : Nat} (hm : 1 ≤ most) {op : Int} (ho : op = 1 ∨ op = 2) (t : List Nat) (K : Nat → List Nat) (ds : List Nat) (hd : (frs most op t).length ≤ ds.length) (i : Nat) (hi : i < (frs most op t).length) :
    MsgPlain.take B (mid op t most i) ((msk K (frs most op t) ds).getD i Fr0) = if i + 1 = (frs most op t).length then more B true op t else more B false op (t.take ((i + 1) * most)) := by
  rw [msk_get K _ ds i hd hi, frs_get hm i op t hi, take_mask]
  have hl := frs_length hm t.length op t (Nat.le_refl _)
  obtain ⟨_, h2, h3, _⟩ := cnt_enough (size := t.length) hm
  rw [← hl] at h2 h3
  have hle : i * most ≤ t.length := by
    by_cases h0 : i = 0
    · subst h0; omega
    · have h4 : i * most ≤ ((frs most op t).length - 1) * most := Nat.mul_le_mul_right _ (by omega)
      rcases h3 with h3 | h3
      · omega
      · omega
  have e := mid_take (B := B) ho hle (decide (i + 1 = (frs most op t).length))
  refine e.trans ?_
  by_cases h : i + 1 = (frs most op t).length
  · rw [if_pos h, decide_eq_true h, List.take_of_length_le (by rw [h]; exact h2)]
  · rw [if_neg h, decide_eq_false h]
/-- A part goes on, or is wrong as the whole is; only letters can be. -/
theorem mid_part {B : Int} {most : Nat} {op : Int} {t : List Nat} (hB : (t.length : Int) ≤ B) (i : Nat) :
    more B false op (t.take ((i + 1) * most)) = (mid op t most (i + 1), none) ∨ (op = 1 ∧ more B false op (t.take ((i + 1) * most)) = (bad 122, none)) := by
  by_cases h : (more B false op (t.take ((i + 1) * most))).1.err = 0
  · left
    rw [more_go h]
    unfold mid
    rw [if_neg (by omega)]
  · right
    have h2 := (more_part hB h).1
    refine ⟨?_, h2⟩
    by_cases h1 : op = 1
    · exact h1
    · exfalso
      apply h
      have hk : ¬ B < ((t.take ((i + 1) * most)).length : Int) := by rw [List.length_take]; omega
      unfold more
      rw [if_neg hk, if_neg (by unfold okT; rw [decide_eq_false h1]; simp), if_neg (by decide)]
theorem whole_end {B : Int} {op : Int} {t : List Nat} (hB : (t.length : Int) ≤ B) : more B true op t = (M0, some ⟨op, 0, t⟩) ∨ (op = 1 ∧ more B true op t = (bad 122, none)) := by
  unfold more
  rw [if_neg (by omega)]
  by_cases h : okT op true t = false
  · right
    rw [if_pos h]
    refine ⟨?_, rfl⟩
    by_cases h1 : op = 1
    · exact h1
    · exfalso
      unfold okT at h
      rw [decide_eq_false h1] at h
      simp at h
  · left
    rw [if_neg h, if_pos rfl]
end CutPlain
