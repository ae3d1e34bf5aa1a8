/- The plain functions behind bytes as letters: what the Go text of package base computes, as functions on natural numbers and lists; nothing here speaks of the program. -/
import Derived.WalkKit
namespace Go.Proofs.YtdcgddoginaioaaDoor
open Go.RowKit

/-- A fact that the walk does not see. -/
structure Sl (p : Prop) : Prop where
  out : p

/-- A row of bytes as cells. -/
def v8 (n : Nat) : Value := .int .u8 (n : Int)
def u8s (l : List Nat) : List Value := l.map v8
@[simp] theorem u8s_length (l : List Nat) : (u8s l).length = l.length := by simp [u8s]
theorem u8s_get (l : List Nat) (i : Nat) (h : i < l.length) : (u8s l)[i]? = some (.int .u8 ((l.getD i 0 : Nat) : Int)) := by
  simp [u8s, v8, List.getElem?_eq_getElem h]
theorem u8s_one (l : List Nat) : ∀ v ∈ u8s l, v.oneCell' = true := by
  intro v hv; simp [u8s, v8] at hv; obtain ⟨n, _, rfl⟩ := hv; rfl
theorem u8s_append (a b : List Nat) : u8s (a ++ b) = u8s a ++ u8s b := by simp [u8s]

/-- Each number of a row is below b. -/
def Small (b : Nat) (l : List Nat) : Prop := ∀ x ∈ l, x < b
theorem Small.append {b : Nat} {l m : List Nat} (h : Small b l) (k : Small b m) : Small b (l ++ m) := fun x hx => by
  rcases List.mem_append.1 hx with hx | hx
  · exact h x hx
  · exact k x hx
theorem Small.take {b : Nat} {l : List Nat} (h : Small b l) (n : Nat) : Small b (l.take n) := fun x hx => h x (List.mem_of_mem_take hx)
theorem Small.drop {b : Nat} {l : List Nat} (h : Small b l) (n : Nat) : Small b (l.drop n) := fun x hx => h x (List.mem_of_mem_drop hx)
theorem Small.getD {b : Nat} {l : List Nat} (h : Small b l) (hb : 0 < b) (i : Nat) : l.getD i 0 < b := by
  by_cases hi : i < l.length
  · simpa [List.getD, List.getElem?_eq_getElem hi] using h _ (List.getElem_mem hi)
  · simpa [List.getD, List.getElem?_eq_none (Nat.le_of_not_lt hi)] using hb

/-- The letter of a number. -/
def letter (n : Nat) : Nat := if n < 26 then n + 65 else if n < 52 then n + 71 else if n < 62 then n - 4 else if n = 62 then 43 else 47
/-- The number of a letter. -/
def num (c : Nat) : Option Nat :=
  if 65 ≤ c ∧ c ≤ 90 then some (c - 65) else if 97 ≤ c ∧ c ≤ 122 then some (c - 71) else if 48 ≤ c ∧ c ≤ 57 then some (c + 4) else if c = 43 then some 62 else if c = 47 then some 63 else none
theorem num_letter (n : Nat) (h : n < 64) : num (letter n) = some n := by
  unfold letter
  split
  · unfold num; rw [if_pos (by omega)]; congr 1
  · split
    · unfold num; rw [if_neg (by omega), if_pos (by omega)]; congr 1
    · split
      · unfold num; rw [if_neg (by omega), if_neg (by omega), if_pos (by omega)]; congr 1; omega
      · split
        · rename_i h; subst h; rfl
        · obtain rfl : n = 63 := by omega
          rfl
theorem num_some {c n : Nat} (h : num c = some n) : n < 64 ∧ letter n = c := by
  unfold num at h
  split at h
  · injection h with h; subst h; unfold letter; exact ⟨by omega, by split <;> omega⟩
  · split at h
    · injection h with h; subst h; unfold letter; exact ⟨by omega, by (repeat' split) <;> omega⟩
    · split at h
      · injection h with h; subst h; unfold letter; exact ⟨by omega, by (repeat' split) <;> omega⟩
      · split at h
        · injection h with h; subst h; unfold letter; exact ⟨by omega, by (repeat' split) <;> omega⟩
        · split at h
          · injection h with h; subst h; unfold letter; exact ⟨by omega, by (repeat' split) <;> omega⟩
          · cases h
theorem letter_ne (n : Nat) (h : n < 64) : letter n ≠ 61 := by
  unfold letter; (repeat' split) <;> omega
theorem letter_lt (n : Nat) (h : n < 64) : letter n < 128 := by
  unfold letter; (repeat' split) <;> omega
theorem letter_inj {m n : Nat} (hm : m < 64) (hn : n < 64) (h : letter m = letter n) : m = n := by
  have := num_letter m hm; rw [h, num_letter n hn] at this; injection this with this; exact this.symm

/-- Bytes as letters. -/
def enc : List Nat → List Nat
  | [] => []
  | [a] => [letter (a / 4), letter (a % 4 * 16), 61, 61]
  | [a, b] => [letter (a / 4), letter (a % 4 * 16 + b / 16), letter (b % 16 * 4), 61]
  | a :: b :: c :: r => letter (a / 4) :: letter (a % 4 * 16 + b / 16) :: letter (b % 16 * 4 + c / 64) :: letter (c % 64) :: enc r

theorem enc_length : ∀ l : List Nat, (enc l).length = 4 * ((l.length + 2) / 3)
  | [] => rfl
  | [_] => by simp [enc]
  | [_, _] => by simp [enc]
  | _ :: _ :: _ :: r => by
    have := enc_length r
    simp only [enc, List.length_cons, this]; omega
theorem enc_append : ∀ (a b : List Nat), a.length % 3 = 0 → enc (a ++ b) = enc a ++ enc b
  | [], b, _ => rfl
  | [_], b, h => by simp at h
  | [_, _], b, h => by simp at h
  | x :: y :: z :: r, b, h => by
    have := enc_append r b (by simp only [List.length_cons] at h; omega)
    simp [enc, this]
theorem enc_small : ∀ l : List Nat, Small 256 l → Small 128 (enc l)
  | [], _ => fun x hx => by cases hx
  | [a], h => fun x hx => by
    have ha := h a (by simp)
    simp only [enc, List.mem_cons, List.not_mem_nil, or_false] at hx
    rcases hx with rfl | rfl | rfl | rfl
    · exact letter_lt _ (by omega)
    · exact letter_lt _ (by omega)
    · decide
    · decide
  | [a, b], h => fun x hx => by
    have ha := h a (by simp)
    have hb := h b (by simp)
    simp only [enc, List.mem_cons, List.not_mem_nil, or_false] at hx
    rcases hx with rfl | rfl | rfl | rfl
    · exact letter_lt _ (by omega)
    · exact letter_lt _ (by omega)
    · exact letter_lt _ (by omega)
    · decide
  | a :: b :: c :: r, h => fun x hx => by
    have ha := h a (by simp)
    have hb := h b (by simp)
    have hc := h c (by simp)
    simp only [enc, List.mem_cons] at hx
    rcases hx with rfl | rfl | rfl | rfl | hx
    · exact letter_lt _ (by omega)
    · exact letter_lt _ (by omega)
    · exact letter_lt _ (by omega)
    · exact letter_lt _ (by omega)
    · exact enc_small r (fun y hy => h y (by simp [hy])) x hx

/-- What one letter's number makes of the bits that are held, and of the bytes that were told. -/
def step (s : Nat × Nat × List Nat) (n : Nat) : Nat × Nat × List Nat :=
  if 2 ≤ s.2.1 then ((s.1 * 64 + n) % 2 ^ (s.2.1 - 2), s.2.1 - 2, s.2.2 ++ [(s.1 * 64 + n) / 2 ^ (s.2.1 - 2)]) else (s.1 * 64 + n, s.2.1 + 6, s.2.2)
/-- Letters read, one by one. -/
def rdGo : List Nat → Nat × Nat × List Nat → Option (Nat × Nat × List Nat)
  | [], s => some s
  | c :: r, s => match num c with
    | none => none
    | some n => rdGo r (step s n)
/-- Without one = at the end. -/
def trim1 (l : List Nat) : List Nat := if l.getLast? = some 61 then l.dropLast else l
/-- The bytes of letters. -/
def rd (s : List Nat) : Option (List Nat) :=
  if s.length % 4 = 0 then
    match rdGo (trim1 (trim1 s)) (0, 0, []) with
    | none => none
    | some (b, _, out) => if b = 0 then some out else none
  else none

theorem trim1_append (l : List Nat) : trim1 (l ++ [61]) = l := by simp [trim1]
theorem trim1_same (l : List Nat) (c : Nat) (h : c ≠ 61) : trim1 (l ++ [c]) = l ++ [c] := by simp [trim1, h]
theorem trim1_cases (l : List Nat) : trim1 l = l ∨ trim1 l ++ [61] = l := by
  unfold trim1
  split
  · rename_i h
    right
    have hne : l ≠ [] := by intro e; simp [e] at h
    have h2 := List.dropLast_concat_getLast hne
    rw [List.getLast?_eq_some_getLast hne] at h
    injection h with h
    rw [h] at h2; exact h2
  · exact .inl rfl

theorem rdGo_cons {c n : Nat} (r : List Nat) (s : Nat × Nat × List Nat) (h : num c = some n) : rdGo (c :: r) s = rdGo r (step s n) := by simp [rdGo, h]
theorem step0 (n : Nat) (acc : List Nat) : step (0, 0, acc) n = (n, 6, acc) := by simp [step]
theorem step6 (b n : Nat) (acc : List Nat) : step (b, 6, acc) n = ((b * 64 + n) % 16, 4, acc ++ [(b * 64 + n) / 16]) := by simp [step]
theorem step4 (b n : Nat) (acc : List Nat) : step (b, 4, acc) n = ((b * 64 + n) % 4, 2, acc ++ [(b * 64 + n) / 4]) := by simp [step]
theorem step2 (b n : Nat) (acc : List Nat) : step (b, 2, acc) n = (0, 0, acc ++ [b * 64 + n]) := by simp [step]; omega
theorem rdGo_four {c0 c1 c2 c3 n0 n1 n2 n3 : Nat} (r acc : List Nat) (h0 : num c0 = some n0) (h1 : num c1 = some n1) (h2 : num c2 = some n2) (h3 : num c3 = some n3) :
    rdGo (c0 :: c1 :: c2 :: c3 :: r) (0, 0, acc) = rdGo r (0, 0, acc ++ [(n0 * 64 + n1) / 16, ((n0 * 64 + n1) % 16 * 64 + n2) / 4, ((n0 * 64 + n1) % 16 * 64 + n2) % 4 * 64 + n3]) := by
  rw [rdGo_cons _ _ h0, step0, rdGo_cons _ _ h1, step6, rdGo_cons _ _ h2, step4, rdGo_cons _ _ h3, step2]
  simp

/-- The letters of bytes without what fills them up. -/
def body : List Nat → List Nat
  | [] => []
  | [a] => [letter (a / 4), letter (a % 4 * 16)]
  | [a, b] => [letter (a / 4), letter (a % 4 * 16 + b / 16), letter (b % 16 * 4)]
  | a :: b :: c :: r => letter (a / 4) :: letter (a % 4 * 16 + b / 16) :: letter (b % 16 * 4 + c / 64) :: letter (c % 64) :: body r
theorem rdGo_body : ∀ (l acc : List Nat), Small 256 l → ∃ h, rdGo (body l) (0, 0, acc) = some (0, h, acc ++ l)
  | [], acc, _ => ⟨0, by simp [body, rdGo]⟩
  | [a], acc, hl => by
    have ha := hl a (by simp)
    refine ⟨4, ?_⟩
    rw [body, rdGo_cons _ _ (num_letter _ (by omega)), step0, rdGo_cons _ _ (num_letter _ (by omega)), step6]
    simp only [rdGo, Option.some.injEq, Prod.mk.injEq, true_and]
    exact ⟨by omega, by congr 2; omega⟩
  | [a, b], acc, hl => by
    have ha := hl a (by simp)
    have hb := hl b (by simp)
    refine ⟨2, ?_⟩
    rw [body, rdGo_cons _ _ (num_letter _ (by omega)), step0, rdGo_cons _ _ (num_letter _ (by omega)), step6, rdGo_cons _ _ (num_letter _ (by omega)), step4]
    simp only [rdGo, Option.some.injEq, Prod.mk.injEq, true_and, List.append_assoc, List.cons_append, List.nil_append]
    exact ⟨by omega, by
      have e1 : (a / 4 * 64 + (a % 4 * 16 + b / 16)) / 16 = a := by omega
      have e2 : ((a / 4 * 64 + (a % 4 * 16 + b / 16)) % 16 * 64 + b % 16 * 4) / 4 = b := by omega
      rw [e1, e2]⟩
  | a :: b :: c :: r, acc, hl => by
    have ha := hl a (by simp)
    have hb := hl b (by simp)
    have hc := hl c (by simp)
    obtain ⟨h, ih⟩ := rdGo_body r (acc ++ [a, b, c]) (fun x hx => hl x (by simp [hx]))
    refine ⟨h, ?_⟩
    rw [body, rdGo_four _ _ (num_letter _ (by omega)) (num_letter _ (by omega)) (num_letter _ (by omega)) (num_letter _ (by omega))]
    have e1 : (a / 4 * 64 + (a % 4 * 16 + b / 16)) / 16 = a := by omega
    have e2 : ((a / 4 * 64 + (a % 4 * 16 + b / 16)) % 16 * 64 + (b % 16 * 4 + c / 64)) / 4 = b := by omega
    have e3 : ((a / 4 * 64 + (a % 4 * 16 + b / 16)) % 16 * 64 + (b % 16 * 4 + c / 64)) % 4 * 64 + c % 64 = c := by omega
    rw [e1, e2, e3, ih]
    simp
theorem enc_body : ∀ l : List Nat, enc l = body l ++ List.replicate ((3 - l.length % 3) % 3) 61
  | [] => rfl
  | [_] => rfl
  | [_, _] => rfl
  | _ :: _ :: _ :: r => by
    have := enc_body r
    simp only [enc, body, List.length_cons, this, List.cons_append]
    rw [show (r.length + 1 + 1 + 1) % 3 = r.length % 3 by omega]
/-- Letters without what fills them up don't end in =. -/
theorem body_last : ∀ l : List Nat, Small 256 l → (body l).getLast? ≠ some 61
  | [], _ => by simp [body]
  | [a], h => by have := h a (by simp); simp [body]; exact letter_ne _ (by omega)
  | [a, b], h => by have := h b (by simp); simp [body]; exact letter_ne _ (by omega)
  | a :: b :: c :: r, h => by
    have hc := letter_ne (c % 64) (by omega)
    have ih := body_last r (fun x hx => h x (by simp [hx]))
    cases hr : body r with
    | nil => simp [body, hr]; exact hc
    | cons x t =>
      rw [hr] at ih
      simpa [body, hr, List.getLast?_cons_cons] using ih
theorem trim_enc (l : List Nat) (h : Small 256 l) : trim1 (trim1 (enc l)) = body l := by
  have hb : trim1 (body l) = body l := by unfold trim1; rw [if_neg (body_last l h)]
  rw [enc_body]
  have hc : (3 - l.length % 3) % 3 = 0 ∨ (3 - l.length % 3) % 3 = 1 ∨ (3 - l.length % 3) % 3 = 2 := by omega
  rcases hc with hc | hc | hc <;> rw [hc]
  · simp [hb]
  · rw [show List.replicate 1 61 = [61] from rfl, trim1_append, hb]
  · rw [show List.replicate 2 61 = [61] ++ [61] from rfl, ← List.append_assoc, trim1_append, trim1_append]
theorem rd_enc (l : List Nat) (h : Small 256 l) : rd (enc l) = some l := by
  unfold rd
  obtain ⟨k, hk⟩ := rdGo_body l [] h
  rw [if_pos (by rw [enc_length]; omega), trim_enc l h, hk]
  simp
theorem enc_inj {a b : List Nat} (ha : Small 256 a) (hb : Small 256 b) (h : enc a = enc b) : a = b := by
  have := rd_enc a ha; rw [h, rd_enc b hb] at this; injection this with this; exact this.symm

theorem num_of_rdGo {c : Nat} {r : List Nat} {s t : Nat × Nat × List Nat} (h : rdGo (c :: r) s = some t) : ∃ n, num c = some n ∧ rdGo r (step s n) = some t := by
  unfold rdGo at h
  cases hc : num c with
  | none => rw [hc] at h; cases h
  | some n => rw [hc] at h; exact ⟨n, rfl, h⟩
theorem list_four {P : List Nat → Prop} (h0 : P []) (h1 : ∀ a, P [a]) (h2 : ∀ a b, P [a, b]) (h3 : ∀ a b c, P [a, b, c]) (h4 : ∀ a b c d r, P r → P (a :: b :: c :: d :: r)) : ∀ l, P l
  | [] => h0
  | [a] => h1 a
  | [a, b] => h2 a b
  | [a, b, c] => h3 a b c
  | a :: b :: c :: d :: r => h4 a b c d r (list_four h0 h1 h2 h3 h4 r)
/-- What is read is bytes whose letters these are. -/
theorem body_of_rdGo (t : List Nat) : ∀ (acc out : List Nat) (k : Nat), rdGo t (0, 0, acc) = some (0, k, out) → t.length % 4 ≠ 1 → ∃ o, out = acc ++ o ∧ Small 256 o ∧ body o = t ∧ o.length = t.length * 3 / 4 := by
  refine list_four (P := fun t => ∀ (acc out : List Nat) (k : Nat), rdGo t (0, 0, acc) = some (0, k, out) → t.length % 4 ≠ 1 → ∃ o, out = acc ++ o ∧ Small 256 o ∧ body o = t ∧ o.length = t.length * 3 / 4) ?_ ?_ ?_ ?_ ?_ t
  · intro acc out k h _
    simp only [rdGo, Option.some.injEq, Prod.mk.injEq, true_and] at h
    exact ⟨[], by simp [h.2], (fun x hx => by cases hx), rfl, rfl⟩
  · intro a acc out k _ h; simp at h
  · intro a b acc out k h _
    obtain ⟨n0, e0, h⟩ := num_of_rdGo h
    obtain ⟨n1, e1, h⟩ := num_of_rdGo h
    rw [step0, step6] at h
    simp only [rdGo, Option.some.injEq, Prod.mk.injEq] at h
    obtain ⟨hz, _, rfl⟩ := h
    obtain ⟨l0, rfl⟩ := num_some e0
    obtain ⟨l1, rfl⟩ := num_some e1
    refine ⟨[(n0 * 64 + n1) / 16], rfl, fun x hx => by simp at hx; omega, ?_, by simp⟩
    simp only [body, List.cons.injEq, and_true]
    exact ⟨by congr 1; omega, by congr 1; omega⟩
  · intro a b c acc out k h _
    obtain ⟨n0, e0, h⟩ := num_of_rdGo h
    obtain ⟨n1, e1, h⟩ := num_of_rdGo h
    obtain ⟨n2, e2, h⟩ := num_of_rdGo h
    rw [step0, step6, step4] at h
    simp only [rdGo, Option.some.injEq, Prod.mk.injEq] at h
    obtain ⟨hz, _, rfl⟩ := h
    obtain ⟨l0, rfl⟩ := num_some e0
    obtain ⟨l1, rfl⟩ := num_some e1
    obtain ⟨l2, rfl⟩ := num_some e2
    refine ⟨[(n0 * 64 + n1) / 16, ((n0 * 64 + n1) % 16 * 64 + n2) / 4], by simp, fun x hx => by simp at hx; omega, ?_, by simp⟩
    simp only [body, List.cons.injEq, and_true]
    exact ⟨by congr 1; omega, by congr 1; omega, by congr 1; omega⟩
  · intro a b c d r ih acc out k h hl
    obtain ⟨n0, e0, h'⟩ := num_of_rdGo h
    obtain ⟨n1, e1, h'⟩ := num_of_rdGo h'
    obtain ⟨n2, e2, h'⟩ := num_of_rdGo h'
    obtain ⟨n3, e3, _⟩ := num_of_rdGo h'
    rw [rdGo_four _ _ e0 e1 e2 e3] at h
    obtain ⟨l0, rfl⟩ := num_some e0
    obtain ⟨l1, rfl⟩ := num_some e1
    obtain ⟨l2, rfl⟩ := num_some e2
    obtain ⟨l3, rfl⟩ := num_some e3
    obtain ⟨o, ho, hs, hb, hn⟩ := ih _ _ _ h (by simp only [List.length_cons] at hl; omega)
    refine ⟨(n0 * 64 + n1) / 16 :: ((n0 * 64 + n1) % 16 * 64 + n2) / 4 :: (((n0 * 64 + n1) % 16 * 64 + n2) % 4 * 64 + n3) :: o, by rw [ho]; simp, fun x hx => ?_, ?_, by simp only [List.length_cons, hn]; omega⟩
    · simp only [List.mem_cons] at hx
      rcases hx with rfl | rfl | rfl | hx
      · omega
      · omega
      · omega
      · exact hs x hx
    · simp only [body, hb, List.cons.injEq, and_true]
      exact ⟨by congr 1; omega, by congr 1; omega, by congr 1; omega, by congr 1; omega⟩
theorem enc_of_rd {s b : List Nat} (h : rd s = some b) : enc b = s ∧ Small 256 b := by
  unfold rd at h
  split at h
  · rename_i h4
    cases hg : rdGo (trim1 (trim1 s)) (0, 0, []) with
    | none => rw [hg] at h; cases h
    | some r =>
      obtain ⟨z, k, out⟩ := r
      rw [hg] at h
      simp only at h
      split at h
      · rename_i hz
        injection h with h
        subst hz h
        have key : ∀ (t pad : List Nat), trim1 (trim1 s) = t → s = t ++ pad → (pad = [] ∨ pad = [61] ∨ pad = [61, 61]) → enc out = s ∧ Small 256 out := by
          intro t pad ht hs hp
          rw [ht] at hg
          have hlen : s.length = t.length + pad.length := by rw [hs]; simp
          obtain ⟨o, ho, hsm, hb, hn⟩ := body_of_rdGo t [] out k hg (by rcases hp with rfl | rfl | rfl <;> simp at hlen <;> omega)
          simp only [List.nil_append] at ho
          subst ho
          refine ⟨?_, hsm⟩
          rw [enc_body, hb, hs]
          congr 1
          rcases hp with rfl | rfl | rfl <;> simp only [List.length_nil, List.length_cons] at hlen
          · rw [show (3 - out.length % 3) % 3 = 0 by omega]; rfl
          · rw [show (3 - out.length % 3) % 3 = 1 by omega]; rfl
          · rw [show (3 - out.length % 3) % 3 = 2 by omega]; rfl
        rcases trim1_cases s with e1 | e1
        · rcases trim1_cases (trim1 s) with e2 | e2
          · exact key s [] (by rw [e2, e1]) (by simp) (.inl rfl)
          · exact key (trim1 (trim1 s)) [61] rfl (by rw [e2, e1]) (.inr (.inl rfl))
        · rcases trim1_cases (trim1 s) with e2 | e2
          · exact key (trim1 s) [61] e2 e1.symm (.inr (.inl rfl))
          · exact key (trim1 (trim1 s)) [61, 61] rfl (by
              conv => lhs; rw [← e1, ← e2]
              simp) (.inr (.inr rfl))
      · cases h
  · cases h
theorem rd_iff {s b : List Nat} : rd s = some b ↔ enc b = s ∧ Small 256 b := ⟨enc_of_rd, fun ⟨h, hs⟩ => by rw [← h]; exact rd_enc b hs⟩
end Go.Proofs.YtdcgddoginaioaaDoor
