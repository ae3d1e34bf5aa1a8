/- The plain functions behind bytes as letters: what the Go text of package base computes, as functions on natural numbers and lists; nothing here speaks of the program. -/
import Derived.WalkKit
import Derived.Test.YthlagngpllahkaaGreatDoorRows
import Derived.WalkSpells
import Derived.WalkLawsBesides
import Derived.Deep.WholeRow
import Derived.Deep.MidRow
import Derived.Deep.QuietTactic
import Derived.BigQuiet
import Derived.BigRegion
import Derived.Lib.Hide
import Derived.StillTailTactics
import Derived.Laws.BitsAllLaws
import Derived.IntWalk
import Derived.Laws.CopyOwn
import Derived.Laws.IdiomStrings
import Derived.Laws.BytesArg
import Derived.Lib.SlBytesConst
import Derived.Deep.RegionHeld3
set_option maxRecDepth 100000
namespace Go.Proofs.YthlagngpllahkaaGreatDoor.Bas
open Go.RowKit

/-- A fact that the walk does not see. -/
structure Sl (p : Prop) : Prop where
  out : p

/-- A row of bytes as cells. -/
def v8 (n : Nat) : Value := .int .u8 (n : Int)
def u8s (l : List Nat) : List Value := l.map v8
@[simp] theorem u8s_length (l : List Nat) : (u8s l).length = l.length := by simp [u8s]
theorem u8s_get (l : List Nat) (i : Nat) (h : i < l.length) : (u8s l)[i]? = some (.int .u8 ((l.getD i 0 : Nat) : Int)) := by
  simp [u8s, v8, List.getElem?_eq_getElem h]
theorem u8s_one (l : List Nat) : ∀ v ∈ u8s l, v.oneCell' = true := by
  intro v hv; simp [u8s, v8] at hv; obtain ⟨n, _, rfl⟩ := hv; rfl
theorem u8s_append (a b : List Nat) : u8s (a ++ b) = u8s a ++ u8s b := by simp [u8s]

/-- Each number of a row is below b. -/
def Small (b : Nat) (l : List Nat) : Prop := ∀ x ∈ l, x < b
theorem Small.append {b : Nat} {l m : List Nat} (h : Small b l) (k : Small b m) : Small b (l ++ m) := fun x hx => by
  rcases List.mem_append.1 hx with hx | hx
  · exact h x hx
  · exact k x hx
theorem Small.take {b : Nat} {l : List Nat} (h : Small b l) (n : Nat) : Small b (l.take n) := fun x hx => h x (List.mem_of_mem_take hx)
theorem Small.drop {b : Nat} {l : List Nat} (h : Small b l) (n : Nat) : Small b (l.drop n) := fun x hx => h x (List.mem_of_mem_drop hx)
theorem Small.getD {b : Nat} {l : List Nat} (h : Small b l) (hb : 0 < b) (i : Nat) : l.getD i 0 < b := by
  by_cases hi : i < l.length
  · simpa [List.getD, List.getElem?_eq_getElem hi] using h _ (List.getElem_mem hi)
  · simpa [List.getD, List.getElem?_eq_none (Nat.le_of_not_lt hi)] using hb

/-- The letter of a number. -/
def letter (n : Nat) : Nat := if n < 26 then n + 65 else if n < 52 then n + 71 else if n < 62 then n - 4 else if n = 62 then 43 else 47
/-- The number of a letter. -/
def num (c : Nat) : Option Nat :=
  if 65 ≤ c ∧ c ≤ 90 then some (c - 65) else if 97 ≤ c ∧ c ≤ 122 then some (c - 71) else if 48 ≤ c ∧ c ≤ 57 then some (c + 4) else if c = 43 then some 62 else if c = 47 then some 63 else none
theorem num_letter (n : Nat) (h : n < 64) : num (letter n) = some n := by
  unfold letter
  split
  · unfold num; rw [if_pos (by omega)]; congr 1
  · split
    · unfold num; rw [if_neg (by omega), if_pos (by omega)]; congr 1
    · split
      · unfold num; rw [if_neg (by omega), if_neg (by omega), if_pos (by omega)]; congr 1; omega
      · split
        · rename_i h; subst h; rfl
        · obtain rfl : n = 63 := by omega
          rfl
theorem num_some {c n : Nat} (h : num c = some n) : n < 64 ∧ letter n = c := by
  unfold num at h
  split at h
  · injection h with h; subst h; unfold letter; exact ⟨by omega, by split <;> omega⟩
  · split at h
    · injection h with h; subst h; unfold letter; exact ⟨by omega, by (repeat' split) <;> omega⟩
    · split at h
      · injection h with h; subst h; unfold letter; exact ⟨by omega, by (repeat' split) <;> omega⟩
      · split at h
        · injection h with h; subst h; unfold letter; exact ⟨by omega, by (repeat' split) <;> omega⟩
        · split at h
          · injection h with h; subst h; unfold letter; exact ⟨by omega, by (repeat' split) <;> omega⟩
          · cases h
theorem letter_ne (n : Nat) (h : n < 64) : letter n ≠ 61 := by
  unfold letter; (repeat' split) <;> omega
theorem letter_lt (n : Nat) (h : n < 64) : letter n < 128 := by
  unfold letter; (repeat' split) <;> omega
theorem letter_inj {m n : Nat} (hm : m < 64) (hn : n < 64) (h : letter m = letter n) : m = n := by
  have := num_letter m hm; rw [h, num_letter n hn] at this; injection this with this; exact this.symm

/-- Bytes as letters. -/
def enc : List Nat → List Nat
  | [] => []
  | [a] => [letter (a / 4), letter (a % 4 * 16), 61, 61]
  | [a, b] => [letter (a / 4), letter (a % 4 * 16 + b / 16), letter (b % 16 * 4), 61]
  | a :: b :: c :: r => letter (a / 4) :: letter (a % 4 * 16 + b / 16) :: letter (b % 16 * 4 + c / 64) :: letter (c % 64) :: enc r

theorem enc_length : ∀ l : List Nat, (enc l).length = 4 * ((l.length + 2) / 3)
  | [] => rfl
  | [_] => by simp [enc]
  | [_, _] => by simp [enc]
  | _ :: _ :: _ :: r => by
    have := enc_length r
    simp only [enc, List.length_cons, this]; omega
theorem enc_append : ∀ (a b : List Nat), a.length % 3 = 0 → enc (a ++ b) = enc a ++ enc b
  | [], b, _ => rfl
  | [_], b, h => by simp at h
  | [_, _], b, h => by simp at h
  | x :: y :: z :: r, b, h => by
    have := enc_append r b (by simp only [List.length_cons] at h; omega)
    simp [enc, this]
theorem enc_small : ∀ l : List Nat, Small 256 l → Small 128 (enc l)
  | [], _ => fun x hx => by cases hx
  | [a], h => fun x hx => by
    have ha := h a (by simp)
    simp only [enc, List.mem_cons, List.not_mem_nil, or_false] at hx
    rcases hx with rfl | rfl | rfl | rfl
    · exact letter_lt _ (by omega)
    · exact letter_lt _ (by omega)
    · decide
    · decide
  | [a, b], h => fun x hx => by
    have ha := h a (by simp)
    have hb := h b (by simp)
    simp only [enc, List.mem_cons, List.not_mem_nil, or_false] at hx
    rcases hx with rfl | rfl | rfl | rfl
    · exact letter_lt _ (by omega)
    · exact letter_lt _ (by omega)
    · exact letter_lt _ (by omega)
    · decide
  | a :: b :: c :: r, h => fun x hx => by
    have ha := h a (by simp)
    have hb := h b (by simp)
    have hc := h c (by simp)
    simp only [enc, List.mem_cons] at hx
    rcases hx with rfl | rfl | rfl | rfl | hx
    · exact letter_lt _ (by omega)
    · exact letter_lt _ (by omega)
    · exact letter_lt _ (by omega)
    · exact letter_lt _ (by omega)
    · exact enc_small r (fun y hy => h y (by simp [hy])) x hx

/-- What one letter's number makes of the bits that are held, and of the bytes that were told. -/
def step (s : Nat × Nat × List Nat) (n : Nat) : Nat × Nat × List Nat :=
  if 2 ≤ s.2.1 then ((s.1 * 64 + n) % 2 ^ (s.2.1 - 2), s.2.1 - 2, s.2.2 ++ [(s.1 * 64 + n) / 2 ^ (s.2.1 - 2)]) else (s.1 * 64 + n, s.2.1 + 6, s.2.2)
/-- Letters read, one by one. -/
def rdGo : List Nat → Nat × Nat × List Nat → Option (Nat × Nat × List Nat)
  | [], s => some s
  | c :: r, s => match num c with
    | none => none
    | some n => rdGo r (step s n)
/-- Without one = at the end. -/
def trim1 (l : List Nat) : List Nat := if l.getLast? = some 61 then l.dropLast else l
/-- The bytes of letters. -/
def rd (s : List Nat) : Option (List Nat) :=
  if s.length % 4 = 0 then
    match rdGo (trim1 (trim1 s)) (0, 0, []) with
    | none => none
    | some (b, _, out) => if b = 0 then some out else none
  else none

theorem trim1_append (l : List Nat) : trim1 (l ++ [61]) = l := by simp [trim1]
theorem trim1_same (l : List Nat) (c : Nat) (h : c ≠ 61) : trim1 (l ++ [c]) = l ++ [c] := by simp [trim1, h]
theorem trim1_cases (l : List Nat) : trim1 l = l ∨ trim1 l ++ [61] = l := by
  unfold trim1
  split
  · rename_i h
    right
    have hne : l ≠ [] := by intro e; simp [e] at h
    have h2 := List.dropLast_concat_getLast hne
    rw [List.getLast?_eq_some_getLast hne] at h
    injection h with h
    rw [h] at h2; exact h2
  · exact .inl rfl

theorem rdGo_cons {c n : Nat} (r : List Nat) (s : Nat × Nat × List Nat) (h : num c = some n) : rdGo (c :: r) s = rdGo r (step s n) := by simp [rdGo, h]
theorem step0 (n : Nat) (acc : List Nat) : step (0, 0, acc) n = (n, 6, acc) := by simp [step]
theorem step6 (b n : Nat) (acc : List Nat) : step (b, 6, acc) n = ((b * 64 + n) % 16, 4, acc ++ [(b * 64 + n) / 16]) := by simp [step]
theorem step4 (b n : Nat) (acc : List Nat) : step (b, 4, acc) n = ((b * 64 + n) % 4, 2, acc ++ [(b * 64 + n) / 4]) := by simp [step]
theorem step2 (b n : Nat) (acc : List Nat) : step (b, 2, acc) n = (0, 0, acc ++ [b * 64 + n]) := by simp [step]; omega
theorem rdGo_four {c0 c1 c2 c3 n0 n1 n2 n3 : Nat} (r acc : List Nat) (h0 : num c0 = some n0) (h1 : num c1 = some n1) (h2 : num c2 = some n2) (h3 : num c3 = some n3) :
    rdGo (c0 :: c1 :: c2 :: c3 :: r) (0, 0, acc) = rdGo r (0, 0, acc ++ [(n0 * 64 + n1) / 16, ((n0 * 64 + n1) % 16 * 64 + n2) / 4, ((n0 * 64 + n1) % 16 * 64 + n2) % 4 * 64 + n3]) := by
  rw [rdGo_cons _ _ h0, step0, rdGo_cons _ _ h1, step6, rdGo_cons _ _ h2, step4, rdGo_cons _ _ h3, step2]
  simp

/-- The letters of bytes without what fills them up. -/
def body : List Nat → List Nat
  | [] => []
  | [a] => [letter (a / 4), letter (a % 4 * 16)]
  | [a, b] => [letter (a / 4), letter (a % 4 * 16 + b / 16), letter (b % 16 * 4)]
  | a :: b :: c :: r => letter (a / 4) :: letter (a % 4 * 16 + b / 16) :: letter (b % 16 * 4 + c / 64) :: letter (c % 64) :: body r
theorem rdGo_body : ∀ (l acc : List Nat), Small 256 l → ∃ h, rdGo (body l) (0, 0, acc) = some (0, h, acc ++ l)
  | [], acc, _ => ⟨0, by simp [body, rdGo]⟩
  | [a], acc, hl => by
    have ha := hl a (by simp)
    refine ⟨4, ?_⟩
    rw [body, rdGo_cons _ _ (num_letter _ (by omega)), step0, rdGo_cons _ _ (num_letter _ (by omega)), step6]
    simp only [rdGo, Option.some.injEq, Prod.mk.injEq, true_and]
    exact ⟨by omega, by congr 2; omega⟩
  | [a, b], acc, hl => by
    have ha := hl a (by simp)
    have hb := hl b (by simp)
    refine ⟨2, ?_⟩
    rw [body, rdGo_cons _ _ (num_letter _ (by omega)), step0, rdGo_cons _ _ (num_letter _ (by omega)), step6, rdGo_cons _ _ (num_letter _ (by omega)), step4]
    simp only [rdGo, Option.some.injEq, Prod.mk.injEq, true_and, List.append_assoc, List.cons_append, List.nil_append]
    exact ⟨by omega, by
      have e1 : (a / 4 * 64 + (a % 4 * 16 + b / 16)) / 16 = a := by omega
      have e2 : ((a / 4 * 64 + (a % 4 * 16 + b / 16)) % 16 * 64 + b % 16 * 4) / 4 = b := by omega
      rw [e1, e2]⟩
  | a :: b :: c :: r, acc, hl => by
    have ha := hl a (by simp)
    have hb := hl b (by simp)
    have hc := hl c (by simp)
    obtain ⟨h, ih⟩ := rdGo_body r (acc ++ [a, b, c]) (fun x hx => hl x (by simp [hx]))
    refine ⟨h, ?_⟩
    rw [body, rdGo_four _ _ (num_letter _ (by omega)) (num_letter _ (by omega)) (num_letter _ (by omega)) (num_letter _ (by omega))]
    have e1 : (a / 4 * 64 + (a % 4 * 16 + b / 16)) / 16 = a := by omega
    have e2 : ((a / 4 * 64 + (a % 4 * 16 + b / 16)) % 16 * 64 + (b % 16 * 4 + c / 64)) / 4 = b := by omega
    have e3 : ((a / 4 * 64 + (a % 4 * 16 + b / 16)) % 16 * 64 + (b % 16 * 4 + c / 64)) % 4 * 64 + c % 64 = c := by omega
    rw [e1, e2, e3, ih]
    simp
theorem enc_body : ∀ l : List Nat, enc l = body l ++ List.replicate ((3 - l.length % 3) % 3) 61
  | [] => rfl
  | [_] => rfl
  | [_, _] => rfl
  | _ :: _ :: _ :: r => by
    have := enc_body r
    simp only [enc, body, List.length_cons, this, List.cons_append]
    rw [show (r.length + 1 + 1 + 1) % 3 = r.length % 3 by omega]
/-- Letters without what fills them up don't end in =. -/
theorem body_last : ∀ l : List Nat, Small 256 l → (body l).getLast? ≠ some 61
  | [], _ => by simp [body]
  | [a], h => by have := h a (by simp); simp [body]; exact letter_ne _ (by omega)
  | [a, b], h => by have := h b (by simp); simp [body]; exact letter_ne _ (by omega)
  | a :: b :: c :: r, h => by
    have hc := letter_ne (c % 64) (by omega)
    have ih := body_last r (fun x hx => h x (by simp [hx]))
    cases hr : body r with
    | nil => simp [body, hr]; exact hc
    | cons x t =>
      rw [hr] at ih
      simpa [body, hr, List.getLast?_cons_cons] using ih
theorem trim_enc (l : List Nat) (h : Small 256 l) : trim1 (trim1 (enc l)) = body l := by
  have hb : trim1 (body l) = body l := by unfold trim1; rw [if_neg (body_last l h)]
  rw [enc_body]
  have hc : (3 - l.length % 3) % 3 = 0 ∨ (3 - l.length % 3) % 3 = 1 ∨ (3 - l.length % 3) % 3 = 2 := by omega
  rcases hc with hc | hc | hc <;> rw [hc]
  · simp [hb]
  · rw [show List.replicate 1 61 = [61] from rfl, trim1_append, hb]
  · rw [show List.replicate 2 61 = [61] ++ [61] from rfl, ← List.append_assoc, trim1_append, trim1_append]
theorem rd_enc (l : List Nat) (h : Small 256 l) : rd (enc l) = some l := by
  unfold rd
  obtain ⟨k, hk⟩ := rdGo_body l [] h
  rw [if_pos (by rw [enc_length]; omega), trim_enc l h, hk]
  simp
theorem enc_inj {a b : List Nat} (ha : Small 256 a) (hb : Small 256 b) (h : enc a = enc b) : a = b := by
  have := rd_enc a ha; rw [h, rd_enc b hb] at this; injection this with this; exact this.symm

theorem num_of_rdGo {c : Nat} {r : List Nat} {s t : Nat × Nat × List Nat} (h : rdGo (c :: r) s = some t) : ∃ n, num c = some n ∧ rdGo r (step s n) = some t := by
  unfold rdGo at h
  cases hc : num c with
  | none => rw [hc] at h; cases h
  | some n => rw [hc] at h; exact ⟨n, rfl, h⟩
theorem list_four {P : List Nat → Prop} (h0 : P []) (h1 : ∀ a, P [a]) (h2 : ∀ a b, P [a, b]) (h3 : ∀ a b c, P [a, b, c]) (h4 : ∀ a b c d r, P r → P (a :: b :: c :: d :: r)) : ∀ l, P l
  | [] => h0
  | [a] => h1 a
  | [a, b] => h2 a b
  | [a, b, c] => h3 a b c
  | a :: b :: c :: d :: r => h4 a b c d r (list_four h0 h1 h2 h3 h4 r)
/-- What is read is bytes whose letters these are. -/
theorem body_of_rdGo (t : List Nat) : ∀ (acc out : List Nat) (k : Nat), rdGo t (0, 0, acc) = some (0, k, out) → t.length % 4 ≠ 1 → ∃ o, out = acc ++ o ∧ Small 256 o ∧ body o = t ∧ o.length = t.length * 3 / 4 := by
  refine list_four (P := fun t => ∀ (acc out : List Nat) (k : Nat), rdGo t (0, 0, acc) = some (0, k, out) → t.length % 4 ≠ 1 → ∃ o, out = acc ++ o ∧ Small 256 o ∧ body o = t ∧ o.length = t.length * 3 / 4) ?_ ?_ ?_ ?_ ?_ t
  · intro acc out k h _
    simp only [rdGo, Option.some.injEq, Prod.mk.injEq, true_and] at h
    exact ⟨[], by simp [h.2], (fun x hx => by cases hx), rfl, rfl⟩
  · intro a acc out k _ h; simp at h
  · intro a b acc out k h _
    obtain ⟨n0, e0, h⟩ := num_of_rdGo h
    obtain ⟨n1, e1, h⟩ := num_of_rdGo h
    rw [step0, step6] at h
    simp only [rdGo, Option.some.injEq, Prod.mk.injEq] at h
    obtain ⟨hz, _, rfl⟩ := h
    obtain ⟨l0, rfl⟩ := num_some e0
    obtain ⟨l1, rfl⟩ := num_some e1
    refine ⟨[(n0 * 64 + n1) / 16], rfl, fun x hx => by simp at hx; omega, ?_, by simp⟩
    simp only [body, List.cons.injEq, and_true]
    exact ⟨by congr 1; omega, by congr 1; omega⟩
  · intro a b c acc out k h _
    obtain ⟨n0, e0, h⟩ := num_of_rdGo h
    obtain ⟨n1, e1, h⟩ := num_of_rdGo h
    obtain ⟨n2, e2, h⟩ := num_of_rdGo h
    rw [step0, step6, step4] at h
    simp only [rdGo, Option.some.injEq, Prod.mk.injEq] at h
    obtain ⟨hz, _, rfl⟩ := h
    obtain ⟨l0, rfl⟩ := num_some e0
    obtain ⟨l1, rfl⟩ := num_some e1
    obtain ⟨l2, rfl⟩ := num_some e2
    refine ⟨[(n0 * 64 + n1) / 16, ((n0 * 64 + n1) % 16 * 64 + n2) / 4], by simp, fun x hx => by simp at hx; omega, ?_, by simp⟩
    simp only [body, List.cons.injEq, and_true]
    exact ⟨by congr 1; omega, by congr 1; omega, by congr 1; omega⟩
  · intro a b c d r ih acc out k h hl
    obtain ⟨n0, e0, h'⟩ := num_of_rdGo h
    obtain ⟨n1, e1, h'⟩ := num_of_rdGo h'
    obtain ⟨n2, e2, h'⟩ := num_of_rdGo h'
    obtain ⟨n3, e3, _⟩ := num_of_rdGo h'
    rw [rdGo_four _ _ e0 e1 e2 e3] at h
    obtain ⟨l0, rfl⟩ := num_some e0
    obtain ⟨l1, rfl⟩ := num_some e1
    obtain ⟨l2, rfl⟩ := num_some e2
    obtain ⟨l3, rfl⟩ := num_some e3
    obtain ⟨o, ho, hs, hb, hn⟩ := ih _ _ _ h (by simp only [List.length_cons] at hl; omega)
    refine ⟨(n0 * 64 + n1) / 16 :: ((n0 * 64 + n1) % 16 * 64 + n2) / 4 :: (((n0 * 64 + n1) % 16 * 64 + n2) % 4 * 64 + n3) :: o, by rw [ho]; simp, fun x hx => ?_, ?_, by simp only [List.length_cons, hn]; omega⟩
    · simp only [List.mem_cons] at hx
      rcases hx with rfl | rfl | rfl | hx
      · omega
      · omega
      · omega
      · exact hs x hx
    · simp only [body, hb, List.cons.injEq, and_true]
      exact ⟨by congr 1; omega, by congr 1; omega, by congr 1; omega, by congr 1; omega⟩
theorem enc_of_rd {s b : List Nat} (h : rd s = some b) : enc b = s ∧ Small 256 b := by
  unfold rd at h
  split at h
  · rename_i h4
    cases hg : rdGo (trim1 (trim1 s)) (0, 0, []) with
    | none => rw [hg] at h; cases h
    | some r =>
      obtain ⟨z, k, out⟩ := r
      rw [hg] at h
      simp only at h
      split at h
      · rename_i hz
        injection h with h
        subst hz h
        have key : ∀ (t pad : List Nat), trim1 (trim1 s) = t → s = t ++ pad → (pad = [] ∨ pad = [61] ∨ pad = [61, 61]) → enc out = s ∧ Small 256 out := by
          intro t pad ht hs hp
          rw [ht] at hg
          have hlen : s.length = t.length + pad.length := by rw [hs]; simp
          obtain ⟨o, ho, hsm, hb, hn⟩ := body_of_rdGo t [] out k hg (by rcases hp with rfl | rfl | rfl <;> simp at hlen <;> omega)
          simp only [List.nil_append] at ho
          subst ho
          refine ⟨?_, hsm⟩
          rw [enc_body, hb, hs]
          congr 1
          rcases hp with rfl | rfl | rfl <;> simp only [List.length_nil, List.length_cons] at hlen
          · rw [show (3 - out.length % 3) % 3 = 0 by omega]; rfl
          · rw [show (3 - out.length % 3) % 3 = 1 by omega]; rfl
          · rw [show (3 - out.length % 3) % 3 = 2 by omega]; rfl
        rcases trim1_cases s with e1 | e1
        · rcases trim1_cases (trim1 s) with e2 | e2
          · exact key s [] (by rw [e2, e1]) (by simp) (.inl rfl)
          · exact key (trim1 (trim1 s)) [61] rfl (by rw [e2, e1]) (.inr (.inl rfl))
        · rcases trim1_cases (trim1 s) with e2 | e2
          · exact key (trim1 s) [61] e2 e1.symm (.inr (.inl rfl))
          · exact key (trim1 (trim1 s)) [61, 61] rfl (by
              conv => lhs; rw [← e1, ← e2]
              simp) (.inr (.inr rfl))
      · cases h
  · cases h
theorem rd_iff {s b : List Nat} : rd s = some b ↔ enc b = s ∧ Small 256 b := ⟨enc_of_rd, fun ⟨h, hs⟩ => by rw [← h]; exact rd_enc b hs⟩
end Go.Proofs.YthlagngpllahkaaGreatDoor.Bas
/- Contracts of numberOf, lettersOf and Size of package base, and of TrimSuffix with the one text that it is called with: each computes the plain function of its name; nothing that was in memory changes. -/
namespace Go.Proofs.YthlagngpllahkaaGreatDoor.Bas
open Go.RowKit

theorem alloc_new (w : World) (o : Obj) (k : Nat) (h : k = w.heap.size) : (w.alloc o).heap[k]? = some o := by
  subst h; show (w.heap.push o)[w.heap.size]? = _; simp
theorem alloc_size (w : World) (o : Obj) : (w.alloc o).heap.size = w.heap.size + 1 := by show (w.heap.push o).size = _; simp

/-- What numberOf answers. -/
def numV (c : Nat) : Value := .tuple #[.int .u32 (((num c).getD 0 : Nat) : Int), .bool (num c).isSome]

theorem ret_numV (a : Int) (n : Nat) (b : Bool) (h : a = (n : Int)) : Ending.returned (.tuple #[.int .u32 a, .bool b]) = .returned (.tuple #[.int .u32 ((n : Nat) : Int), .bool b]) := by rw [h]
set_option maxHeartbeats 1000000 in
theorem number_any (c : Nat) (w : World) (h : c ≤ 2147483647) :
    Calls Tryz.prog 172 #[.int .i32 (c : Int)] w fun e w' => e = .returned (numV c) ∧ w = w' := by
  unfold numV num
  by_cases k1 : 65 ≤ c ∧ c ≤ 90
  · rw [if_pos k1]
    obtain ⟨h1, h2⟩ := k1
    go_enter Tryz.func172, Tryz.ntmps172
    go_wp2
    go_ret2
    exact ⟨ret_numV _ _ _ (by simp; omega), rfl⟩
  · rw [if_neg k1]
    by_cases k2 : 97 ≤ c ∧ c ≤ 122
    · rw [if_pos k2]
      obtain ⟨h1, h2⟩ := k2
      clear k1
      go_enter Tryz.func172, Tryz.ntmps172
      go_wp2
      go_ret2
      exact ⟨ret_numV _ _ _ (by simp; omega), rfl⟩
    · rw [if_neg k2]
      by_cases k3 : 48 ≤ c ∧ c ≤ 57
      · rw [if_pos k3]
        obtain ⟨h1, h2⟩ := k3
        clear k1 k2
        go_enter Tryz.func172, Tryz.ntmps172
        go_wp2
        go_ret2
        exact ⟨ret_numV _ _ _ (by simp; omega), rfl⟩
      · rw [if_neg k3]
        by_cases k4 : c = 43
        · subst k4
          rw [if_pos rfl]
          clear k1 k2 k3
          go_enter Tryz.func172, Tryz.ntmps172
          go_wp2
          go_ret2
          exact ⟨rfl, rfl⟩
        · rw [if_neg k4]
          by_cases k5 : c = 47
          · subst k5
            rw [if_pos rfl]
            clear k1 k2 k3
            go_enter Tryz.func172, Tryz.ntmps172
            go_wp2
            go_ret2
            exact ⟨rfl, rfl⟩
          · rw [if_neg k5]
            have h4 : ((c : Int) == 43) = false := by simp; omega
            have h5 : ((c : Int) == 47) = false := by simp; omega
            have K1 := Sl.mk k1
            have K2 := Sl.mk k2
            have K3 := Sl.mk k3
            clear k1 k2 k3 k4 k5
            go_enter Tryz.func172, Tryz.ntmps172
            go_wp2
            all_goals first
              | (go_ret2; exact ⟨rfl, rfl⟩)
              | (exfalso; have := K1.out; have := K2.out; have := K3.out; omega)

theorem ret_int {k : IntKind} {a b : Int} (h : a = b) : Ending.returned (.int k a) = .returned (.int k b) := by rw [h]
theorem letters_any (n : Nat) (w : World) (h : n ≤ 140737488351232) :
    Calls Tryz.prog 85 #[.int .i64 (n : Int)] w fun e w' => e = .returned (.int .i64 ((4 * ((n + 2) / 3) : Nat) : Int)) ∧ w = w' := by
  by_cases h0 : n % 3 = 0
  · have h1 : ¬ (0 : Int) < (n : Int) % 3 := by omega
    clear h0
    go_enter Tryz.func85, Tryz.ntmps85
    go_wp2
    go_ret
    exact ⟨ret_int (by omega), rfl⟩
  · have h1 : (0 : Int) < (n : Int) % 3 := by omega
    clear h0
    go_enter Tryz.func85, Tryz.ntmps85
    go_wp2
    go_ret
    exact ⟨ret_int (by omega), rfl⟩

/-- How many letters so many bytes are. -/
def sizeI (n : Int) : Int := if n < 1 ∨ n > 1073741824 then 0 else 4 * ((n + 2) / 3)
end Go.Proofs.YthlagngpllahkaaGreatDoor.Bas
/- TrimSuffix with = as the text to be cut off. -/
namespace Go.Proofs.YthlagngpllahkaaGreatDoor.Bas
open Go.RowKit

/-- A string's bytes. -/
def bytes (s : ByteArray) : List Nat := s.data.toList.map (·.toNat)
theorem bytes_length (s : ByteArray) : (bytes s).length = s.size := by unfold bytes; rw [List.length_map, Array.length_toList]; rfl
theorem bytes_small (s : ByteArray) : Small 256 (bytes s) := fun x hx => by
  simp only [bytes, List.mem_map] at hx
  obtain ⟨b, _, rfl⟩ := hx
  exact b.toNat_lt
theorem bytes_append (a b : ByteArray) : bytes (a ++ b) = bytes a ++ bytes b := by simp [bytes]
theorem bytes_getD (s : ByteArray) (i : Nat) (hi : i < s.size) : (bytes s).getD i 0 = (s.data[i]'hi).toNat := by
  have hi' : i < s.data.size := hi
  simp only [bytes, List.getD, List.getElem?_map, Array.getElem?_toList, Array.getElem?_eq_getElem hi']
  rfl
theorem bytes_inj {a b : ByteArray} (h : bytes a = bytes b) : a = b := by
  unfold bytes at h
  have h2 : a.data.toList = b.data.toList := by
    have := (List.map_inj_right (fun x y (e : UInt8.toNat x = UInt8.toNat y) => UInt8.toNat_inj.1 e)).1 h
    exact this
  cases a; cases b
  simp at h2
  simp [h2]
theorem bytes_extract (s : ByteArray) (i j : Nat) : bytes (s.extract i j) = ((bytes s).take j).drop i := by
  unfold bytes
  rw [ByteArray.data_extract, Array.toList_extract, List.extract_eq_take_drop, ← List.map_take, ← List.map_drop]
  congr 1
  rw [List.drop_take]

/-- Without one = at the end. -/
def trimS (s : ByteArray) : ByteArray := if (bytes s).getLast? = some 61 then s.extract 0 (s.size - 1) else s
theorem bytes_trimS (s : ByteArray) : bytes (trimS s) = trim1 (bytes s) := by
  unfold trimS trim1
  split
  · rw [bytes_extract, List.drop_zero, List.dropLast_eq_take, bytes_length]
  · rfl
theorem size_trimS (s : ByteArray) : (trimS s).size ≤ s.size := by
  unfold trimS; split
  · rw [ByteArray.size_extract]; omega
  · exact Nat.le_refl _
theorem drop_last (l : List Nat) (c : Nat) (h : l ≠ []) : l.drop (l.length - 1) = [c] ↔ l.getLast? = some c := by
  obtain ⟨m, x, rfl⟩ : ∃ m x, l = m ++ [x] := ⟨_, _, (List.dropLast_concat_getLast h).symm⟩
  simp
theorem toList_bytes (x : ByteArray) : bytes x = x.toList.map (·.toNat) := by rw [ByteArray.toList_eq]; rfl
theorem toNat_inj_map {a b : List UInt8} (h : a.map (·.toNat) = b.map (·.toNat)) : a = b := (List.map_inj_right (fun x y (e : UInt8.toNat x = UInt8.toNat y) => UInt8.toNat_inj.1 e)).1 h
/-- Strings are compared by their bytes. -/
theorem beq_bytes (a : ByteArray) (l : List UInt8) : (a.toList == l) = decide (bytes a = l.map (·.toNat)) := by
  rw [Bool.eq_iff_iff, toList_bytes]
  simp only [beq_iff_eq, decide_eq_true_eq]
  exact ⟨fun h => by rw [h], toNat_inj_map⟩
theorem beq_bytes2 (a b : ByteArray) : (a.toList == b.toList) = decide (bytes a = bytes b) := by rw [beq_bytes, ← toList_bytes]
theorem last_eq (s : ByteArray) (h : 1 ≤ s.size) : ((s.extract (s.size - 1) s.size).toList == [61]) = decide ((bytes s).getLast? = some 61) := by
  rw [beq_bytes, bytes_extract, List.take_of_length_le (by rw [bytes_length]; exact Nat.le_refl _), ← bytes_length]
  have hne : bytes s ≠ [] := by intro e; have := bytes_length s; rw [e] at this; simp at this; omega
  exact decide_eq_decide.2 (drop_last (bytes s) 61 hne)
theorem ret_bool {a b : Bool} (h : a = b) : Ending.returned (.bool a) = .returned (.bool b) := by rw [h]

theorem has_yes (s : ByteArray) (w : World) (h : 1 ≤ s.size) (hs : s.size ≤ 140737488351232) :
    Calls Tryz.prog 195 #[.string s, .string { data := #[61] }] w fun e w' => e = .returned (.bool (decide ((bytes s).getLast? = some 61))) ∧ w = w' := by
  have h1 : (1 : Int) ≤ (s.size : Int) := by omega
  go_enter Tryz.func195, Tryz.ntmps195
  go_wp2
  go_ret
  exact ⟨ret_bool (last_eq s h), rfl⟩
theorem has_no (s : ByteArray) (w : World) (h : s.size = 0) :
    Calls Tryz.prog 195 #[.string s, .string { data := #[61] }] w fun e w' => e = .returned (.bool false) ∧ w = w' := by
  obtain rfl : s = ByteArray.empty := ByteArray.size_eq_zero_iff.1 h
  clear h
  go_enter Tryz.func195, Tryz.ntmps195
  go_wp2
  go_ret
  exact ⟨rfl, rfl⟩
theorem trimSuffix_any (s : ByteArray) (w : World) (hs : s.size ≤ 140737488351232) :
    Calls Tryz.prog 186 #[.string s, .string { data := #[61] }] w fun e w' => e = .returned (.string (trimS s)) ∧ w = w' := by
  by_cases h : 1 ≤ s.size
  · have h1 : (1 : Int) ≤ (s.size : Int) := by omega
    unfold trimS
    by_cases hl : (bytes s).getLast? = some 61
    · rw [if_pos hl]
      have hd : decide ((bytes s).getLast? = some 61) = true := decide_eq_true hl
      have HC := Sl.mk (fun w => has_yes s w h hs)
      rw [hd] at HC
      clear hl hd
      go_enter Tryz.func186, Tryz.ntmps186
      go_wp2_with fail
      refine (HC.out _).mono ?_
      rintro e w' ⟨rfl, rfl⟩
      go_wp2
      go_ret
      exact ⟨rfl, rfl⟩
    · rw [if_neg hl]
      have hd : decide ((bytes s).getLast? = some 61) = false := decide_eq_false hl
      have HC := Sl.mk (fun w => has_yes s w h hs)
      rw [hd] at HC
      clear hl hd
      go_enter Tryz.func186, Tryz.ntmps186
      go_wp2_with fail
      refine (HC.out _).mono ?_
      rintro e w' ⟨rfl, rfl⟩
      go_wp2
      go_ret
      exact ⟨rfl, rfl⟩
  · have h0 : s.size = 0 := by omega
    have e : trimS s = s := by
      unfold trimS; rw [if_neg]
      intro h; have := bytes_length s; rw [h0] at this; rw [List.length_eq_zero_iff.1 this] at h; cases h
    rw [e]
    have HC := Sl.mk (fun w => has_no s w h0)
    clear e h h0
    go_enter Tryz.func186, Tryz.ntmps186
    go_wp2_with fail
    refine (HC.out _).mono ?_
    rintro e w' ⟨rfl, rfl⟩
    go_wp2
    go_ret
    exact ⟨rfl, rfl⟩
theorem trim_any (s : ByteArray) (w : World) (hs : s.size ≤ 140737488351232) :
    Calls Tryz.prog 171 #[.string s, .string { data := #[61] }] w fun e w' => e = .returned (.string (trimS s)) ∧ w = w' := by
  go_enter Tryz.func171, Tryz.ntmps171
  go_wp2_with fail
  refine (trimSuffix_any s _ hs).mono ?_
  rintro e w' ⟨rfl, rfl⟩
  go_wp2
  go_ret
  exact ⟨rfl, rfl⟩
end Go.Proofs.YthlagngpllahkaaGreatDoor.Bas
/- The contract of group of package base: the four letters of three bytes, of which the first n count. Conditions: the table of letters is as the text lays it; n is 1, 2 or 3. -/
namespace Go.Proofs.YthlagngpllahkaaGreatDoor.Bas
open Go.RowKit

/-- The table of letters. -/
def table : List Nat := (List.range 64).map letter
/-- The table lies in memory as the program's text lays it. -/
structure Globs (w : World) : Prop where
  t : w.rangeAt 1 0 (u8s table)
theorem Globs.cell {w : World} (h : Globs w) (n : Nat) (hn : n < 64) : w.cell? ⟨1, n, none⟩ = some (.int .u8 ((letter n : Nat) : Int)) := by
  have := h.t n _ (u8s_get table n (by simpa [table] using hn))
  rw [Nat.zero_add] at this
  rw [this]
  simp [table, List.getD, hn]
theorem Globs.size {w : World} (h : Globs w) : 2 ≤ w.heap.size := by
  have := block_lt_of_cell (h.cell 0 (by decide)); simp only at this; omega
theorem Globs.below {w w' : World} {B : Nat} (h : Globs w) (hb : Below B w w') (hB : 2 ≤ B) : Globs w' :=
  ⟨fun j v hv => by rw [hb.cell (p := ⟨1, 0 + j, none⟩) (show 1 < B by omega)]; exact h.t j v hv⟩

/-- The bits of three bytes. -/
def tri (a b c : Nat) : Nat := a * 65536 + b * 256 + c
/-- The i-th letter of three bytes. -/
def let4 (a b c i : Nat) : Nat := letter (tri a b c / 2 ^ (18 - 6 * i) % 64)
/-- The four letters of three bytes, of which the first k are made. -/
def fourTo (a b c k : Nat) : List Nat := (List.range 4).map fun i => if i < k then let4 a b c i else 61

theorem tri_int (a b c : Nat) (ha : a < 256) (hb : b < 256) (hc : c < 256) : bits BinOp.or IntKind.u32 (bits BinOp.or IntKind.u32 ((a : Int) * 65536) ((b : Int) * 256)) (c : Int) = ((tri a b c : Nat) : Int) := by
  have e1 : ((a : Int) * 65536) = ((a * 65536 : Nat) : Int) := by simp
  have e2 : ((b : Int) * 256) = ((b * 256 : Nat) : Int) := by simp
  rw [e1, e2, u32_or_nat _ _ (by omega) (by omega)]
  have o1 : a * 65536 ||| b * 256 = a * 65536 + b * 256 := by
    have := Nat.two_pow_add_eq_or_of_lt (i := 16) (b := b * 256) (by omega) a
    rw [show (2 : Nat) ^ 16 = 65536 from rfl, Nat.mul_comm] at this; exact this.symm
  have o2 : (a * 65536 + b * 256) ||| c = tri a b c := by
    have := Nat.two_pow_add_eq_or_of_lt (i := 8) (b := c) (by omega) (a * 256 + b)
    rw [show (2 : Nat) ^ 8 = 256 from rfl, show 256 * (a * 256 + b) = a * 65536 + b * 256 by omega] at this
    rw [← this]; rfl
  rw [o1, u32_or_nat _ _ (by omega) (by omega), o2]
theorem and63 (q : Nat) (hq : q < 4294967296) : bits BinOp.and IntKind.u32 (q : Int) 63 = ((q % 64 : Nat) : Int) := by
  have e : (63 : Int) = ((63 : Nat) : Int) := rfl
  rw [e, u32_and_nat _ _ hq (by decide), show (63 : Nat) = 2 ^ 6 - 1 from rfl, Nat.and_two_pow_sub_one_eq_mod]
theorem fourTo_length (a b c k : Nat) : (fourTo a b c k).length = 4 := by simp [fourTo]
theorem fourTo_set (a b c k : Nat) (hk : k < 4) : (u8s (fourTo a b c k)).toArray.setIfInBounds k (.int .u8 ((let4 a b c k : Nat) : Int)) = (u8s (fourTo a b c (k + 1))).toArray := by
  simp only [List.setIfInBounds_toArray]
  congr 1
  match k, hk with
  | 0, _ => rfl
  | 1, _ => rfl
  | 2, _ => rfl
  | 3, _ => rfl

/-- What the loop of group holds to. -/
structure GR (w : World) (a b c k : Nat) (wr : World) : Prop where
  f : wr.heap[w.heap.size + 1 + 1]? = some (.cells (u8s (fourTo a b c k)).toArray 104 (0, 0))
  r : wr.heap[w.heap.size + 1]? = some (.cells (u8s [0, 0, 0, 0]).toArray 104 (0, 0))
  b : Below w.heap.size w wr

set_option maxHeartbeats 1000000 in
theorem group_any (a b c n : Nat) (w : World) (ha : a < 256) (hb : b < 256) (hc : c < 256) (h1 : 1 ≤ n) (hn : n ≤ 3) (hg : Globs w) :
    Calls Tryz.prog 86 #[.agg #[.int .u8 a, .int .u8 b, .int .u8 c], .int .i64 n] w fun e w' => e = .returned (.agg (u8s (fourTo a b c (n + 1))).toArray) ∧ Below w.heap.size w w' := by
  have HG := Sl.mk hg
  clear hg
  have hT := tri_int a b c ha hb hc
  obtain ⟨T, hTT⟩ : ∃ T, T = tri a b c := ⟨_, rfl⟩
  rw [← hTT] at hT
  have HT := Sl.mk hTT
  have hTl : T < 16777216 := by rw [hTT]; unfold tri; omega
  clear hTT
  go_enter Tryz.func86, Tryz.ntmps86
  go_wp2
  go_loopw [24] (fun i wr => ∃ k : Nat, k ≤ n + 1 ∧ i = .int .i64 k ∧ GR w a b c k wr) (fun i _ => n + 1 - (intOf i).toNat)
  case atStart => exact ⟨0, by omega, rfl, ⟨alloc_new _ _ _ (by simp), by rw [Below.heap_alloc _ _ _ (by simp)]; exact alloc_new _ _ _ (by simp), (((Below.refl _ _).alloc (Nat.le_refl _) _).alloc (by simp) _).alloc (by simp; omega) _⟩⟩
  case round =>
    obtain ⟨k, hk, rfl, hrel⟩ := hrel
    have HR := Sl.mk hrel
    clear hrel
    by_cases hlt : k < n + 1
    · have hk4 : k < 4 := by omega
      have e0 : (18 - 6 * (k : Int)).toNat = 18 - 6 * k := by omega
      have p0 : (0 : Int) ≤ 18 - 6 * (k : Int) := by omega
      obtain ⟨q, hq⟩ : ∃ q : Nat, q = T / 2 ^ (18 - 6 * k) := ⟨_, rfl⟩
      have hq' : (T : Int) / 2 ^ (18 - 6 * k) = (q : Int) := by rw [hq]; simp
      have hql : q < 4294967296 := by rw [hq]; exact Nat.lt_of_le_of_lt (Nat.div_le_self _ _) (by omega)
      have hand := and63 q hql
      obtain ⟨m, hm⟩ : ∃ m : Nat, m = q % 64 := ⟨_, rfl⟩
      rw [← hm] at hand
      have hml : m < 64 := by omega
      have hcl := (HG.out.below HR.out.b HG.out.size).cell m hml
      have HM : Sl (letter m = let4 a b c k) := ⟨by unfold let4; rw [hm, hq, HT.out]⟩
      have hcf : wr.cell? ⟨w.heap.size + 1 + 1, k, none⟩ = some (.int .u8 (((fourTo a b c k).getD k 0 : Nat) : Int)) := by
        rw [cell_of_row _ _ _ _ _ _ HR.out.f, List.getElem?_toArray]; exact u8s_get _ _ (by rw [fourTo_length]; exact hk4)
      have hff : wr.frozen? ⟨w.heap.size + 1 + 1, k, none⟩ = false := frozen_of_row _ _ _ _ _ HR.out.f
      have HR1 : Sl (GR w a b c (k + 1) (wr.setCell ⟨w.heap.size + 1 + 1, k, none⟩ (.int .u8 ((letter m : Nat) : Int)))) := ⟨⟨by
        rw [heap_setCell_same _ _ _ _ _ _ HR.out.f, HM.out, fourTo_set a b c k hk4], by
        rw [heap_setCell_other _ _ _ _ (by simp)]; exact HR.out.r, HR.out.b.setCell (by simp; omega) _⟩⟩
      clear hq hm HR
      go_wp2
      go_roundw
      case rel => exact ⟨k + 1, by omega, by go_num, HR1.out⟩
      case measure => simp [intOf]; omega
    · have hge : ¬ (k : Int) < (n : Int) + 1 := by omega
      have HR1 : Sl (GR w a b c (n + 1) wr) := ⟨by
        have e : k = n + 1 := by omega
        rw [← e]; exact HR.out⟩
      clear HR
      have HI : Sl ((Tryz.prog.info? 104).map (·.size) = some (u8s (fourTo a b c (n + 1))).toArray.size) := ⟨by
        have : (Tryz.prog.info? 104).map (·.size) = some 4 := by kernel_rfl
        simpa [fourTo_length] using this⟩
      have HO : Sl ((u8s [0, 0, 0, 0]).toArray.size = (u8s (fourTo a b c (n + 1))).toArray.size) := ⟨by simp [fourTo_length]⟩
      go_wp2_with (first | (refine wpList_load_row rfl 104 (.tmp 6) rfl (w.heap.size + 1 + 1) rfl 104 _ (0, 0) (.array 4 5) HR1.out.f Tryz.underlying104 rfl HI.out ?_) | (refine wpList_store_row rfl 104 (.tmp 4) (.tmp 38) rfl (w.heap.size + 1) _ rfl rfl 104 _ HR1.out.r HI.out HO.out (all_oneCell_toArray (u8s_one _)) ?_))
      refine bodyPost_ret (v := .agg (u8s (fourTo a b c (n + 1))).toArray) ?_ rfl ⟨rfl, below_setRow HR1.out.b (by omega) _⟩
      exact results_cell_row Tryz.results86 _ _ (w.heap.size + 1) 104 _ (0, 0) (.array 4 5) rfl (setRow_heap _ _ _ _ _ _ HR1.out.r) Tryz.underlying104 rfl HI.out
end Go.Proofs.YthlagngpllahkaaGreatDoor.Bas
