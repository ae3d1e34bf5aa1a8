/- The texts below, joined. -/
import Derived.Test.YtlahonjmfecikaaGreatDoorRows
import Derived.WalkKit
import Derived.WalkSpells
import Derived.WalkLawsBesides
import Derived.Deep.WholeRow
import Derived.Deep.MidRow
import Derived.Deep.QuietTactic
import Derived.BigQuiet
import Derived.BigRegion
import Derived.Lib.Hide
import Derived.StillTailTactics
import Derived.Laws.BitsAllLaws
import Derived.IntWalk
import Derived.Laws.CopyOwn
import Derived.Laws.IdiomStrings
import Derived.Laws.BytesArg
import Derived.Lib.SlBytesConst
import Derived.Deep.RegionHeld3
import Derived.Stop.BytesEq
set_option maxRecDepth 100000
namespace UtfPlain
abbrev St := Nat × Nat × Nat
def s0 : St := (0, 128, 191)
def lead (b : Nat) : Option St :=
  if b < 128 then some s0 else if b < 194 then none else if b < 224 then some (1, 128, 191)
  else if b = 224 then some (2, 160, 191) else if b = 237 then some (2, 128, 159) else if b < 240 then some (2, 128, 191)
  else if b = 240 then some (3, 144, 191) else if b < 244 then some (3, 128, 191) else if b = 244 then some (3, 128, 143) else none
def ustep (s : St) (b : Nat) : Option St := if s.1 = 0 then lead b else if s.2.1 ≤ b ∧ b ≤ s.2.2 then some (s.1 - 1, 128, 191) else none
def uright (s : St) : List Nat → Nat
  | [] => 0
  | b :: r => match ustep s b with
    | none => 0
    | some t => uright t r + 1
def uend (s : St) : List Nat → Option St
  | [] => some s
  | b :: r => match ustep s b with
    | none => none
    | some t => uend t r
def ucount (s : St) : List Nat → Nat
  | [] => 0
  | b :: r => match ustep s b with
    | none => 0
    | some t => ucount t r + if t.1 = 0 then 1 else 0
theorem uend_append (l m : List Nat) (s : St) : uend s (l ++ m) = (uend s l).bind fun t => uend t m := by
  induction l generalizing s with
  | nil => rfl
  | cons b r ih =>
    simp only [List.cons_append, uend]
    cases ustep s b with
    | none => rfl
    | some t => exact ih t
theorem uright_append (l m : List Nat) (s : St) : uright s (l ++ m) = match uend s l with | none => uright s l | some t => l.length + uright t m := by
  induction l generalizing s with
  | nil => simp [uend]
  | cons b r ih =>
    simp only [List.cons_append, uend, uright]
    cases ustep s b with
    | none => rfl
    | some t =>
      simp only [ih t]
      cases uend t r with
      | none => rfl
      | some u => simp only [List.length_cons]; omega
theorem uright_le (l : List Nat) (s : St) : uright s l ≤ l.length := by
  induction l generalizing s with
  | nil => exact Nat.le_refl _
  | cons b r ih =>
    simp only [uright]
    cases ustep s b with
    | none => exact Nat.zero_le _
    | some t => simp only [List.length_cons]; have := ih t; omega
theorem uend_iff (l : List Nat) (s : St) : (uend s l).isSome = true ↔ uright s l = l.length := by
  induction l generalizing s with
  | nil => simp [uend, uright]
  | cons b r ih =>
    simp only [uright, uend]
    cases ustep s b with
    | none => simp
    | some t => simp only [List.length_cons]; rw [ih t]; omega
def Ok (s : St) : Prop := s = s0 ∨ s = (1, 128, 191) ∨ s = (2, 128, 191) ∨ s = (2, 160, 191) ∨ s = (2, 128, 159) ∨ s = (3, 128, 191) ∨ s = (3, 144, 191) ∨ s = (3, 128, 143)
theorem lead_ok {b : Nat} {t : St} (h : lead b = some t) : Ok t := by
  unfold lead at h
  repeat' split at h
  all_goals first | (injection h with h; subst h; unfold Ok s0; simp) | cases h
theorem ustep_ok {s t : St} {b : Nat} (hs : Ok s) (h : ustep s b = some t) : Ok t := by
  unfold ustep at h
  split at h
  · exact lead_ok h
  · split at h
    · injection h with h
      subst h
      rcases hs with rfl | rfl | rfl | rfl | rfl | rfl | rfl | rfl <;> simp [Ok, s0]
    · cases h
def putL (n : Int) : Option (List Nat) :=
  if n < 0 ∨ n > 1114111 ∨ (55296 ≤ n ∧ n ≤ 57343) then none
  else if n < 128 then some [n.toNat]
  else if n < 2048 then some [192 + n.toNat / 64, 128 + n.toNat % 64]
  else if n < 65536 then some [224 + n.toNat / 4096, 128 + n.toNat / 64 % 64, 128 + n.toNat % 64]
  else some [240 + n.toNat / 262144, 128 + n.toNat / 4096 % 64, 128 + n.toNat / 64 % 64, 128 + n.toNat % 64]
def long (b : Nat) : Nat := if b < 128 then 1 else if 192 ≤ b ∧ b < 224 then 2 else if 224 ≤ b ∧ b < 240 then 3 else if 240 ≤ b ∧ b < 248 then 4 else 0
theorem lead1 {b : Nat} (h : b < 128) : lead b = some s0 := by unfold lead; rw [if_pos h]
theorem lead2 {b : Nat} (h1 : 194 ≤ b) (h2 : b < 224) : lead b = some (1, 128, 191) := by
  unfold lead; rw [if_neg (by omega), if_neg (by omega), if_pos h2]
theorem lead2n {b : Nat} (h1 : 128 ≤ b) (h2 : b < 194) : lead b = none := by
  unfold lead; rw [if_neg (by omega), if_pos h2]
def lo3 (b : Nat) : Nat := if b = 224 then 160 else 128
def hi3 (b : Nat) : Nat := if b = 237 then 159 else 191
theorem lead3 {b : Nat} (h1 : 224 ≤ b) (h2 : b < 240) : lead b = some (2, lo3 b, hi3 b) := by
  unfold lead lo3 hi3
  rw [if_neg (by omega), if_neg (by omega), if_neg (by omega)]
  by_cases e : b = 224
  · rw [if_pos e, if_pos e, if_neg (by omega)]
  · rw [if_neg e, if_neg e]
    by_cases f : b = 237
    · rw [if_pos f, if_pos f]
    · rw [if_neg f, if_neg f, if_pos h2]
def lo4 (b : Nat) : Nat := if b = 240 then 144 else 128
def hi4 (b : Nat) : Nat := if b = 244 then 143 else 191
theorem lead4 {b : Nat} (h1 : 240 ≤ b) (h2 : b < 245) : lead b = some (3, lo4 b, hi4 b) := by
  unfold lead lo4 hi4
  rw [if_neg (by omega), if_neg (by omega), if_neg (by omega), if_neg (by omega), if_neg (by omega), if_neg (by omega)]
  by_cases e : b = 240
  · rw [if_pos e, if_pos e, if_neg (by omega)]
  · rw [if_neg e, if_neg e]
    by_cases f : b = 244
    · rw [if_neg (by omega), if_pos f, if_pos f]
    · rw [if_pos (by omega), if_neg f]
theorem lead5 {b : Nat} (h1 : 245 ≤ b) : lead b = none := by
  unfold lead
  rw [if_neg (by omega), if_neg (by omega), if_neg (by omega), if_neg (by omega), if_neg (by omega), if_neg (by omega), if_neg (by omega), if_neg (by omega), if_neg (by omega)]
theorem put1 (n : Nat) (h : n < 128) : putL n = some [n] := by
  unfold putL; rw [if_neg (by omega), if_pos (by omega)]; simp
theorem put2 (n : Nat) (h1 : 128 ≤ n) (h2 : n < 2048) : putL n = some [192 + n / 64, 128 + n % 64] := by
  unfold putL; rw [if_neg (by omega), if_neg (by omega), if_pos (by omega)]; simp
theorem put3 (n : Nat) (h1 : 2048 ≤ n) (h2 : n < 65536) (h3 : n < 55296 ∨ 57343 < n) : putL n = some [224 + n / 4096, 128 + n / 64 % 64, 128 + n % 64] := by
  unfold putL; rw [if_neg (by omega), if_neg (by omega), if_neg (by omega), if_pos (by omega)]; simp
theorem put4 (n : Nat) (h1 : 65536 ≤ n) (h2 : n ≤ 1114111) : putL n = some [240 + n / 262144, 128 + n / 4096 % 64, 128 + n / 64 % 64, 128 + n % 64] := by
  unfold putL; rw [if_neg (by omega), if_neg (by omega), if_neg (by omega), if_neg (by omega)]; simp
theorem put_none (n : Nat) (h : 1114111 < n ∨ (55296 ≤ n ∧ n ≤ 57343)) : putL n = none := by
  unfold putL; rw [if_pos (by omega)]
theorem w2 (b c : Nat) (h1 : 192 ≤ b) (h2 : b < 224) : putL ((64 * (b % 32) + c % 64 : Nat) : Int) = some [b, c] ↔ 194 ≤ b ∧ 128 ≤ c ∧ c ≤ 191 := by
  by_cases h : 64 * (b % 32) + c % 64 < 128
  · rw [put1 _ h]; simp; omega
  · rw [put2 _ (by omega) (by omega)]
    simp only [Option.some.injEq, List.cons.injEq, and_true]
    omega
theorem lo3_cases (b : Nat) : (b = 224 ∧ lo3 b = 160) ∨ (b ≠ 224 ∧ lo3 b = 128) := by unfold lo3; split <;> simp_all
theorem hi3_cases (b : Nat) : (b = 237 ∧ hi3 b = 159) ∨ (b ≠ 237 ∧ hi3 b = 191) := by unfold hi3; split <;> simp_all
theorem lo4_cases (b : Nat) : (b = 240 ∧ lo4 b = 144) ∨ (b ≠ 240 ∧ lo4 b = 128) := by unfold lo4; split <;> simp_all
theorem hi4_cases (b : Nat) : (b = 244 ∧ hi4 b = 143) ∨ (b ≠ 244 ∧ hi4 b = 191) := by unfold hi4; split <;> simp_all
theorem w3 (b c d : Nat) (h1 : 224 ≤ b) (h2 : b < 240) : putL ((64 * (64 * (b % 16) + c % 64) + d % 64 : Nat) : Int) = some [b, c, d] ↔ (lo3 b ≤ c ∧ c ≤ hi3 b) ∧ 128 ≤ d ∧ d ≤ 191 := by
  have hL := lo3_cases b
  have hH := hi3_cases b
  generalize lo3 b = L at *
  generalize hi3 b = H at *
  generalize hv : 64 * (64 * (b % 16) + c % 64) + d % 64 = v
  by_cases k1 : v < 128
  · rw [put1 _ k1]; exact ⟨fun h => by simp at h, fun h => by exfalso; omega⟩
  · by_cases k2 : v < 2048
    · rw [put2 _ (by omega) k2]; exact ⟨fun h => by simp at h, fun h => by exfalso; omega⟩
    · by_cases k3 : 55296 ≤ v ∧ v ≤ 57343
      · rw [put_none _ (.inr k3)]; exact ⟨fun h => by simp at h, fun h => by exfalso; omega⟩
      · rw [put3 _ (by omega) (by omega) (by omega)]
        simp only [Option.some.injEq, List.cons.injEq, and_true]
        omega
theorem w4 (b c d e : Nat) (h1 : 240 ≤ b) (h2 : b < 248) : putL ((64 * (64 * (64 * (b % 8) + c % 64) + d % 64) + e % 64 : Nat) : Int) = some [b, c, d, e] ↔ b < 245 ∧ (lo4 b ≤ c ∧ c ≤ hi4 b) ∧ (128 ≤ d ∧ d ≤ 191) ∧ 128 ≤ e ∧ e ≤ 191 := by
  have hL := lo4_cases b
  have hH := hi4_cases b
  generalize lo4 b = L at *
  generalize hi4 b = H at *
  generalize hv : 64 * (64 * (64 * (b % 8) + c % 64) + d % 64) + e % 64 = v
  by_cases k1 : v < 128
  · rw [put1 _ k1]; exact ⟨fun h => by simp at h, fun h => by exfalso; omega⟩
  · by_cases k2 : v < 2048
    · rw [put2 _ (by omega) k2]; exact ⟨fun h => by simp at h, fun h => by exfalso; omega⟩
    · by_cases k3 : 55296 ≤ v ∧ v ≤ 57343
      · rw [put_none _ (.inr k3)]; exact ⟨fun h => by simp at h, fun h => by exfalso; omega⟩
      · by_cases k4 : v < 65536
        · rw [put3 _ (by omega) (by omega) (by omega)]; exact ⟨fun h => by simp at h, fun h => by exfalso; omega⟩
        · by_cases k5 : 1114111 < v
          · rw [put_none _ (.inl k5)]; exact ⟨fun h => by simp at h, fun h => by exfalso; omega⟩
          · rw [put4 _ (by omega) (by omega)]
            simp only [Option.some.injEq, List.cons.injEq, and_true]
            omega
def lm (v : Nat) (s : List Nat) : Nat → Nat × Nat
  | 0 => (v, v)
  | 1 => (v, v)
  | i + 2 => (64 * (lm v s (i + 1)).1 + (if i + 1 < s.length then s.getD (i + 1) 0 - 128 else 0), 64 * (lm v s (i + 1)).2 + (if i + 1 < s.length then s.getD (i + 1) 0 - 128 else 63))
def modOf (n : Nat) : Nat := match n with | 1 => 256 | 2 => 32 | 3 => 16 | _ => 8
def fromOf (n : Nat) : Nat := match n with | 2 => 128 | 3 => 2048 | 4 => 65536 | _ => 0
def toOf (n : Nat) : Nat := match n with | 1 => 127 | 2 => 2047 | 3 => 65535 | 4 => 1114111 | _ => 0
def fits (n : Nat) (p : Nat × Nat) : Bool := decide (max p.1 (fromOf n) ≤ min p.2 (toOf n)) && !(decide (55296 ≤ max p.1 (fromOf n)) && decide (min p.2 (toOf n) ≤ 57343))
def beg (s : List Nat) : Bool :=
  let n := long (s.headD 0)
  if n ≤ s.length then false else if s.tail.all (fun c => decide (128 ≤ c ∧ c ≤ 191)) then fits n (lm (s.headD 0 % modOf n) s n) else false
theorem long2 {b : Nat} (h1 : 192 ≤ b) (h2 : b < 224) : long b = 2 := by unfold long; rw [if_neg (by omega), if_pos (by omega)]
theorem fits_iff (n : Nat) (l m : Nat) : fits n (l, m) = true ↔ (l ≤ m ∧ fromOf n ≤ m ∧ l ≤ toOf n ∧ fromOf n ≤ toOf n) ∧ ¬ (55296 ≤ max l (fromOf n) ∧ min m (toOf n) ≤ 57343) := by
  unfold fits
  simp only [Bool.and_eq_true, decide_eq_true_eq, Bool.not_eq_true', Bool.and_eq_false_iff, decide_eq_false_iff_not]
  omega
theorem b2 (b : Nat) (h1 : 192 ≤ b) (h2 : b < 224) : beg [b] = true ↔ 194 ≤ b := by
  unfold beg
  simp only [List.headD_cons, long2 h1 h2]
  rw [if_neg (by simp), if_pos (by simp)]
  show fits 2 (64 * (b % 32) + 0, 64 * (b % 32) + 63) = true ↔ _
  rw [fits_iff]
  simp only [fromOf, toOf]
  omega
end UtfPlain
namespace MaskPlain
def turn (key : List Nat) : Nat → List Nat → List Nat
  | _, [] => []
  | k, x :: xs => (x ^^^ key.getD (k % 4) 0) :: turn key (k + 1) xs
theorem turn_length (key : List Nat) (k : Nat) (a : List Nat) : (turn key k a).length = a.length := by
  induction a generalizing k with
  | nil => rfl
  | cons x xs ih => simp [turn, ih]
theorem turn_append (key : List Nat) (k : Nat) (a b : List Nat) : turn key k (a ++ b) = turn key k a ++ turn key (k + a.length) b := by
  induction a generalizing k with
  | nil => rfl
  | cons x xs ih =>
    rw [List.cons_append, turn, turn, List.cons_append, ih, List.length_cons, show k + 1 + xs.length = k + (xs.length + 1) by omega]
theorem turn_twice (key : List Nat) (k : Nat) (a : List Nat) : turn key k (turn key k a) = a := by
  induction a generalizing k with
  | nil => rfl
  | cons x xs ih => rw [turn, turn, ih, Nat.xor_assoc, Nat.xor_self, Nat.xor_zero]
theorem turn_zero {z : List Nat} (h : ∀ i, i < 4 → z.getD i 0 = 0) (k : Nat) (s : List Nat) : turn z k s = s := by
  induction s generalizing k with
  | nil => rfl
  | cons x xs ih => rw [turn, ih, h _ (Nat.mod_lt _ (by omega)), Nat.xor_zero]
theorem turn_lt (key : List Nat) (k : Nat) (a : List Nat) (ha : ∀ x ∈ a, x < 256) (hk : ∀ i, key.getD i 0 < 256) : ∀ x ∈ turn key k a, x < 256 := by
  induction a generalizing k with
  | nil => intro x hx; cases hx
  | cons y ys ih =>
    intro x hx
    rw [turn] at hx
    rcases List.mem_cons.1 hx with rfl | hx
    · exact Nat.xor_lt_two_pow (n := 8) (ha y (List.mem_cons_self ..)) (hk _)
    · exact ih (k + 1) (fun z hz => ha z (List.mem_cons_of_mem _ hz)) x hx
theorem turn_take (key : List Nat) (k : Nat) (a : List Nat) (i : Nat) (hi : i < a.length) : turn key k (a.take (i + 1)) = turn key k (a.take i) ++ [a.getD i 0 ^^^ key.getD ((k + i) % 4) 0] := by
  have e : a.take (i + 1) = a.take i ++ [a.getD i 0] := by
    rw [List.take_add_one, List.getD_eq_getElem?_getD, List.getElem?_eq_getElem hi]; rfl
  rw [e, turn_append, List.length_take, Nat.min_eq_left (by omega)]
  rfl
def be (n : Nat) : Nat → List Nat
  | 0 => []
  | s + 1 => be (n / 256) s ++ [n % 256]
theorem be_length (n s : Nat) : (be n s).length = s := by
  induction s generalizing n with
  | zero => rfl
  | succ s ih => simp [be, ih]
theorem be_small (n s : Nat) : ∀ x ∈ be n s, x < 256 := by
  induction s generalizing n with
  | zero => intro x hx; cases hx
  | succ s ih =>
    intro x hx
    rcases List.mem_append.1 hx with hx | hx
    · exact ih _ x hx
    · simp at hx; omega
def val (bs : List Nat) : Nat := bs.foldl (fun a c => 256 * a + c) 0
theorem val_snoc (bs : List Nat) (c : Nat) : val (bs ++ [c]) = 256 * val bs + c := by simp [val]
theorem val_be (n s : Nat) (h : n < 256 ^ s) : val (be n s) = n := by
  induction s generalizing n with
  | zero => simp at h; subst h; rfl
  | succ s ih =>
    rw [be, val_snoc, ih _ (by rw [Nat.pow_succ] at h; omega)]
    omega
theorem val_lt (bs : List Nat) (h : ∀ x ∈ bs, x < 256) : val bs < 256 ^ bs.length := by
  have key : ∀ (r : List Nat), (∀ x ∈ r, x < 256) → val r.reverse < 256 ^ r.length := by
    intro r
    induction r with
    | nil => intro _; decide
    | cons x xs ih =>
      intro hx
      have h1 := ih (fun y hy => hx y (List.mem_cons_of_mem _ hy))
      have h2 := hx x (List.mem_cons_self ..)
      rw [List.reverse_cons, val_snoc, List.length_cons, Nat.pow_succ]
      omega
  have := key bs.reverse (fun x hx => h x (by simpa using hx))
  simpa using this
theorem be_val (bs : List Nat) (h : ∀ x ∈ bs, x < 256) : be (val bs) bs.length = bs := by
  have key : ∀ (r : List Nat), (∀ x ∈ r, x < 256) → be (val r.reverse) r.length = r.reverse := by
    intro r
    induction r with
    | nil => intro _; rfl
    | cons x xs ih =>
      intro hx
      have h1 := ih (fun y hy => hx y (List.mem_cons_of_mem _ hy))
      have h2 := hx x (List.mem_cons_self ..)
      rw [List.reverse_cons, val_snoc, List.length_cons, be, show (256 * val xs.reverse + x) / 256 = val xs.reverse by omega, show (256 * val xs.reverse + x) % 256 = x by omega, h1]
  have := key bs.reverse (fun x hx => h x (by simpa using hx))
  simpa using this
theorem val_take (bs : List Nat) (i : Nat) (hi : i < bs.length) : val (bs.take (i + 1)) = 256 * val (bs.take i) + bs.getD i 0 := by
  rw [List.take_add_one, List.getElem?_eq_getElem hi, Option.toList_some, val_snoc, List.getD_eq_getElem?_getD, List.getElem?_eq_getElem hi]
  rfl
def putL (n : Nat) : Option (List Nat) :=
  if 9223372036854775807 < n then none else if n < 126 then some [n] else if n ≤ 65535 then some (126 :: be n 2) else some (127 :: be n 8)
def getL : List Nat → Nat × Nat × Nat
  | [] => (0, 0, 80)
  | x :: xs =>
    if x % 128 < 126 then (x % 128, 1, 0)
    else if x % 128 = 126 then
      (if xs.length < 2 then (0, 0, 80) else if val (xs.take 2) < 126 then (0, 0, 81) else (val (xs.take 2), 3, 0))
    else if 0 < xs.length ∧ 128 ≤ xs.getD 0 0 then (0, 0, 81)
    else if 6 ≤ xs.length ∧ val (xs.take 6) = 0 then (0, 0, 81)
    else if xs.length < 8 then (0, 0, 80) else (val (xs.take 8), 9, 0)
theorem be_eight (n : Nat) : be n 8 = [n / 256 / 256 / 256 / 256 / 256 / 256 / 256 % 256, n / 256 / 256 / 256 / 256 / 256 / 256 % 256, n / 256 / 256 / 256 / 256 / 256 % 256, n / 256 / 256 / 256 / 256 % 256, n / 256 / 256 / 256 % 256, n / 256 / 256 % 256, n / 256 % 256, n % 256] := rfl
theorem get_put {n : Nat} {s : List Nat} (h : putL n = some s) (more : List Nat) : getL (s ++ more) = (n, s.length, 0) := by
  unfold putL at h
  by_cases h0 : 9223372036854775807 < n
  · rw [if_pos h0] at h; cases h
  rw [if_neg h0] at h
  by_cases h1 : n < 126
  · rw [if_pos h1] at h
    injection h with h
    subst h
    show getL (n :: more) = _
    rw [getL, show n % 128 = n by omega, if_pos h1]
    rfl
  rw [if_neg h1] at h
  by_cases h2 : n ≤ 65535
  · rw [if_pos h2] at h
    injection h with h
    subst h
    have hv : val ((be n 2 ++ more).take 2) = n := by
      rw [List.take_append_of_le_length (by rw [be_length]; omega), List.take_of_length_le (by rw [be_length]; omega), val_be n 2 (by omega)]
    show getL (126 :: (be n 2 ++ more)) = _
    rw [getL, if_neg (by omega), if_pos (by omega), if_neg (by rw [List.length_append, be_length]; omega), hv, if_neg h1, List.length_cons, be_length]
  · rw [if_neg h2] at h
    injection h with h
    subst h
    have hv : val ((be n 8 ++ more).take 8) = n := by
      rw [List.take_append_of_le_length (by rw [be_length]; omega), List.take_of_length_le (by rw [be_length]; omega), val_be n 8 (by omega)]
    have hx : ¬ (0 < (be n 8 ++ more).length ∧ 128 ≤ (be n 8 ++ more).getD 0 0) := by
      rw [be_eight]
      show ¬ (_ ∧ 128 ≤ n / 256 / 256 / 256 / 256 / 256 / 256 / 256 % 256)
      omega
    have hz : ¬ (6 ≤ (be n 8 ++ more).length ∧ val ((be n 8 ++ more).take 6) = 0) := by
      rw [be_eight]
      intro ⟨_, h⟩
      simp only [List.cons_append, List.take_succ_cons, List.take_zero, val, List.foldl_cons, List.foldl_nil] at h
      omega
    show getL (127 :: (be n 8 ++ more)) = _
    rw [getL, if_neg (by omega), if_neg (by omega), if_neg hx, if_neg hz, if_neg (by rw [List.length_append, be_length]; omega), hv, List.length_cons, be_length]
theorem put_some (n : Nat) : (putL n).isSome = decide (n ≤ 9223372036854775807) := by
  unfold putL
  by_cases h0 : 9223372036854775807 < n
  · rw [if_pos h0, decide_eq_false (by omega)]; rfl
  · rw [if_neg h0, decide_eq_true (by omega)]
    split
    · rfl
    · split <;> rfl
theorem put_length {n : Nat} {s : List Nat} (h : putL n = some s) : s.length = if 65535 < n then 9 else if 125 < n then 3 else 1 := by
  unfold putL at h
  by_cases h0 : 9223372036854775807 < n
  · rw [if_pos h0] at h; cases h
  rw [if_neg h0] at h
  by_cases h1 : n < 126
  · rw [if_pos h1] at h
    injection h with h
    subst h
    rw [if_neg (by omega), if_neg (by omega)]; rfl
  rw [if_neg h1] at h
  by_cases h2 : n ≤ 65535
  · rw [if_pos h2] at h
    injection h with h
    subst h
    rw [if_neg (by omega), if_pos (by omega), List.length_cons, be_length]
  · rw [if_neg h2] at h
    injection h with h
    subst h
    rw [if_pos (by omega), List.length_cons, be_length]
theorem put_small {n : Nat} {s : List Nat} (h : putL n = some s) : ∀ x ∈ s, x < 256 := by
  unfold putL at h
  by_cases h0 : 9223372036854775807 < n
  · rw [if_pos h0] at h; cases h
  rw [if_neg h0] at h
  by_cases h1 : n < 126
  · rw [if_pos h1] at h
    injection h with h
    subst h
    intro x hx
    simp at hx
    omega
  rw [if_neg h1] at h
  by_cases h2 : n ≤ 65535
  · rw [if_pos h2] at h
    injection h with h
    subst h
    intro x hx
    rcases List.mem_cons.1 hx with rfl | hx
    · omega
    · exact be_small _ _ x hx
  · rw [if_neg h2] at h
    injection h with h
    subst h
    intro x hx
    rcases List.mem_cons.1 hx with rfl | hx
    · omega
    · exact be_small _ _ x hx
def getW (B least most : Nat) (t : List Nat) : Nat × Nat × Nat :=
  if val t * 2 ^ (8 * (B - t.length)) + 2 ^ (8 * (B - t.length)) - 1 < least ∨ most < val t * 2 ^ (8 * (B - t.length)) then (0, 0, 81)
  else if t.length < B then (0, 0, 80) else (val t * 2 ^ (8 * (B - t.length)), 1 + B, 0)
theorem val_nil : val [] = 0 := rfl
theorem val_cons (x : Nat) (xs : List Nat) : val (x :: xs) = x * 256 ^ xs.length + val xs := by
  have key : ∀ (r : List Nat) (a : Nat), r.foldl (fun a c => 256 * a + c) a = a * 256 ^ r.length + r.foldl (fun a c => 256 * a + c) 0 := by
    intro r
    induction r with
    | nil => intro a; simp
    | cons y ys ih =>
      intro a
      rw [List.foldl_cons, List.foldl_cons, ih (256 * a + y), ih (256 * 0 + y), List.length_cons, Nat.pow_succ, Nat.add_mul, Nat.add_mul]
      rw [show 256 * a * 256 ^ ys.length = a * (256 ^ ys.length * 256) by rw [Nat.mul_comm 256 a, Nat.mul_assoc, Nat.mul_comm 256]]
      omega
  unfold val
  rw [List.foldl_cons, key]
  simp
theorem get_narrow (x : Nat) (xs : List Nat) (h : x % 128 = 126) (hs : ∀ y ∈ xs, y < 256) : getL (x :: xs) = getW 2 126 65535 (xs.take 2) := by
  rw [getL, if_neg (by omega), if_pos h]
  match xs, hs with
  | [], _ => rfl
  | [a], hs =>
    have := hs a (by simp)
    rw [if_pos (by simp)]
    simp only [List.take_succ_cons, List.take_nil, getW, val_cons, val_nil, List.length_cons, List.length_nil]
    rw [if_neg (by omega), if_pos (by omega)]
  | a :: b :: ys, hs =>
    have h1 := hs a (by simp)
    have h2 := hs b (by simp)
    rw [if_neg (by simp)]
    simp only [List.take_succ_cons, List.take_zero, getW, val_cons, val_nil, List.length_cons, List.length_nil]
    by_cases h3 : a * 256 + b < 126
    · rw [if_pos (by omega), if_pos (by omega)]
    · rw [if_neg (by omega), if_neg (by omega), if_neg (by omega)]
      congr 1; omega
theorem get_wide (x : Nat) (xs : List Nat) (h : x % 128 = 127) (hs : ∀ y ∈ xs, y < 256) : getL (x :: xs) = getW 8 65536 9223372036854775807 (xs.take 8) := by
  rw [getL, if_neg (by omega), if_neg (by omega)]
  match xs, hs with
  | [], _ => rfl
  | [a], hs =>
    have := hs a (by simp)
    simp only [List.take_succ_cons, List.take_nil, List.getD_cons_zero, getW, val_cons, val_nil, List.length_cons, List.length_nil]
    by_cases h1 : 128 ≤ a
    · rw [if_pos (by omega), if_pos (by omega)]
    · rw [if_neg (by omega), if_neg (by omega), if_pos (by omega), if_neg (by omega), if_pos (by omega)]
  | [a, b], hs =>
    have := hs a (by simp)
    have := hs b (by simp)
    simp only [List.take_succ_cons, List.take_nil, List.getD_cons_zero, getW, val_cons, val_nil, List.length_cons, List.length_nil]
    by_cases h1 : 128 ≤ a
    · rw [if_pos (by omega), if_pos (by omega)]
    · rw [if_neg (by omega), if_neg (by omega), if_pos (by omega), if_neg (by omega), if_pos (by omega)]
  | [a, b, c], hs =>
    have := hs a (by simp)
    have := hs b (by simp)
    have := hs c (by simp)
    simp only [List.take_succ_cons, List.take_nil, List.getD_cons_zero, getW, val_cons, val_nil, List.length_cons, List.length_nil]
    by_cases h1 : 128 ≤ a
    · rw [if_pos (by omega), if_pos (by omega)]
    · rw [if_neg (by omega), if_neg (by omega), if_pos (by omega), if_neg (by omega), if_pos (by omega)]
  | [a, b, c, d], hs =>
    have := hs a (by simp)
    have := hs b (by simp)
    have := hs c (by simp)
    have := hs d (by simp)
    simp only [List.take_succ_cons, List.take_nil, List.getD_cons_zero, getW, val_cons, val_nil, List.length_cons, List.length_nil]
    by_cases h1 : 128 ≤ a
    · rw [if_pos (by omega), if_pos (by omega)]
    · rw [if_neg (by omega), if_neg (by omega), if_pos (by omega), if_neg (by omega), if_pos (by omega)]
  | [a, b, c, d, e], hs =>
    have := hs a (by simp)
    have := hs b (by simp)
    have := hs c (by simp)
    have := hs d (by simp)
    have := hs e (by simp)
    simp only [List.take_succ_cons, List.take_nil, List.getD_cons_zero, getW, val_cons, val_nil, List.length_cons, List.length_nil]
    by_cases h1 : 128 ≤ a
    · rw [if_pos (by omega), if_pos (by omega)]
    · rw [if_neg (by omega), if_neg (by omega), if_pos (by omega), if_neg (by omega), if_pos (by omega)]
  | [a, b, c, d, e, f], hs =>
    have := hs a (by simp)
    have := hs b (by simp)
    have := hs c (by simp)
    have := hs d (by simp)
    have := hs e (by simp)
    have := hs f (by simp)
    simp only [List.take_succ_cons, List.take_nil, List.getD_cons_zero, getW, val_cons, val_nil, List.length_cons, List.length_nil]
    by_cases h1 : 128 ≤ a
    · rw [if_pos (by omega), if_pos (by omega)]
    · rw [if_neg (by omega)]
      by_cases h2 : a = 0 ∧ b = 0 ∧ c = 0 ∧ d = 0 ∧ e = 0 ∧ f = 0
      · rw [if_pos (by omega), if_pos (by omega)]
      · rw [if_neg (by omega), if_pos (by omega), if_neg (by omega), if_pos (by omega)]
  | [a, b, c, d, e, f, g], hs =>
    have := hs a (by simp)
    have := hs b (by simp)
    have := hs c (by simp)
    have := hs d (by simp)
    have := hs e (by simp)
    have := hs f (by simp)
    have := hs g (by simp)
    simp only [List.take_succ_cons, List.take_nil, List.take_zero, List.getD_cons_zero, getW, val_cons, val_nil, List.length_cons, List.length_nil]
    by_cases h1 : 128 ≤ a
    · rw [if_pos (by omega), if_pos (by omega)]
    · rw [if_neg (by omega)]
      by_cases h2 : a = 0 ∧ b = 0 ∧ c = 0 ∧ d = 0 ∧ e = 0 ∧ f = 0
      · rw [if_pos (by omega), if_pos (by omega)]
      · rw [if_neg (by omega), if_pos (by omega), if_neg (by omega), if_pos (by omega)]
  | a :: b :: c :: d :: e :: f :: g :: i :: ys, hs =>
    have := hs a (by simp)
    have := hs b (by simp)
    have := hs c (by simp)
    have := hs d (by simp)
    have := hs e (by simp)
    have := hs f (by simp)
    have := hs g (by simp)
    have := hs i (by simp)
    simp only [List.take_succ_cons, List.take_zero, List.getD_cons_zero, getW, val_cons, val_nil, List.length_cons, List.length_nil]
    by_cases h1 : 128 ≤ a
    · rw [if_pos (by omega), if_pos (by omega)]
    · rw [if_neg (by omega)]
      by_cases h2 : a = 0 ∧ b = 0 ∧ c = 0 ∧ d = 0 ∧ e = 0 ∧ f = 0
      · rw [if_pos (by omega), if_pos (by omega)]
      · rw [if_neg (by omega), if_neg (by omega), if_neg (by omega), if_neg (by omega)]
        simp
theorem getW_small {B : Nat} {t : List Nat} (hb : B ≤ 8) (hl : t.length ≤ B) (hs : ∀ y ∈ t, y < 256) :
    val t * 2 ^ (8 * (B - t.length)) + 2 ^ (8 * (B - t.length)) ≤ 18446744073709551616 := by
  have h1 := val_lt t hs
  have h2 : (val t + 1) * 2 ^ (8 * (B - t.length)) ≤ 256 ^ t.length * 2 ^ (8 * (B - t.length)) := Nat.mul_le_mul_right _ h1
  have h3 : 256 ^ t.length * 2 ^ (8 * (B - t.length)) = 2 ^ (8 * B) := by
    rw [show (256 : Nat) = 2 ^ 8 from rfl, ← Nat.pow_mul, ← Nat.pow_add]
    congr 1; omega
  have h4 : 2 ^ (8 * B) ≤ 2 ^ 64 := Nat.pow_le_pow_right (by omega) (by omega)
  rw [Nat.add_mul, Nat.one_mul] at h2
  omega
theorem be_get (n s i : Nat) (h : i < s) : (be n s).getD i 0 = n / 2 ^ (8 * (s - 1 - i)) % 256 := by
  induction s generalizing n with
  | zero => omega
  | succ s ih =>
    rw [be]
    by_cases hi : i < s
    · rw [List.getD_eq_getElem?_getD, List.getElem?_append_left (by rw [be_length]; exact hi), ← List.getD_eq_getElem?_getD, ih _ hi, Nat.div_div_eq_div_mul, show (256 : Nat) = 2 ^ 8 from rfl, ← Nat.pow_add]
      rw [show 8 + 8 * (s - 1 - i) = 8 * (s + 1 - 1 - i) by omega]
    · obtain rfl : i = s := by omega
      rw [List.getD_eq_getElem?_getD, List.getElem?_append_right (by rw [be_length]; omega), be_length]
      simp
def beTo (n s k : Nat) : List Nat := (be n s).take k ++ List.replicate (s - k) 0
theorem beTo_length (n s k : Nat) (h : k ≤ s) : (beTo n s k).length = s := by
  unfold beTo; rw [List.length_append, List.length_take, be_length, List.length_replicate]; omega
theorem beTo_zero (n s : Nat) : beTo n s 0 = List.replicate s 0 := by unfold beTo; simp
theorem beTo_all (n s : Nat) : beTo n s s = be n s := by
  unfold beTo
  rw [Nat.sub_self, List.take_of_length_le (by rw [be_length]; omega)]
  simp
theorem beTo_step (n s k : Nat) (h : k < s) : (beTo n s k).set k (n / 2 ^ (8 * (s - 1 - k)) % 256) = beTo n s (k + 1) := by
  unfold beTo
  have hl : ((be n s).take k).length = k := by rw [List.length_take, be_length]; omega
  rw [List.set_append_right _ _ (by rw [hl]; exact Nat.le_refl _), hl, Nat.sub_self, show s - k = (s - (k + 1)) + 1 by omega, List.replicate_succ, List.set_cons_zero, List.take_add_one, List.getElem?_eq_getElem (by rw [be_length]; exact h)]
  have hg := be_get n s k h
  rw [List.getD_eq_getElem?_getD, List.getElem?_eq_getElem (by rw [be_length]; exact h)] at hg
  simp only [Option.getD_some] at hg
  rw [hg]
  simp
def tuTo (key : List Nat) (at' : Nat) (a : List Nat) (k : Nat) : List Nat := turn key at' (a.take k) ++ List.replicate (a.length - k) 0
theorem tuTo_length (key : List Nat) (at' : Nat) (a : List Nat) (k : Nat) (h : k ≤ a.length) : (tuTo key at' a k).length = a.length := by
  unfold tuTo; rw [List.length_append, turn_length, List.length_take, List.length_replicate]; omega
theorem tuTo_zero (key : List Nat) (at' : Nat) (a : List Nat) : tuTo key at' a 0 = List.replicate a.length 0 := by unfold tuTo; simp [turn]
theorem tuTo_all (key : List Nat) (at' : Nat) (a : List Nat) : tuTo key at' a a.length = turn key at' a := by
  unfold tuTo
  rw [Nat.sub_self, List.take_length]
  simp
theorem tuTo_step (key : List Nat) (at' : Nat) (a : List Nat) (k : Nat) (h : k < a.length) : (tuTo key at' a k).set k (a.getD k 0 ^^^ key.getD ((at' + k) % 4) 0) = tuTo key at' a (k + 1) := by
  unfold tuTo
  have hl : (turn key at' (a.take k)).length = k := by rw [turn_length, List.length_take]; omega
  rw [List.set_append_right _ _ (by rw [hl]; exact Nat.le_refl _), hl, Nat.sub_self, show a.length - k = (a.length - (k + 1)) + 1 by omega, List.replicate_succ, List.set_cons_zero, turn_take _ _ _ _ h]
  simp
theorem get_end (x : Nat) (xs : List Nat) (h : x % 128 = 127) (h1 : xs.length < 8) (h2 : 0 < xs.length → xs.getD 0 0 < 128) (h3 : 6 ≤ xs.length → val (xs.take 6) ≠ 0) : getL (x :: xs) = (0, 0, 80) := by
  rw [getL, if_neg (by omega), if_neg (by omega), if_neg (fun h => by have := h2 h.1; omega), if_neg (fun h => h3 h.1 h.2), if_pos h1]
theorem get_whole (x : Nat) (xs : List Nat) (h : x % 128 = 127) (h1 : 8 ≤ xs.length) (h2 : xs.getD 0 0 < 128) (h3 : val (xs.take 6) ≠ 0) : getL (x :: xs) = (val (xs.take 8), 9, 0) := by
  rw [getL, if_neg (by omega), if_neg (by omega), if_neg (fun h => by omega), if_neg (fun h => h3 h.2), if_neg (by omega)]
theorem get_one (x : Nat) (xs : List Nat) (h : x % 128 < 126) : getL (x :: xs) = (x % 128, 1, 0) := by rw [getL, if_pos h]
end MaskPlain
namespace FramePlain
open MaskPlain
theorem val_eight (a b c d e f g h : Nat) : val [a, b, c, d, e, f, g, h] = 256 * (256 * (256 * (256 * (256 * (256 * (256 * a + b) + c) + d) + e) + f) + g) + h := by simp [val]
theorem get_mod (x : Nat) (xs : List Nat) : getL (x % 128 :: xs) = getL (x :: xs) := by
  rw [getL, getL, Nat.mod_mod]
theorem get_canon {x : Nat} {xs : List Nat} {n k : Nat} (hs : ∀ y ∈ xs, y < 256) (h : getL (x :: xs) = (n, k, 0)) : putL n = some ((x % 128 :: xs).take k) ∧ k ≤ xs.length + 1 ∧ 0 < k := by
  rw [getL] at h
  by_cases h1 : x % 128 < 126
  · rw [if_pos h1] at h
    injection h with e1 e2
    injection e2 with e2 _
    subst e1 e2
    refine ⟨?_, by omega, by omega⟩
    unfold putL
    rw [if_neg (by omega), if_pos h1]; rfl
  rw [if_neg h1] at h
  by_cases h2 : x % 128 = 126
  · rw [if_pos h2] at h
    by_cases h3 : xs.length < 2
    · rw [if_pos h3] at h; injection h with _ e; injection e with _ e; cases e
    rw [if_neg h3] at h
    by_cases h4 : val (xs.take 2) < 126
    · rw [if_pos h4] at h; injection h with _ e; injection e with _ e; cases e
    rw [if_neg h4] at h
    injection h with e1 e2
    injection e2 with e2 _
    subst e1 e2
    have hl : (xs.take 2).length = 2 := by rw [List.length_take]; omega
    have hb := be_val (xs.take 2) (fun y hy => hs y (List.mem_of_mem_take hy))
    have hv := val_lt (xs.take 2) (fun y hy => hs y (List.mem_of_mem_take hy))
    rw [hl] at hb hv
    refine ⟨?_, by omega, by omega⟩
    unfold putL
    rw [if_neg (by omega), if_neg h4, if_pos (by omega), hb, h2]; rfl
  rw [if_neg h2] at h
  by_cases h3 : 0 < xs.length ∧ 128 ≤ xs.getD 0 0
  · rw [if_pos h3] at h; injection h with _ e; injection e with _ e; cases e
  rw [if_neg h3] at h
  by_cases h4 : 6 ≤ xs.length ∧ val (xs.take 6) = 0
  · rw [if_pos h4] at h; injection h with _ e; injection e with _ e; cases e
  rw [if_neg h4] at h
  by_cases h5 : xs.length < 8
  · rw [if_pos h5] at h; injection h with _ e; injection e with _ e; cases e
  rw [if_neg h5] at h
  injection h with e1 e2
  injection e2 with e2 _
  subst e1 e2
  have hl : (xs.take 8).length = 8 := by rw [List.length_take]; omega
  have hb := be_val (xs.take 8) (fun y hy => hs y (List.mem_of_mem_take hy))
  rw [hl] at hb
  have hx : x % 128 = 127 := by omega
  refine ⟨?_, by omega, by omega⟩
  match xs, h5 with
  | a :: b :: c :: d :: e :: f :: g :: i :: ys, _ =>
    have ha := hs a (by simp)
    have hb' := hs b (by simp)
    have hc := hs c (by simp)
    have hd := hs d (by simp)
    have he := hs e (by simp)
    have hf := hs f (by simp)
    have hg := hs g (by simp)
    have hi := hs i (by simp)
    simp only [List.take_succ_cons, List.take_zero, List.getD_cons_zero, List.length_cons] at h3 h4 hb ⊢
    have h4' : ¬ val [a, b, c, d, e, f] = 0 := fun hh => h4 ⟨by omega, hh⟩
    rw [show val [a, b, c, d, e, f] = 256 * (256 * (256 * (256 * (256 * a + b) + c) + d) + e) + f by simp [val]] at h4'
    rw [val_eight] at hb ⊢
    unfold putL
    rw [if_neg (by omega), if_neg (by omega), if_neg (by omega), hb, hx]
theorem get_more {xs : List Nat} (ys : List Nat) (h : (getL xs).2.2 ≠ 80) : getL (xs ++ ys) = getL xs := by
  cases xs with
  | nil => exact absurd rfl h
  | cons x xs =>
    rw [List.cons_append, getL, getL]
    rw [getL] at h
    by_cases h1 : x % 128 < 126
    · rw [if_pos h1, if_pos h1]
    rw [if_neg h1] at h ⊢
    rw [if_neg h1]
    by_cases h2 : x % 128 = 126
    · rw [if_pos h2] at h ⊢
      rw [if_pos h2]
      by_cases h3 : xs.length < 2
      · rw [if_pos h3] at h; exact absurd rfl h
      rw [if_neg h3, if_neg (by rw [List.length_append]; omega), List.take_append_of_le_length (by omega)]
    rw [if_neg h2] at h ⊢
    rw [if_neg h2]
    by_cases h3 : 0 < xs.length ∧ 128 ≤ xs.getD 0 0
    · rw [if_pos h3, if_pos ⟨by rw [List.length_append]; omega, by rw [List.getD_eq_getElem?_getD, List.getElem?_append_left h3.1, ← List.getD_eq_getElem?_getD]; exact h3.2⟩]
    rw [if_neg h3] at h ⊢
    by_cases h4 : 6 ≤ xs.length ∧ val (xs.take 6) = 0
    · have h5 : ¬ (0 < (xs ++ ys).length ∧ 128 ≤ (xs ++ ys).getD 0 0) := fun hh => h3 ⟨by omega, by
        have := hh.2
        rwa [List.getD_eq_getElem?_getD, List.getElem?_append_left (by omega), ← List.getD_eq_getElem?_getD] at this⟩
      rw [if_neg h5, if_pos h4, if_pos ⟨by rw [List.length_append]; omega, by rw [List.take_append_of_le_length h4.1]; exact h4.2⟩]
    rw [if_neg h4] at h ⊢
    by_cases h5 : xs.length < 8
    · rw [if_pos h5] at h; exact absurd rfl h
    have h6 : ¬ (0 < (xs ++ ys).length ∧ 128 ≤ (xs ++ ys).getD 0 0) := fun hh => h3 ⟨by omega, by
      have := hh.2
      rwa [List.getD_eq_getElem?_getD, List.getElem?_append_left (by omega), ← List.getD_eq_getElem?_getD] at this⟩
    have h7 : ¬ (6 ≤ (xs ++ ys).length ∧ val ((xs ++ ys).take 6) = 0) := fun hh => h4 ⟨by omega, by
      have := hh.2
      rwa [List.take_append_of_le_length (by omega)] at this⟩
    rw [if_neg h5, if_neg h6, if_neg h7, if_neg (by rw [List.length_append]; omega), List.take_append_of_le_length (by omega)]
theorem get_codes (xs : List Nat) : (getL xs).2.2 = 0 ∨ (getL xs).2.2 = 80 ∨ (getL xs).2.2 = 81 := by
  cases xs with
  | nil => exact .inr (.inl rfl)
  | cons x xs =>
    rw [getL]
    repeat' split
    all_goals simp
theorem get_le (xs : List Nat) : (getL xs).2.1 ≤ xs.length := by
  cases xs with
  | nil => exact Nat.le_refl _
  | cons x xs =>
    rw [getL, List.length_cons]
    by_cases h1 : x % 128 < 126
    · rw [if_pos h1]; show 1 ≤ _; omega
    rw [if_neg h1]
    by_cases h2 : x % 128 = 126
    · rw [if_pos h2]
      by_cases h3 : xs.length < 2
      · rw [if_pos h3]; exact Nat.zero_le _
      rw [if_neg h3]
      by_cases h4 : val (xs.take 2) < 126
      · rw [if_pos h4]; exact Nat.zero_le _
      rw [if_neg h4]; show 3 ≤ _; omega
    rw [if_neg h2]
    by_cases h3 : 0 < xs.length ∧ 128 ≤ xs.getD 0 0
    · rw [if_pos h3]; exact Nat.zero_le _
    rw [if_neg h3]
    by_cases h4 : 6 ≤ xs.length ∧ val (xs.take 6) = 0
    · rw [if_pos h4]; exact Nat.zero_le _
    rw [if_neg h4]
    by_cases h5 : xs.length < 8
    · rw [if_pos h5]; exact Nat.zero_le _
    rw [if_neg h5]; show 9 ≤ _; omega
structure Fr where
  fin : Bool
  op : Int
  masked : Bool
  key : List Nat
  data : List Nat
def zero4 : List Nat := [0, 0, 0, 0]
def Fr0 : Fr := ⟨false, 0, false, zero4, []⟩
def ctl (op : Int) : Bool := decide (8 ≤ op) && decide (op ≤ 10)
def form (f : Fr) : Bool := ((decide (0 ≤ f.op) && decide (f.op ≤ 2)) || (ctl f.op && f.fin && decide (f.data.length ≤ 125))) && (f.masked || decide (f.key = zero4))
def chk (f : Fr) : Nat := if form f = false then 91 else if 65536 < f.data.length then 92 else 0
def lenB (n : Nat) : List Nat := (putL n).getD []
def byte0 (f : Fr) : Nat := f.op.toNat + if f.fin then 128 else 0
def headB (f : Fr) : List Nat :=
  if f.masked then byte0 f :: ((lenB f.data.length).getD 0 0 + 128) :: (lenB f.data.length).drop 1 ++ f.key else byte0 f :: lenB f.data.length
def text (f : Fr) : List Nat := headB f ++ if f.masked then turn f.key 0 f.data else f.data
def size (f : Fr) : Nat := 2 + f.data.length + (if 65535 < f.data.length then 8 else if 125 < f.data.length then 2 else 0) + (if f.masked then 4 else 0)
def bad (x : Nat) : Bool := decide (x / 16 % 8 ≠ 0) || decide (2 < x % 16 ∧ ¬ (8 ≤ x % 16 ∧ x % 16 ≤ 10)) || decide (8 ≤ x % 16 ∧ x < 128)
def rest (x y n k : Nat) (r : List Nat) : Fr × Nat × Nat :=
  if 128 ≤ y then
    (if r.length < 4 + n then (Fr0, 0, 90) else (⟨decide (128 ≤ x), ((x % 16 : Nat) : Int), true, r.take 4, turn (r.take 4) 0 ((r.drop 4).take n)⟩, 1 + k + 4 + n, 0))
  else if r.length < n then (Fr0, 0, 90) else (⟨decide (128 ≤ x), ((x % 16 : Nat) : Int), false, zero4, r.take n⟩, 1 + k + n, 0)
def getF (s : List Nat) (most : Int) : Fr × Nat × Nat :=
  match s with
  | [] => (Fr0, 0, 90)
  | x :: xs =>
    if bad x then (Fr0, 0, 91)
    else if 0 < xs.length ∧ 8 ≤ x % 16 ∧ 125 < xs.getD 0 0 % 128 then (Fr0, 0, 91)
    else if (getL xs).2.2 = 81 then (Fr0, 0, 91)
    else if (getL xs).2.2 = 80 then (Fr0, 0, 90)
    else if most < ((getL xs).1 : Int) then (Fr0, 0, 92)
    else rest x (xs.getD 0 0) (getL xs).1 (getL xs).2.1 (xs.drop (getL xs).2.1)
theorem lenB_some {n : Nat} (h : n ≤ 9223372036854775807) : putL n = some (lenB n) := by
  have := put_some n
  rw [decide_eq_true h] at this
  unfold lenB
  cases hp : putL n with
  | none => rw [hp] at this; cases this
  | some s => rfl
theorem lenB_length {n : Nat} (h : n ≤ 9223372036854775807) : (lenB n).length = if 65535 < n then 9 else if 125 < n then 3 else 1 := put_length (lenB_some h)
theorem lenB_small {n : Nat} (h : n ≤ 9223372036854775807) : ∀ x ∈ lenB n, x < 256 := put_small (lenB_some h)
theorem lenB_low {n : Nat} (h : n ≤ 9223372036854775807) : (lenB n).getD 0 0 < 128 ∧ (n ≤ 125 → (lenB n).getD 0 0 = n) := by
  have hs := lenB_some h
  unfold putL at hs
  rw [if_neg (by omega)] at hs
  by_cases h1 : n < 126
  · rw [if_pos h1] at hs; injection hs with hs; rw [← hs]; exact ⟨by show n < 128; omega, fun _ => rfl⟩
  · rw [if_neg h1] at hs
    by_cases h2 : n ≤ 65535
    · rw [if_pos h2] at hs; injection hs with hs; rw [← hs]; exact ⟨by show 126 < 128; omega, fun _ => by omega⟩
    · rw [if_neg h2] at hs; injection hs with hs; rw [← hs]; exact ⟨by show 127 < 128; omega, fun _ => by omega⟩
theorem text_length (f : Fr) (h : f.data.length ≤ 9223372036854775807) (hk : f.key.length = 4) : (text f).length = size f := by
  have hl := lenB_length h
  unfold text headB size
  cases f.masked with
  | true =>
    simp only [if_true, List.length_append, List.length_cons, List.length_drop, turn_length, hk, hl]
    split
    · omega
    · split <;> omega
  | false =>
    simp only [Bool.false_eq_true, if_false, List.length_append, List.length_cons, hl]
    split
    · omega
    · split <;> omega
theorem form_cases {f : Fr} (h : form f = true) : ((0 ≤ f.op ∧ f.op ≤ 2) ∨ (8 ≤ f.op ∧ f.op ≤ 10 ∧ f.fin = true ∧ f.data.length ≤ 125)) ∧ (f.masked = true ∨ f.key = zero4) := by
  unfold form ctl at h
  simp only [Bool.and_eq_true, Bool.or_eq_true, decide_eq_true_eq] at h
  obtain ⟨h1, h2⟩ := h
  refine ⟨?_, h2⟩
  rcases h1 with ⟨a, b⟩ | ⟨⟨⟨a, b⟩, c⟩, d⟩
  · exact .inl ⟨a, b⟩
  · exact .inr ⟨a, b, c, d⟩
theorem form_of {f : Fr} (h : ((0 ≤ f.op ∧ f.op ≤ 2) ∨ (8 ≤ f.op ∧ f.op ≤ 10 ∧ f.fin = true ∧ f.data.length ≤ 125)) ∧ (f.masked = true ∨ f.key = zero4)) : form f = true := by
  unfold form ctl
  simp only [Bool.and_eq_true, Bool.or_eq_true, decide_eq_true_eq]
  obtain ⟨h1, h2⟩ := h
  refine ⟨?_, h2⟩
  rcases h1 with ⟨a, b⟩ | ⟨a, b, c, d⟩
  · exact .inl ⟨a, b⟩
  · exact .inr ⟨⟨⟨a, b⟩, c⟩, d⟩
theorem byte0_facts {f : Fr} (h : form f = true) : bad (byte0 f) = false ∧ ((byte0 f % 16 : Nat) : Int) = f.op ∧ decide (128 ≤ byte0 f) = f.fin ∧ byte0 f < 256 ∧ (8 ≤ byte0 f % 16 → f.data.length ≤ 125) := by
  have hc := (form_cases h).1
  unfold byte0 bad
  cases hf : f.fin with
  | true =>
    simp only [if_true]
    rw [hf] at hc
    obtain ⟨k, hk⟩ : ∃ k : Nat, f.op = k := ⟨f.op.toNat, by omega⟩
    rw [hk] at hc ⊢
    rw [Int.toNat_natCast]
    refine ⟨?_, by omega, by simp, by omega, by omega⟩
    simp only [Bool.or_eq_false_iff, decide_eq_false_iff_not]
    omega
  | false =>
    simp only [Bool.false_eq_true, if_false, Nat.add_zero]
    rw [hf] at hc
    have hc2 : 0 ≤ f.op ∧ f.op ≤ 2 := by
      rcases hc with h | ⟨_, _, h, _⟩
      · exact h
      · cases h
    obtain ⟨k, hk⟩ : ∃ k : Nat, f.op = k := ⟨f.op.toNat, by omega⟩
    rw [hk] at hc2 ⊢
    rw [Int.toNat_natCast]
    refine ⟨?_, by omega, by simp; omega, by omega, by omega⟩
    simp only [Bool.or_eq_false_iff, decide_eq_false_iff_not]
    omega
theorem lenB_cons {n : Nat} (h : n ≤ 9223372036854775807) : lenB n = (lenB n).getD 0 0 :: (lenB n).drop 1 := by
  have hl := lenB_length h
  cases hb : lenB n with
  | nil => rw [hb] at hl; simp at hl; split at hl <;> (try split at hl) <;> omega
  | cons x xs => rfl
theorem get_text {f : Fr} (hf : form f = true) (hn : f.data.length ≤ 9223372036854775807) (hk : f.key.length = 4) (more : List Nat) (most : Int) :
    getF (text f ++ more) most = if most < (f.data.length : Int) then (Fr0, 0, 92) else (f, size f, 0) := by
  have hz := text_length f hn hk
  obtain ⟨b1, b2, b3, b4, b5⟩ := byte0_facts hf
  obtain ⟨l1, l2⟩ := lenB_low hn
  have hp := lenB_some hn
  have hcons := lenB_cons hn
  have hlp : 0 < (lenB f.data.length).length := by rw [hcons]; simp
  have hll := lenB_length hn
  have hm2 := (form_cases hf).2
  rw [← hz]
  unfold text headB at hz ⊢
  by_cases hm : f.masked = true
  · rw [if_pos hm, if_pos hm] at hz ⊢
    have hgl : getL ((((lenB f.data.length).getD 0 0 + 128) :: (lenB f.data.length).drop 1) ++ (f.key ++ (turn f.key 0 f.data ++ more))) = (f.data.length, (lenB f.data.length).length, 0) := by
      rw [List.cons_append, ← get_mod, Nat.add_mod_right, Nat.mod_eq_of_lt l1, ← List.cons_append, ← hcons, get_put hp]
    simp only [List.cons_append, List.append_assoc] at hgl hz ⊢
    have hd : (((lenB f.data.length).getD 0 0 + 128) :: ((lenB f.data.length).drop 1 ++ (f.key ++ (turn f.key 0 f.data ++ more)))).drop (lenB f.data.length).length = f.key ++ (turn f.key 0 f.data ++ more) := by
      have e : (lenB f.data.length).length = ((lenB f.data.length).drop 1).length + 1 := by rw [List.length_drop]; omega
      conv => lhs; rw [e, List.drop_succ_cons]
      rw [List.drop_left]
    rw [getF, b1, if_neg (by simp), if_neg, hgl, if_neg (show ¬ (0 : Nat) = 81 by decide), if_neg (show ¬ (0 : Nat) = 80 by decide)]
    · dsimp only
      by_cases hmost : most < (f.data.length : Int)
      · rw [if_pos hmost, if_pos hmost]
      · rw [if_neg hmost, if_neg hmost, hd, rest, List.getD_cons_zero, if_pos (by omega), if_neg (by rw [List.length_append, List.length_append, turn_length]; omega)]
        have t1 : (f.key ++ (turn f.key 0 f.data ++ more)).take 4 = f.key := by rw [List.take_append_of_le_length (by omega), List.take_of_length_le (by omega)]
        have t2 : (f.key ++ (turn f.key 0 f.data ++ more)).drop 4 = turn f.key 0 f.data ++ more := by rw [← hk, List.drop_left]
        have t3 : (turn f.key 0 f.data ++ more).take f.data.length = turn f.key 0 f.data := by rw [List.take_append_of_le_length (by rw [turn_length]; omega), List.take_of_length_le (by rw [turn_length]; omega)]
        rw [t1, t2, t3, turn_twice, b2, b3]
        congr 1
        · cases f; simp only at hm ⊢; rw [hm]
        · congr 1
          simp only [List.length_cons, List.length_append, turn_length, List.length_drop]
          omega
    · intro ⟨_, h8, h125⟩
      rw [List.getD_cons_zero] at h125
      have := l2 (b5 h8)
      have := b5 h8
      omega
  · rw [if_neg hm, if_neg hm] at hz ⊢
    have hgl : getL (lenB f.data.length ++ (f.data ++ more)) = (f.data.length, (lenB f.data.length).length, 0) := get_put hp _
    simp only [List.cons_append, List.append_assoc] at hz ⊢
    rw [getF, b1, if_neg (by simp), if_neg, hgl, if_neg (show ¬ (0 : Nat) = 81 by decide), if_neg (show ¬ (0 : Nat) = 80 by decide)]
    · dsimp only
      by_cases hmost : most < (f.data.length : Int)
      · rw [if_pos hmost, if_pos hmost]
      · have hg0 : (lenB f.data.length ++ (f.data ++ more)).getD 0 0 = (lenB f.data.length).getD 0 0 := by
          rw [List.getD_eq_getElem?_getD, List.getElem?_append_left hlp, ← List.getD_eq_getElem?_getD]
        rw [if_neg hmost, if_neg hmost, List.drop_left, rest, hg0, if_neg (by omega), if_neg (by rw [List.length_append]; omega), b2, b3]
        have t3 : (f.data ++ more).take f.data.length = f.data := by rw [List.take_append_of_le_length (Nat.le_refl _), List.take_of_length_le (Nat.le_refl _)]
        rw [t3]
        have hkz : f.key = zero4 := hm2.resolve_left hm
        congr 1
        · cases f; simp only at hm hkz ⊢; rw [hkz]; simp at hm; rw [hm]
        · congr 1
          simp only [List.length_cons, List.length_append]
          omega
    · intro ⟨_, h8, h125⟩
      rw [List.getD_eq_getElem?_getD, List.getElem?_append_left hlp, ← List.getD_eq_getElem?_getD, l2 (b5 h8)] at h125
      have := b5 h8
      omega
theorem get_on {a : List Nat} (b : List Nat) (most : Int) (h : (getF a most).2.2 ≠ 90) : getF (a ++ b) most = getF a most := by
  cases a with
  | nil => exact absurd rfl h
  | cons x xs =>
    rw [List.cons_append, getF, getF]
    rw [getF] at h
    by_cases h1 : bad x = true
    · rw [if_pos h1, if_pos h1]
    rw [if_neg h1] at h ⊢
    rw [if_neg h1]
    by_cases h2 : 0 < xs.length ∧ 8 ≤ x % 16 ∧ 125 < xs.getD 0 0 % 128
    · rw [if_pos h2, if_pos]
      refine ⟨by rw [List.length_append]; omega, h2.2.1, ?_⟩
      rw [List.getD_eq_getElem?_getD, List.getElem?_append_left h2.1, ← List.getD_eq_getElem?_getD]; exact h2.2.2
    rw [if_neg h2] at h ⊢
    by_cases h80 : (getL xs).2.2 = 80
    · rw [if_neg (by omega), if_pos h80] at h; exact absurd rfl h
    have hm := get_more b h80
    have hp : 0 < xs.length := by
      cases xs with
      | nil => exact absurd rfl h80
      | cons _ _ => simp
    have hg0 : (xs ++ b).getD 0 0 = xs.getD 0 0 := by rw [List.getD_eq_getElem?_getD, List.getElem?_append_left hp, ← List.getD_eq_getElem?_getD]
    rw [hm, hg0, if_neg (fun hh => h2 ⟨hp, hh.2⟩)]
    by_cases h81 : (getL xs).2.2 = 81
    · rw [if_pos h81, if_pos h81]
    rw [if_neg h81, if_neg h80] at h ⊢
    rw [if_neg h81, if_neg h80]
    by_cases hmost : most < ((getL xs).1 : Int)
    · rw [if_pos hmost, if_pos hmost]
    rw [if_neg hmost] at h ⊢
    rw [if_neg hmost]
    obtain ⟨n, hn⟩ : ∃ n, (getL xs).1 = n := ⟨_, rfl⟩
    obtain ⟨k, hk⟩ : ∃ k, (getL xs).2.1 = k := ⟨_, rfl⟩
    rw [hn, hk] at h ⊢
    have hkl : k ≤ xs.length := by rw [← hk]; exact get_le xs
    rw [List.drop_append_of_le_length hkl]
    unfold rest at h ⊢
    by_cases hy : 128 ≤ xs.getD 0 0
    · rw [if_pos hy] at h ⊢
      rw [if_pos hy]
      by_cases hr : (xs.drop k).length < 4 + n
      · rw [if_pos hr] at h; exact absurd rfl h
      · rw [if_neg hr, if_neg (by rw [List.length_append]; omega), List.take_append_of_le_length (by omega), List.drop_append_of_le_length (by omega), List.take_append_of_le_length (by rw [List.length_drop]; omega)]
    · rw [if_neg hy] at h ⊢
      rw [if_neg hy]
      by_cases hr : (xs.drop k).length < n
      · rw [if_pos hr] at h; exact absurd rfl h
      · rw [if_neg hr, if_neg (by rw [List.length_append]; omega), List.take_append_of_le_length (by omega)]
theorem rest_codes (x y n k : Nat) (r : List Nat) : (rest x y n k r).2.2 = 0 ∨ (rest x y n k r = (Fr0, 0, 90)) := by
  unfold rest
  repeat' split
  all_goals first | exact .inl rfl | exact .inr rfl
theorem get_err (a : List Nat) (most : Int) : (getF a most).2.2 = 0 ∨ (∃ e, getF a most = (Fr0, 0, e) ∧ (e = 90 ∨ e = 91 ∨ e = 92)) := by
  cases a with
  | nil => exact .inr ⟨90, rfl, by omega⟩
  | cons x xs =>
    rw [getF]
    split
    · exact .inr ⟨91, rfl, by omega⟩
    split
    · exact .inr ⟨91, rfl, by omega⟩
    split
    · exact .inr ⟨91, rfl, by omega⟩
    split
    · exact .inr ⟨90, rfl, by omega⟩
    split
    · exact .inr ⟨92, rfl, by omega⟩
    rcases rest_codes x (xs.getD 0 0) (getL xs).1 (getL xs).2.1 (xs.drop (getL xs).2.1) with h | h
    · exact .inl h
    · exact .inr ⟨90, h, by omega⟩
theorem get_ok {a : List Nat} {most : Int} {f : Fr} {n : Nat} (hs : ∀ y ∈ a, y < 256) (h : getF a most = (f, n, 0)) :
    form f = true ∧ text f = a.take n ∧ n ≤ a.length ∧ 2 ≤ n ∧ f.key.length = 4 ∧ (∀ y ∈ f.key, y < 256) ∧ (∀ y ∈ f.data, y < 256) ∧ (f.data.length : Int) ≤ most := by
  cases a with
  | nil => injection h with _ e; injection e with _ e; cases e
  | cons x xs =>
    have hx := hs x (List.mem_cons_self ..)
    have hxs : ∀ y ∈ xs, y < 256 := fun y hy => hs y (List.mem_cons_of_mem _ hy)
    rw [getF] at h
    by_cases h1 : bad x = true
    · rw [if_pos h1] at h; injection h with _ e; injection e with _ e; cases e
    rw [if_neg h1] at h
    by_cases h2 : 0 < xs.length ∧ 8 ≤ x % 16 ∧ 125 < xs.getD 0 0 % 128
    · rw [if_pos h2] at h; injection h with _ e; injection e with _ e; cases e
    rw [if_neg h2] at h
    by_cases h81 : (getL xs).2.2 = 81
    · rw [if_pos h81] at h; injection h with _ e; injection e with _ e; cases e
    rw [if_neg h81] at h
    by_cases h80 : (getL xs).2.2 = 80
    · rw [if_pos h80] at h; injection h with _ e; injection e with _ e; cases e
    rw [if_neg h80] at h
    by_cases hmost : most < ((getL xs).1 : Int)
    · rw [if_pos hmost] at h; injection h with _ e; injection e with _ e; cases e
    rw [if_neg hmost] at h
    have he0 : (getL xs).2.2 = 0 := by
      rcases get_codes xs with h0 | h0 | h0
      · exact h0
      · exact absurd h0 h80
      · exact absurd h0 h81
    cases xs with
    | nil => exact absurd rfl h80
    | cons y ys =>
      have hy := hxs y (List.mem_cons_self ..)
      have hys : ∀ z ∈ ys, z < 256 := fun z hz => hxs z (List.mem_cons_of_mem _ hz)
      obtain ⟨N, hN⟩ : ∃ N, (getL (y :: ys)).1 = N := ⟨_, rfl⟩
      obtain ⟨k, hk⟩ : ∃ k, (getL (y :: ys)).2.1 = k := ⟨_, rfl⟩
      have hg : getL (y :: ys) = (N, k, 0) := by rw [← hN, ← hk, ← he0]
      obtain ⟨c1, c2, c3⟩ := get_canon hys hg
      have hN63 : N ≤ 9223372036854775807 := by
        have := put_some N
        rw [c1] at this
        exact of_decide_eq_true this.symm
      have hlb : lenB N = (y % 128 :: ys).take k := by unfold lenB; rw [c1]; rfl
      have hll : (lenB N).length = k := by rw [hlb, List.length_take, List.length_cons]; omega
      rw [hN, hk, List.getD_cons_zero] at h
      rw [hN] at hmost
      have hkc : k ≤ (y :: ys).length := by rw [List.length_cons]; omega
      have hbad : x / 16 % 8 = 0 ∧ (x % 16 ≤ 2 ∨ (8 ≤ x % 16 ∧ x % 16 ≤ 10)) ∧ ¬ (8 ≤ x % 16 ∧ x < 128) := by
        have hb : bad x = false := by simpa using h1
        unfold bad at hb
        simp only [Bool.or_eq_false_iff, decide_eq_false_iff_not] at hb
        omega
      have h125 : 8 ≤ x % 16 → N ≤ 125 := fun h8 => by
        have hh : ¬ 125 < y % 128 := fun hq => h2 ⟨by simp, h8, by rw [List.getD_cons_zero]; exact hq⟩
        rw [getL, if_pos (by omega)] at hg
        injection hg with e _
        omega
      have hb0 : ∀ (m : Bool) (ke d : List Nat), byte0 ⟨decide (128 ≤ x), ((x % 16 : Nat) : Int), m, ke, d⟩ = x := fun m ke d => by
        unfold byte0
        simp only [Int.toNat_natCast]
        by_cases h128 : 128 ≤ x
        · rw [decide_eq_true h128, if_pos rfl]; omega
        · rw [decide_eq_false h128, if_neg (by simp)]; omega
      unfold rest at h
      by_cases hmask : 128 ≤ y
      · rw [if_pos hmask] at h
        by_cases hr : ((y :: ys).drop k).length < 4 + N
        · rw [if_pos hr] at h; injection h with _ e; injection e with _ e; cases e
        rw [if_neg hr] at h
        injection h with e1 e2
        injection e2 with e2 _
        obtain ⟨r, hrr⟩ : ∃ r, (y :: ys).drop k = r := ⟨_, rfl⟩
        have hra : (y :: ys).take k ++ r = y :: ys := by rw [← hrr, List.take_append_drop]
        have hrl : r.length + k = ys.length + 1 := by rw [← hrr, List.length_drop, List.length_cons]; omega
        have hrs : ∀ z ∈ r, z < 256 := fun z hz => hxs z (by rw [← hra]; exact List.mem_append_right _ hz)
        rw [hrr] at e1 hr
        have hkl : (r.take 4).length = 4 := by rw [List.length_take]; omega
        have hdl : (turn (r.take 4) 0 ((r.drop 4).take N)).length = N := by rw [turn_length, List.length_take, List.length_drop]; omega
        have hks : ∀ z ∈ r.take 4, z < 256 := fun z hz => hrs z (List.mem_of_mem_take hz)
        have hds : ∀ z ∈ turn (r.take 4) 0 ((r.drop 4).take N), z < 256 := turn_lt _ _ _ (fun z hz => hrs z (List.mem_of_mem_drop (List.mem_of_mem_take hz))) (fun i => by
          by_cases hi : i < (r.take 4).length
          · rw [List.getD_eq_getElem?_getD, List.getElem?_eq_getElem hi]; exact hks _ (List.getElem_mem hi)
          · rw [List.getD_eq_getElem?_getD, List.getElem?_eq_none (by omega)]; decide)
        have hy2 : lenB N = y % 128 :: ((y :: ys).take k).drop 1 := by
          rw [hlb]
          cases k with
          | zero => omega
          | succ k => rfl
        have hlow : y % 128 + 128 = y := by omega
        subst e1 e2
        refine ⟨form_of ⟨?_, .inl rfl⟩, ?_, by rw [List.length_cons, List.length_cons]; omega, by omega, hkl, hks, hds, by show ((turn (r.take 4) 0 ((r.drop 4).take N)).length : Int) ≤ most; rw [hdl]; omega⟩
        · show ((0 ≤ ((x % 16 : Nat) : Int) ∧ ((x % 16 : Nat) : Int) ≤ 2) ∨ (8 ≤ ((x % 16 : Nat) : Int) ∧ ((x % 16 : Nat) : Int) ≤ 10 ∧ decide (128 ≤ x) = true ∧ (turn (r.take 4) 0 ((r.drop 4).take N)).length ≤ 125))
          rw [hdl, decide_eq_true_eq]
          rcases hbad.2.1 with h | h
          · exact .inl (by omega)
          · exact .inr ⟨by omega, by omega, by omega, h125 h.1⟩
        · unfold text headB
          rw [if_pos rfl, if_pos rfl]
          simp only [hdl, turn_twice]
          rw [hb0, hy2, List.getD_cons_zero, List.drop_succ_cons, List.drop_zero, hlow]
          have e3 : 1 + k + 4 + N = (k + (4 + N)) + 1 := by omega
          rw [e3, List.take_succ_cons]
          conv => rhs; rw [← hra]
          have e4 : ((y :: ys).take k).length = k := by rw [List.length_take]; omega
          have e5 : ((y :: ys).take k ++ r).take (k + (4 + N)) = (y :: ys).take k ++ r.take (4 + N) := by
            conv => lhs; rw [show k + (4 + N) = ((y :: ys).take k).length + (4 + N) by rw [e4]]
            rw [List.take_length_add_append]
          have e6 : r.take (4 + N) = r.take 4 ++ (r.drop 4).take N := by rw [List.take_add]
          rw [e5, e6]
          have e7 : (y :: ys).take k = y :: ((y :: ys).take k).drop 1 := by
            cases k with
            | zero => omega
            | succ k => rfl
          conv => rhs; rw [e7]
          simp only [List.cons_append, List.append_assoc]
      · rw [if_neg hmask] at h
        by_cases hr : ((y :: ys).drop k).length < N
        · rw [if_pos hr] at h; injection h with _ e; injection e with _ e; cases e
        rw [if_neg hr] at h
        injection h with e1 e2
        injection e2 with e2 _
        obtain ⟨r, hrr⟩ : ∃ r, (y :: ys).drop k = r := ⟨_, rfl⟩
        have hra : (y :: ys).take k ++ r = y :: ys := by rw [← hrr, List.take_append_drop]
        have hrl : r.length + k = ys.length + 1 := by rw [← hrr, List.length_drop, List.length_cons]; omega
        have hrs : ∀ z ∈ r, z < 256 := fun z hz => hxs z (by rw [← hra]; exact List.mem_append_right _ hz)
        rw [hrr] at e1 hr
        have hdl : (r.take N).length = N := by rw [List.length_take]; omega
        have hlow : y % 128 = y := by omega
        rw [hlow] at hlb
        subst e1 e2
        refine ⟨form_of ⟨?_, .inr rfl⟩, ?_, by rw [List.length_cons, List.length_cons]; omega, by omega, rfl, fun z hz => by simp [zero4] at hz; omega, fun z hz => hrs z (List.mem_of_mem_take hz), by show ((r.take N).length : Int) ≤ most; rw [hdl]; omega⟩
        · show ((0 ≤ ((x % 16 : Nat) : Int) ∧ ((x % 16 : Nat) : Int) ≤ 2) ∨ (8 ≤ ((x % 16 : Nat) : Int) ∧ ((x % 16 : Nat) : Int) ≤ 10 ∧ decide (128 ≤ x) = true ∧ (r.take N).length ≤ 125))
          rw [hdl, decide_eq_true_eq]
          rcases hbad.2.1 with h | h
          · exact .inl (by omega)
          · exact .inr ⟨by omega, by omega, by omega, h125 h.1⟩
        · unfold text headB
          rw [if_neg (by simp), if_neg (by simp)]
          simp only [hdl]
          rw [hb0, hlb]
          have e3 : 1 + k + N = (k + N) + 1 := by omega
          rw [e3, List.take_succ_cons]
          conv => rhs; rw [← hra]
          have e4 : ((y :: ys).take k).length = k := by rw [List.length_take]; omega
          conv => rhs; rw [show k + N = ((y :: ys).take k).length + N by rw [e4], List.take_length_add_append]
          simp only [List.cons_append]
theorem form_mask {f : Fr} (h : f.masked = false) (hk : f.key = zero4) (k : List Nat) : form ⟨f.fin, f.op, true, k, f.data⟩ = form f := by
  unfold form
  rw [h, decide_eq_true hk]
  simp
theorem chk_ok {f : Fr} (h : chk f = 0) : form f = true ∧ f.data.length ≤ 65536 := by
  unfold chk at h
  by_cases h1 : form f = false
  · rw [if_pos h1] at h; cases h
  · rw [if_neg h1] at h
    by_cases h2 : 65536 < f.data.length
    · rw [if_pos h2] at h; cases h
    · exact ⟨by simpa using h1, by omega⟩
end FramePlain
namespace ClosePlain
open UtfPlain
def lets (l : List Nat) : Bool := decide (uend s0 l = some s0)
def valid (n : Int) : Bool := (decide (1000 ≤ n) && decide (n ≤ 1003)) || ((decide (1007 ≤ n) && decide (n ≤ 1011)) || (decide (3000 ≤ n) && decide (n ≤ 4999)))
theorem valid_iff (n : Int) : valid n = true ↔ (1000 ≤ n ∧ n ≤ 1003) ∨ (1007 ≤ n ∧ n ≤ 1011) ∨ (3000 ≤ n ∧ n ≤ 4999) := by
  simp [valid]
theorem valid_pos {n : Int} (h : valid n = true) : 1000 ≤ n ∧ n ≤ 4999 := by
  have := (valid_iff n).1 h; omega
def two (n : Nat) : List Nat := [n / 256, n % 256]
theorem two_small {n : Nat} (h : n < 65536) : ∀ x ∈ two n, x < 256 := fun x hx => by
  simp only [two, List.mem_cons, List.not_mem_nil, or_false] at hx
  rcases hx with rfl | rfl <;> omega
theorem two_num (n : Nat) : 256 * (n / 256) + n % 256 = n := by omega
def putC (n : Int) (l : List Nat) : List Nat × Nat :=
  if n = 0 ∧ l = [] then ([], 0)
  else if valid n = false ∨ 123 < l.length then ([], 110)
  else if lets l = false then ([], 111)
  else (two n.toNat ++ l, 0)
def getC : List Nat → Int × List Nat × Nat
  | [] => (1005, [], 0)
  | [_] => (0, [], 110)
  | x :: y :: l => if 123 < l.length ∨ valid ((256 * x + y : Nat) : Int) = false then (0, [], 110) else if lets l = false then (0, [], 111) else (((256 * x + y : Nat) : Int), l, 0)
theorem getC_two (x y : Nat) (l : List Nat) : getC (x :: y :: l) = if 123 < l.length ∨ valid ((256 * x + y : Nat) : Int) = false then (0, [], 110) else if lets l = false then (0, [], 111) else (((256 * x + y : Nat) : Int), l, 0) := rfl
def codeC (e : Int) : Int := if e = 0 then 1000 else if e = 91 ∨ e = 100 ∨ e = 110 ∨ e = 120 then 1002 else if e = 111 ∨ e = 122 then 1007 else if e = 92 ∨ e = 121 then 1009 else 1011
def acrossC (n : Int) : Int := if n = 1005 then 0 else if valid n = true then n else 1011
theorem put_ok {n : Int} {l s : List Nat} (h : putC n l = (s, 0)) : (n = 0 ∧ l = [] ∧ s = []) ∨ (valid n = true ∧ l.length ≤ 123 ∧ lets l = true ∧ s = two n.toNat ++ l) := by
  unfold putC at h
  by_cases h1 : n = 0 ∧ l = []
  · rw [if_pos h1] at h; injection h with h _; exact .inl ⟨h1.1, h1.2, h.symm⟩
  rw [if_neg h1] at h
  by_cases h2 : valid n = false ∨ 123 < l.length
  · rw [if_pos h2] at h; injection h with _ h; cases h
  rw [if_neg h2] at h
  by_cases h3 : lets l = false
  · rw [if_pos h3] at h; injection h with _ h; cases h
  rw [if_neg h3] at h
  injection h with h _
  exact .inr ⟨by by_cases hv : valid n = true; exact hv; exact absurd (.inl (by simpa using hv)) h2, by omega, by simpa using h3, h.symm⟩
theorem put_yes {n : Int} {l : List Nat} (h1 : valid n = true) (h2 : l.length ≤ 123) (h3 : lets l = true) : putC n l = (two n.toNat ++ l, 0) := by
  have := valid_pos h1
  unfold putC
  rw [if_neg (by omega), if_neg (by rw [h1]; intro h; rcases h with h | h; cases h; omega), if_neg (by rw [h3]; decide)]
theorem put_err {n : Int} {l s : List Nat} {e : Nat} (h : putC n l = (s, e)) (he : e ≠ 0) : s = [] ∧ (e = 110 ∨ e = 111) := by
  unfold putC at h
  split at h
  · injection h with _ h; exact absurd h.symm he
  split at h
  · injection h with h h'; exact ⟨h.symm, .inl h'.symm⟩
  split at h
  · injection h with h h'; exact ⟨h.symm, .inr h'.symm⟩
  · injection h with _ h; exact absurd h.symm he
theorem get_data {n : Int} (l : List Nat) (h1 : valid n = true) (h2 : l.length ≤ 123) (h3 : lets l = true) : getC (two n.toNat ++ l) = (n, l, 0) := by
  have hp := valid_pos h1
  have e : ((256 * (n.toNat / 256) + n.toNat % 256 : Nat) : Int) = n := by rw [two_num]; omega
  show getC (n.toNat / 256 :: n.toNat % 256 :: l) = _
  rw [getC_two, e, if_neg (by rw [h1]; intro h; rcases h with h | h; omega; cases h), if_neg (by rw [h3]; decide)]
theorem put_get {n : Int} {l s : List Nat} (h : putC n l = (s, 0)) (h0 : n ≠ 0) : getC s = (n, l, 0) := by
  rcases put_ok h with ⟨h1, _, _⟩ | ⟨h1, h2, h3, rfl⟩
  · exact absurd h1 h0
  · exact get_data l h1 h2 h3
theorem get_put {n : Int} {l s : List Nat} (hs : ∀ y ∈ s, y < 256) (h : getC s = (n, l, 0)) : putC (acrossC n) l = (s, 0) := by
  match s, h with
  | [], h =>
    injection h with h1 h2
    injection h2 with h2 _
    subst h1 h2
    rfl
  | [_], h => injection h with _ h; injection h with _ h; cases h
  | x :: y :: r, h =>
    rw [getC_two] at h
    by_cases h1 : 123 < r.length ∨ valid ((256 * x + y : Nat) : Int) = false
    · rw [if_pos h1] at h; injection h with _ h; injection h with _ h; cases h
    rw [if_neg h1] at h
    by_cases h2 : lets r = false
    · rw [if_pos h2] at h; injection h with _ h; injection h with _ h; cases h
    rw [if_neg h2] at h
    injection h with h3 h
    injection h with h4 _
    subst h4
    have hv : valid n = true := by rw [← h3]; by_cases hv : valid ((256 * x + y : Nat) : Int) = true; exact hv; exact absurd (.inr (by simpa using hv)) h1
    have hy : y < 256 := hs y (by simp)
    have hp := valid_pos hv
    have ha : acrossC n = n := by
      unfold acrossC
      rw [if_neg (fun e => by rw [e] at hv; exact absurd hv (by decide)), if_pos hv]
    have e : n.toNat = 256 * x + y := by omega
    rw [ha, put_yes hv (by omega) (by simpa using h2), e]
    show ((256 * x + y) / 256 :: (256 * x + y) % 256 :: r, 0) = _
    rw [show (256 * x + y) / 256 = x by omega, show (256 * x + y) % 256 = y by omega]
theorem get_err {s : List Nat} {n : Int} {l : List Nat} {e : Nat} (h : getC s = (n, l, e)) (he : e ≠ 0) : n = 0 ∧ l = [] ∧ (e = 110 ∨ e = 111) := by
  match s, h with
  | [], h => injection h with _ h; injection h with _ h; exact absurd h.symm he
  | [_], h => injection h with h1 h; injection h with h2 h; exact ⟨h1.symm, h2.symm, .inl h.symm⟩
  | x :: y :: r, h =>
    rw [getC_two] at h
    split at h
    · injection h with h1 h; injection h with h2 h; exact ⟨h1.symm, h2.symm, .inl h.symm⟩
    split at h
    · injection h with h1 h; injection h with h2 h; exact ⟨h1.symm, h2.symm, .inr h.symm⟩
    · injection h with _ h; injection h with _ h; exact absurd h.symm he
theorem put_sizes {n : Int} {l s : List Nat} (h : putC n l = (s, 0)) : s.length ≤ 125 ∧ ((n = 0 ∧ s = []) ∨ (s.length = 2 + l.length ∧ s.drop 2 = l)) := by
  rcases put_ok h with ⟨rfl, rfl, rfl⟩ | ⟨h1, h2, _, rfl⟩
  · exact ⟨by simp, .inl ⟨rfl, rfl⟩⟩
  · refine ⟨by simp [two]; omega, .inr ⟨by simp [two]; omega, rfl⟩⟩
theorem put_small {n : Int} {l s : List Nat} {e : Nat} (hl : ∀ y ∈ l, y < 256) (h : putC n l = (s, e)) : ∀ y ∈ s, y < 256 := by
  by_cases he : e = 0
  · subst he
    rcases put_ok h with ⟨_, _, rfl⟩ | ⟨h1, _, _, rfl⟩
    · intro y hy; cases hy
    · intro y hy
      have := valid_pos h1
      rcases List.mem_append.1 hy with hy | hy
      · exact two_small (by omega) y hy
      · exact hl y hy
  · rw [(put_err h he).1]; intro y hy; cases hy
theorem code_valid (e : Int) : valid (codeC e) = true := by
  unfold codeC
  split
  · rfl
  split
  · rfl
  split
  · rfl
  split <;> rfl
theorem across_valid (n : Int) : acrossC n = 0 ∨ valid (acrossC n) = true := by
  unfold acrossC
  split
  · exact .inl rfl
  split
  · rename_i h; exact .inr h
  · exact .inr rfl
end ClosePlain
namespace MsgPlain
open FramePlain (Fr form ctl zero4 form_cases form_of form_mask)
open ClosePlain (getC get_err)
open UtfPlain (s0 uright uend ustep uend_iff uright_le)
structure Ev where
  op : Int
  code : Int
  data : List Nat
deriving DecidableEq
structure Ms where
  err : Nat
  over : Bool
  begun : Bool
  op : Int
  text : List Nat
deriving DecidableEq
def M0 : Ms := ⟨0, false, false, 0, []⟩
def bad (e : Nat) : Ms := ⟨e, false, false, 0, []⟩
def done : Ms := ⟨0, true, false, 0, []⟩
def okT (op : Int) (fin : Bool) (t : List Nat) : Bool := !(decide (op = 1) && (decide (uright s0 t < t.length) || (fin && !ClosePlain.lets t)))
def more (most : Int) (fin : Bool) (op : Int) (t : List Nat) : Ms × Option Ev :=
  if most < (t.length : Int) then (bad 121, none)
  else if okT op fin t = false then (bad 122, none)
  else if fin = true then (M0, some ⟨op, 0, t⟩) else (⟨0, false, true, op, t⟩, none)
def step (most : Int) (st : Ms) (f : Fr) : Ms × Option Ev :=
  if form f = false then (bad 120, none)
  else if f.op = 9 ∨ f.op = 10 then (st, some ⟨f.op, 0, f.data⟩)
  else if f.op = 8 then
    if (getC f.data).2.2 = 0 then (done, some ⟨8, (getC f.data).1, (getC f.data).2.1⟩) else (bad (getC f.data).2.2, none)
  else if decide (f.op = 0) ≠ st.begun then (bad 120, none)
  else more most f.fin (if st.begun then st.op else f.op) (st.text ++ f.data)
def take (most : Int) (st : Ms) (f : Fr) : Ms × Option Ev := if st.err ≠ 0 ∨ st.over = true then (st, none) else step most st f
def run (most : Int) (st : Ms) : List Fr → Ms × List Ev
  | [] => (st, [])
  | f :: l => ((run most (take most st f).1 l).1, (take most st f).2.toList ++ (run most (take most st f).1 l).2)
theorem run_cons (most : Int) (st : Ms) (f : Fr) (l : List Fr) : run most st (f :: l) = ((run most (take most st f).1 l).1, (take most st f).2.toList ++ (run most (take most st f).1 l).2) := rfl
theorem run_append (most : Int) : ∀ (a b : List Fr) (st : Ms), run most st (a ++ b) = ((run most (run most st a).1 b).1, (run most st a).2 ++ (run most (run most st a).1 b).2)
  | [], b, st => by simp [run]
  | f :: a, b, st => by rw [List.cons_append, run_cons, run_cons, run_append most a b, List.append_assoc]
theorem run_one (most : Int) (st : Ms) (f : Fr) : run most st [f] = ((take most st f).1, (take most st f).2.toList) := by simp [run]
structure Fit (most : Int) (st : Ms) : Prop where
  err : st.err ≠ 0 → st = bad st.err
  over : st.over = true → st = done
  idle : st.begun = false → st.text = [] ∧ st.op = 0
  op : st.begun = true → st.op = 1 ∨ st.op = 2
  most : (st.text.length : Int) ≤ most
  small : ∀ y ∈ st.text, y < 256
  right : st.op = 1 → uright s0 st.text = st.text.length
theorem fit0 {most : Int} (h : 0 ≤ most) : Fit most M0 := ⟨fun h => absurd rfl h, fun h => (by cases h), fun _ => ⟨rfl, rfl⟩, fun h => (by cases h), h, fun _ hy => (by cases hy), fun h => (by cases h)⟩
theorem fit_bad {most : Int} (h : 0 ≤ most) (e : Nat) : Fit most (bad e) := ⟨fun _ => rfl, fun h => (by cases h), fun _ => ⟨rfl, rfl⟩, fun h => (by cases h), h, fun _ hy => (by cases hy), fun h => (by cases h)⟩
theorem fit_done {most : Int} (h : 0 ≤ most) : Fit most done := ⟨fun h => absurd rfl h, fun _ => rfl, fun _ => ⟨rfl, rfl⟩, fun h => (by cases h), h, fun _ hy => (by cases hy), fun h => (by cases h)⟩
theorem okT_right {op : Int} {fin : Bool} {t : List Nat} (h : okT op fin t = true) (h1 : op = 1) : uright s0 t = t.length := by
  unfold okT at h
  rw [decide_eq_true h1, Bool.true_and, Bool.not_eq_true', Bool.or_eq_false_iff, decide_eq_false_iff_not] at h
  have := uright_le t s0
  omega
theorem fit_more {most : Int} (h : 0 ≤ most) {fin : Bool} {op : Int} {t : List Nat} (ho : op = 1 ∨ op = 2) (hs : ∀ y ∈ t, y < 256) : Fit most (more most fin op t).1 := by
  unfold more
  split
  · exact fit_bad h _
  split
  · exact fit_bad h _
  split
  · exact fit0 h
  · rename_i h1 h2 _
    exact ⟨fun h => absurd rfl h, fun h => (by cases h), fun h => (by cases h), fun _ => ho, by show ((t.length : Nat) : Int) ≤ most; omega, hs, fun h => okT_right (by simpa using h2) h⟩
theorem fit_take {most : Int} (h : 0 ≤ most) {st : Ms} {f : Fr} (hf : Fit most st) (hs : ∀ y ∈ f.data, y < 256) : Fit most (take most st f).1 := by
  unfold take
  split
  · exact hf
  unfold step
  split
  · exact fit_bad h _
  rename_i hform
  split
  · exact hf
  split
  · split
    · exact fit_done h
    · exact fit_bad h _
  split
  · exact fit_bad h _
  rename_i h1 h2 h3
  refine fit_more h ?_ (fun y hy => ?_)
  · split
    · rename_i hb; exact hf.op hb
    · rename_i hb
      have hb' : st.begun = false := by simpa using hb
      rw [hb'] at h3
      have h0 : f.op ≠ 0 := fun e => h3 (by rw [e]; simp)
      have := (form_cases (f := f) (by simpa using hform)).1
      omega
  · rcases List.mem_append.1 hy with hy | hy
    · exact hf.small y hy
    · exact hs y hy
theorem fit_run {most : Int} (h : 0 ≤ most) : ∀ (l : List Fr) {st : Ms}, Fit most st → (∀ f ∈ l, ∀ y ∈ f.data, y < 256) → Fit most (run most st l).1
  | [], _, hf, _ => hf
  | f :: l, st, hf, hs => fit_run h l (fit_take h hf (hs f (by simp))) (fun g hg => hs g (by simp [hg]))
theorem take_stop (most : Int) {st : Ms} (h : st.err ≠ 0 ∨ st.over = true) (f : Fr) : take most st f = (st, none) := if_pos h
theorem run_stop (most : Int) {st : Ms} (h : st.err ≠ 0 ∨ st.over = true) : ∀ l, run most st l = (st, [])
  | [] => rfl
  | f :: l => by
    rw [run_cons, take_stop most h, run_stop most h l]
    rfl
theorem take_go (most : Int) {st : Ms} (h1 : st.err = 0) (h2 : st.over = false) (f : Fr) : take most st f = step most st f := if_neg (by rw [h1, h2]; simp)
theorem step_err {most : Int} {st : Ms} {f : Fr} (h0 : st.err = 0) (h : (step most st f).2 ≠ none) : (step most st f).1.err = 0 := by
  unfold step at h ⊢
  by_cases a1 : form f = false
  · rw [if_pos a1] at h; exact absurd rfl h
  rw [if_neg a1] at h ⊢
  by_cases a2 : f.op = 9 ∨ f.op = 10
  · rw [if_pos a2]; exact h0
  rw [if_neg a2] at h ⊢
  by_cases a3 : f.op = 8
  · rw [if_pos a3] at h ⊢
    by_cases a4 : (getC f.data).2.2 = 0
    · rw [if_pos a4]; rfl
    · rw [if_neg a4] at h; exact absurd rfl h
  rw [if_neg a3] at h ⊢
  by_cases a4 : decide (f.op = 0) ≠ st.begun
  · rw [if_pos a4] at h; exact absurd rfl h
  rw [if_neg a4] at h ⊢
  unfold more at h ⊢
  by_cases a5 : most < ((st.text ++ f.data).length : Int)
  · rw [if_pos a5] at h; exact absurd rfl h
  rw [if_neg a5] at h ⊢
  by_cases a6 : okT (if st.begun then st.op else f.op) f.fin (st.text ++ f.data) = false
  · rw [if_pos a6] at h; exact absurd rfl h
  rw [if_neg a6] at h ⊢
  by_cases a7 : f.fin = true
  · rw [if_pos a7]; rfl
  · rw [if_neg a7] at h; exact absurd rfl h
theorem step_ping (most : Int) (st : Ms) {op : Int} (ho : op = 9 ∨ op = 10) (k : List Nat) (m : Bool) {d : List Nat} (hd : d.length ≤ 125) (hk : m = true ∨ k = zero4) : step most st ⟨true, op, m, k, d⟩ = (st, some ⟨op, 0, d⟩) := by
  unfold step
  rw [if_neg (by rw [form_of ⟨.inr ⟨by show 8 ≤ op; omega, by show op ≤ 10; omega, rfl, hd⟩, hk⟩]; decide), if_pos ho]
theorem step_first (most : Int) {op : Int} (ho : op = 1 ∨ op = 2) (fin : Bool) (d : List Nat) : step most M0 ⟨fin, op, false, zero4, d⟩ = more most fin op d := by
  unfold step
  rw [if_neg (by rw [form_of ⟨.inl ⟨by show 0 ≤ op; omega, by show op ≤ 2; omega⟩, .inr rfl⟩]; decide), if_neg (by show ¬ (op = 9 ∨ op = 10); omega), if_neg (by show ¬ op = 8; omega), if_neg (by show ¬ (decide (op = 0) ≠ false); rw [decide_eq_false (by omega)]; simp)]
  rfl
theorem step_more (most : Int) (op : Int) (fin : Bool) (t d : List Nat) : step most ⟨0, false, true, op, t⟩ ⟨fin, 0, false, zero4, d⟩ = more most fin op (t ++ d) := by
  unfold step
  rw [if_neg (by rw [form_of ⟨.inl ⟨by show (0 : Int) ≤ 0; omega, by show (0 : Int) ≤ 2; omega⟩, .inr rfl⟩]; decide), if_neg (by show ¬ ((0 : Int) = 9 ∨ (0 : Int) = 10); omega), if_neg (by show ¬ (0 : Int) = 8; omega), if_neg (by show ¬ (decide ((0 : Int) = 0) ≠ true); simp)]
  rfl
theorem okT_bin (fin : Bool) (t : List Nat) : okT 2 fin t = true := by unfold okT; simp
theorem more_bin (most : Int) (fin : Bool) (t : List Nat) : more most fin 2 t = if most < (t.length : Int) then (bad 121, none) else if fin = true then (M0, some ⟨2, 0, t⟩) else (⟨0, false, true, 2, t⟩, none) := by
  unfold more
  rw [if_neg (c := okT 2 fin t = false) (by rw [okT_bin]; decide)]
theorem take_mask (most : Int) (st : Ms) (fin : Bool) (op : Int) (k d : List Nat) : take most st ⟨fin, op, true, k, d⟩ = take most st ⟨fin, op, false, zero4, d⟩ := by
  have h := form_mask (f := ⟨fin, op, false, zero4, d⟩) rfl rfl k
  unfold take step
  rw [h]
end MsgPlain
namespace CutPlain
open FramePlain (Fr Fr0 form ctl zero4 form_of)
open MsgPlain
open UtfPlain (s0 uright)
def frsN : Nat → Nat → Int → List Nat → List Fr
  | 0, _, op, t => [⟨true, op, false, zero4, t⟩]
  | n + 1, most, op, t => if t.length ≤ most then [⟨true, op, false, zero4, t⟩] else ⟨false, op, false, zero4, t.take most⟩ :: frsN n most 0 (t.drop most)
def frs (most : Nat) (op : Int) (t : List Nat) : List Fr := frsN t.length most op t
theorem frsN_more {most : Nat} (hm : 1 ≤ most) : ∀ (n k : Nat) (op : Int) (t : List Nat), t.length ≤ n → t.length ≤ k → frsN n most op t = frsN k most op t
  | 0, 0, _, _, _, _ => rfl
  | 0, k + 1, op, t, h, _ => by
    have : t = [] := List.eq_nil_of_length_eq_zero (by omega)
    subst this
    simp [frsN]
  | n + 1, 0, op, t, _, h => by
    have : t = [] := List.eq_nil_of_length_eq_zero (by omega)
    subst this
    simp [frsN]
  | n + 1, k + 1, op, t, h1, h2 => by
    simp only [frsN]
    by_cases h : t.length ≤ most
    · rw [if_pos h, if_pos h]
    · rw [if_neg h, if_neg h, frsN_more hm n k 0 (t.drop most) (by rw [List.length_drop]; omega) (by rw [List.length_drop]; omega)]
theorem frs_last {most : Nat} {op : Int} {t : List Nat} (h : t.length ≤ most) : frs most op t = [⟨true, op, false, zero4, t⟩] := by
  unfold frs
  cases ht : t.length with
  | zero => rfl
  | succ n => simp only [frsN]; rw [if_pos h]
theorem frs_more {most : Nat} (hm : 1 ≤ most) {op : Int} {t : List Nat} (h : ¬ t.length ≤ most) : frs most op t = ⟨false, op, false, zero4, t.take most⟩ :: frs most 0 (t.drop most) := by
  unfold frs
  match hl : t.length with
  | 0 => omega
  | n + 1 =>
    simp only [frsN]
    rw [if_neg h, frsN_more hm n (t.drop most).length 0 (t.drop most) (by rw [List.length_drop]; omega) (Nat.le_refl _)]
theorem frs_pos (most : Nat) (hm : 1 ≤ most) (op : Int) (t : List Nat) : 0 < (frs most op t).length := by
  by_cases h : t.length ≤ most
  · rw [frs_last h]; exact Nat.one_pos
  · rw [frs_more hm h]; simp
def cnt (size most : Nat) : Nat := if size = 0 then 1 else (size + most - 1) / most
theorem cnt_one {size most : Nat} (hm : 1 ≤ most) (h : size ≤ most) : cnt size most = 1 := by
  unfold cnt
  by_cases h0 : size = 0
  · rw [if_pos h0]
  · rw [if_neg h0]
    refine Nat.div_eq_of_lt_le ?_ ?_ <;> omega
theorem cnt_more {size most : Nat} (hm : 1 ≤ most) (h : ¬ size ≤ most) : cnt size most = cnt (size - most) most + 1 := by
  unfold cnt
  rw [if_neg (by omega), if_neg (by omega)]
  have e : size + most - 1 = size - most + most - 1 + most := by omega
  rw [e, Nat.add_div_right _ (by omega)]
theorem frs_length {most : Nat} (hm : 1 ≤ most) : ∀ (n : Nat) (op : Int) (t : List Nat), t.length ≤ n → (frs most op t).length = cnt t.length most
  | n, op, t, hn => by
    by_cases h : t.length ≤ most
    · rw [frs_last h, cnt_one hm h]; rfl
    · match n, hn with
      | 0, hn => omega
      | n + 1, hn =>
        rw [frs_more hm h, List.length_cons, frs_length hm n 0 (t.drop most) (by rw [List.length_drop]; omega), List.length_drop, cnt_more hm h]
theorem cnt_enough {size most : Nat} (hm : 1 ≤ most) : 1 ≤ cnt size most ∧ size ≤ cnt size most * most ∧ (cnt size most = 1 ∨ (cnt size most - 1) * most < size) ∧ cnt size most ≤ size + 1 := by
  unfold cnt
  by_cases h : size = 0
  · rw [if_pos h]; omega
  · rw [if_neg h]
    have h1 := Nat.div_add_mod (size + most - 1) most
    have h2 := Nat.mod_lt (size + most - 1) (show 0 < most by omega)
    generalize (size + most - 1) / most = q at *
    have hc : most * q = q * most := Nat.mul_comm _ _
    have hq : 1 ≤ q := by
      rcases Nat.eq_zero_or_pos q with h0 | h0
      · subst h0; simp at h1; omega
      · exact h0
    have hs : (q - 1) * most = q * most - most := by rw [Nat.sub_mul, Nat.one_mul]
    have hqm : q ≤ q * most := Nat.le_mul_of_pos_right q hm
    refine ⟨hq, by omega, .inr (by omega), ?_⟩
    have : q - 1 ≤ (q - 1) * most := Nat.le_mul_of_pos_right (q - 1) hm
    omega
theorem frs_get {most : Nat} (hm : 1 ≤ most) : ∀ (i : Nat) (op : Int) (t : List Nat), i < (frs most op t).length →
    (frs most op t).getD i Fr0 = ⟨decide (i + 1 = (frs most op t).length), if i = 0 then op else 0, false, zero4, (t.drop (i * most)).take most⟩
  | i, op, t, hi => by
    by_cases h : t.length ≤ most
    · rw [frs_last h] at hi ⊢
      obtain rfl : i = 0 := by simpa using hi
      simp [List.take_of_length_le h]
    · rw [frs_more hm h] at hi ⊢
      have hp := frs_pos most hm 0 (t.drop most)
      match i, hi with
      | 0, _ =>
        rw [List.getD_cons_zero, if_pos rfl, Nat.zero_mul, List.drop_zero, decide_eq_false (by rw [List.length_cons]; omega)]
      | i + 1, hi =>
        have hi' : i < (frs most 0 (t.drop most)).length := by simpa using hi
        have hg := frs_get hm i 0 (t.drop most) hi'
        rw [List.getD_cons_succ, hg]
        simp only [List.length_cons, List.drop_drop, Nat.add_right_cancel_iff, ite_self, Nat.add_eq_zero_iff, Nat.one_ne_zero, and_false, if_false]
        congr 3
        rw [Nat.succ_mul]; omega
def dataOf (l : List Fr) : List Nat := l.flatMap Fr.data
def okJ : Bool → List Fr → Bool
  | _, [] => false
  | first, [f] => f.fin && (if first then decide (f.op = 1 ∨ f.op = 2) else decide (f.op = 0))
  | first, f :: g :: l => !f.fin && (if first then decide (f.op = 1 ∨ f.op = 2) else decide (f.op = 0)) && okJ false (g :: l)
def join (l : List Fr) : Int × List Nat × Bool := if okJ true l then ((l.getD 0 Fr0).op, dataOf l, true) else (0, [], false)
end CutPlain
namespace Go.Proofs.YtlahonjmfecikaaGreatDoor
open Go.RowKit
structure Sl (p : Prop) : Prop where
  out : p
def v8 (n : Nat) : Value := .int .u8 (n : Int)
def u8s (l : List Nat) : List Value := l.map v8
@[simp] theorem u8s_length (l : List Nat) : (u8s l).length = l.length := by simp [u8s]
theorem u8s_get (l : List Nat) (i : Nat) (h : i < l.length) : (u8s l)[i]? = some (.int .u8 ((l.getD i 0 : Nat) : Int)) := by
  simp [u8s, v8, List.getElem?_eq_getElem h]
theorem u8s_one (l : List Nat) : ∀ v ∈ u8s l, v.oneCell' = true := by
  intro v hv; simp [u8s, v8] at hv; obtain ⟨n, _, rfl⟩ := hv; rfl
theorem u8s_append (a b : List Nat) : u8s (a ++ b) = u8s a ++ u8s b := by simp [u8s]
def Small (b : Nat) (l : List Nat) : Prop := ∀ x ∈ l, x < b
theorem Small.append {b : Nat} {l m : List Nat} (h : Small b l) (k : Small b m) : Small b (l ++ m) := fun x hx => by
  rcases List.mem_append.1 hx with hx | hx
  · exact h x hx
  · exact k x hx
theorem Small.take {b : Nat} {l : List Nat} (h : Small b l) (n : Nat) : Small b (l.take n) := fun x hx => h x (List.mem_of_mem_take hx)
theorem Small.drop {b : Nat} {l : List Nat} (h : Small b l) (n : Nat) : Small b (l.drop n) := fun x hx => h x (List.mem_of_mem_drop hx)
theorem Small.getD {b : Nat} {l : List Nat} (h : Small b l) (hb : 0 < b) (i : Nat) : l.getD i 0 < b := by
  by_cases hi : i < l.length
  · simpa [List.getD, List.getElem?_eq_getElem hi] using h _ (List.getElem_mem hi)
  · simpa [List.getD, List.getElem?_eq_none (Nat.le_of_not_lt hi)] using hb
theorem alloc_new (w : World) (o : Obj) (k : Nat) (h : k = w.heap.size) : (w.alloc o).heap[k]? = some o := by
  subst h; show (w.heap.push o)[w.heap.size]? = _; simp
theorem alloc_size (w : World) (o : Obj) : (w.alloc o).heap.size = w.heap.size + 1 := by show (w.heap.push o).size = _; simp
theorem ret_bool {a b : Bool} (h : a = b) : Ending.returned (.bool a) = .returned (.bool b) := by rw [h]
theorem ret_int {k : IntKind} {a b : Int} (h : a = b) : Ending.returned (.int k a) = .returned (.int k b) := by rw [h]
theorem alloc_old (w : World) (o : Obj) (k : Nat) (h : k < w.heap.size) : (w.alloc o).heap[k]? = w.heap[k]? := Below.heap_alloc w o k h
def bytes (s : ByteArray) : List Nat := s.data.toList.map (·.toNat)
theorem bytes_length (s : ByteArray) : (bytes s).length = s.size := by unfold bytes; rw [List.length_map, Array.length_toList]; rfl
theorem bytes_small (s : ByteArray) : Small 256 (bytes s) := fun x hx => by
  simp only [bytes, List.mem_map] at hx
  obtain ⟨b, _, rfl⟩ := hx
  exact b.toNat_lt
theorem bytes_append (a b : ByteArray) : bytes (a ++ b) = bytes a ++ bytes b := by simp [bytes]
theorem bytes_getD (s : ByteArray) (i : Nat) (hi : i < s.size) : (bytes s).getD i 0 = (s.data[i]'hi).toNat := by
  have hi' : i < s.data.size := hi
  simp only [bytes, List.getD, List.getElem?_map, Array.getElem?_toList, Array.getElem?_eq_getElem hi']
  rfl
theorem bytes_inj {a b : ByteArray} (h : bytes a = bytes b) : a = b := by
  unfold bytes at h
  have h2 : a.data.toList = b.data.toList := by
    have := (List.map_inj_right (fun x y (e : UInt8.toNat x = UInt8.toNat y) => UInt8.toNat_inj.1 e)).1 h
    exact this
  cases a; cases b
  simp at h2
  simp [h2]
theorem bytes_extract (s : ByteArray) (i j : Nat) : bytes (s.extract i j) = ((bytes s).take j).drop i := by
  unfold bytes
  rw [ByteArray.data_extract, Array.toList_extract, List.extract_eq_take_drop, ← List.map_take, ← List.map_drop]
  congr 1
  rw [List.drop_take]
theorem toList_bytes (x : ByteArray) : bytes x = x.toList.map (·.toNat) := by rw [ByteArray.toList_eq]; rfl
theorem toNat_inj_map {a b : List UInt8} (h : a.map (·.toNat) = b.map (·.toNat)) : a = b := (List.map_inj_right (fun x y (e : UInt8.toNat x = UInt8.toNat y) => UInt8.toNat_inj.1 e)).1 h
theorem beq_bytes (a : ByteArray) (l : List UInt8) : (a.toList == l) = decide (bytes a = l.map (·.toNat)) := by
  rw [Bool.eq_iff_iff, toList_bytes]
  simp only [beq_iff_eq, decide_eq_true_eq]
  exact ⟨fun h => by rw [h], toNat_inj_map⟩
def strOf (l : List Nat) : ByteArray := strOfNums (l.map fun (n : Nat) => (n : Int))
theorem strOf_size (l : List Nat) : (strOf l).size = l.length := by unfold strOf; rw [strOfNums_size]; simp
theorem bytes_strOf (l : List Nat) (h : Small 256 l) : bytes (strOf l) = l := by
  unfold bytes strOf
  rw [strOfNums_data, List.map_map, List.map_map]
  conv => rhs; rw [← List.map_id l]
  refine List.map_congr_left (fun x hx => ?_)
  have := h x hx
  simp only [Function.comp_def, Int.toNat_natCast, id]
  exact UInt8.toNat_ofNat_of_lt' this
theorem strOf_bytes (s : ByteArray) : strOf (bytes s) = s := bytes_inj (bytes_strOf _ (bytes_small s))
def SrcAt (w : World) (v : Value) (bs : List Nat) : Prop :=
  ∃ (a : Option Addr) (cap sb so : Nat), v = .slice a bs.length cap ∧ bs.length ≤ cap ∧ (0 < bs.length → a = some ⟨sb, so, none⟩) ∧
    ∀ i, i < bs.length → w.cell? ⟨sb, so + i, none⟩ = some (.int .u8 ((bs.getD i 0 : Nat) : Int))
theorem conv_str (s : ByteArray) (W : World) : ∃ cap w', (convert 9 49 (.string s)).run Tryz.prog W = .ok (.slice (some ⟨W.heap.size, 0, none⟩) s.size cap) w' ∧
    Sl (SrcAt w' (.slice (some ⟨W.heap.size, 0, none⟩) s.size cap) (bytes s)) ∧ Sl (Below W.heap.size W w') := by
  refine ⟨_, _, run_bytes_of_string (P := Tryz.prog) W 9 49 5 s Tryz.underlying9 Tryz.underlying49 Tryz.underlying5, ⟨?_⟩, ⟨((Below.refl _ _).drew).alloc (Nat.le_refl _) _⟩⟩
  refine ⟨some ⟨W.heap.size, 0, none⟩, _, W.heap.size, 0, by rw [bytes_length], by rw [bytes_length]; exact grownCap_ge _ _ _ _, fun _ => rfl, fun i hi => ?_⟩
  rw [bytes_length] at hi
  rw [Nat.zero_add]
  have h := World.cell?_alloc_mark W.drew (bytesRow s (grownCap W s.size 0 5)) 5 ((bytesRow s (grownCap W s.size 0 5)).size, (bytesRow s (grownCap W s.size 0 5)).size + 1) i
  rw [show W.drew.heap.size = W.heap.size from rfl] at h
  rw [h, bytesRow_at s _ i hi, bytes_getD s i hi]
theorem grown_below {w w' : World} (h : Below w.heap.size w w') (r : Option Nat) : w.grownBy w' r := ⟨h.os, h.tape, h.output, h.size, fun k hk _ => h.block k hk⟩
theorem own_below {w w' : World} {base : Nat} {e : TypeId} {size : Nat} {v : Value} {n : Nat} {xs : List Value} (h : w.ownsRow base e size v n xs) (hb : Below w.heap.size w w') : w'.ownsRow base e size v n xs :=
  h.kept (grown_below hb none) (by cases h2 : v.ownBlock with | none => exact .inl rfl | some k => exact .inr (fun e => by cases e))
theorem grown_refl (w : World) (r : Option Nat) : w.grownBy w r := ⟨rfl, rfl, rfl, Nat.le_refl _, fun _ _ _ => rfl⟩
theorem grown_trans {a b c : World} {r : Option Nat} (h : a.grownBy b r) (k : b.grownBy c r) : a.grownBy c r :=
  ⟨k.os.trans h.os, k.tape.trans h.tape, k.output.trans h.output, Nat.le_trans h.size k.size, fun i hi hr => (k.block i (Nat.lt_of_lt_of_le hi h.size) hr).trans (h.block i hi hr)⟩
theorem grown_setCell (w : World) (b i : Nat) (v : Value) : w.grownBy (w.setCell ⟨b, i, none⟩ v) (some b) :=
  ⟨rfl, rfl, rfl, by simp [World.setCell], fun k _ hr => heap_setCell_other _ _ _ _ (fun e => hr (by rw [e]))⟩
theorem grown_setCells (b : Nat) : ∀ (vs : List Value) (o : Nat) (w : World), w.grownBy (w.setCells b o vs) (some b)
  | [], _, w => grown_refl w _
  | v :: r, o, w => by rw [World.setCells]; exact grown_trans (grown_setCell w b o v) (grown_setCells b r (o + 1) _)
def splice (l : List Nat) (i : Nat) (c : List Nat) : List Nat := l.take i ++ c ++ l.drop (i + c.length)
theorem splice_length (l c : List Nat) (i : Nat) (h : i + c.length ≤ l.length) : (splice l i c).length = l.length := by
  simp only [splice, List.length_append, List.length_take, List.length_drop]; omega
theorem splice_get (l c : List Nat) (i k : Nat) (h : i + c.length ≤ l.length) : (splice l i c).getD k 0 = if i ≤ k ∧ k < i + c.length then c.getD (k - i) 0 else l.getD k 0 := by
  unfold splice
  have hl : (l.take i).length = i := by rw [List.length_take]; omega
  simp only [List.getD_eq_getElem?_getD]
  by_cases h1 : k < i
  · rw [if_neg (by omega), List.append_assoc, List.getElem?_append_left (by omega), List.getElem?_take, if_pos h1]
  · by_cases h2 : k < i + c.length
    · rw [if_pos ⟨by omega, h2⟩, List.append_assoc, List.getElem?_append_right (by omega), List.getElem?_append_left (by omega), hl]
    · rw [if_neg (by omega), List.getElem?_append_right (by rw [List.length_append]; omega), List.getElem?_drop, List.length_append, hl]
      congr 2; omega
theorem ext_getD {a b : List Nat} (hl : a.length = b.length) (h : ∀ i, i < a.length → a.getD i 0 = b.getD i 0) : a = b := by
  apply List.ext_getElem hl
  intro i h1 h2
  have := h i h1
  simpa [List.getD_eq_getElem?_getD, List.getElem?_eq_getElem h1, List.getElem?_eq_getElem h2] using this
theorem getD_append_left' {a b : List Nat} {i : Nat} (h : i < a.length) : (a ++ b).getD i 0 = a.getD i 0 := by
  simp only [List.getD_eq_getElem?_getD]; rw [List.getElem?_append_left h]
theorem getD_append_right' {a b : List Nat} {i : Nat} (h : a.length ≤ i) : (a ++ b).getD i 0 = b.getD (i - a.length) 0 := by
  simp only [List.getD_eq_getElem?_getD]; rw [List.getElem?_append_right h]
section
variable {P : Program} {md : Region.Mode} {ops : Array Oper} {Q : Exit → Act → World → Prop} {S : World → Prop}
def opIsG (ops : Array Oper) (i : Nat) (d : Option Tmp) (op : Op) (g : Option (Nat × Bool)) : Prop := (ops[i]?).map (fun o => (o.dst, o.op, o.guard)) = some (d, op, g)
theorem op_ofG {i : Nat} {d : Option Tmp} {op : Op} {g : Option (Nat × Bool)} (h : opIsG ops i d op g) : ∃ o, ops[i]? = some o ∧ o.dst = d ∧ o.op = op ∧ o.guard = g := by
  unfold opIsG at h
  cases ho : ops[i]? with
  | none => rw [ho] at h; cases h
  | some o =>
    rw [ho] at h
    simp only [Option.map_some, Option.some.injEq, Prod.mk.injEq] at h
    exact ⟨o, rfl, h.1, h.2.1, h.2.2⟩
def lets (ops : Array Oper) (a : Act) : Option (Nat × Bool) → Bool
  | none => true
  | some (j, want) => yielded ops a.tmps j == some want
theorem wanted_of {o : Oper} {a : Act} {g : Option (Nat × Bool)} (hg : o.guard = g) (h : lets ops a g = true) : Region.wanted o (yielded ops a.tmps) = true := by
  unfold Region.wanted
  rw [hg]
  cases g with
  | none => rfl
  | some p => exact h
theorem heldTake {fuel : Nat} {listed : Array Bool} {a : Act} {w : World} {d : Option Tmp} {op : Op} {g : Option (Nat × Bool)} (i : Nat) (v : Value) (hi : opIsG ops i d op g) (hw : lets ops a g = true)
    (hs : Region.noSelect ops = true) (hf : Region.free md ops listed i = true) (hr : (Region.ready md ops listed).contains i = true)
    (hy : ∀ o : Oper, o.op = op → ∀ w, S w → (execOp a.eval o).run P w = .ok (.value v) w) (hS : S w)
    (h : wpAnyH P md ops (NoPanic Q) S fuel (listed.setIfInBounds i true) (a.put d v) w) : wpAnyH P md ops (NoPanic Q) S (fuel + 1) listed a w := by
  obtain ⟨o, ho, hd, hop, hg⟩ := op_ofG hi
  refine wpAnyH_take ho hs hf hr (fun _ _ _ h => h) (Or.inl ⟨wanted_of hg hw, hy o hop⟩) hS ?_
  rw [hd]; exact h
theorem heldSkip {fuel : Nat} {listed : Array Bool} {a : Act} {w : World} {d : Option Tmp} {op : Op} {g : Option (Nat × Bool)} (i : Nat) (hi : opIsG ops i d op g) (hw : lets ops a g = false)
    (hs : Region.noSelect ops = true) (hf : Region.free md ops listed i = true) (hr : (Region.ready md ops listed).contains i = true) (hS : S w)
    (h : wpAnyH P md ops (NoPanic Q) S fuel (listed.setIfInBounds i true) (a.put d undef) w) : wpAnyH P md ops (NoPanic Q) S (fuel + 1) listed a w := by
  obtain ⟨o, ho, hd, hop, hg⟩ := op_ofG hi
  have hwf : Region.wanted o (yielded ops a.tmps) = false := by
    unfold Region.wanted
    rw [hg]
    cases g with
    | none => cases hw
    | some p => exact hw
  refine wpAnyH_take ho hs hf hr (fun _ _ _ h => h) (Or.inr ⟨hwf, rfl⟩) hS ?_
  rw [hd]; exact h
theorem heldCall {fuel : Nat} {listed : Array Bool} {a : Act} {w : World} {d : Option Tmp} {op : Op} {g : Option (Nat × Bool)} (i : Nat) (f : FuncId) (args : Array Value) (hi : opIsG ops i d op g) (hw : lets ops a g = true)
    (hr : Region.ready md ops listed = [i]) (hy : ∀ o : Oper, o.op = op → (execOp a.eval o).run P w = .ok (.enter f args) w)
    (h : Calls P f args w fun e w' => ∃ v, e = .returned v ∧ S w' ∧ wpAnyH P md ops Q S fuel (listed.setIfInBounds i true) (a.put d v) w') : wpAnyH P md ops Q S (fuel + 1) listed a w := by
  obtain ⟨o, ho, hd, hop, hg⟩ := op_ofG hi
  refine wpAnyH_all hr (by simp) (fun k hk => ?_)
  rw [List.mem_singleton] at hk
  subst hk
  refine wpOp_step ho (fun K hK => ?_)
  rw [if_pos (wanted_of hg hw)]
  unfold Oper.wp
  rw [hy o hop, Oper.upon_enter]
  refine h.mono ?_
  rintro e w' ⟨v, rfl, hS, h'⟩
  rw [hd]
  exact hK _ _ ⟨hS, h'⟩
end
theorem u8s_splice (l c : List Nat) (i : Nat) : Go.splice (u8s l) i (u8s c) = u8s (splice l i c) := by
  simp [Go.splice, splice, u8s]
theorem grown_setRow (w : World) (g : Nat) (cs : Array Value) : w.grownBy (w.setRow g cs) (some g) :=
  ⟨rfl, rfl, rfl, by simp [World.setRow], fun k _ hr => setRow_other w g k cs (fun e => hr (by rw [e]))⟩
section
variable {P : Program} {w : World} {ops : Array Oper} {rest : List Oper} {o : Oper} {a : Act} {Q : Exit → Act → World → Prop}
theorem copy_into (hgd : o.guard = none) (d s : Operand) (dT sT : TypeId)
    (ho : o.op = .call { callee := .builtin .copy, args := #[d, s], argTypes := #[dT, sT] }) (elem : TypeId) (hu : P.underlying dT = some (.slice elem)) (hsz : (P.info? elem).map (·.size) = some 1)
    (dp sp : Option Addr) (dLen dCap sLen sCap : Nat) (hd : a.eval d = .slice dp dLen dCap) (hs : a.eval s = .slice sp sLen sCap)
    (g off k : Nat) (cur cs : List Nat) (t : TypeId) (hg : w.heap[g]? = some (.cells (u8s cur).toArray t (0, 0))) (hk : k = cs.length) (hn : cs.length = min sLen dLen)
    (hpos : 0 < cs.length → dp = some ⟨g, off, none⟩ ∧ ∃ sb so, sp = some ⟨sb, so, none⟩ ∧ ∀ j, j < cs.length → w.cell? ⟨sb, so + j, none⟩ = some (.int .u8 ((cs.getD j 0 : Nat) : Int)))
    (hfit : off + cs.length ≤ cur.length)
    (h : ∀ w', Sl (w'.heap[g]? = some (.cells (u8s (splice cur off cs)).toArray t (0, 0))) → Sl (w.grownBy w' (some g)) → wpList P ops Q rest (a.put o.dst (goInt k)) w') :
    wpList P ops Q (o :: rest) a w := by
  subst hk
  by_cases h0 : cs.length = 0
  · obtain rfl : cs = [] := List.eq_nil_of_length_eq_zero h0
    refine wpList_copy_nothing hgd d s dT sT ho elem hu hsz dp sp dLen dCap sLen sCap hd hs (by simpa using hn.symm) ?_
    exact h w ⟨by simpa [splice] using hg⟩ ⟨grown_refl _ _⟩
  · obtain ⟨rfl, sb, so, rfl, hsrc⟩ := hpos (by omega)
    have hl : (u8s cs).length = cs.length := u8s_length _
    refine wpList_copy_own hgd d s dT sT ho elem hu hsz g off dLen dCap _ sLen sCap hd hs (u8s cur).toArray t hg (u8s cs) (by rw [hl, hn]) (fun j v hv => ?_) (by simpa using hfit) (u8s_one cs) ?_
    · have hj : j < cs.length := by have := (List.getElem?_eq_some_iff.1 hv).1; rwa [hl] at this
      rw [u8s_get _ _ hj] at hv
      injection hv with hv
      subst hv
      rw [Addr.add_mid]
      exact hsrc j hj
    · rw [hl]
      refine h _ ⟨?_⟩ ⟨grown_setRow _ _ _⟩
      have e := u8s_splice cur cs off
      unfold Go.splice at e
      rw [hl] at e
      have e2 := setRow_heap w g (u8s cur).toArray ((u8s cur).toArray.toList.take off ++ (u8s cs ++ (u8s cur).toArray.toList.drop (off + cs.length))).toArray t _ hg
      rw [e2]
      simp only [e]
end
def zs (n : Nat) : List Nat := List.replicate n 0
@[simp] theorem zs_length (n : Nat) : (zs n).length = n := by simp [zs]
theorem zs_small (n : Nat) : Small 256 (zs n) := fun x hx => by simp only [zs, List.mem_replicate] at hx; omega
theorem info5 : (Tryz.prog.info? 5).map (fun i => (i.zero, i.size, i.bytes)) = some (some (.int .u8 0), 1, 1) := by kernel_rfl
theorem size5 : (Tryz.prog.info? 5).map (·.size) = some 1 := by kernel_rfl
theorem made_u8 (n : Nat) : madeCells (Value.int .u8 0).cells (n * 1) = (u8s (zs n)).toArray := by
  apply Array.ext_getElem?
  intro i
  by_cases h : i < n <;> simp [madeCells, Value.cells, u8s, v8, zs, Nat.mod_one, h]
theorem make_u8 (X : Int) (n : Nat) (hX : X = (n : Int)) (hn : n ≤ 1000000) (w : World) :
    (Instr.makeSlice 49 (.int .i64 X) (.int .i64 X)).run Tryz.prog w = .ok (.slice (some ⟨w.heap.size, 0, none⟩) n n) (w.alloc (.cells (u8s (zs n)).toArray 5)) := by
  subst hX
  have h5 := info5
  cases hi : Tryz.prog.info? 5 with
  | none => rw [hi] at h5; cases h5
  | some i =>
    rw [hi] at h5
    simp only [Option.map_some, Option.some.injEq, Prod.mk.injEq] at h5
    obtain ⟨hz, h1, h2⟩ := h5
    have := run_make (P := Tryz.prog) w 49 5 i (.int .u8 0) Tryz.underlying49 hi hz .i64 .i64 (n : Int) (n : Int) (by omega) (by omega) (by rw [h2]; omega) (by omega)
    rw [h1] at this
    rw [show ((n : Int).toNat) = n from by omega, made_u8] at this
    exact this
def SrcN (w : World) (b : Nat) (v : Value) (bs : List Nat) : Prop :=
  ∃ (a : Option Addr) (cap sb so : Nat), v = .slice a bs.length cap ∧ bs.length ≤ cap ∧ (0 < bs.length → a = some ⟨sb, so, none⟩) ∧ (0 < bs.length → sb ≠ b) ∧
    ∀ i, i < bs.length → w.cell? ⟨sb, so + i, none⟩ = some (.int .u8 ((bs.getD i 0 : Nat) : Int))
structure Two (w w' : World) (b p : Nat) : Prop where
  os : w'.os = w.os
  tape : w'.tape = w.tape
  output : w'.output = w.output
  size : w.heap.size ≤ w'.heap.size
  block : ∀ k, k < w.heap.size → k ≠ b → k ≠ p → w'.heap[k]? = w.heap[k]?
theorem Two.refl (w : World) (b p : Nat) : Two w w b p := ⟨rfl, rfl, rfl, Nat.le_refl _, fun _ _ _ _ => rfl⟩
theorem Two.trans {u v w : World} {b p : Nat} (h : Two u v b p) (k : Two v w b p) : Two u w b p :=
  ⟨k.os.trans h.os, k.tape.trans h.tape, k.output.trans h.output, Nat.le_trans h.size k.size, fun i hi h1 h2 => (k.block i (Nat.lt_of_lt_of_le hi h.size) h1 h2).trans (h.block i hi h1 h2)⟩
theorem Two.left {w w' : World} {b p : Nat} (h : w.grownBy w' (some b)) : Two w w' b p := ⟨h.os, h.tape, h.output, h.size, fun k hk h1 _ => h.block k hk (fun e => h1 (by injection e))⟩
theorem Two.right {w w' : World} {b p : Nat} (h : w.grownBy w' (some p)) : Two w w' b p := ⟨h.os, h.tape, h.output, h.size, fun k hk _ h1 => h.block k hk (fun e => h1 (by injection e))⟩
theorem Two.ofBelow {w w' : World} {b p : Nat} (h : Below w.heap.size w w') : Two w w' b p := ⟨h.os, h.tape, h.output, h.size, fun k hk _ _ => h.block k hk⟩
theorem Two.below {w0 w w' : World} {b p : Nat} (h : Two w w' b p) (hb : Below w0.heap.size w0 w) (h1 : w0.heap.size ≤ b) (h2 : w0.heap.size ≤ p) : Below w0.heap.size w0 w' :=
  ⟨h.os.trans hb.os, h.tape.trans hb.tape, h.output.trans hb.output, Nat.le_trans hb.size h.size, fun k hk => (h.block k (Nat.lt_of_lt_of_le hk hb.size) (by omega) (by omega)).trans (hb.block k hk)⟩
def RowB (w : World) (g : Nat) (bs : List Nat) : Prop := w.heap[g]? = some (.cells (u8s bs).toArray 5 (0, 0))
theorem RowB.below {w w' : World} {g : Nat} {bs : List Nat} (h : RowB w g bs) (k : Below w.heap.size w w') : RowB w' g bs := by
  unfold RowB at *; rw [k.block _ (Array.getElem?_eq_some_iff.1 h).1]; exact h
theorem RowB.two {w w' : World} {g b p : Nat} {bs : List Nat} (h : RowB w g bs) (k : Two w w' b p) (h1 : g ≠ b) (h2 : g ≠ p) : RowB w' g bs := by
  unfold RowB at *; rw [k.block _ (Array.getElem?_eq_some_iff.1 h).1 h1 h2]; exact h
theorem RowB.lt {w : World} {g : Nat} {bs : List Nat} (h : RowB w g bs) : g < w.heap.size := (Array.getElem?_eq_some_iff.1 h).1
theorem RowB.src {w : World} {g : Nat} {bs : List Nat} (h : RowB w g bs) : SrcAt w (.slice (some ⟨g, 0, none⟩) bs.length bs.length) bs :=
  ⟨_, _, g, 0, rfl, Nat.le_refl _, fun _ => rfl, fun i hi => by rw [Nat.zero_add, cell_of_row _ _ _ _ _ _ h, List.getElem?_toArray]; exact u8s_get bs i hi⟩
theorem RowB.str {w : World} {g k : Nat} {bs : List Nat} (h : RowB w g bs) (hk : bs.length = k) : (convert 49 9 (.slice (some ⟨g, 0, none⟩) k k)).run Tryz.prog w = .ok (.string (strOf bs)) w := by
  subst hk
  refine run_convert_bytes_arg _ 49 5 Tryz.underlying49 Tryz.underlying5 g 0 bs.length bs.length (bs.map fun (n : Nat) => (n : Int)) (by simp) (fun i hi => ?_) 9 Tryz.underlying9
  have hi' : i < bs.length := by simpa using hi
  rw [Nat.zero_add, cell_of_row _ _ _ _ _ _ h, List.getElem?_toArray, u8s_get bs i hi']
  simp [List.getD, List.getElem?_eq_getElem hi']
theorem SrcAt.off {w : World} {v : Value} {bs : List Nat} (h : SrcAt w v bs) {b : Nat} (hb : w.heap.size ≤ b) : SrcN w b v bs := by
  obtain ⟨a, cap, sb, so, h0, h1, h3, h5⟩ := h
  refine ⟨a, cap, sb, so, h0, h1, h3, fun hp => ?_, h5⟩
  have := block_lt_of_cell (h5 0 hp)
  intro e; simp only at this; omega
theorem SrcAt.offs {w : World} {g n c : Nat} {bs : List Nat} (h : SrcAt w (.slice (some ⟨g, 0, none⟩) n c) bs) {b : Nat} (hb : b < g) : SrcN w b (.slice (some ⟨g, 0, none⟩) n c) bs := by
  obtain ⟨a, cap, sb, so, h0, h1, h3, h5⟩ := h
  refine ⟨a, cap, sb, so, h0, h1, h3, fun hp => ?_, h5⟩
  have e := h3 hp
  injection h0 with h0
  rw [e] at h0
  injection h0 with h0
  injection h0 with h0
  omega
theorem RowB.strs {g k : Nat} {bs : List Nat} (hk : bs.length = k) (W : World) (h : RowB W g bs) : (convert 49 9 (.slice (some ⟨g, 0, none⟩) k k)).run Tryz.prog W = .ok (.string (strOf bs)) W := h.str hk
def RowW (w : World) (g n : Nat) : Prop := ∀ i, i < n → (∃ x : Nat, w.cell? ⟨g, i, none⟩ = some (.int .u8 (x : Int))) ∧ w.frozen? ⟨g, i, none⟩ = false
theorem RowW.set {w : World} {g n i b : Nat} (h : RowW w g n) (hi : i < n) : RowW (w.setCell ⟨g, i, none⟩ (.int .u8 (b : Int))) g n := fun j hj => by
  refine ⟨?_, by rw [World.frozen?_setCell]; exact (h j hj).2⟩
  by_cases e : j = i
  · subst e
    obtain ⟨x, hx⟩ := (h j hj).1
    exact ⟨b, World.cell?_setCell_same' _ _ _ (by rw [hx]; rfl)⟩
  · have hna : (⟨g, i, none⟩ : Addr) ≠ ⟨g, j, none⟩ := fun e2 => e (by injection e2 with _ e3; exact e3.symm)
    rw [World.cell?_setCell_other (h := hna)]
    exact (h j hj).1
theorem RowW.two {w w' : World} {g n b p : Nat} (h : RowW w g n) (k : Two w w' b p) (h1 : g ≠ b) (h2 : g ≠ p) : RowW w' g n := fun i hi => by
  obtain ⟨⟨x, hx⟩, hf⟩ := h i hi
  have hb := k.block g (block_lt_of_cell hx) h1 h2
  exact ⟨⟨x, by rw [World.cell?_of_block (w := w) hb]; exact hx⟩, by rw [World.frozen?_of_block (w := w) hb]; exact hf⟩
theorem RowB.rw {w : World} {g : Nat} {bs : List Nat} (h : RowB w g bs) : RowW w g bs.length := fun i hi =>
  ⟨⟨bs.getD i 0, by rw [cell_of_row _ _ _ _ _ _ h, List.getElem?_toArray]; exact u8s_get bs i hi⟩, frozen_of_row _ _ _ _ _ h⟩
end Go.Proofs.YtlahonjmfecikaaGreatDoor
set_option maxRecDepth 100000
namespace Go.Proofs.YtlahonjmfecikaaGreatDoor
open Go.RowKit
section
variable {P : Program} {md : Region.Mode} {ops : Array Oper} {Q : Exit → Act → World → Prop} {S : World → Prop}
def opIsT (ops : Array Oper) (i : Nat) (d : Option Tmp) (op : Op) (g : Option (Nat × Bool)) (t : TypeId) : Prop := (ops[i]?).map (fun o => (o.dst, o.op, o.guard, o.type)) = some (d, op, g, t)
theorem op_ofT {i : Nat} {d : Option Tmp} {op : Op} {g : Option (Nat × Bool)} {t : TypeId} (h : opIsT ops i d op g t) : ∃ o, ops[i]? = some o ∧ o.dst = d ∧ o.op = op ∧ o.guard = g ∧ o.type = t := by
  unfold opIsT at h
  cases ho : ops[i]? with
  | none => rw [ho] at h; cases h
  | some o =>
    rw [ho] at h
    simp only [Option.map_some, Option.some.injEq, Prod.mk.injEq] at h
    exact ⟨o, rfl, h.1, h.2.1, h.2.2.1, h.2.2.2⟩
theorem heldRunT {fuel : Nat} {listed : Array Bool} {a : Act} {w : World} {d : Option Tmp} {op : Op} {g : Option (Nat × Bool)} {t : TypeId} (i : Nat) (v : Value) (w' : World) (hi : opIsT ops i d op g t) (hw : lets ops a g = true)
    (hr : Region.ready md ops listed = [i]) (hy : ∀ o : Oper, o.op = op → o.type = t → (execOp a.eval o).run P w = .ok (.value v) w') (hS : S w')
    (h : wpAnyH P md ops Q S fuel (listed.setIfInBounds i true) (a.put d v) w') : wpAnyH P md ops Q S (fuel + 1) listed a w := by
  obtain ⟨o, ho, hd, hop, hg, ht⟩ := op_ofT hi
  refine wpAnyH_all hr (by simp) (fun k hk => ?_)
  rw [List.mem_singleton] at hk
  subst hk
  refine wpOp_step ho (fun K hK => ?_)
  rw [if_pos (wanted_of hg hw)]
  unfold Oper.wp
  rw [hy o hop ht, Oper.upon_value, hd]
  exact hK _ _ ⟨hS, h⟩
theorem heldStore {fuel : Nat} {listed : Array Bool} {a : Act} {w : World} {d : Option Tmp} {op : Op} {g : Option (Nat × Bool)} {t : TypeId} (i : Nat) (w' : World) (hi : opIsT ops i d op g t) (hw : lets ops a g = true)
    (hr : Region.ready md ops listed = [i]) (hy : ∀ o : Oper, o.op = op → o.type = t → (execOp a.eval o).run P w = .ok .skip w') (hS : S w')
    (h : wpAnyH P md ops Q S fuel (listed.setIfInBounds i true) (a.put d undef) w') : wpAnyH P md ops Q S (fuel + 1) listed a w := by
  obtain ⟨o, ho, hd, hop, hg, ht⟩ := op_ofT hi
  refine wpAnyH_all hr (by simp) (fun k hk => ?_)
  rw [List.mem_singleton] at hk
  subst hk
  refine wpOp_step ho (fun K hK => ?_)
  rw [if_pos (wanted_of hg hw)]
  unfold Oper.wp
  rw [hy o hop ht, Oper.upon_skip, hd]
  exact hK _ _ ⟨hS, h⟩
theorem heldTwo {fuel : Nat} {listed : Array Bool} {a : Act} {w : World} {di dj : Option Tmp} {opi opj : Op} {gi gj : Option (Nat × Bool)} {ti tj : TypeId} (i j : Nat) (vi : Value) (wi : World) (vj : Value) (wj : World)
    (hi : opIsT ops i di opi gi ti) (hj : opIsT ops j dj opj gj tj) (hwi : lets ops a gi = true) (hwj : lets ops a gj = true) (hr : Region.ready md ops listed = [i, j])
    (yi : ∀ o : Oper, o.op = opi → o.type = ti → (execOp a.eval o).run P w = .ok (.value vi) wi) (yj : ∀ o : Oper, o.op = opj → o.type = tj → (execOp a.eval o).run P w = .ok (.value vj) wj) (hSi : S wi) (hSj : S wj)
    (h1 : wpAnyH P md ops Q S fuel (listed.setIfInBounds i true) (a.put di vi) wi) (h2 : wpAnyH P md ops Q S fuel (listed.setIfInBounds j true) (a.put dj vj) wj) : wpAnyH P md ops Q S (fuel + 1) listed a w := by
  obtain ⟨o, ho, hd, hop, hg, ht⟩ := op_ofT hi
  obtain ⟨o', ho', hd', hop', hg', ht'⟩ := op_ofT hj
  refine wpAnyH_all hr (by simp) (fun k hk => ?_)
  rcases List.mem_cons.1 hk with rfl | hk
  · refine wpOp_step ho (fun K hK => ?_)
    rw [if_pos (wanted_of hg hwi)]
    unfold Oper.wp
    rw [yi o hop ht, Oper.upon_value, hd]
    exact hK _ _ ⟨hSi, h1⟩
  · rw [List.mem_singleton] at hk
    subst hk
    refine wpOp_step ho' (fun K hK => ?_)
    rw [if_pos (wanted_of hg' hwj)]
    unfold Oper.wp
    rw [yj o' hop' ht', Oper.upon_value, hd']
    exact hK _ _ ⟨hSj, h2⟩
end
end Go.Proofs.YtlahonjmfecikaaGreatDoor
set_option maxRecDepth 100000
namespace Go.Proofs.YtlahonjmfecikaaGreatDoor
open Go.RowKit
theorem u8s_set (ws : List Nat) (k x : Nat) : (u8s ws).toArray.setIfInBounds k (.int .u8 (x : Int)) = (u8s (ws.set k x)).toArray := by
  simp [u8s, v8, List.map_set]
theorem RowB.set {w : World} {g : Nat} {bs : List Nat} (h : RowB w g bs) (i x : Nat) : RowB (w.setCell ⟨g, i, none⟩ (.int .u8 (x : Int))) g (bs.set i x) := by
  unfold RowB
  rw [heap_setCell_same _ _ _ _ _ _ h, u8s_set]
theorem RowB.cell {w : World} {g : Nat} {bs : List Nat} (h : RowB w g bs) (i : Nat) (hi : i < bs.length) : w.cell? ⟨g, i, none⟩ = some (.int .u8 ((bs.getD i 0 : Nat) : Int)) := by
  rw [cell_of_row _ _ _ _ _ _ h, List.getElem?_toArray]; exact u8s_get bs i hi
theorem RowB.froz {w : World} {g : Nat} {bs : List Nat} (h : RowB w g bs) (i : Nat) : w.frozen? ⟨g, i, none⟩ = false := frozen_of_row _ _ _ _ _ h
theorem rowB_new (w : World) (bs : List Nat) : RowB (w.alloc (.cells (u8s bs).toArray 5)) w.heap.size bs := alloc_new _ _ _ rfl
theorem SrcAt.below {w w' : World} {v : Value} {bs : List Nat} (h : SrcAt w v bs) {B : Nat} (hB : w.heap.size ≤ B) (k : Below B w w') : SrcAt w' v bs := by
  obtain ⟨a, cap, sb, so, h0, h1, h3, h5⟩ := h
  refine ⟨a, cap, sb, so, h0, h1, h3, fun i hi => ?_⟩
  have hlt := block_lt_of_cell (h5 i hi)
  rw [k.cell (p := ⟨sb, so + i, none⟩) (Nat.lt_of_lt_of_le hlt hB)]
  exact h5 i hi
theorem SrcAt.one {w : World} {sb so n cap : Nat} {bs : List Nat} (h : ∀ i, i < n → w.cell? ⟨sb, so + i, none⟩ = some (.int .u8 ((bs.getD i 0 : Nat) : Int))) (k : Nat) (hk : k + 1 ≤ n) (hn : bs.length = n) (hc : k ≤ cap) : SrcAt w (.slice (some ⟨sb, so + 1, none⟩) k cap) ((bs.drop 1).take k) := by
  have hl : ((bs.drop 1).take k).length = k := by rw [List.length_take, List.length_drop]; omega
  refine ⟨_, cap, sb, so + 1, by rw [hl], by rw [hl]; exact hc, fun _ => rfl, fun i hi => ?_⟩
  rw [hl] at hi
  rw [Nat.add_assoc, h (1 + i) (by omega)]
  simp only [List.getD_eq_getElem?_getD]
  rw [List.getElem?_take_of_lt hi, List.getElem?_drop]
section
variable {P : Program} {md : Region.Mode} {ops : Array Oper} {Q : Exit → Act → World → Prop} {S : World → Prop}
theorem heldCA {fuel : Nat} {listed : Array Bool} {a : Act} {w : World} {di dj : Option Tmp} {opi opj : Op} {ti tj : TypeId} (i j : Nat) (vi : Value) (wi : World) (f : FuncId) (args : Array Value)
    (hi : opIsT ops i di opi none ti) (hj : opIsT ops j dj opj none tj) (hr : Region.ready md ops listed = [i, j])
    (yi : ∀ o : Oper, o.op = opi → o.type = ti → (execOp a.eval o).run P w = .ok (.value vi) wi) (yj : ∀ o : Oper, o.op = opj → o.type = tj → (execOp a.eval o).run P w = .ok (.enter f args) w) (hS : S wi)
    (h1 : wpAnyH P md ops Q S fuel (listed.setIfInBounds i true) (a.put di vi) wi)
    (h2 : Calls P f args w fun e w' => ∃ v, e = .returned v ∧ S w' ∧ wpAnyH P md ops Q S fuel (listed.setIfInBounds j true) (a.put dj v) w') : wpAnyH P md ops Q S (fuel + 1) listed a w := by
  obtain ⟨o, ho, hd, hop, hg, ht⟩ := op_ofT hi
  obtain ⟨o', ho', hd', hop', hg', ht'⟩ := op_ofT hj
  refine wpAnyH_all hr (by simp) (fun k hk => ?_)
  rcases List.mem_cons.1 hk with rfl | hk
  · refine wpOp_step ho (fun K hK => ?_)
    rw [if_pos (wanted_of hg rfl)]
    unfold Oper.wp
    rw [yi o hop ht, Oper.upon_value, hd]
    exact hK _ _ ⟨hS, h1⟩
  · rw [List.mem_singleton] at hk
    subst hk
    refine wpOp_step ho' (fun K hK => ?_)
    rw [if_pos (wanted_of hg' rfl)]
    unfold Oper.wp
    rw [yj o' hop' ht', Oper.upon_enter]
    refine h2.mono ?_
    rintro e w' ⟨v, rfl, hS', h'⟩
    rw [hd']
    exact hK _ _ ⟨hS', h'⟩
end
theorem own_row {w : World} {g : Nat} {bs : List Nat} (h : RowB w g bs) (base : Nat) (hb : base ≤ g) (hl : bs.length ≤ 1000000) : w.ownsRow base 5 1 (.slice (some ⟨g, 0, none⟩) bs.length bs.length) bs.length (u8s bs) :=
  ⟨by simp, .inr ⟨g, bs.length, (u8s bs).toArray, rfl, hb, h, Nat.le_refl _, by unfold maxLen; omega, by simp, List.take_of_length_le (by simp)⟩⟩
theorem own_src {w : World} {base : Nat} {v : Value} {bs : List Nat} (h : w.ownsRow base 5 1 v bs.length (u8s bs)) (hp : 0 < bs.length) : ∃ g cap, v = .slice (some ⟨g, 0, none⟩) bs.length cap ∧ base ≤ g ∧ SrcAt w v bs := by
  rcases h.2 with ⟨_, h0⟩ | ⟨g, cap, cur, rfl, hb, hg, hn, _, hs, ht⟩
  · omega
  · refine ⟨g, cap, rfl, hb, _, cap, g, 0, rfl, hn, fun _ => rfl, fun i hi => ?_⟩
    rw [Nat.zero_add, cell_of_row _ _ _ _ _ _ hg]
    have h1 := u8s_get bs i hi
    rw [← ht, List.getElem?_take_of_lt (by omega), Array.getElem?_toList] at h1
    exact h1
theorem info5' : ∃ i, Tryz.prog.info? 5 = some i ∧ i.zero = some (.int .u8 0) ∧ i.size = 1 ∧ i.bytes = 1 := by
  have h5 := info5
  cases hi : Tryz.prog.info? 5 with
  | none => rw [hi] at h5; cases h5
  | some i =>
    rw [hi] at h5
    simp only [Option.map_some, Option.some.injEq, Prod.mk.injEq] at h5
    exact ⟨i, rfl, h5.1, h5.2.1, h5.2.2⟩
theorem add_bytes {Z : World} {base g1 g2 : Nat} {m l : List Nat} (ty : TypeId) (h1 : RowB Z g1 m) (hb1 : base ≤ g1) (h2 : RowB Z g2 l) (hl : m.length + l.length ≤ 1000000) (hbase : base ≤ Z.heap.size) :
    ∃ v1 w1, (Builtin.append_ #[49, 49] ty #[.slice (some ⟨g1, 0, none⟩) m.length m.length, .slice (some ⟨g2, 0, none⟩) l.length l.length]).run Tryz.prog Z = .ok v1 w1 ∧
      w1.ownsRow base 5 1 v1 (m ++ l).length (u8s (m ++ l)) ∧ Z.grownBy w1 (some g1) := by
  obtain ⟨i0, hi0, hz0, hz1, hz2⟩ := info5'
  obtain ⟨v', w', hrun, hown, hgr, _⟩ := run_append_own (P := Tryz.prog) Z base 49 ty 5 i0 _ 1 1 Tryz.underlying49 hi0 hz0 hz1 hz2 rfl (by decide) _ m.length (u8s m) (own_row h1 base hb1 (by omega)) ⟨g2, 0, none⟩ l.length l.length (u8s l) (by simp) (fun j u hu => by
    have hj : j < l.length := by have := (List.getElem?_eq_some_iff.1 hu).1; simpa using this
    rw [Addr.add_mid, Nat.zero_add, h2.cell j hj, ← hu, u8s_get l j hj]) (u8s_one l) (by unfold maxLen; omega) (by omega) hbase
  refine ⟨v', w', hrun, ?_, hgr⟩
  rw [List.length_append, u8s_append]
  exact hown
theorem u8s_cells (l : List Nat) (h : Small 256 l) : u8s l = (l.map UInt8.ofNat).map Extern.Stop.cell := by
  simp only [u8s, List.map_map]
  refine List.map_congr_left (fun x hx => ?_)
  have hx' := h x hx
  simp only [v8, Function.comp_def, Extern.Stop.cell]
  congr 1
  rw [UInt8.toNat_ofNat_of_lt' hx']
  rfl
theorem ofNat_inj {a b : List Nat} (ha : Small 256 a) (hb : Small 256 b) : (a.map UInt8.ofNat = b.map UInt8.ofNat) ↔ a = b := by
  refine ⟨fun h => ?_, fun h => by rw [h]⟩
  have h2 := congrArg (List.map UInt8.toNat) h
  have key : ∀ l : List Nat, Small 256 l → (l.map UInt8.ofNat).map UInt8.toNat = l := fun l hl => by
    rw [List.map_map]
    conv => rhs; rw [← List.map_id l]
    exact List.map_congr_left fun x hx => UInt8.toNat_ofNat_of_lt' (hl x hx)
  rwa [key a ha, key b hb] at h2
theorem eq_keys (a b : List Nat) (ha : a.length = 4) (hb : b.length = 4) (sa : Small 256 a) (sb : Small 256 b) (W : World) :
    (Op.equalIn 10000 59 (.agg (u8s a).toArray) (.agg (u8s b).toArray)).run Tryz.prog W = .ok (decide (a = b)) W := by
  rw [u8s_cells a sa, u8s_cells b sb, run_equalIn_bytes W 9998 59 5 4 Tryz.underlying59 Tryz.underlying5 (fun w => by kernel_rfl) _ _ (by simp [ha]) (by simp [hb])]
  congr 1
  rw [Bool.eq_iff_iff]
  simp only [beq_iff_eq, decide_eq_true_eq]
  exact ofNat_inj sa sb
theorem SrcAt.conv {w : World} {b o n cap : Nat} {bs : List Nat} (h : SrcAt w (.slice (some ⟨b, o, none⟩) n cap) bs) : (convert 49 9 (.slice (some ⟨b, o, none⟩) n cap)).run Tryz.prog w = .ok (.string (strOf bs)) w := by
  obtain ⟨a, c, sb, so, he, hc, ha, hcell⟩ := h
  injection he with h1 h2 h3
  subst h2 h3
  refine run_convert_bytes_arg w 49 5 Tryz.underlying49 Tryz.underlying5 b o bs.length cap (bs.map fun (n : Nat) => (n : Int)) (by simp) (fun i hi => ?_) 9 Tryz.underlying9
  have hi' : i < bs.length := by simpa using hi
  have h4 := ha (by omega)
  rw [h4] at h1
  injection h1 with h1
  injection h1 with h5 h6
  subst h5 h6
  rw [hcell i hi']
  simp [List.getD, List.getElem?_eq_getElem hi']
theorem strOf_one (x : Nat) (h : x < 256) : bytes (strOf [x]) = [x] := bytes_strOf _ (fun y hy => by simp at hy; omega)
theorem src_len {w : World} {g n : Nat} {bs : List Nat} (h : SrcAt w (.slice (some ⟨g, 0, none⟩) bs.length bs.length) bs) (hn : bs.length = n) : SrcAt w (.slice (some ⟨g, 0, none⟩) n n) bs := by subst hn; exact h
theorem below_key {w w' : World} {g : Nat} {o : Obj} (h : w.heap[g]? = some o) (k : Below w.heap.size w w') : w'.heap[g]? = some o := by
  rw [k.block _ (Array.getElem?_eq_some_iff.1 h).1]; exact h
end Go.Proofs.YtlahonjmfecikaaGreatDoor
