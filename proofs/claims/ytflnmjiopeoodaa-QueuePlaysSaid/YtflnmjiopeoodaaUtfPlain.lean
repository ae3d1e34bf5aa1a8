/- Letters as they come, plain facts: which byte may come next, and the document's answer by letters' numbers. Nothing here speaks of the program. -/
namespace UtfPlain

/-- How many bytes are still to come, and the bounds of the next one. -/
abbrev St := Nat × Nat × Nat
def s0 : St := (0, 128, 191)
/-- What a first byte begins. -/
def lead (b : Nat) : Option St :=
  if b < 128 then some s0 else if b < 194 then none else if b < 224 then some (1, 128, 191)
  else if b = 224 then some (2, 160, 191) else if b = 237 then some (2, 128, 159) else if b < 240 then some (2, 128, 191)
  else if b = 240 then some (3, 144, 191) else if b < 244 then some (3, 128, 191) else if b = 244 then some (3, 128, 143) else none
/-- One byte more. -/
def ustep (s : St) (b : Nat) : Option St := if s.1 = 0 then lead b else if s.2.1 ≤ b ∧ b ≤ s.2.2 then some (s.1 - 1, 128, 191) else none
/-- How many bytes are right. -/
def uright (s : St) : List Nat → Nat
  | [] => 0
  | b :: r => match ustep s b with
    | none => 0
    | some t => uright t r + 1
/-- What stands behind all bytes, if they are right. -/
def uend (s : St) : List Nat → Option St
  | [] => some s
  | b :: r => match ustep s b with
    | none => none
    | some t => uend t r
/-- How many letters were ended. -/
def ucount (s : St) : List Nat → Nat
  | [] => 0
  | b :: r => match ustep s b with
    | none => 0
    | some t => ucount t r + if t.1 = 0 then 1 else 0

theorem uend_append (l m : List Nat) (s : St) : uend s (l ++ m) = (uend s l).bind fun t => uend t m := by
  induction l generalizing s with
  | nil => rfl
  | cons b r ih =>
    simp only [List.cons_append, uend]
    cases ustep s b with
    | none => rfl
    | some t => exact ih t
theorem uright_append (l m : List Nat) (s : St) : uright s (l ++ m) = match uend s l with | none => uright s l | some t => l.length + uright t m := by
  induction l generalizing s with
  | nil => simp [uend]
  | cons b r ih =>
    simp only [List.cons_append, uend, uright]
    cases ustep s b with
    | none => rfl
    | some t =>
      simp only [ih t]
      cases uend t r with
      | none => rfl
      | some u => simp only [List.length_cons]; omega
theorem ucount_append (l m : List Nat) (s : St) : ucount s (l ++ m) = match uend s l with | none => ucount s l | some t => ucount s l + ucount t m := by
  induction l generalizing s with
  | nil => simp [uend, ucount]
  | cons b r ih =>
    simp only [List.cons_append, uend, ucount]
    cases ustep s b with
    | none => rfl
    | some t =>
      simp only [ih t]
      cases uend t r with
      | none => rfl
      | some u => simp only; omega
theorem uright_le (l : List Nat) (s : St) : uright s l ≤ l.length := by
  induction l generalizing s with
  | nil => exact Nat.le_refl _
  | cons b r ih =>
    simp only [uright]
    cases ustep s b with
    | none => exact Nat.zero_le _
    | some t => simp only [List.length_cons]; have := ih t; omega
theorem uend_iff (l : List Nat) (s : St) : (uend s l).isSome = true ↔ uright s l = l.length := by
  induction l generalizing s with
  | nil => simp [uend, uright]
  | cons b r ih =>
    simp only [uright, uend]
    cases ustep s b with
    | none => simp
    | some t => simp only [List.length_cons]; rw [ih t]; omega

/-- The states that come up. -/
def Ok (s : St) : Prop := s = s0 ∨ s = (1, 128, 191) ∨ s = (2, 128, 191) ∨ s = (2, 160, 191) ∨ s = (2, 128, 159) ∨ s = (3, 128, 191) ∨ s = (3, 144, 191) ∨ s = (3, 128, 143)
theorem lead_ok {b : Nat} {t : St} (h : lead b = some t) : Ok t := by
  unfold lead at h
  repeat' split at h
  all_goals first | (injection h with h; subst h; unfold Ok s0; simp) | cases h
theorem ustep_ok {s t : St} {b : Nat} (hs : Ok s) (h : ustep s b = some t) : Ok t := by
  unfold ustep at h
  split at h
  · exact lead_ok h
  · split at h
    · injection h with h
      subst h
      rcases hs with rfl | rfl | rfl | rfl | rfl | rfl | rfl | rfl <;> simp [Ok, s0]
    · cases h

/-! The document's answer. -/
/-- A letter's bytes. -/
def putL (n : Int) : Option (List Nat) :=
  if n < 0 ∨ n > 1114111 ∨ (55296 ≤ n ∧ n ≤ 57343) then none
  else if n < 128 then some [n.toNat]
  else if n < 2048 then some [192 + n.toNat / 64, 128 + n.toNat % 64]
  else if n < 65536 then some [224 + n.toNat / 4096, 128 + n.toNat / 64 % 64, 128 + n.toNat % 64]
  else some [240 + n.toNat / 262144, 128 + n.toNat / 4096 % 64, 128 + n.toNat / 64 % 64, 128 + n.toNat % 64]
/-- How many bytes a letter has by its first one. -/
def long (b : Nat) : Nat := if b < 128 then 1 else if 192 ≤ b ∧ b < 224 then 2 else if 224 ≤ b ∧ b < 240 then 3 else if 240 ≤ b ∧ b < 248 then 4 else 0
/-- The number of so many bytes. -/
def numb (m : Nat) : List Nat → Nat
  | [] => 0
  | b :: r => r.foldl (fun v c => 64 * v + c % 64) (b % m)
/-- Does a text begin with a letter? How many bytes has that? -/
def whole (s : List Nat) : Nat :=
  let n := long (s.headD 0)
  if n = 0 ∨ s.length < n then 0 else if putL (numb (match n with | 1 => 256 | 2 => 32 | 3 => 16 | _ => 8) (s.take n)) = some (s.take n) then n else 0
/-- By the bytes that may come. -/
def whole' (s : List Nat) : Nat :=
  match s with
  | [] => 0
  | b :: r => match lead b with
    | none => 0
    | some t => match t.1, r with
      | 0, _ => 1
      | 1, c :: _ => if t.2.1 ≤ c ∧ c ≤ t.2.2 then 2 else 0
      | 2, c :: d :: _ => if (t.2.1 ≤ c ∧ c ≤ t.2.2) ∧ 128 ≤ d ∧ d ≤ 191 then 3 else 0
      | 3, c :: d :: e :: _ => if (t.2.1 ≤ c ∧ c ≤ t.2.2) ∧ (128 ≤ d ∧ d ≤ 191) ∧ 128 ≤ e ∧ e ≤ 191 then 4 else 0
      | _, _ => 0

theorem lead1 {b : Nat} (h : b < 128) : lead b = some s0 := by unfold lead; rw [if_pos h]
theorem lead2 {b : Nat} (h1 : 194 ≤ b) (h2 : b < 224) : lead b = some (1, 128, 191) := by
  unfold lead; rw [if_neg (by omega), if_neg (by omega), if_pos h2]
theorem lead2n {b : Nat} (h1 : 128 ≤ b) (h2 : b < 194) : lead b = none := by
  unfold lead; rw [if_neg (by omega), if_pos h2]
/-- The bounds behind a first byte of three. -/
def lo3 (b : Nat) : Nat := if b = 224 then 160 else 128
def hi3 (b : Nat) : Nat := if b = 237 then 159 else 191
theorem lead3 {b : Nat} (h1 : 224 ≤ b) (h2 : b < 240) : lead b = some (2, lo3 b, hi3 b) := by
  unfold lead lo3 hi3
  rw [if_neg (by omega), if_neg (by omega), if_neg (by omega)]
  by_cases e : b = 224
  · rw [if_pos e, if_pos e, if_neg (by omega)]
  · rw [if_neg e, if_neg e]
    by_cases f : b = 237
    · rw [if_pos f, if_pos f]
    · rw [if_neg f, if_neg f, if_pos h2]
/-- The bounds behind a first byte of four. -/
def lo4 (b : Nat) : Nat := if b = 240 then 144 else 128
def hi4 (b : Nat) : Nat := if b = 244 then 143 else 191
theorem lead4 {b : Nat} (h1 : 240 ≤ b) (h2 : b < 245) : lead b = some (3, lo4 b, hi4 b) := by
  unfold lead lo4 hi4
  rw [if_neg (by omega), if_neg (by omega), if_neg (by omega), if_neg (by omega), if_neg (by omega), if_neg (by omega)]
  by_cases e : b = 240
  · rw [if_pos e, if_pos e, if_neg (by omega)]
  · rw [if_neg e, if_neg e]
    by_cases f : b = 244
    · rw [if_neg (by omega), if_pos f, if_pos f]
    · rw [if_pos (by omega), if_neg f]
theorem lead5 {b : Nat} (h1 : 245 ≤ b) : lead b = none := by
  unfold lead
  rw [if_neg (by omega), if_neg (by omega), if_neg (by omega), if_neg (by omega), if_neg (by omega), if_neg (by omega), if_neg (by omega), if_neg (by omega), if_neg (by omega)]

theorem put1 (n : Nat) (h : n < 128) : putL n = some [n] := by
  unfold putL; rw [if_neg (by omega), if_pos (by omega)]; simp
theorem put2 (n : Nat) (h1 : 128 ≤ n) (h2 : n < 2048) : putL n = some [192 + n / 64, 128 + n % 64] := by
  unfold putL; rw [if_neg (by omega), if_neg (by omega), if_pos (by omega)]; simp
theorem put3 (n : Nat) (h1 : 2048 ≤ n) (h2 : n < 65536) (h3 : n < 55296 ∨ 57343 < n) : putL n = some [224 + n / 4096, 128 + n / 64 % 64, 128 + n % 64] := by
  unfold putL; rw [if_neg (by omega), if_neg (by omega), if_neg (by omega), if_pos (by omega)]; simp
theorem put4 (n : Nat) (h1 : 65536 ≤ n) (h2 : n ≤ 1114111) : putL n = some [240 + n / 262144, 128 + n / 4096 % 64, 128 + n / 64 % 64, 128 + n % 64] := by
  unfold putL; rw [if_neg (by omega), if_neg (by omega), if_neg (by omega), if_neg (by omega)]; simp
theorem put_none (n : Nat) (h : 1114111 < n ∨ (55296 ≤ n ∧ n ≤ 57343)) : putL n = none := by
  unfold putL; rw [if_pos (by omega)]

theorem w2 (b c : Nat) (h1 : 192 ≤ b) (h2 : b < 224) : putL ((64 * (b % 32) + c % 64 : Nat) : Int) = some [b, c] ↔ 194 ≤ b ∧ 128 ≤ c ∧ c ≤ 191 := by
  by_cases h : 64 * (b % 32) + c % 64 < 128
  · rw [put1 _ h]; simp; omega
  · rw [put2 _ (by omega) (by omega)]
    simp only [Option.some.injEq, List.cons.injEq, and_true]
    omega
theorem lo3_cases (b : Nat) : (b = 224 ∧ lo3 b = 160) ∨ (b ≠ 224 ∧ lo3 b = 128) := by unfold lo3; split <;> simp_all
theorem hi3_cases (b : Nat) : (b = 237 ∧ hi3 b = 159) ∨ (b ≠ 237 ∧ hi3 b = 191) := by unfold hi3; split <;> simp_all
theorem lo4_cases (b : Nat) : (b = 240 ∧ lo4 b = 144) ∨ (b ≠ 240 ∧ lo4 b = 128) := by unfold lo4; split <;> simp_all
theorem hi4_cases (b : Nat) : (b = 244 ∧ hi4 b = 143) ∨ (b ≠ 244 ∧ hi4 b = 191) := by unfold hi4; split <;> simp_all
theorem w3 (b c d : Nat) (h1 : 224 ≤ b) (h2 : b < 240) : putL ((64 * (64 * (b % 16) + c % 64) + d % 64 : Nat) : Int) = some [b, c, d] ↔ (lo3 b ≤ c ∧ c ≤ hi3 b) ∧ 128 ≤ d ∧ d ≤ 191 := by
  have hL := lo3_cases b
  have hH := hi3_cases b
  generalize lo3 b = L at *
  generalize hi3 b = H at *
  generalize hv : 64 * (64 * (b % 16) + c % 64) + d % 64 = v
  by_cases k1 : v < 128
  · rw [put1 _ k1]; exact ⟨fun h => by simp at h, fun h => by exfalso; omega⟩
  · by_cases k2 : v < 2048
    · rw [put2 _ (by omega) k2]; exact ⟨fun h => by simp at h, fun h => by exfalso; omega⟩
    · by_cases k3 : 55296 ≤ v ∧ v ≤ 57343
      · rw [put_none _ (.inr k3)]; exact ⟨fun h => by simp at h, fun h => by exfalso; omega⟩
      · rw [put3 _ (by omega) (by omega) (by omega)]
        simp only [Option.some.injEq, List.cons.injEq, and_true]
        omega
theorem w4 (b c d e : Nat) (h1 : 240 ≤ b) (h2 : b < 248) : putL ((64 * (64 * (64 * (b % 8) + c % 64) + d % 64) + e % 64 : Nat) : Int) = some [b, c, d, e] ↔ b < 245 ∧ (lo4 b ≤ c ∧ c ≤ hi4 b) ∧ (128 ≤ d ∧ d ≤ 191) ∧ 128 ≤ e ∧ e ≤ 191 := by
  have hL := lo4_cases b
  have hH := hi4_cases b
  generalize lo4 b = L at *
  generalize hi4 b = H at *
  generalize hv : 64 * (64 * (64 * (b % 8) + c % 64) + d % 64) + e % 64 = v
  by_cases k1 : v < 128
  · rw [put1 _ k1]; exact ⟨fun h => by simp at h, fun h => by exfalso; omega⟩
  · by_cases k2 : v < 2048
    · rw [put2 _ (by omega) k2]; exact ⟨fun h => by simp at h, fun h => by exfalso; omega⟩
    · by_cases k3 : 55296 ≤ v ∧ v ≤ 57343
      · rw [put_none _ (.inr k3)]; exact ⟨fun h => by simp at h, fun h => by exfalso; omega⟩
      · by_cases k4 : v < 65536
        · rw [put3 _ (by omega) (by omega) (by omega)]; exact ⟨fun h => by simp at h, fun h => by exfalso; omega⟩
        · by_cases k5 : 1114111 < v
          · rw [put_none _ (.inl k5)]; exact ⟨fun h => by simp at h, fun h => by exfalso; omega⟩
          · rw [put4 _ (by omega) (by omega)]
            simp only [Option.some.injEq, List.cons.injEq, and_true]
            omega

theorem whole_eq (s : List Nat) : whole s = whole' s := by
  match s with
  | [] => rfl
  | b :: r =>
    unfold whole
    simp only [List.headD_cons]
    by_cases a1 : b < 128
    · have hl : long b = 1 := by unfold long; rw [if_pos a1]
      simp only [hl, whole', lead1 a1, s0]
      rw [if_neg (by simp)]
      have : numb 256 (List.take 1 (b :: r)) = b := by show b % 256 = b; omega
      rw [this, put1 b a1]
      simp
    · by_cases a2 : b < 192
      · have hl : long b = 0 := by unfold long; rw [if_neg a1, if_neg (by omega), if_neg (by omega), if_neg (by omega)]
        simp [hl, whole', lead2n (by omega : 128 ≤ b) (by omega)]
      · by_cases a3 : b < 224
        · have hl : long b = 2 := by unfold long; rw [if_neg a1, if_pos (by omega)]
          simp only [hl]
          match r with
          | [] =>
            by_cases e : b < 194
            · simp [whole', lead2n (by omega : 128 ≤ b) e]
            · simp [whole', lead2 (by omega : 194 ≤ b) a3]
          | c :: r' =>
            rw [if_neg (by simp)]
            have hw := w2 b c (by omega) a3
            have e : numb 32 [b, c] = 64 * (b % 32) + c % 64 := rfl
            simp only [e, show List.take 2 (b :: c :: r') = [b, c] from rfl]
            by_cases g : b < 194
            · simp only [whole', lead2n (by omega : 128 ≤ b) g]
              rw [if_neg (by rw [hw]; omega)]
            · simp only [whole', lead2 (by omega : 194 ≤ b) a3]
              by_cases q : 128 ≤ c ∧ c ≤ 191
              · rw [if_pos (hw.2 ⟨by omega, q⟩), if_pos q]
              · rw [if_neg (fun h => q (hw.1 h).2), if_neg q]
        · by_cases a4 : b < 240
          · have hl : long b = 3 := by unfold long; rw [if_neg a1, if_neg (by omega), if_pos (by omega)]
            simp only [hl]
            match r with
            | [] => simp [whole', lead3 (by omega : 224 ≤ b) a4]
            | [c] => simp [whole', lead3 (by omega : 224 ≤ b) a4]
            | c :: d :: r' =>
              rw [if_neg (by simp)]
              have hw := w3 b c d (by omega) a4
              have e : numb 16 [b, c, d] = 64 * (64 * (b % 16) + c % 64) + d % 64 := rfl
              simp only [e, show List.take 3 (b :: c :: d :: r') = [b, c, d] from rfl, whole', lead3 (by omega : 224 ≤ b) a4]
              by_cases q : (lo3 b ≤ c ∧ c ≤ hi3 b) ∧ 128 ≤ d ∧ d ≤ 191
              · rw [if_pos (hw.2 q), if_pos q]
              · rw [if_neg (fun h => q (hw.1 h)), if_neg q]
          · by_cases a5 : b < 248
            · have hl : long b = 4 := by unfold long; rw [if_neg a1, if_neg (by omega), if_neg (by omega), if_pos (by omega)]
              simp only [hl]
              by_cases a6 : b < 245
              · match r with
                | [] => simp [whole', lead4 (by omega : 240 ≤ b) a6]
                | [c] => simp [whole', lead4 (by omega : 240 ≤ b) a6]
                | [c, d] => simp [whole', lead4 (by omega : 240 ≤ b) a6]
                | c :: d :: f :: r' =>
                  rw [if_neg (by simp)]
                  have hw := w4 b c d f (by omega) a5
                  have e : numb 8 [b, c, d, f] = 64 * (64 * (64 * (b % 8) + c % 64) + d % 64) + f % 64 := rfl
                  simp only [e, show List.take 4 (b :: c :: d :: f :: r') = [b, c, d, f] from rfl, whole', lead4 (by omega : 240 ≤ b) a6]
                  by_cases q : (lo4 b ≤ c ∧ c ≤ hi4 b) ∧ (128 ≤ d ∧ d ≤ 191) ∧ 128 ≤ f ∧ f ≤ 191
                  · rw [if_pos (hw.2 ⟨a6, q⟩), if_pos q]
                  · rw [if_neg (fun h => q (hw.1 h).2), if_neg q]
              · have hn : whole' (b :: r) = 0 := by simp [whole', lead5 (by omega : 245 ≤ b)]
                rw [hn]
                match r with
                | [] => simp
                | [c] => simp
                | [c, d] => simp
                | c :: d :: f :: r' =>
                  rw [if_neg (by simp)]
                  have hw := w4 b c d f (by omega) a5
                  have e : numb 8 [b, c, d, f] = 64 * (64 * (64 * (b % 8) + c % 64) + d % 64) + f % 64 := rfl
                  simp only [e, show List.take 4 (b :: c :: d :: f :: r') = [b, c, d, f] from rfl]
                  rw [if_neg (fun h => a6 (hw.1 h).1)]
            · have hl : long b = 0 := by unfold long; rw [if_neg a1, if_neg (by omega), if_neg (by omega), if_neg (by omega)]
              simp [hl, whole', lead5 (by omega : 245 ≤ b)]

theorem ustep0 (b : Nat) : ustep s0 b = lead b := rfl
theorem ustepk (k lo hi b : Nat) : ustep (k + 1, lo, hi) b = if lo ≤ b ∧ b ≤ hi then some (k, 128, 191) else none := by simp [ustep]
/-- A whole letter. -/
theorem whole_yes (u : List Nat) (n : Nat) (h : whole' u = n + 1) : n + 1 ≤ u.length ∧ uend s0 (u.take (n + 1)) = some s0 ∧ ucount s0 (u.take (n + 1)) = 1 := by
  match u with
  | [] => cases h
  | b :: r =>
    unfold whole' at h
    simp only at h
    cases hl : lead b with
    | none => rw [hl] at h; cases h
    | some t =>
      obtain ⟨k, lo, hi⟩ := t
      rw [hl] at h
      simp only at h
      match k, r with
      | 0, _ =>
        simp only at h
        obtain rfl : n = 0 := by omega
        have ht : (0, lo, hi) = s0 := by
          rcases lead_ok hl with e | e | e | e | e | e | e | e <;> first | exact e | (injection e with e1 e2; cases e1)
        refine ⟨by simp, ?_, ?_⟩
        · simp [uend, ustep0, hl, ht]
        · simp [ucount, ustep0, hl]
      | 1, [] => cases h
      | 1, c :: r' =>
        simp only at h
        split at h
        · rename_i q
          obtain rfl : n = 1 := by omega
          refine ⟨by simp, ?_, ?_⟩
          · simp [uend, ustep0, hl, ustepk, q]; rfl
          · simp [ucount, ustep0, hl, ustepk, q]
        · cases h
      | 2, [] => cases h
      | 2, [_] => cases h
      | 2, c :: d :: r' =>
        simp only at h
        split at h
        · rename_i q
          obtain rfl : n = 2 := by omega
          refine ⟨by simp, ?_, ?_⟩
          · simp [uend, ustep0, hl, ustepk, q]; rfl
          · simp [ucount, ustep0, hl, ustepk, q]
        · cases h
      | 3, [] => cases h
      | 3, [_] => cases h
      | 3, [_, _] => cases h
      | 3, c :: d :: f :: r' =>
        simp only at h
        split at h
        · rename_i q
          obtain rfl : n = 3 := by omega
          refine ⟨by simp, ?_, ?_⟩
          · simp [uend, ustep0, hl, ustepk, q]; rfl
          · simp [ucount, ustep0, hl, ustepk, q]
        · cases h
      | k + 4, _ => cases h
theorem ne1 (lo hi : Nat) : ¬ ((1, lo, hi) : St) = s0 := fun h => by injection h with h; cases h
theorem ne2 (lo hi : Nat) : ¬ ((2, lo, hi) : St) = s0 := fun h => by injection h with h; cases h
theorem ne3 (lo hi : Nat) : ¬ ((3, lo, hi) : St) = s0 := fun h => by injection h with h; cases h
/-- No whole letter. -/
theorem whole_no (u : List Nat) (hu : u ≠ []) (h : whole' u = 0) : uend s0 u ≠ some s0 ∧ ucount s0 u = 0 := by
  match u with
  | [] => exact absurd rfl hu
  | b :: r =>
    unfold whole' at h
    simp only at h
    cases hl : lead b with
    | none => simp [uend, ucount, ustep0, hl]
    | some t =>
      obtain ⟨k, lo, hi⟩ := t
      have ok := lead_ok hl
      rw [hl] at h
      simp only at h
      match k, r with
      | 0, _ => cases h
      | 1, [] => simp [uend, ucount, ustep0, hl, ne1]
      | 1, c :: r' =>
        simp only at h
        split at h
        · cases h
        · rename_i q
          simp [uend, ucount, ustep0, hl, ustepk, q]
      | 2, [] => simp [uend, ucount, ustep0, hl, ne2]
      | 2, [c] =>
        by_cases q : lo ≤ c ∧ c ≤ hi
        · simp [uend, ucount, ustep0, hl, ustepk, q, ne1]
        · simp [uend, ucount, ustep0, hl, ustepk, q]
      | 2, c :: d :: r' =>
        simp only at h
        split at h
        · cases h
        · rename_i q
          by_cases q1 : lo ≤ c ∧ c ≤ hi
          · have q2 : ¬ (128 ≤ d ∧ d ≤ 191) := fun x => q ⟨q1, x⟩
            simp [uend, ucount, ustep0, hl, ustepk, q1, q2]
          · simp [uend, ucount, ustep0, hl, ustepk, q1]
      | 3, [] => simp [uend, ucount, ustep0, hl, ne3]
      | 3, [c] =>
        by_cases q : lo ≤ c ∧ c ≤ hi
        · simp [uend, ucount, ustep0, hl, ustepk, q, ne2]
        · simp [uend, ucount, ustep0, hl, ustepk, q]
      | 3, [c, d] =>
        by_cases q : lo ≤ c ∧ c ≤ hi
        · by_cases q2 : 128 ≤ d ∧ d ≤ 191
          · simp [uend, ucount, ustep0, hl, ustepk, q, q2, ne1]
          · simp [uend, ucount, ustep0, hl, ustepk, q, q2]
        · simp [uend, ucount, ustep0, hl, ustepk, q]
      | 3, c :: d :: f :: r' =>
        simp only at h
        split at h
        · cases h
        · rename_i q
          by_cases q1 : lo ≤ c ∧ c ≤ hi
          · by_cases q2 : 128 ≤ d ∧ d ≤ 191
            · have q3 : ¬ (128 ≤ f ∧ f ≤ 191) := fun x => q ⟨q1, q2, x⟩
              simp [uend, ucount, ustep0, hl, ustepk, q1, q2, q3]
            · simp [uend, ucount, ustep0, hl, ustepk, q1, q2]
          · simp [uend, ucount, ustep0, hl, ustepk, q1]
      | k + 4, _ =>
        rcases ok with e | e | e | e | e | e | e | e <;> (injection e with e1 e2; omega)

/-- The least and the greatest number so far, behind k bytes. -/
def lm (v : Nat) (s : List Nat) : Nat → Nat × Nat
  | 0 => (v, v)
  | 1 => (v, v)
  | i + 2 => (64 * (lm v s (i + 1)).1 + (if i + 1 < s.length then s.getD (i + 1) 0 - 128 else 0), 64 * (lm v s (i + 1)).2 + (if i + 1 < s.length then s.getD (i + 1) 0 - 128 else 63))
/-- What a first byte of so many is taken by. -/
def modOf (n : Nat) : Nat := match n with | 1 => 256 | 2 => 32 | 3 => 16 | _ => 8
def fromOf (n : Nat) : Nat := match n with | 2 => 128 | 3 => 2048 | 4 => 65536 | _ => 0
def toOf (n : Nat) : Nat := match n with | 1 => 127 | 2 => 2047 | 3 => 65535 | 4 => 1114111 | _ => 0
/-- Is there a letter among those from least to most? -/
def fits (n : Nat) (p : Nat × Nat) : Bool := decide (max p.1 (fromOf n) ≤ min p.2 (toOf n)) && !(decide (55296 ≤ max p.1 (fromOf n)) && decide (min p.2 (toOf n) ≤ 57343))
/-- Are bytes the beginning of a letter's, that has more? -/
def beg (s : List Nat) : Bool :=
  let n := long (s.headD 0)
  if n ≤ s.length then false else if s.tail.all (fun c => decide (128 ≤ c ∧ c ≤ 191)) then fits n (lm (s.headD 0 % modOf n) s n) else false

theorem long2 {b : Nat} (h1 : 192 ≤ b) (h2 : b < 224) : long b = 2 := by unfold long; rw [if_neg (by omega), if_pos (by omega)]
theorem long3 {b : Nat} (h1 : 224 ≤ b) (h2 : b < 240) : long b = 3 := by unfold long; rw [if_neg (by omega), if_neg (by omega), if_pos (by omega)]
theorem long4 {b : Nat} (h1 : 240 ≤ b) (h2 : b < 248) : long b = 4 := by unfold long; rw [if_neg (by omega), if_neg (by omega), if_neg (by omega), if_pos (by omega)]
theorem fits_iff (n : Nat) (l m : Nat) : fits n (l, m) = true ↔ (l ≤ m ∧ fromOf n ≤ m ∧ l ≤ toOf n ∧ fromOf n ≤ toOf n) ∧ ¬ (55296 ≤ max l (fromOf n) ∧ min m (toOf n) ≤ 57343) := by
  unfold fits
  simp only [Bool.and_eq_true, decide_eq_true_eq, Bool.not_eq_true', Bool.and_eq_false_iff, decide_eq_false_iff_not]
  omega
theorem b2 (b : Nat) (h1 : 192 ≤ b) (h2 : b < 224) : beg [b] = true ↔ 194 ≤ b := by
  unfold beg
  simp only [List.headD_cons, long2 h1 h2]
  rw [if_neg (by simp), if_pos (by simp)]
  show fits 2 (64 * (b % 32) + 0, 64 * (b % 32) + 63) = true ↔ _
  rw [fits_iff]
  simp only [fromOf, toOf]
  omega
theorem b3a (b : Nat) (h1 : 224 ≤ b) (h2 : b < 240) : beg [b] = true := by
  unfold beg
  simp only [List.headD_cons, long3 h1 h2]
  rw [if_neg (by simp), if_pos (by simp)]
  show fits 3 (64 * (64 * (b % 16) + 0) + 0, 64 * (64 * (b % 16) + 63) + 63) = true
  rw [fits_iff]
  simp only [fromOf, toOf]
  omega
theorem b3b (b c : Nat) (h1 : 224 ≤ b) (h2 : b < 240) : beg [b, c] = true ↔ lo3 b ≤ c ∧ c ≤ hi3 b := by
  have hL := lo3_cases b
  have hH := hi3_cases b
  unfold beg
  simp only [List.headD_cons, long3 h1 h2]
  rw [if_neg (by simp)]
  by_cases q : 128 ≤ c ∧ c ≤ 191
  · rw [if_pos (by simpa using q)]
    show fits 3 (64 * (64 * (b % 16) + (c - 128)) + 0, 64 * (64 * (b % 16) + (c - 128)) + 63) = true ↔ _
    rw [fits_iff]
    simp only [fromOf, toOf]
    omega
  · rw [if_neg (by simpa using q)]
    exact ⟨fun h => (by cases h), fun h => by exfalso; omega⟩
theorem b4a (b : Nat) (h1 : 240 ≤ b) (h2 : b < 248) : beg [b] = true ↔ b < 245 := by
  unfold beg
  simp only [List.headD_cons, long4 h1 h2]
  rw [if_neg (by simp), if_pos (by simp)]
  show fits 4 (64 * (64 * (64 * (b % 8) + 0) + 0) + 0, 64 * (64 * (64 * (b % 8) + 63) + 63) + 63) = true ↔ _
  rw [fits_iff]
  simp only [fromOf, toOf]
  omega
theorem b4b (b c : Nat) (h1 : 240 ≤ b) (h2 : b < 248) : beg [b, c] = true ↔ b < 245 ∧ lo4 b ≤ c ∧ c ≤ hi4 b := by
  have hL := lo4_cases b
  have hH := hi4_cases b
  unfold beg
  simp only [List.headD_cons, long4 h1 h2]
  rw [if_neg (by simp)]
  by_cases q : 128 ≤ c ∧ c ≤ 191
  · rw [if_pos (by simpa using q)]
    show fits 4 (64 * (64 * (64 * (b % 8) + (c - 128)) + 0) + 0, 64 * (64 * (64 * (b % 8) + (c - 128)) + 63) + 63) = true ↔ _
    rw [fits_iff]
    simp only [fromOf, toOf]
    omega
  · rw [if_neg (by simpa using q)]
    exact ⟨fun h => (by cases h), fun h => by exfalso; omega⟩
theorem b4c (b c d : Nat) (h1 : 240 ≤ b) (h2 : b < 248) : beg [b, c, d] = true ↔ b < 245 ∧ (lo4 b ≤ c ∧ c ≤ hi4 b) ∧ 128 ≤ d ∧ d ≤ 191 := by
  have hL := lo4_cases b
  have hH := hi4_cases b
  unfold beg
  simp only [List.headD_cons, long4 h1 h2]
  rw [if_neg (by simp)]
  by_cases q : (128 ≤ c ∧ c ≤ 191) ∧ 128 ≤ d ∧ d ≤ 191
  · rw [if_pos (by simpa using q)]
    show fits 4 (64 * (64 * (64 * (b % 8) + (c - 128)) + (d - 128)) + 0, 64 * (64 * (64 * (b % 8) + (c - 128)) + (d - 128)) + 63) = true ↔ _
    rw [fits_iff]
    simp only [fromOf, toOf]
    omega
  · rw [if_neg (by simpa using q)]
    exact ⟨fun h => (by cases h), fun h => by exfalso; omega⟩

/-- What has begun, and has more to come. -/
theorem beg_eq (s : List Nat) (hs : s ≠ []) : beg s = true ↔ s.length < long (s.headD 0) ∧ (uend s0 s).isSome = true := by
  match s with
  | [] => exact absurd rfl hs
  | b :: r =>
    simp only [List.headD_cons]
    by_cases hlen : (b :: r).length < long b
    · by_cases a1 : b < 128
      · have hl : long b = 1 := by unfold long; rw [if_pos a1]
        rw [hl] at hlen; simp at hlen
      · by_cases a2 : b < 192
        · have hl : long b = 0 := by unfold long; rw [if_neg a1, if_neg (by omega), if_neg (by omega), if_neg (by omega)]
          rw [hl] at hlen; simp at hlen
        · by_cases a3 : b < 224
          · rw [long2 (by omega) a3] at hlen ⊢
            match r with
            | [] =>
              rw [b2 b (by omega) a3]
              by_cases e : b < 194
              · simp [uend, ustep0, lead2n (by omega : 128 ≤ b) e]; omega
              · simp [uend, ustep0, lead2 (by omega : 194 ≤ b) a3]; omega
            | _ :: _ => simp at hlen; omega
          · by_cases a4 : b < 240
            · rw [long3 (by omega) a4] at hlen ⊢
              match r with
              | [] => rw [b3a b (by omega) a4]; simp [uend, ustep0, lead3 (by omega : 224 ≤ b) a4]
              | [c] =>
                rw [b3b b c (by omega) a4]
                by_cases q : lo3 b ≤ c ∧ c ≤ hi3 b
                · simp [uend, ustep0, lead3 (by omega : 224 ≤ b) a4, ustepk, q]
                · simp [uend, ustep0, lead3 (by omega : 224 ≤ b) a4, ustepk, q]
              | _ :: _ :: _ => simp at hlen; omega
            · by_cases a5 : b < 248
              · rw [long4 (by omega) a5] at hlen ⊢
                by_cases a6 : b < 245
                · match r with
                  | [] => rw [b4a b (by omega) a5]; simp [uend, ustep0, lead4 (by omega : 240 ≤ b) a6, a6]
                  | [c] =>
                    rw [b4b b c (by omega) a5]
                    by_cases q : lo4 b ≤ c ∧ c ≤ hi4 b
                    · simp [uend, ustep0, lead4 (by omega : 240 ≤ b) a6, ustepk, q, a6]
                    · simp [uend, ustep0, lead4 (by omega : 240 ≤ b) a6, ustepk, q]
                  | [c, d] =>
                    rw [b4c b c d (by omega) a5]
                    by_cases q : lo4 b ≤ c ∧ c ≤ hi4 b
                    · by_cases q2 : 128 ≤ d ∧ d ≤ 191
                      · simp [uend, ustep0, lead4 (by omega : 240 ≤ b) a6, ustepk, q, q2, a6]
                      · simp [uend, ustep0, lead4 (by omega : 240 ≤ b) a6, ustepk, q, q2]
                    · simp [uend, ustep0, lead4 (by omega : 240 ≤ b) a6, ustepk, q]
                  | _ :: _ :: _ :: _ => simp at hlen; omega
                · match r with
                  | [] => rw [b4a b (by omega) a5]; simp [uend, ustep0, lead5 (by omega : 245 ≤ b), a6]
                  | [c] => rw [b4b b c (by omega) a5]; simp [uend, ustep0, lead5 (by omega : 245 ≤ b), a6]
                  | [c, d] => rw [b4c b c d (by omega) a5]; simp [uend, ustep0, lead5 (by omega : 245 ≤ b), a6]
                  | _ :: _ :: _ :: _ => simp at hlen; omega
              · have hl : long b = 0 := by unfold long; rw [if_neg a1, if_neg (by omega), if_neg (by omega), if_neg (by omega)]
                rw [hl] at hlen; simp at hlen
    · have hb : beg (b :: r) = false := by
        unfold beg
        simp only [List.headD_cons]
        exact if_pos (Nat.le_of_not_lt hlen)
      rw [hb]
      exact ⟨fun h => (by cases h), fun h => absurd h.1 hlen⟩

theorem uright_lt (l : List Nat) : ∀ (s : St) (j : Nat), j < l.length → (j < uright s l ↔ (uend s (l.take (j + 1))).isSome = true) := by
  induction l with
  | nil => intro s j h; simp at h
  | cons b r ih =>
    intro s j h
    simp only [uright, List.take_succ_cons, uend]
    cases hs : ustep s b with
    | none => simp
    | some t =>
      simp only
      match j with
      | 0 => simp [uend]
      | j + 1 =>
        have := ih t j (by simpa using h)
        rw [← this]; omega
/-- Bytes that are right and as many as the first one says are a whole letter. -/
theorem whole_of_long (u : List Nat) (m : Nat) (hm : m ≤ u.length) (h0 : u ≠ []) (hl : long (u.headD 0) ≤ m) (he : (uend s0 (u.take m)).isSome = true) (hp : 0 < m) : whole' u ≠ 0 := by
  intro hw
  match u with
  | [] => exact h0 rfl
  | b :: r =>
    simp only [List.headD_cons] at hl
    obtain ⟨m', rfl⟩ : ∃ m', m = m' + 1 := ⟨m - 1, by omega⟩
    rw [List.take_succ_cons] at he
    unfold whole' at hw
    simp only [uend, ustep0] at he hw
    cases hld : lead b with
    | none => rw [hld] at he; simp at he
    | some t =>
      have hlong : long b = t.1 + 1 := by
        by_cases a1 : b < 128
        · rw [lead1 a1] at hld; injection hld with hld; subst hld; unfold long; rw [if_pos a1]; rfl
        · by_cases a2 : b < 194
          · rw [lead2n (by omega) a2] at hld; cases hld
          · by_cases a3 : b < 224
            · rw [lead2 (by omega) a3] at hld; injection hld with hld; subst hld; exact long2 (by omega) a3
            · by_cases a4 : b < 240
              · rw [lead3 (by omega) a4] at hld; injection hld with hld; subst hld; exact long3 (by omega) a4
              · by_cases a5 : b < 245
                · rw [lead4 (by omega) a5] at hld; injection hld with hld; subst hld; exact long4 (by omega) (by omega)
                · rw [lead5 (by omega)] at hld; cases hld
      obtain ⟨k, lo, hi⟩ := t
      have ok := lead_ok hld
      rw [hld] at he hw
      simp only at he hw hlong
      simp only [List.length_cons] at hm
      match k, r with
      | 0, _ => cases hw
      | 1, [] => simp at hm; omega
      | 1, c :: r' =>
        simp only at hw
        obtain ⟨m2, rfl⟩ : ∃ m2, m' = m2 + 1 := ⟨m' - 1, by omega⟩
        rw [List.take_succ_cons] at he
        simp only [uend, ustepk] at he
        split at hw
        · cases hw
        · rename_i q; rw [if_neg q] at he; simp at he
      | 2, [] => simp at hm; omega
      | 2, [_] => simp at hm; omega
      | 2, c :: d :: r' =>
        simp only at hw
        obtain ⟨m2, rfl⟩ : ∃ m2, m' = m2 + 2 := ⟨m' - 2, by omega⟩
        rw [List.take_succ_cons, List.take_succ_cons] at he
        simp only [uend, ustepk] at he
        split at hw
        · cases hw
        · rename_i q
          by_cases q1 : lo ≤ c ∧ c ≤ hi
          · have q2 : ¬ (128 ≤ d ∧ d ≤ 191) := fun x => q ⟨q1, x⟩
            rw [if_pos q1] at he; simp only [ustepk] at he; rw [if_neg q2] at he; simp at he
          · rw [if_neg q1] at he; simp at he
      | 3, [] => simp at hm; omega
      | 3, [_] => simp at hm; omega
      | 3, [_, _] => simp at hm; omega
      | 3, c :: d :: f :: r' =>
        simp only at hw
        obtain ⟨m2, rfl⟩ : ∃ m2, m' = m2 + 3 := ⟨m' - 3, by omega⟩
        rw [List.take_succ_cons, List.take_succ_cons, List.take_succ_cons] at he
        simp only [uend, ustepk] at he
        split at hw
        · cases hw
        · rename_i q
          by_cases q1 : lo ≤ c ∧ c ≤ hi
          · rw [if_pos q1] at he; simp only [ustepk] at he
            by_cases q2 : 128 ≤ d ∧ d ≤ 191
            · have q3 : ¬ (128 ≤ f ∧ f ≤ 191) := fun x => q ⟨q1, q2, x⟩
              rw [if_pos q2] at he; simp only [ustepk] at he; rw [if_neg q3] at he; simp at he
            · rw [if_neg q2] at he; simp at he
          · rw [if_neg q1] at he; simp at he
      | k + 4, _ =>
        rcases ok with e | e | e | e | e | e | e | e <;> (injection e with e1 e2; omega)
/-- How far bytes without a whole letter are right, asked one by one. -/
theorem beg_iff (u : List Nat) (j : Nat) (hj : j < u.length) (hw : whole' u = 0) : beg (u.take (j + 1)) = true ↔ j < uright s0 u := by
  have hu : u ≠ [] := by intro e; rw [e] at hj; simp at hj
  have ht : u.take (j + 1) ≠ [] := by
    intro e
    have h2 := congrArg List.length e
    rw [List.length_take, Nat.min_eq_left (by omega)] at h2
    simp at h2
  have hh : (u.take (j + 1)).headD 0 = u.headD 0 := by cases u with | nil => rfl | cons b r => rfl
  rw [beg_eq _ ht, hh, uright_lt u s0 j hj]
  constructor
  · exact fun h => h.2
  · intro h
    refine ⟨?_, h⟩
    apply Nat.lt_of_not_le
    intro hle
    exact whole_of_long u (j + 1) (by omega) hu (by simpa [List.length_take, Nat.min_eq_left (show j + 1 ≤ u.length by omega)] using hle) h (by omega) hw

/-- A letter's bytes are a whole letter, and none of their beginnings is. -/
theorem put_whole (n : Int) (l : List Nat) (h : putL n = some l) : whole' l = l.length ∧ 0 < l.length ∧ ∀ i, i + 1 < l.length → whole' (l.take (i + 1)) = 0 := by
  by_cases hn : n < 0
  · unfold putL at h; rw [if_pos (.inl hn)] at h; cases h
  · obtain ⟨m, rfl⟩ := Int.eq_ofNat_of_zero_le (show 0 ≤ n by omega)
    by_cases k0 : 1114111 < m ∨ (55296 ≤ m ∧ m ≤ 57343)
    · rw [put_none m k0] at h; cases h
    · by_cases k1 : m < 128
      · rw [put1 m k1] at h
        injection h with h; subst h
        refine ⟨by simp [whole', lead1 k1, s0], by simp, fun i hi => by simp at hi⟩
      · by_cases k2 : m < 2048
        · rw [put2 m (by omega) k2] at h
          injection h with h; subst h
          have hl := lead2 (b := 192 + m / 64) (by omega) (by omega)
          refine ⟨?_, by simp, fun i hi => ?_⟩
          · simp only [whole', hl]; rw [if_pos (by omega)]; rfl
          · obtain rfl : i = 0 := by simp at hi; omega
            simp [whole', hl]
        · by_cases k3 : m < 65536
          · rw [put3 m (by omega) k3 (by omega)] at h
            injection h with h; subst h
            have hl := lead3 (b := 224 + m / 4096) (by omega) (by omega)
            have hL := lo3_cases (224 + m / 4096)
            have hH := hi3_cases (224 + m / 4096)
            refine ⟨?_, by simp, fun i hi => ?_⟩
            · simp only [whole', hl]; rw [if_pos (by omega)]; rfl
            · match i, hi with
              | 0, _ => simp [whole', hl]
              | 1, _ => simp [whole', hl]
              | i + 2, hi => simp at hi; omega
          · rw [put4 m (by omega) (by omega)] at h
            injection h with h; subst h
            have hl := lead4 (b := 240 + m / 262144) (by omega) (by omega)
            have hL := lo4_cases (240 + m / 262144)
            have hH := hi4_cases (240 + m / 262144)
            refine ⟨?_, by simp, fun i hi => ?_⟩
            · simp only [whole', hl]; rw [if_pos (by omega)]; rfl
            · match i, hi with
              | 0, _ => simp [whole', hl]
              | 1, _ => simp [whole', hl]
              | 2, _ => simp [whole', hl]
              | i + 3, hi => simp at hi; omega
theorem uend_take {l : List Nat} {s t : St} (h : uend s l = some t) (i : Nat) : (uend s (l.take i)).isSome = true := by
  have h2 := uend_append (l.take i) (l.drop i) s
  rw [List.take_append_drop, h] at h2
  cases hu : uend s (l.take i) with
  | none => rw [hu] at h2; cases h2
  | some u => rfl
/-- A letter's bytes, one by one. -/
theorem put_run (n : Int) (l : List Nat) (h : putL n = some l) : uend s0 l = some s0 ∧ ucount s0 l = 1 ∧ ∀ i, i < l.length → (uend s0 (l.take (i + 1))).isSome = true ∧ (uend s0 (l.take (i + 1)) = some s0 ↔ i + 1 = l.length) := by
  obtain ⟨hw, hp, hi⟩ := put_whole n l h
  obtain ⟨m, hm⟩ : ∃ m, l.length = m + 1 := ⟨l.length - 1, by omega⟩
  obtain ⟨_, h1, h2⟩ := whole_yes l m (by rw [hw, hm])
  rw [← hm, List.take_length] at h1 h2
  refine ⟨h1, h2, fun i hil => ⟨uend_take h1 _, ?_⟩⟩
  constructor
  · intro he
    by_cases e : i + 1 = l.length
    · exact e
    · have hz := hi i (by omega)
      have hne : l.take (i + 1) ≠ [] := by
        intro e2
        have := congrArg List.length e2
        rw [List.length_take, Nat.min_eq_left (by omega)] at this
        simp at this
      exact absurd he (whole_no _ hne hz).1
  · intro e
    rw [e, List.take_length]; exact h1
/-- What the document's reading comes to, where it stops. -/
theorem read_done (s : List Nat) (k : Nat) (hk : k ≤ s.length) (h : uend s0 (s.take k) = some s0) (hw : k < s.length → whole' (s.drop k) = 0) :
    uright s0 s = k + uright s0 (s.drop k) ∧ ucount s0 s = ucount s0 (s.take k) ∧ (uend s0 s = some s0 ↔ k = s.length) := by
  have e : s = s.take k ++ s.drop k := (List.take_append_drop k s).symm
  have hr : uright s0 s = k + uright s0 (s.drop k) := by
    conv => lhs; rw [e]
    rw [uright_append, h]
    simp only [List.length_take, Nat.min_eq_left hk]
  have he : uend s0 s = uend s0 (s.drop k) := by
    conv => lhs; rw [e]
    rw [uend_append, h]; rfl
  have hc : ucount s0 s = ucount s0 (s.take k) + ucount s0 (s.drop k) := by
    conv => lhs; rw [e]
    rw [ucount_append, h]
  by_cases hlt : k < s.length
  · have hne : s.drop k ≠ [] := by
      intro e2
      have := congrArg List.length e2
      simp at this; omega
    obtain ⟨n1, n2⟩ := whole_no _ hne (hw hlt)
    exact ⟨hr, by rw [hc, n2]; rfl, by rw [he]; exact ⟨fun x => absurd x n1, fun x => by omega⟩⟩
  · have hd : s.drop k = [] := List.drop_of_length_le (by omega)
    refine ⟨hr, by rw [hc, hd]; rfl, ?_⟩
    rw [he, hd]
    exact ⟨fun _ => by omega, fun _ => rfl⟩
end UtfPlain
