/- How long a head's bytes are that was read; Read's and Alike's answers for the laws. -/
import Derived.Test.YtcohecghibndhaaDoorT1
import Derived.Test.YtcohecghibndhaaDoorR
namespace Go.Proofs.YtcohecghibndhaaDoor
open Go.RowKit HeadPlain

theorem rd1_len {l a b c : List Nat} (h : rd1 l = some (a, b, c)) : a.length + b.length + c.length + 2 = l.length := by
  unfold rd1 at h
  cases h1 : cut 32 l with
  | none => rw [h1] at h; cases h
  | some p =>
    obtain ⟨p1, p2⟩ := p
    rw [h1] at h
    simp only [Option.bind_some] at h
    cases h2 : cut 32 p2 with
    | none => rw [h2] at h; cases h
    | some q =>
      obtain ⟨q1, q2⟩ := q
      rw [h2] at h
      simp only [Option.map_some, Option.some.injEq, Prod.mk.injEq] at h
      obtain ⟨rfl, rfl, rfl⟩ := h
      have e1 := (cut_some _ _ _ _ h1).1
      have e2 := (cut_some _ _ _ _ h2).1
      rw [e1, e2]
      simp
      omega
theorem rdF_len {l : List Nat} {f : List Nat × List Nat} (h : rdF l = some f) : f.1.length + f.2.length + 1 ≤ l.length := by
  unfold rdF at h
  cases h1 : cut 58 l with
  | none => rw [h1] at h; cases h
  | some p =>
    obtain ⟨p1, p2⟩ := p
    rw [h1] at h
    simp only [Option.map_some, Option.some.injEq] at h
    subst h
    have e1 := (cut_some _ _ _ _ h1).1
    have := trim_length p2
    rw [e1]
    simp
    omega
theorem rdFs_len : ∀ (ls : List (List Nat)) (fs : List (List Nat × List Nat)), rdFs ls = some fs → (join (fs.map lineF)).length ≤ (join ls).length + fs.length
  | [], fs, h => by
    simp only [rdFs, Option.some.injEq] at h
    subst h; simp
  | l :: ls, fs, h => by
    unfold rdFs at h
    cases h1 : rdF l with
    | none => rw [h1] at h; cases h
    | some f =>
      rw [h1] at h
      simp only [Option.bind_some] at h
      cases h2 : rdFs ls with
      | none => rw [h2] at h; cases h
      | some gs =>
        rw [h2] at h
        simp only [Option.map_some, Option.some.injEq] at h
        subst h
        have := rdFs_len ls gs h2
        have := rdF_len h1
        simp only [List.map_cons, join_cons, List.length_append, List.length_cons, lineF]
        omega
theorem lines_len : ∀ (n : Nat) (l : List Nat), l.length ≤ n → (join (lines l)).length ≤ l.length + 2 := by
  intro n
  induction n with
  | zero =>
    intro l h
    have : l = [] := List.length_eq_zero_iff.1 (by omega)
    subst this
    simp [lines]
  | succ n ih =>
    intro l h
    match l, h with
    | [], _ => simp [lines]
    | [x], _ => simp [lines]
    | x :: y :: r, h =>
      rw [lines]
      by_cases hc : x = 13 ∧ y = 10
      · rw [if_pos hc]
        have := ih r (by simp at h; omega)
        simp only [join_cons, List.length_append, List.length_cons, List.length_nil]
        omega
      · rw [if_neg hc]
        have := ih (y :: r) (by simp at h ⊢; omega)
        cases hl : lines (y :: r) with
        | nil => simp
        | cons m ms =>
          rw [hl] at this
          simp only [join_cons, List.length_append, List.length_cons] at this ⊢
          omega
theorem rd_len {s : List Nat} {h : Hd} {n : Nat} (e : rd s = .ok h n) : (text h).length ≤ s.length + 100 := by
  have h32 := (rd_ok e).2.1
  have hn := (rd_ok e).2.2.2.2.1
  unfold rd at e
  cases hf : fnd s with
  | none => rw [hf] at e; simp only at e; split at e <;> cases e
  | some m =>
    rw [hf] at e; simp only at e
    split at e
    · cases e
    · cases hr : rdAt s m with
      | none => rw [hr] at e; cases e
      | some g =>
        rw [hr] at e; simp only at e
        split at e
        · split at e
          · cases e
          · injection e with e1 e2
            subst e1 e2
            unfold rdAt at hr
            have hl := lines_len _ (s.take (m + 2)) (Nat.le_refl _)
            rw [List.length_take] at hl
            cases hll : lines (s.take (m + 2)) with
            | nil => rw [hll] at hr; cases hr
            | cons l ls =>
              rw [hll] at hr hl
              unfold rdL at hr
              simp only at hr
              cases h1 : rd1 l with
              | none => rw [h1] at hr; cases hr
              | some p =>
                rw [h1] at hr
                simp only [Option.bind_some] at hr
                cases h2 : rdFs ls with
                | none => rw [h2] at hr; cases hr
                | some gs =>
                  rw [h2] at hr
                  simp only [Option.map_some, Option.some.injEq] at hr
                  subst hr
                  have k1 := rd1_len (a := p.1) (b := p.2.1) (c := p.2.2) h1
                  have k2 := rdFs_len ls gs h2
                  simp only at h32
                  simp only [text, line1, join_cons, List.length_append, List.length_cons, List.length_nil] at hl ⊢
                  omega
        · cases e
theorem join_small {ls : List (List Nat)} (h : ∀ l ∈ ls, Small 256 l) : Small 256 (join ls) := by
  induction ls with
  | nil => intro x hx; simp at hx
  | cons l ls ih =>
    rw [join_cons]
    refine (h l (by simp)).append (fun x hx => ?_)
    rcases List.mem_cons.1 hx with rfl | hx
    · omega
    · rcases List.mem_cons.1 hx with rfl | hx
      · omega
      · exact ih (fun m hm => h m (by simp [hm])) x hx
theorem text_small (h : HdV) : Small 256 (text h.hd) := by
  unfold text
  refine (join_small fun l hl => ?_).append (fun x hx => by simp at hx; omega)
  rcases List.mem_cons.1 hl with rfl | hl
  · unfold line1
    refine (bytes_small h.a).append (fun x hx => ?_)
    rcases List.mem_cons.1 hx with rfl | hx
    · omega
    · refine (bytes_small h.b).append (fun x hx => ?_) x hx
      rcases List.mem_cons.1 hx with rfl | hx
      · omega
      · exact bytes_small h.c x hx
  · simp only [HdV.hd, List.map_map, List.mem_map] at hl
    obtain ⟨f, _, rfl⟩ := hl
    show Small 256 (lineF (fN f))
    unfold lineF fN
    refine (bytes_small f.1).append (fun x hx => ?_)
    rcases List.mem_cons.1 hx with rfl | hx
    · omega
    · rcases List.mem_cons.1 hx with rfl | hx
      · omega
      · exact bytes_small f.2 x hx
theorem readR_bad {w' : World} {s : List Nat} {e : Ending} (h : ReadR w' s e) (hr : resE (rd s) ≠ 0) :
    e = .returned (.tuple #[.agg #[.string e0, .string e0, .string e0, .slice none 0 0], .int .i64 0, .int .i64 (resE (rd s) : Nat)]) := by
  unfold ReadR at h
  cases hd : rd s with
  | more => rw [hd] at h; exact h
  | long => rw [hd] at h; exact h
  | form => rw [hd] at h; exact h
  | ok g n => rw [hd] at hr; exact absurd rfl hr
theorem resE_ok {r : Res} (h : resE r = 0) : ∃ hd n, r = .ok hd n := by
  cases r with
  | ok hd n => exact ⟨hd, n, rfl⟩
  | more => cases h
  | long => cases h
  | form => cases h
theorem fieldsAt_none (W : World) : FieldsAt W (.slice none 0 0) [] := ⟨none, 0, 0, 0, rfl, Nat.le_refl _, Nat.zero_le _, fun h => absurd h (Nat.lt_irrefl _), fun i hi => absurd hi (Nat.not_lt_zero _)⟩
theorem alike_ex (w0 W : World) (g h : HdV) (x y : Value) (r : Bool) (hr : alikeB g h = r) (hB : Below w0.heap.size w0 W) (hx : FieldsAt W x g.fs) (hy : FieldsAt W y h.fs) :
    Calls Tryd.prog 18 #[.agg #[.string g.a, .string g.b, .string g.c, x], .agg #[.string h.a, .string h.b, .string h.c, y]] W fun e w' => e = .returned (.bool r) ∧ Sl (Below W.heap.size W w') ∧ Sl (Below w0.heap.size w0 w') := by
  subst hr
  exact (alike_any g h x y W hx hy).mono fun _ _ ⟨h1, h2⟩ => ⟨h1, h2, ⟨below_trans hB h2.out⟩⟩
theorem chk_ok {s : List Nat} {h : HdV} {n : Nat} (e : rd s = .ok h.hd n) : chk h = 0 ∨ chk h = 51 := by
  unfold chk
  rw [if_pos ((formB_iff _).2 (rd_ok e).1)]
  split
  · exact Or.inr rfl
  · exact Or.inl rfl
theorem show_again {s : List Nat} {h : HdV} {n : Nat} (e : rd s = .ok h.hd n) (hc : chk h = 0) : rd (text h.hd) = .ok h.hd (text h.hd).length := by
  have := rd_text h.hd (rd_ok e).1 [] (rd_ok e).2.1 (text_le h hc).2.2
  rwa [List.append_nil] at this
end Go.Proofs.YtcohecghibndhaaDoor
