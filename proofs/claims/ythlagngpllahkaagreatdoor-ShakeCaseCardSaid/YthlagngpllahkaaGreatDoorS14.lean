/- shake: what a question asks for, plain. -/
import Derived.Test.YthlagngpllahkaaGreatDoorS13
set_option maxRecDepth 100000
namespace Go.Proofs.YthlagngpllahkaaGreatDoor
open Go.RowKit HeadPlain

theorem hasPrefix_head (s : ByteArray) : Lib.hasPrefix s.data.toList [47] = decide ((bytes s).head? = some 47) := by
  rw [bytes_toN]
  generalize s.data.toList = l
  cases l with
  | nil => rfl
  | cons c l =>
    show (_ : Bool) = decide (some c.toNat = some 47)
    rw [Bool.eq_iff_iff, decide_eq_true_iff]
    have : Lib.hasPrefix (c :: l) [47] = (47 == c) := by
      unfold Lib.hasPrefix
      rw [List.isPrefixOf_cons_cons]
      simp
    rw [this, beq_iff_eq]
    constructor
    · intro h; subst h; rfl
    · intro h
      injection h with h
      exact (UInt8.toNat_inj.1 (by rw [h]; rfl)).symm
theorem one_cases (l : List ByteArray) : (oneL (l.map bytes) = some (bytes (oneS l)) ∧ l.length = 1) ∨ (oneL (l.map bytes) = none ∧ bytes (oneS l) = [] ∧ l.length ≠ 1) := by
  match l with
  | [] => exact .inr ⟨rfl, rfl, by simp⟩
  | [x] => exact .inl ⟨rfl, rfl⟩
  | x :: y :: r => exact .inr ⟨rfl, by unfold oneS; rw [if_neg (by simp)]; rfl, by simp⟩
theorem r1_iff (h : HdV) : r1B h = decide (h.hd.a = sGET) := str_eq h.a bGET sGET rfl
theorem r2_iff (h : HdV) : r2B h = (decide (h.hd.c = sH11) && decide (h.hd.b.head? = some 47)) := by
  unfold r2B; rw [str_eq h.c bH11 sH11 rfl, hasPrefix_head]; rfl
theorem r3_iff (h : HdV) : r3B h = decide (∃ x, oneL (get h.hd.fs sHost) = some x ∧ x ≠ []) := by
  unfold r3B
  rw [show sHost = bytes bHost from rfl, ← get_hd, beq_bytes, show (([] : List UInt8).map (·.toNat)) = ([] : List Nat) from rfl, Bool.eq_iff_iff]
  simp only [Bool.not_eq_true', decide_eq_false_iff_not, decide_eq_true_iff]
  rcases one_cases (getV h.fs bHost) with ⟨h1, h2⟩ | ⟨h1, h2, h3⟩
  · rw [h1]
    exact ⟨fun k => ⟨_, rfl, k⟩, fun ⟨x, hx, k⟩ => by injection hx with hx; rw [hx]; exact k⟩
  · rw [h1]
    exact ⟨fun k => absurd h2 k, fun ⟨x, hx, _⟩ => by cases hx⟩
theorem r4_iff (h : HdV) : r4B h = hasT sWs (get h.hd.fs sUp) := hasB_get h bWs bUp
theorem r5_iff (h : HdV) : r5B h = hasT sUp (get h.hd.fs sConn) := hasB_get h bUp bConn
theorem r6_iff (h : HdV) : r6B h = decide (oneL (get h.hd.fs sVer) = some s13) := by
  unfold r6B
  rw [str_eq _ b13 s13 rfl, show sVer = bytes bVer from rfl, ← get_hd, Bool.eq_iff_iff, decide_eq_true_iff, decide_eq_true_iff]
  rcases one_cases (getV h.fs bVer) with ⟨h1, h2⟩ | ⟨h1, h2, h3⟩
  · rw [h1]; exact ⟨fun k => (by rw [k]), fun k => (by injection k)⟩
  · rw [h1, h2]; exact ⟨fun k => (by cases k), fun k => (by cases k)⟩
theorem keyB_nil : keyB [] = false := by decide
theorem r8_iff (h : HdV) : r8B h = decide (∃ l, toksAll (get h.hd.fs sProt) = some l ∧ l.Nodup ∧ l.length ≤ 16) := by
  unfold r8B
  rw [show sProt = bytes bProt from rfl, ← get_hd, Nam.tell_toks]
  cases ht : (Nam.tell (getV h.fs bProt)).all Nam.tokT with
  | false =>
    rw [Bool.false_and]
    symm
    rw [decide_eq_false_iff_not]
    rintro ⟨l, hl, _⟩
    simp at hl
  | true =>
    have ha : ((Nam.tell (getV h.fs bProt)).any fun x => !(Nam.tokT x)) = false := by
      rw [List.any_eq_false]
      intro x hx
      have := List.all_eq_true.1 ht x hx
      simp [this]
    unfold offerB
    rw [ha, Bool.true_and, Bool.not_false, Bool.true_and, Bool.eq_iff_iff, Bool.and_eq_true, decide_eq_true_iff, decide_eq_true_iff, decide_eq_true_iff, if_pos rfl]
    constructor
    · intro ⟨h1, h2⟩
      exact ⟨_, rfl, h2, by rw [List.length_map]; exact h1⟩
    · rintro ⟨l, hl, h1, h2⟩
      injection hl with hl
      subst hl
      exact ⟨by rw [List.length_map] at h2; exact h2, h1⟩
theorem r9_iff (h : HdV) : r9B h = decide ((get h.hd.fs sOrg).length ≤ 1) := by
  unfold r9B
  rw [show sOrg = bytes bOrg from rfl, ← get_hd, List.length_map]
/-- What is asked for, by bytes. -/
def offV (h : HdV) : Off := ⟨bytes h.b, bytes (oneS (getV h.fs bHost)), bytes (oneS (getV h.fs bKey)), bytes (oneS (getV h.fs bOrg)), (Nam.tell (getV h.fs bProt)).map bytes⟩
theorem quest_plain (h : HdV) : quest keyB h.hd = if statV h = 0 then .ok (offV h) else .error (statV h) := by
  unfold quest
  cases h1 : r1B h with
  | false =>
    have e : statV h = 405 := by unfold statV; rw [if_pos h1]
    rw [r1_iff] at h1
    rw [e, if_pos (by simpa using h1)]; rfl
  | true =>
  have k1 := h1
  rw [r1_iff] at h1
  rw [if_neg (by simpa using h1)]
  cases h2 : r2B h with
  | false =>
    have e : statV h = 400 := by unfold statV; rw [if_neg (by rw [k1]; decide), if_pos h2]
    rw [r2_iff] at h2
    rw [e, if_pos (by
      rw [Bool.and_eq_false_iff, decide_eq_false_iff_not, decide_eq_false_iff_not] at h2
      exact h2)]
    rfl
  | true =>
  have k2 := h2
  rw [r2_iff, Bool.and_eq_true, decide_eq_true_iff, decide_eq_true_iff] at h2
  rw [if_neg (fun c => by rcases c with c | c; exact c h2.1; exact c h2.2)]
  cases h3 : r3B h with
  | false =>
    have e : statV h = 400 := by unfold statV; rw [if_neg (by rw [k1]; decide), if_neg (by rw [k2]; decide), if_pos h3]
    rw [r3_iff, decide_eq_false_iff_not] at h3
    rw [e]
    cases ho : oneL (get h.hd.fs sHost) with
    | none => rfl
    | some x =>
      have : x = [] := Classical.byContradiction (fun c => h3 ⟨x, ho, c⟩)
      simp only
      rw [if_pos this]; rfl
  | true =>
  have k3 := h3
  rw [r3_iff, decide_eq_true_iff] at h3
  obtain ⟨x, hx, hx0⟩ := h3
  have hxe : x = bytes (oneS (getV h.fs bHost)) := by
    rw [show sHost = bytes bHost from rfl, ← get_hd] at hx
    rcases one_cases (getV h.fs bHost) with ⟨c1, _⟩ | ⟨c1, _⟩
    · rw [c1] at hx; injection hx with hx; exact hx.symm
    · rw [c1] at hx; cases hx
  rw [hx]
  simp only
  rw [if_neg hx0]
  cases h4 : r4B h with
  | false =>
    have e : statV h = 426 := by unfold statV; rw [if_neg (by rw [k1]; decide), if_neg (by rw [k2]; decide), if_neg (by rw [k3]; decide), if_pos h4]
    rw [r4_iff] at h4
    rw [e, if_pos h4]; rfl
  | true =>
  have k4 := h4
  rw [r4_iff] at h4
  rw [if_neg (by rw [h4]; decide)]
  cases h5 : r5B h with
  | false =>
    have e : statV h = 400 := by unfold statV; rw [if_neg (by rw [k1]; decide), if_neg (by rw [k2]; decide), if_neg (by rw [k3]; decide), if_neg (by rw [k4]; decide), if_pos h5]
    rw [r5_iff] at h5
    rw [e, if_pos h5]; rfl
  | true =>
  have k5 := h5
  rw [r5_iff] at h5
  rw [if_neg (by rw [h5]; decide)]
  cases h6 : r6B h with
  | false =>
    have e : statV h = 426 := by unfold statV; rw [if_neg (by rw [k1]; decide), if_neg (by rw [k2]; decide), if_neg (by rw [k3]; decide), if_neg (by rw [k4]; decide), if_neg (by rw [k5]; decide), if_pos h6]
    rw [r6_iff, decide_eq_false_iff_not] at h6
    rw [e, if_pos h6]; rfl
  | true =>
  have k6 := h6
  rw [r6_iff, decide_eq_true_iff] at h6
  rw [if_neg (fun c => c h6)]
  cases h7 : r7B h with
  | false =>
    have e : statV h = 400 := by unfold statV; rw [if_neg (by rw [k1]; decide), if_neg (by rw [k2]; decide), if_neg (by rw [k3]; decide), if_neg (by rw [k4]; decide), if_neg (by rw [k5]; decide), if_neg (by rw [k6]; decide), if_pos h7]
    unfold r7B at h7
    rw [e, show sKey = bytes bKey from rfl, ← get_hd]
    rcases one_cases (getV h.fs bKey) with ⟨c1, _⟩ | ⟨c1, _⟩
    · rw [c1]; simp only; rw [if_pos h7]; rfl
    · rw [c1]; rfl
  | true =>
  have k7 := h7
  unfold r7B at h7
  have hk : oneL (get h.hd.fs sKey) = some (bytes (oneS (getV h.fs bKey))) := by
    rw [show sKey = bytes bKey from rfl, ← get_hd]
    rcases one_cases (getV h.fs bKey) with ⟨c1, _⟩ | ⟨_, c2, _⟩
    · exact c1
    · rw [c2, keyB_nil] at h7; cases h7
  rw [hk]
  simp only
  rw [if_neg (by rw [h7]; decide)]
  cases h8 : r8B h with
  | false =>
    have e : statV h = 400 := by unfold statV; rw [if_neg (by rw [k1]; decide), if_neg (by rw [k2]; decide), if_neg (by rw [k3]; decide), if_neg (by rw [k4]; decide), if_neg (by rw [k5]; decide), if_neg (by rw [k6]; decide), if_neg (by rw [k7]; decide), if_pos h8]
    rw [r8_iff, decide_eq_false_iff_not] at h8
    rw [e]
    cases ho : toksAll (get h.hd.fs sProt) with
    | none => rfl
    | some l =>
      simp only
      rw [if_pos (by
        by_cases hn : l.Nodup
        · by_cases hl : l.length ≤ 16
          · exact absurd ⟨l, ho, hn, hl⟩ h8
          · exact .inr (.inl (by omega))
        · exact .inl hn)]
      rfl
  | true =>
  have k8 := h8
  rw [r8_iff, decide_eq_true_iff] at h8
  obtain ⟨l, hl, hn, hl16⟩ := h8
  have hle : l = (Nam.tell (getV h.fs bProt)).map bytes := by
    rw [show sProt = bytes bProt from rfl, ← get_hd, Nam.tell_toks] at hl
    split at hl
    · injection hl with hl; exact hl.symm
    · cases hl
  rw [hl]
  simp only
  cases h9 : r9B h with
  | false =>
    have e : statV h = 400 := by unfold statV; rw [if_neg (by rw [k1]; decide), if_neg (by rw [k2]; decide), if_neg (by rw [k3]; decide), if_neg (by rw [k4]; decide), if_neg (by rw [k5]; decide), if_neg (by rw [k6]; decide), if_neg (by rw [k7]; decide), if_neg (by rw [k8]; decide), if_pos h9]
    rw [r9_iff, decide_eq_false_iff_not] at h9
    rw [e, if_pos (.inr (.inr (by omega)))]; rfl
  | true =>
  have e : statV h = 0 := by unfold statV; rw [if_neg (by rw [k1]; decide), if_neg (by rw [k2]; decide), if_neg (by rw [k3]; decide), if_neg (by rw [k4]; decide), if_neg (by rw [k5]; decide), if_neg (by rw [k6]; decide), if_neg (by rw [k7]; decide), if_neg (by rw [k8]; decide), if_neg (by rw [h9]; decide)]
  rw [r9_iff, decide_eq_true_iff] at h9
  rw [e, if_neg (fun c => by rcases c with c | c | c; exact c hn; omega; omega), if_pos rfl]
  have ho : (get h.hd.fs sOrg).headD [] = bytes (oneS (getV h.fs bOrg)) := by
    rw [show sOrg = bytes bOrg from rfl, ← get_hd] at h9 ⊢
    rw [List.length_map] at h9
    match getV h.fs bOrg, h9 with
    | [], _ => rfl
    | [x], _ => rfl
  rw [ho, hle, hxe]
  rfl
theorem stat_of {h : HdV} {o : Off} (e : quest keyB h.hd = .ok o) : statV h = 0 ∧ offV h = o := by
  rw [quest_plain] at e
  by_cases h0 : statV h = 0
  · rw [if_pos h0] at e; injection e with e; exact ⟨h0, e⟩
  · rw [if_neg h0] at e; cases e
theorem stat_err {h : HdV} {n : Nat} (e : quest keyB h.hd = .error n) : statV h = n ∧ statV h ≠ 0 := by
  rw [quest_plain] at e
  by_cases h0 : statV h = 0
  · rw [if_pos h0] at e; cases e
  · rw [if_neg h0] at e; injection e with e; exact ⟨e, h0⟩
end Go.Proofs.YthlagngpllahkaaGreatDoor
