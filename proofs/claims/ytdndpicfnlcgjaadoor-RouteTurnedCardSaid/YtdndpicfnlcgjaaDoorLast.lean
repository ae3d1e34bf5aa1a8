/- Regions that draw their order and end in a store into what they read, or a call: what is held of the world is asked only until one of the operations D has come up; each of those waits for all that was read. -/
import Derived.Test.YtdndpicfnlcgjaaDoorHeld
set_option maxRecDepth 100000
namespace Go.Proofs.YtdndpicfnlcgjaaDoor
open Go.RowKit

/-- None of D has come up yet. -/
def idle (D : Nat → Bool) (listed : Array Bool) : Bool := (List.range listed.size).all fun d => !D d || !listed.getD d false
theorem idle_iff {D : Nat → Bool} {listed : Array Bool} : idle D listed = true ↔ ∀ d, D d = true → listed.getD d false = false := by
  unfold idle
  rw [List.all_eq_true]
  refine ⟨fun h d hd => ?_, fun h d _ => ?_⟩
  · by_cases hs : d < listed.size
    · have := h d (List.mem_range.2 hs)
      simpa [hd] using this
    · simp [Array.getElem?_eq_none (Nat.le_of_not_lt hs)]
  · cases hd : D d with
    | false => rfl
    | true => simp [h d hd]
theorem idle_set {D : Nat → Bool} {listed : Array Bool} {j : Nat} (h : idle D listed = true) (hj : D j = false) : idle D (listed.setIfInBounds j true) = true :=
  idle_iff.2 fun d hd => by rw [getD_set_ne false (fun e => by rw [e, hd] at hj; cases hj)]; exact idle_iff.1 h d hd
theorem idle_back {D : Nat → Bool} {listed : Array Bool} {i : Nat} (h : idle D (listed.setIfInBounds i true) = true) : idle D listed = true :=
  idle_iff.2 fun d hd => by
    cases g : listed.getD d false with
    | false => rfl
    | true => exact absurd (getD_set_true (i := i) g) (by rw [idle_iff.1 h d hd]; decide)
section
variable {P : Program} {md : Region.Mode} {ops : Array Oper} {Q : Exit → Act → World → Prop} {S : World → Prop} {D : Nat → Bool}
/-- Whatever order is picked: S holds until one of D has come up. -/
def wpAnyL (P : Program) (md : Region.Mode) (ops : Array Oper) (Q : Exit → Act → World → Prop) (S : World → Prop) (D : Nat → Bool) (fuel : Nat) (listed : Array Bool) (a : Act) (w : World) : Prop :=
  match fuel with
  | 0 => Region.ready md ops listed = [] ∧ Q .normal a w
  | n + 1 => (Region.ready md ops listed = [] → Q .normal a w) ∧ ∀ k, k ∈ Region.ready md ops listed → wpOp P ops Q k (fun b u => (idle D (listed.setIfInBounds k true) = true → S u) ∧ wpAnyL P md ops Q S D n (listed.setIfInBounds k true) b u) a w
theorem any_of_last (fuel : Nat) : ∀ (listed : Array Bool) (a : Act) (w : World), wpAnyL P md ops Q S D fuel listed a w → wpAny P md ops Q fuel listed a w := by
  induction fuel with
  | zero => intro listed a w h; exact h
  | succ n ih => intro listed a w h; exact ⟨h.1, fun k hk => wpOp_mono (fun b u g => ih _ b u g.2) (h.2 k hk)⟩
/-- Those of D wait for operation i. -/
def waits (md : Region.Mode) (ops : Array Oper) (D : Nat → Bool) (i : Nat) : Bool := (List.range ops.size).all fun j => !D j || match ops[j]? with
  | some o => o.after.any (fun e => Region.binds md e && e.on == i)
  | none => true
theorem waits_spec {i j : Nat} {o : Oper} (h : waits md ops D i = true) (hj : ops[j]? = some o) (hd : D j = true) : ∃ e ∈ o.after, Region.binds md e = true ∧ e.on = i := by
  unfold waits at h
  rw [List.all_eq_true] at h
  have g := h j (List.mem_range.2 (Array.getElem?_eq_some_iff.1 hj).1)
  rw [hd, hj] at g
  simp only [Bool.not_true, Bool.false_or] at g
  obtain ⟨e, he, hb⟩ := Array.any_eq_true'.1 g
  rw [Bool.and_eq_true, beq_iff_eq] at hb
  exact ⟨e, he, hb⟩
/-- An operation that may come up may be taken first: T is what it asks of the world. -/
theorem last_first {T : World → Prop} {i : Nat} {oi : Oper} {v : Value} (hi : ops[i]? = some oi) (hsel : ∀ (j : Nat) (o : Oper) cs b, ops[j]? = some o → o.op ≠ .select cs b) (hDi : D i = false)
    (n : Nat) : ∀ (listed : Array Bool) (a : Act) (w : World), ((∀ u, T u) ∨ (waits md ops D i = true ∧ idle D listed = true ∧ ∀ u, S u → T u)) → Region.free md ops listed i = true → i ∈ Region.ready md ops listed → YieldsIf P ops T oi v a → T w → (idle D listed = true → S w) →
      wpAnyL P md ops (NoPanic Q) S D n (listed.setIfInBounds i true) (a.put oi.dst v) w → wpAnyL P md ops (NoPanic Q) S D (n + 1) listed a w := by
  induction n with
  | zero =>
    intro listed a w _ _ hr hy hT hS H
    refine ⟨fun e => by rw [e] at hr; exact absurd hr List.not_mem_nil, fun j hj => ?_⟩
    by_cases e : j = i
    · rw [e]; exact hy.wpOp hi hT ⟨fun g => hS (idle_back g), H⟩
    · exact absurd (ready_mono hj e) (by rw [H.1]; exact List.not_mem_nil)
  | succ n ih =>
    intro listed a w hc hf hr hy hT hS H
    refine ⟨fun e => by rw [e] at hr; exact absurd hr List.not_mem_nil, fun j hj => ?_⟩
    by_cases e : j = i
    · rw [e]; exact hy.wpOp hi hT ⟨fun g => hS (idle_back g), H⟩
    obtain ⟨hun, oj, hoj, hall⟩ := mem_ready.1 hj
    have hno : ∀ e ∈ oj.after, Region.binds md e = true → e.on ≠ i := fun x hx hb heq => by
      have g1 := hall x hx hb
      have g0 := (mem_ready.1 hr).1
      rw [heq] at g1
      rcases Nat.lt_or_ge i listed.size with h | h
      · simp [h] at g0 g1
        rw [g0] at g1; cases g1
      · simp [Array.getElem?_eq_none h] at g1
    have hcj : (∀ u, T u) ∨ (waits md ops D i = true ∧ idle D (listed.setIfInBounds j true) = true ∧ ∀ u, S u → T u) := by
      rcases hc with hc | ⟨h1, h2, h3⟩
      · exact .inl hc
      · refine .inr ⟨h1, idle_set h2 ?_, h3⟩
        cases hd : D j with
        | false => rfl
        | true =>
          obtain ⟨x, hx, hb, he⟩ := waits_spec h1 hoj hd
          exact absurd he (hno x hx hb)
    have hap := Region.free_spec hi hf j oj hoj e hun hno
    have hf2 : Region.free md ops (listed.setIfInBounds j true) i = true := by
      unfold Region.free at hf ⊢
      rw [hi] at hf ⊢
      simp only [List.all_eq_true, Bool.or_eq_true] at hf ⊢
      intro k hk
      rcases hf k hk with (g | g) | g
      · exact .inl (.inl g)
      · refine .inl (.inr ?_)
        by_cases ejk : j = k
        · subst ejk; rw [hun] at g; cases g
        · rw [getD_set_ne true ejk]; exact g
      · exact .inr g
    refine wpOp_mono (fun b u h3 => ?_) (wpOp_putIf hoj hap (fun cs b => hsel i oi cs b hi) (fun cs b => hsel j oj cs b hoj) (fun _ _ _ h => h) hy (H.2 j (ready_mono hj e)))
    have hSu : idle D (listed.setIfInBounds j true) = true → S u := fun g => h3.2.1 (by rw [Array.setIfInBounds_comm _ _ (Ne.symm e)]; exact idle_set g hDi)
    have hTu : T u := by
      rcases hcj with g | ⟨_, g2, g3⟩
      · exact g u
      · exact g3 u (hSu g2)
    exact ⟨hSu, ih _ b u hcj hf2 (ready_mono hr (Ne.symm e)) h3.1 hTu hSu (by rw [Array.setIfInBounds_comm _ _ e]; exact h3.2.2)⟩
theorem last_begin {id : Nat} {a : Act} {w : World} (hm : P.follows .mixedOrders = true) (h : wpAnyL P .any ops Q S D ops.size (Array.replicate ops.size false) a w.drew) : (Code.region id ops true).wp P Q a w :=
  wp_region_any hm (any_of_last _ _ _ _ h)
theorem last_done {listed : Array Bool} {a : Act} {w : World} (hr : Region.ready md ops listed = []) (h : Q .normal a w) : ∀ fuel, wpAnyL P md ops Q S D fuel listed a w
  | 0 => ⟨hr, h⟩
  | n + 1 => ⟨fun _ => h, fun k hk => absurd hk (by rw [hr]; exact List.not_mem_nil)⟩
/-- One that looks at the world. -/
theorem last_take {fuel : Nat} {listed : Array Bool} {a : Act} {w : World} {d : Option Tmp} {op : Op} {g : Option (Nat × Bool)} (i : Nat) (v : Value) (hi : opIsG ops i d op g) (hw : lets ops a g = true)
    (hs : Region.noSelect ops = true) (hf : Region.free md ops listed i = true) (hr : (Region.ready md ops listed).contains i = true) (hc : (!D i && waits md ops D i && idle D listed) = true)
    (hy : ∀ o : Oper, o.op = op → ∀ w, S w → (execOp a.eval o).run P w = .ok (.value v) w) (hS : S w)
    (h : wpAnyL P md ops (NoPanic Q) S D fuel (listed.setIfInBounds i true) (a.put d v) w) : wpAnyL P md ops (NoPanic Q) S D (fuel + 1) listed a w := by
  obtain ⟨o, ho, hd, hop, hg⟩ := op_ofG hi
  simp only [Bool.and_eq_true, Bool.not_eq_true'] at hc
  refine last_first (T := S) ho (Region.noSelect_spec hs) hc.1.1 fuel listed a w (.inr ⟨hc.1.2, hc.2, fun _ h => h⟩) hf (by simpa using hr) (.inl ⟨wanted_of hg hw, hy o hop⟩) hS (fun _ => hS) ?_
  rw [hd]; exact h
/-- One that doesn't. -/
theorem last_pure {fuel : Nat} {listed : Array Bool} {a : Act} {w : World} {d : Option Tmp} {op : Op} {g : Option (Nat × Bool)} (i : Nat) (v : Value) (hi : opIsG ops i d op g) (hw : lets ops a g = true)
    (hs : Region.noSelect ops = true) (hf : Region.free md ops listed i = true) (hr : (Region.ready md ops listed).contains i = true) (hc : D i = false)
    (hy : ∀ o : Oper, o.op = op → ∀ w, (execOp a.eval o).run P w = .ok (.value v) w) (hS : S w)
    (h : wpAnyL P md ops (NoPanic Q) S D fuel (listed.setIfInBounds i true) (a.put d v) w) : wpAnyL P md ops (NoPanic Q) S D (fuel + 1) listed a w := by
  obtain ⟨o, ho, hd, hop, hg⟩ := op_ofG hi
  refine last_first (T := fun _ => True) ho (Region.noSelect_spec hs) hc fuel listed a w (.inl fun _ => trivial) hf (by simpa using hr) (.inl ⟨wanted_of hg hw, fun w _ => hy o hop w⟩) trivial (fun _ => hS) ?_
  rw [hd]; exact h
/-- One that its guard passes over. -/
theorem last_skip {fuel : Nat} {listed : Array Bool} {a : Act} {w : World} {d : Option Tmp} {op : Op} {g : Option (Nat × Bool)} (i : Nat) (hi : opIsG ops i d op g) (hw : lets ops a g = false)
    (hs : Region.noSelect ops = true) (hf : Region.free md ops listed i = true) (hr : (Region.ready md ops listed).contains i = true) (hc : D i = false) (hS : S w)
    (h : wpAnyL P md ops (NoPanic Q) S D fuel (listed.setIfInBounds i true) (a.put d undef) w) : wpAnyL P md ops (NoPanic Q) S D (fuel + 1) listed a w := by
  obtain ⟨o, ho, hd, hop, hg⟩ := op_ofG hi
  have hwf : Region.wanted o (yielded ops a.tmps) = false := by
    unfold Region.wanted
    rw [hg]
    cases g with
    | none => cases hw
    | some p => exact hw
  refine last_first (T := fun _ => True) ho (Region.noSelect_spec hs) hc fuel listed a w (.inl fun _ => trivial) hf (by simpa using hr) (.inr ⟨hwf, rfl⟩) trivial (fun _ => hS) ?_
  rw [hd]; exact h
theorem last_all {rs : List Nat} {fuel : Nat} {listed : Array Bool} {a : Act} {w : World} (hr : Region.ready md ops listed = rs) (hne : rs ≠ [])
    (h : ∀ k ∈ rs, wpOp P ops Q k (fun b u => (idle D (listed.setIfInBounds k true) = true → S u) ∧ wpAnyL P md ops Q S D fuel (listed.setIfInBounds k true) b u) a w) : wpAnyL P md ops Q S D (fuel + 1) listed a w :=
  ⟨fun e => absurd (hr.symm.trans e) hne, hr ▸ h⟩
theorem last_run {fuel : Nat} {listed : Array Bool} {a : Act} {w : World} {d : Option Tmp} {op : Op} {g : Option (Nat × Bool)} {t : TypeId} (i : Nat) (v : Value) (w' : World) (hi : opIsT ops i d op g t) (hw : lets ops a g = true)
    (hr : Region.ready md ops listed = [i]) (hy : ∀ o : Oper, o.op = op → o.type = t → (execOp a.eval o).run P w = .ok (.value v) w') (hS : S w')
    (h : wpAnyL P md ops Q S D fuel (listed.setIfInBounds i true) (a.put d v) w') : wpAnyL P md ops Q S D (fuel + 1) listed a w := by
  obtain ⟨o, ho, hd, hop, hg, ht⟩ := op_ofT hi
  refine last_all hr (by simp) (fun k hk => ?_)
  rw [List.mem_singleton] at hk
  subst hk
  refine wpOp_step ho (fun K hK => ?_)
  rw [if_pos (wanted_of hg hw)]
  unfold Oper.wp
  rw [hy o hop ht, Oper.upon_value, hd]
  exact hK _ _ ⟨fun _ => hS, h⟩
/-- A store, one of D. -/
theorem last_store {fuel : Nat} {listed : Array Bool} {a : Act} {w : World} {d : Option Tmp} {op : Op} {g : Option (Nat × Bool)} {t : TypeId} (i : Nat) (w' : World) (hi : opIsT ops i d op g t) (hw : lets ops a g = true)
    (hr : Region.ready md ops listed = [i]) (hy : ∀ o : Oper, o.op = op → o.type = t → (execOp a.eval o).run P w = .ok .skip w') (hD : idle D (listed.setIfInBounds i true) = false)
    (h : wpAnyL P md ops Q S D fuel (listed.setIfInBounds i true) (a.put d undef) w') : wpAnyL P md ops Q S D (fuel + 1) listed a w := by
  obtain ⟨o, ho, hd, hop, hg, ht⟩ := op_ofT hi
  refine last_all hr (by simp) (fun k hk => ?_)
  rw [List.mem_singleton] at hk
  subst hk
  refine wpOp_step ho (fun K hK => ?_)
  rw [if_pos (wanted_of hg hw)]
  unfold Oper.wp
  rw [hy o hop ht, Oper.upon_skip, hd]
  exact hK _ _ ⟨fun e => absurd (e.symm.trans hD) (by decide), h⟩
/-- A call, one of D. -/
theorem last_call {fuel : Nat} {listed : Array Bool} {a : Act} {w : World} {d : Option Tmp} {op : Op} {g : Option (Nat × Bool)} (i : Nat) (f : FuncId) (args : Array Value) (hi : opIsG ops i d op g) (hw : lets ops a g = true)
    (hr : Region.ready md ops listed = [i]) (hy : ∀ o : Oper, o.op = op → (execOp a.eval o).run P w = .ok (.enter f args) w) (hD : idle D (listed.setIfInBounds i true) = false)
    (h : Calls P f args w fun e w' => ∃ v, e = .returned v ∧ wpAnyL P md ops Q S D fuel (listed.setIfInBounds i true) (a.put d v) w') : wpAnyL P md ops Q S D (fuel + 1) listed a w := by
  obtain ⟨o, ho, hd, hop, hg⟩ := op_ofG hi
  refine last_all hr (by simp) (fun k hk => ?_)
  rw [List.mem_singleton] at hk
  subst hk
  refine wpOp_step ho (fun K hK => ?_)
  rw [if_pos (wanted_of hg hw)]
  unfold Oper.wp
  rw [hy o hop, Oper.upon_enter]
  refine h.mono ?_
  rintro e w' ⟨v, rfl, h'⟩
  rw [hd]
  exact hK _ _ ⟨fun e => absurd (e.symm.trans hD) (by decide), h'⟩
/-- Two operations, neither of which waits for the other: in either order. -/
theorem last_two {fuel : Nat} {listed : Array Bool} {a : Act} {w : World} {di dj : Option Tmp} {opi opj : Op} {gi gj : Option (Nat × Bool)} {ti tj : TypeId} (i j : Nat) (vi : Value) (wi : World) (vj : Value) (wj : World)
    (hi : opIsT ops i di opi gi ti) (hj : opIsT ops j dj opj gj tj) (hwi : lets ops a gi = true) (hwj : lets ops a gj = true) (hr : Region.ready md ops listed = [i, j])
    (yi : ∀ o : Oper, o.op = opi → o.type = ti → (execOp a.eval o).run P w = .ok (.value vi) wi) (yj : ∀ o : Oper, o.op = opj → o.type = tj → (execOp a.eval o).run P w = .ok (.value vj) wj) (hSi : S wi) (hSj : S wj)
    (h1 : wpAnyL P md ops Q S D fuel (listed.setIfInBounds i true) (a.put di vi) wi) (h2 : wpAnyL P md ops Q S D fuel (listed.setIfInBounds j true) (a.put dj vj) wj) : wpAnyL P md ops Q S D (fuel + 1) listed a w := by
  obtain ⟨o, ho, hd, hop, hg, ht⟩ := op_ofT hi
  obtain ⟨o', ho', hd', hop', hg', ht'⟩ := op_ofT hj
  refine last_all hr (by simp) (fun k hk => ?_)
  rcases List.mem_cons.1 hk with rfl | hk
  · refine wpOp_step ho (fun K hK => ?_)
    rw [if_pos (wanted_of hg hwi)]
    unfold Oper.wp
    rw [yi o hop ht, Oper.upon_value, hd]
    exact hK _ _ ⟨fun _ => hSi, h1⟩
  · rw [List.mem_singleton] at hk
    subst hk
    refine wpOp_step ho' (fun K hK => ?_)
    rw [if_pos (wanted_of hg' hwj)]
    unfold Oper.wp
    rw [yj o' hop' ht', Oper.upon_value, hd']
    exact hK _ _ ⟨fun _ => hSj, h2⟩
end
end Go.Proofs.YtdndpicfnlcgjaaDoor
