/- A range over a function, where the function that is ranged over keeps state of its own between two rounds (a captured variable that it writes), ranges over another function itself, and hands yield on: what either side may turn is said block by block. -/
import Derived.RangeFuncNested
import Derived.RangeFuncLeaves
import Derived.RangeFuncCalls
namespace Go.Proofs.Flow
open Go Go.RowKit

/-- From W to W' blocks of X (from n₀ on) may have turned, and new ones may have come; nothing else. -/
structure Turn (n₀ : Nat) (X : Nat → Prop) (W W' : World) : Prop where
  os : W'.os = W.os
  tape : W'.tape = W.tape
  output : W'.output = W.output
  size : W.heap.size ≤ W'.heap.size
  block : ∀ k, k < W.heap.size → ¬ (X k ∧ n₀ ≤ k) → W'.heap[k]? = W.heap[k]?
/-- From W to W' nothing below n₀ has turned, and no block of X. -/
structure Stay (n₀ : Nat) (X : Nat → Prop) (W W' : World) : Prop where
  os : W'.os = W.os
  tape : W'.tape = W.tape
  output : W'.output = W.output
  size : W.heap.size ≤ W'.heap.size
  block : ∀ k, k < W.heap.size → (X k ∨ k < n₀) → W'.heap[k]? = W.heap[k]?

variable {n₀ : Nat} {X Y : Nat → Prop} {A B C W : World}
theorem Turn.refl (n₀ : Nat) (X : Nat → Prop) (W : World) : Turn n₀ X W W := ⟨rfl, rfl, rfl, Nat.le_refl _, fun _ _ _ => rfl⟩
theorem Turn.trans (h : Turn n₀ X A B) (k : Turn n₀ X B C) : Turn n₀ X A C :=
  ⟨k.os.trans h.os, k.tape.trans h.tape, k.output.trans h.output, Nat.le_trans h.size k.size, fun i hi hx => (k.block i (Nat.lt_of_lt_of_le hi h.size) hx).trans (h.block i hi hx)⟩
theorem Turn.of_below (h : Below A.heap.size A B) : Turn n₀ X A B := ⟨h.os, h.tape, h.output, h.size, fun k hk _ => h.block k hk⟩
theorem Turn.mono (h : Turn n₀ X A B) (hX : ∀ r, X r → Y r) : Turn n₀ Y A B := ⟨h.os, h.tape, h.output, h.size, fun k hk hx => h.block k hk (fun e => hx ⟨hX _ e.1, e.2⟩)⟩
theorem Turn.of_grown {r : Nat} (h : A.grownBy B (some r)) (hr : X r) (hn : n₀ ≤ r) : Turn n₀ X A B :=
  ⟨h.os, h.tape, h.output, h.size, fun k hk hx => h.block k hk (fun e => hx (by injection e with e; subst e; exact ⟨hr, hn⟩))⟩
theorem Turn.put {r : Nat} (o : Obj) (hr : X r) (hn : n₀ ≤ r) : Turn n₀ X W (W.putObj r o) := Turn.of_grown (grownBy_putObj' W r o) hr hn
theorem Turn.alloc (n₀ : Nat) (X : Nat → Prop) (W : World) (o : Obj) : Turn n₀ X W (W.alloc o) := Turn.of_below ((Below.refl _ W).alloc (Nat.le_refl _) o)
theorem Turn.below (h : Turn n₀ X A B) (hn : n₀ ≤ A.heap.size) : Below n₀ A B := ⟨h.os, h.tape, h.output, h.size, fun k hk => h.block k (by omega) (by omega)⟩
theorem Stay.refl (n₀ : Nat) (X : Nat → Prop) (W : World) : Stay n₀ X W W := ⟨rfl, rfl, rfl, Nat.le_refl _, fun _ _ _ => rfl⟩
theorem Stay.trans (h : Stay n₀ X A B) (k : Stay n₀ X B C) : Stay n₀ X A C :=
  ⟨k.os.trans h.os, k.tape.trans h.tape, k.output.trans h.output, Nat.le_trans h.size k.size, fun i hi hx => (k.block i (Nat.lt_of_lt_of_le hi h.size) hx).trans (h.block i hi hx)⟩
theorem Stay.of_below (h : Below A.heap.size A B) : Stay n₀ X A B := ⟨h.os, h.tape, h.output, h.size, fun k hk _ => h.block k hk⟩
theorem Stay.mono (h : Stay n₀ X A B) (hX : ∀ r, Y r → X r) : Stay n₀ Y A B := ⟨h.os, h.tape, h.output, h.size, fun k hk hx => h.block k hk (hx.imp (hX k) id)⟩
theorem Stay.of_grown {r : Option Nat} (h : A.grownBy B r) (hr : ∀ k, r = some k → ¬ X k ∧ n₀ ≤ k) : Stay n₀ X A B :=
  ⟨h.os, h.tape, h.output, h.size, fun k hk hx => h.block k hk (fun e => by have := hr k e.symm; rcases hx with hx | hx; exact this.1 hx; omega)⟩
theorem Stay.put {r : Nat} (o : Obj) (hr : ¬ X r) (hn : n₀ ≤ r) : Stay n₀ X W (W.putObj r o) := Stay.of_grown (grownBy_putObj' W r o) (fun k e => by cases e; exact ⟨hr, hn⟩)
theorem Stay.below (h : Stay n₀ X A B) (hn : n₀ ≤ A.heap.size) : Below n₀ A B := ⟨h.os, h.tape, h.output, h.size, fun k hk => h.block k (by omega) (.inr hk)⟩

/-- A relation that abides what others turn: X are the blocks that it doesn't lean on. -/
structure Foot {β : Type} (n₀ : Nat) (J : (Nat → Prop) → β → World → Prop) : Prop where
  kept : ∀ {X s W W'}, J X s W → Turn n₀ X W W' → J X s W'
  wide : ∀ {X Y : Nat → Prop} {s W}, J X s W → (∀ r, Y r → X r ∨ W.heap.size ≤ r) → J Y s W
theorem Foot.and {β : Type} {J K : (Nat → Prop) → β → World → Prop} (h : Foot n₀ J) (k : Foot n₀ K) : Foot n₀ (fun X s W => J X s W ∧ K X s W) :=
  ⟨fun hj ht => ⟨h.kept hj.1 ht, k.kept hj.2 ht⟩, fun hj hy => ⟨h.wide hj.1 hy, k.wide hj.2 hy⟩⟩
theorem Foot.pure {β : Type} (p : β → Prop) : Foot n₀ (fun _ s _ => p s) := ⟨fun h _ => h, fun h _ => h⟩
theorem Foot.no {β : Type} : Foot (β := β) n₀ (fun _ _ _ => False) := ⟨fun h _ => h, fun h _ => h⟩
/-- What lay below n₀ when w0 was lies as it lay. -/
theorem Foot.below {β : Type} {w0 : World} (hn : n₀ ≤ w0.heap.size) : Foot (β := β) n₀ (fun _ _ W => Below n₀ w0 W) :=
  ⟨fun hb ht => hb.trans (ht.below (Nat.le_trans hn hb.size)), fun h _ => h⟩
/-- A block of one's own lies as it lay. -/
theorem Foot.block {β : Type} (b : Nat) (o : β → Obj) : Foot n₀ (fun X s W => W.heap[b]? = some (o s) ∧ ¬ X b) :=
  ⟨fun hj ht => ⟨(ht.block b (Array.getElem?_eq_some_iff.1 hj.1).1 (fun e => hj.2 e.1)).trans hj.1, hj.2⟩, fun hj hy => ⟨hj.1, fun e => by
    rcases hy b e with h | h
    · exact hj.2 h
    · have := (Array.getElem?_eq_some_iff.1 hj.1).1; omega⟩⟩

/-- What a function that is ranged over owes: told xs, one by one, till a round says that it is enough; X are the blocks that it may turn itself, and that no round turns. -/
def SeqX {α : Type} (F : Fence) (n : Nat) (P : Program) (g : Nat) (lb : Array Value) (encs : α → Array Value) (n₀ : Nat) (X : Nat → Prop) (xs : List α) (w : World) : Prop :=
  ∀ (l : Nat) (J Jx : (Nat → Prop) → List α → World → Prop) (W : World), Below w.heap.size w W → Foot n₀ J → Foot n₀ Jx →
    (∀ (Y : Nat → Prop) pre x W1, (∀ r, X r → Y r) → J Y pre W1 → (∀ r, Y r → r < W1.heap.size) → pre ++ [x] <+: xs → YieldAt F (n - 1) P l (encs x) W1 fun e W' =>
      (e = .returned (.bool true) ∧ J Y (pre ++ [x]) W' ∧ Stay n₀ Y W1 W') ∨ (e = .returned (.bool false) ∧ Jx Y (pre ++ [x]) W' ∧ Stay n₀ Y W1 W')) →
    J X [] W →
    CallsIn F n P g (#[.func (.yield l) #[] #[]] ++ lb) W fun e W' => (∃ v, e = .returned v) ∧ (J X xs W' ∨ (∃ pre, pre <+: xs ∧ Jx X pre W'))

/-- How a round's body may be left. -/
def postX {α : Type} (n₀ : Nat) (Y : Nat → Prop) (I : (Nat → Prop) → List α → World → Prop) (Ix : Code → (Nat → Prop) → List α → World → Prop) (xs : List α) (W : World) : Exit → Act → World → Prop
  | .normal, _, W' => Stay n₀ Y W W' ∧ I Y xs W'
  | .ret, _, W' => Stay n₀ Y W W' ∧ Ix .ret Y xs W'
  | .exit id, _, W' => Stay n₀ Y W W' ∧ Ix (.exit id) Y xs W'
  | .goto t, _, W' => Stay n₀ Y W W' ∧ Ix (.goto t) Y xs W'
  | .panic _, _, _ => False
  | .outgrown, _, _ => False

theorem alloc_last (w : World) (o : Obj) {k : Nat} (h : k = w.heap.size) : (w.alloc o).heap[k]? = some o := by subst h; exact World.alloc_heap_new w o
theorem lt_of_some {W : World} {k : Nat} {o : Obj} (h : W.heap[k]? = some o) : k < W.heap.size := (Array.getElem?_eq_some_iff.1 h).1

/-- The caller's law. -/
theorem range_law {α : Type} {F : Fence} {n : Nat} {P : Program} {g : Operand} {ps : Array Tmp} {assign body : Code} {Q : Exit → Act → World → Prop} {a : Act} {w : World} {gf : Nat} {lb : Array Value} {encs : α → Array Value} {n₀ : Nat} {X : Nat → Prop} {xs : List α}
    (hro : F.round = none) (h1 : 1 ≤ n) (hg : a.eval g = .func (.func gf) #[] lb) (hF : F.fn gf) (eg : ∀ args w, (callFunc gf args).run P w = .ok (.enter gf args) w)
    (hseq : SeqX F (n - 1) P gf lb encs n₀ X xs w) (hX : ∀ r, X r → r < w.heap.size) (hn : n₀ ≤ w.heap.size) (hps : ∀ x, (encs x).size = ps.size)
    (I : (Nat → Prop) → List α → World → Prop) (Ix : Code → (Nat → Prop) → List α → World → Prop) (hI : Foot n₀ I) (hIx : ∀ c, Foot n₀ (Ix c)) (h0 : I X [] w) (a₁ : α → Act)
    (hassign : ∀ (l : Nat) (x : α) (W : World) (K : Act → World → Prop), K (a₁ x) W →
      assign.wpIn (F.inRound l) (n - 1 - 1) P (Exit.then K (fun _ _ _ => False)) { tmps := (ps.zip (encs x)).foldl (fun t (p, v) => t.setIfInBounds p v) a.tmps, defers := [] } W)
    (hbody : ∀ (l : Nat) (Y : Nat → Prop) (pre : List α) (x : α) (W : World), (∀ r, X r → Y r) → I Y pre W → (∀ r, Y r → r < W.heap.size) → pre ++ [x] <+: xs → body.wpIn (F.inRound l) (n - 1 - 1) P (postX n₀ Y I Ix (pre ++ [x]) W) (a₁ x) W)
    (hdone : ∀ (D : Nat) (Z : Nat → Prop) (W : World), w.heap.size ≤ D → (∀ r, X r → Z r) → Z D → (∀ r, Z r → r < W.heap.size) → I Z xs W → W.heap[D]? = some (.deferred (some [])) → Q .normal { a with defers := { target := .collected D, args := #[] } :: a.defers } W)
    (hstop : ∀ (D : Nat) (Z : Nat → Prop) (c : Code) (pre : List α) (W : World), w.heap.size ≤ D → (∀ r, X r → Z r) → Z D → (∀ r, Z r → r < W.heap.size) → pre <+: xs → Ix c Z pre W → W.heap[D]? = some (.deferred (some [])) → c.wpIn F n P Q { a with defers := { target := .collected D, args := #[] } :: a.defers } W) :
    (Code.rangeFunc g ps assign body).wpIn F n P Q a w := by
  refine wpIn_rangeFunc (fun fn hfn => ?_)
  obtain ⟨D, hD⟩ : ∃ D, D = w.heap.size := ⟨_, rfl⟩
  obtain ⟨l, hl⟩ : ∃ l, l = w.heap.size + 1 := ⟨_, rfl⟩
  obtain ⟨rec, hrec⟩ : ∃ rec : LoopState → Option Code → Loop, rec = fun st pe => { state := st, pending := pe, fn, tmps := a.tmps, params := ps, assign, body, defers := w.heap.size } := ⟨_, rfl⟩
  obtain ⟨V, hV⟩ : ∃ V, (w.alloc (.deferred (some []))).alloc (.loop (rec .ready none)) = V := ⟨_, rfl⟩
  have hent : (Instr.enterLoop fn a.tmps ps assign body F.round).run P w = .ok (l, [{ target := .collected D, args := #[] }]) V := by
    rw [hro, hl, hD, ← hV, hrec]; exact run_enterLoop_outer _ _ _ _ _
  have hVs : V.heap.size = w.heap.size + 2 := by rw [← hV, World.size_alloc, World.size_alloc]
  have hVl : V.heap[l]? = some (.loop (rec .ready none)) := by rw [← hV]; exact alloc_last _ _ (by rw [World.size_alloc, hl])
  have hVD : V.heap[D]? = some (.deferred (some [])) := by
    rw [← hV]; exact (Below.heap_alloc _ _ _ (by rw [World.size_alloc]; omega)).trans (alloc_last _ _ hD)
  have hVb : Below w.heap.size w V := by rw [← hV]; exact ((Below.refl _ w).alloc (Nat.le_refl _) _).alloc (by rw [World.size_alloc]; omega) _
  clear hV
  have hXl : ¬ X l := fun e => by have := hX l e; omega
  have hXD : ¬ X D := fun e => by have := hX D e; omega
  -- with the two blocks that the statement lays
  obtain ⟨more, hmore⟩ : ∃ more : (Nat → Prop) → Nat → Prop, more = fun Y r => Y r ∨ r = l ∨ r = D := ⟨_, rfl⟩
  have mi : ∀ {Y : Nat → Prop} {r}, Y r → more Y r := fun h => by rw [hmore]; exact .inl h
  have ml : ∀ {Y : Nat → Prop}, more Y l := by rw [hmore]; exact .inr (.inl rfl)
  have mD : ∀ {Y : Nat → Prop}, more Y D := by rw [hmore]; exact .inr (.inr rfl)
  have mw : ∀ {Y Z : Nat → Prop} {m : Nat}, (∀ r, Y r → Z r ∨ m ≤ r) → ∀ r, more Y r → more Z r ∨ m ≤ r := fun h r hr => by
    rw [hmore] at hr ⊢
    rcases hr with hr | hr
    · exact (h r hr).imp .inl id
    · exact .inl (.inr hr)
  obtain ⟨J, hJ⟩ : ∃ J : (Nat → Prop) → List α → World → Prop, J = fun Y pre W => I (more Y) pre W ∧ (W.heap[l]? = some (.loop (rec .ready none)) ∧ ¬ Y l) ∧ (W.heap[D]? = some (.deferred (some [])) ∧ ¬ Y D) := ⟨_, rfl⟩
  obtain ⟨Jx, hJx⟩ : ∃ Jx : (Nat → Prop) → List α → World → Prop, Jx = fun Y pre W => ∃ c, Ix c (more Y) pre W ∧ (W.heap[l]? = some (.loop (rec .done (some c))) ∧ ¬ Y l) ∧ (W.heap[D]? = some (.deferred (some [])) ∧ ¬ Y D) := ⟨_, rfl⟩
  have footMore : ∀ {K : (Nat → Prop) → List α → World → Prop}, Foot n₀ K → Foot n₀ (fun Y pre W => K (more Y) pre W) := fun hK =>
    ⟨fun h ht => hK.kept h (ht.mono (fun _ => mi)), fun h hy => hK.wide h (mw hy)⟩
  have fJ : Foot n₀ J := by
    rw [hJ]; exact (footMore hI).and ((Foot.block l (fun _ => _)).and (Foot.block D (fun _ => _)))
  have fJx : Foot n₀ Jx := by
    rw [hJx]
    have f : ∀ c, Foot n₀ (fun Y pre W => Ix c (more Y) pre W ∧ (W.heap[l]? = some (.loop (rec .done (some c))) ∧ ¬ Y l) ∧ (W.heap[D]? = some (.deferred (some [])) ∧ ¬ Y D)) := fun c =>
      (footMore (hIx c)).and ((Foot.block l (fun _ => _)).and (Foot.block D (fun _ => _)))
    exact ⟨fun ⟨c, h⟩ ht => ⟨c, (f c).kept h ht⟩, fun ⟨c, h⟩ hy => ⟨c, (f c).wide h hy⟩⟩
  have hJ0 : J X [] V := by
    rw [hJ]
    refine ⟨hI.kept (hI.wide h0 (fun r hr => ?_)) (Turn.of_below hVb), ⟨hVl, hXl⟩, hVD, hXD⟩
    rw [hmore] at hr
    rcases hr with hr | rfl | rfl
    · exact .inl hr
    · exact .inr (by omega)
    · exact .inr (by omega)
  refine ⟨l, [{ target := .collected D, args := #[] }], V, { target := .fn (.func gf) lb, args := #[.func (.yield l) #[] #[]] }, V, gf, #[.func (.yield l) #[] #[]] ++ lb, V, hent, ?_, ?_, ?_, fun _ => h1, ?_⟩
  · simp only [resolve, hg]
    simp [go_sem]
  · intro f' hf'
    simp [Target.leads] at hf'
    subst hf'; exact hF
  · simp [invoke, go_sem, eg]
  refine (hseq l J Jx V hVb fJ fJx ?_ hJ0).mono ?_
  · -- a round
    intro Y pre x W hXY hj hYs hpre
    rw [hJ] at hj
    obtain ⟨hi, ⟨hWl, hYl⟩, hWD, hYD⟩ := hj
    have hlt := lt_of_some hWl
    have hy := run_yield (P := P) (args := encs x) hWl (by rw [hrec]; exact hps x)
    rw [hrec] at hy
    refine ⟨fn, _, assign, body, hy, roundIn_of_wpIn hfn (hassign _ x W _ ⟨_, run_beginRound hWl (by rw [hrec]), ?_⟩)⟩
    obtain ⟨W2, hW2⟩ : ∃ W2, W.putObj l (.loop { rec .ready none with state := .busy }) = W2 := ⟨_, rfl⟩
    rw [hW2]
    have h2l : W2.heap[l]? = some (.loop { rec .ready none with state := .busy }) := by rw [← hW2]; exact World.putObj_heap_same hlt
    have h2D : W2.heap[D]? = some (.deferred (some [])) := by rw [← hW2]; exact (World.putObj_heap_other (by omega)).trans hWD
    have h2i : I (more Y) pre W2 := by rw [← hW2]; exact hI.kept hi (Turn.put _ ml (by omega))
    have h2s : Stay n₀ Y W W2 := by rw [← hW2]; exact Stay.put _ hYl (by omega)
    have h2z : W2.heap.size = W.heap.size := by rw [← hW2]; simp
    have hb := hbody l (more Y) pre x W2 (fun r hr => mi (hXY r hr)) h2i (fun r hr => by
      rw [hmore] at hr
      rw [h2z]
      rcases hr with hr | rfl | rfl
      · exact hYs r hr
      · exact hlt
      · exact lt_of_some hWD) hpre
    clear hW2
    refine wpIn_mono hb ?_
    have fin : ∀ (jump : Option Code) (W3 : World), Stay n₀ (more Y) W2 W3 →
        (Instr.endRound l jump).run P W3 = .ok (.bool jump.isNone) (W3.putObj l (.loop (rec (if jump.isNone then .ready else .done) jump))) ∧
        (W3.putObj l (.loop (rec (if jump.isNone then .ready else .done) jump))).heap[l]? = some (.loop (rec (if jump.isNone then .ready else .done) jump)) ∧
        (W3.putObj l (.loop (rec (if jump.isNone then .ready else .done) jump))).heap[D]? = some (.deferred (some [])) ∧
        Turn n₀ (more Y) W3 (W3.putObj l (.loop (rec (if jump.isNone then .ready else .done) jump))) ∧
        Stay n₀ Y W (W3.putObj l (.loop (rec (if jump.isNone then .ready else .done) jump))) := fun jump W3 hs => by
      have h3l := (hs.block l (by omega) (.inl ml)).trans h2l
      have h3D := (hs.block D (by rw [h2z]; exact lt_of_some hWD) (.inl mD)).trans h2D
      have := run_endRound (P := P) jump h3l
      refine ⟨by rw [hrec] at this ⊢; exact this, World.putObj_heap_same (lt_of_some h3l), (World.putObj_heap_other (by omega)).trans h3D, Turn.put _ ml (by omega), ?_⟩
      exact (h2s.trans (hs.mono (fun _ => mi))).trans (Stay.put _ hYl (by omega))
    intro e a3 W3 hp
    have out : ∀ c, Stay n₀ (more Y) W2 W3 → Ix c (more Y) (pre ++ [x]) W3 → ∃ v w', (Instr.endRound l (some c)).run P W3 = .ok v w' ∧ ((Ending.returned v = .returned (.bool true) ∧ J Y (pre ++ [x]) w' ∧ Stay n₀ Y W w') ∨ (Ending.returned v = .returned (.bool false) ∧ Jx Y (pre ++ [x]) w' ∧ Stay n₀ Y W w')) := fun c hs hx => by
      obtain ⟨hr, h4l, h4D, ht, hst⟩ := fin (some c) W3 hs
      refine ⟨_, _, hr, .inr ⟨rfl, ?_, hst⟩⟩
      rw [hJx]
      exact ⟨c, (hIx c).kept hx ht, ⟨h4l, hYl⟩, h4D, hYD⟩
    cases e with
    | normal =>
      obtain ⟨hs, hi3⟩ := hp
      obtain ⟨hr, h4l, h4D, ht, hst⟩ := fin none W3 hs
      refine ⟨_, _, hr, .inl ⟨rfl, ?_, hst⟩⟩
      rw [hJ]
      exact ⟨hI.kept hi3 ht, ⟨h4l, hYl⟩, h4D, hYD⟩
    | ret => exact out _ hp.1 hp.2
    | exit id => exact out _ hp.1 hp.2
    | goto t => exact out _ hp.1 hp.2
    | panic ch => exact hp.elim
    | outgrown => exact hp.elim
  · -- behind it
    have small : ∀ (W2 : World) (o : Obj), w.heap.size + 2 ≤ W2.heap.size → ∀ r, more X r → r < (W2.putObj l o).heap.size := fun W2 o hs r hr => by
      rw [hmore] at hr
      simp only [World.putObj_size]
      rcases hr with hr | rfl | rfl
      · have := hX r hr; omega
      · omega
      · omega
    rintro e W2 ⟨⟨v, rfl⟩, hj | ⟨pre, hpre, hj⟩⟩
    · rw [hJ] at hj
      obtain ⟨hi, ⟨hWl, _⟩, hWD, _⟩ := hj
      have hsz := lt_of_some hWl
      refine ⟨none, _, by have := run_endLoop (P := P) hWl (by rw [hrec]; simp); rw [hrec] at this; exact this, hdone D (more X) _ (by omega) (fun _ => mi) mD (small _ _ (by omega)) (hI.kept hi (Turn.put _ ml (by omega))) ((World.putObj_heap_other (by omega)).trans hWD)⟩
    · rw [hJx] at hj
      obtain ⟨c, hi, ⟨hWl, _⟩, hWD, _⟩ := hj
      have hsz := lt_of_some hWl
      refine ⟨some c, _, by have := run_endLoop (P := P) hWl (by rw [hrec]; simp); rw [hrec] at this; exact this, hstop D (more X) c pre _ (by omega) (fun _ => mi) mD (small _ _ (by omega)) hpre ((hIx c).kept hi (Turn.put _ ml (by omega))) ((World.putObj_heap_other (by omega)).trans hWD)⟩

/-- The marks that such statements leave among a function's deferred calls. -/
def markOf (D : Nat) : Deferred := { target := .collected D, args := #[] }
/-- A function leaves behind such statements: the marks' blocks are shut, nothing else turns. -/
theorem leave_marks {F : Fence} {n : Nat} {P : Program} {fn : Func} {tmps : Array Value} {R : Ending → World → Prop} {n₀ : Nat} {Z : Nat → Prop} : ∀ (ds : List Nat) (W : World), ds.Nodup → (∀ D, D ∈ ds → W.heap[D]? = some (.deferred (some [])) ∧ Z D ∧ n₀ ≤ D) →
    (∀ W', Turn n₀ Z W W' → LeavesIn F n P fn tmps R [] .returning W') → LeavesInM F n P fn tmps R (ds.map markOf) .returning W
  | [], W, _, _, h => h W (Turn.refl _ _ _)
  | D :: ds, W, hnd, hD, h => by
    obtain ⟨h1, h2, h3⟩ := hD D (by simp)
    obtain ⟨hn1, hn2⟩ := List.nodup_cons.1 hnd
    refine ⟨by simp, .inl ⟨D, _, rfl, run_takeDeferred h1, leave_marks ds _ hn2 (fun E hE => ?_) (fun W' ht => h W' ((Turn.put _ h2 h3).trans ht))⟩⟩
    obtain ⟨g1, g2, g3⟩ := hD E (by simp [hE])
    exact ⟨(World.putObj_heap_other (fun e => hn1 (by subst e; exact hE))).trans g1, g2, g3⟩
end Go.Proofs.Flow
