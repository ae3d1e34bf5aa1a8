/- queue: a queue in memory; Len, Size; the list's first. -/
import Derived.Test.YtflnmjiopeoodaaQA
import Derived.Deep.DeepCutAuto
import Derived.StillTailTactics
set_option maxRecDepth 100000
namespace Go.Proofs.Ytflnmjiopeoodaa.Que
open Go.RowKit Evt QueuePlain
open MsgPlain (Ev)

/-- What is a queue's own: its block, and its row's. -/
def Mine (q : Nat) (v : Value) (k : Nat) : Prop := k = q ∨ v.ownBlock = some k
/-- What a step of a queue may change, and what is its own behind. -/
structure Goes (W W' : World) (q : Nat) (v v' : Value) : Prop where
  kept : Kept (Mine q v) W W'
  mine : ∀ k, Mine q v' k → Mine q v k ∨ W.heap.size ≤ k
theorem Goes.below {W W' : World} (q : Nat) (v : Value) (h : Below W.heap.size W W') : Goes W W' q v v := ⟨.below h, fun _ hk => .inl hk⟩
theorem Goes.trans {W V U : World} {q : Nat} {v v1 v2 : Value} (h : Goes W V q v v1) (k : Goes V U q v1 v2) : Goes W U q v v2 :=
  ⟨h.kept.trans k.kept (fun j hj e => by
    rcases h.mine j e with h1 | h1
    · exact h1
    · omega), fun j e => by
    rcases k.mine j e with h1 | h1
    · exact h.mine j h1
    · exact .inr (Nat.le_trans h.kept.size h1)⟩
/-- A queue's cells. -/
def qc (count bytes n : Int) (v : Value) : Array Value := #[.int .i64 count, .int .i64 bytes, .int .i64 n, v]
/-- A queue's block and its row: v the row, l what waits, m what the block says that they have in all. -/
structure QuN (w0 W : World) (q : Nat) (v : Value) (count bytes : Int) (m : Nat) (l : List Ev) : Prop where
  X : W.heap[q]? = some (.cells #[.int .i64 count, .int .i64 bytes, .int .i64 (m : Int), v] 56 (0, 0))
  R : QRow W w0.heap.size v l
  B : w0.heap.size ≤ q
  L : Below w0.heap.size w0 W
/-- A queue. -/
structure Qu (w0 W : World) (q : Nat) (v : Value) (count bytes : Int) (l : List Ev) : Prop where
  N : QuN w0 W q v count bytes (size l) l
  C : 1 ≤ count ∧ count ≤ 1024
  D : 1 ≤ bytes ∧ bytes ≤ 4194304
  I : Within count bytes l
  Z : ∀ e ∈ l, e.data.length ≤ 1000000
section
variable {w0 W W' : World} {q : Nat} {v : Value} {count bytes : Int} {m : Nat} {l : List Ev}
theorem QuN.lt (h : QuN w0 W q v count bytes m l) : q < W.heap.size := (Array.getElem?_eq_some_iff.1 h.X).1
theorem QuN.own (h : QuN w0 W q v count bytes m l) {k : Nat} (hk : Mine q v k) : w0.heap.size ≤ k ∧ k < W.heap.size := by
  rcases hk with rfl | hk
  · exact ⟨h.B, h.lt⟩
  · exact ⟨(h.R.heap hk).1, h.R.lt hk⟩
theorem QuN.stay (h : QuN w0 W q v count bytes m l) {S : Nat → Prop} (hk : Kept S W W') (hn : ∀ k, Mine q v k → ¬ S k) (hL : Below w0.heap.size w0 W') : QuN w0 W' q v count bytes m l :=
  ⟨by rw [hk.block q h.lt (hn q (.inl rfl))]; exact h.X, h.R.kept hk (fun g hg => hn g (.inr hg)), h.B, hL⟩
theorem QuN.below (h : QuN w0 W q v count bytes m l) (k : Below W.heap.size W W') : QuN w0 W' q v count bytes m l :=
  h.stay (S := fun _ => False) (.below k) (fun _ _ e => e) (h.L.trans (k.mono h.L.size))
theorem QuN.ne (h : QuN w0 W q v count bytes m l) : v.ownBlock ≠ some q := h.R.kind h.X (by decide)
theorem QuN.cells (h : QuN w0 W q v count bytes m l) : W.cell? ⟨q, 0, none⟩ = some (.int .i64 count) ∧ W.cell? ⟨q, 1, none⟩ = some (.int .i64 bytes) ∧ W.cell? ⟨q, 2, none⟩ = some (.int .i64 (m : Int)) ∧ W.cell? ⟨q, 3, none⟩ = some v := by
  refine ⟨?_, ?_, ?_, ?_⟩ <;> (rw [cell_of_row _ _ _ _ _ _ h.X]; rfl)
theorem QuN.froz (h : QuN w0 W q v count bytes m l) (i : Nat) : W.frozen? ⟨q, i, none⟩ = false := frozen_of_row _ _ _ _ _ h.X
/-- Its sizes' cell is set. -/
theorem QuN.resize (h : QuN w0 W q v count bytes m l) (k : Nat) : QuN w0 (W.setCell ⟨q, 2, none⟩ (.int .i64 (k : Int))) q v count bytes k l ∧ Goes W (W.setCell ⟨q, 2, none⟩ (.int .i64 (k : Int))) q v v := by
  have hg := grown_setCell W q 2 (.int .i64 (k : Int))
  have hx : (W.setCell ⟨q, 2, none⟩ (.int .i64 (k : Int))).heap[q]? = some (.cells #[.int .i64 count, .int .i64 bytes, .int .i64 (k : Int), v] 56 (0, 0)) := by
    rw [heap_setCell_same _ _ _ _ _ _ h.X]; simp
  refine ⟨⟨hx, h.R.grown hg (fun g e1 e2 => h.ne (e1.trans e2)), h.B, h.L.grown hg h.L.size (fun k hk => by injection hk with hk; rw [← hk]; exact h.B)⟩, ⟨.grown hg (fun k e => by injection e with e; exact .inl e.symm), fun k e => .inl e⟩⟩
/-- Its row's cell is set, behind what was done to the row. -/
theorem QuN.rerow {V : World} {u : Value} {l' : List Ev} (h : QuN w0 W q v count bytes m l) (hg : W.grownBy V v.ownBlock) (hr : QRow V w0.heap.size u l') (hu : ∀ g, u.ownBlock = some g → v.ownBlock = some g ∨ W.heap.size ≤ g) :
    QuN w0 (V.setCell ⟨q, 3, none⟩ u) q u count bytes m l' ∧ Goes W (V.setCell ⟨q, 3, none⟩ u) q v u := by
  have hX : V.heap[q]? = some (.cells #[.int .i64 count, .int .i64 bytes, .int .i64 (m : Int), v] 56 (0, 0)) := by rw [hg.block q h.lt (fun e => h.ne e.symm)]; exact h.X
  have hne : u.ownBlock ≠ some q := hr.kind hX (by decide)
  have hk := grown_setCell V q 3 u
  have hx : (V.setCell ⟨q, 3, none⟩ u).heap[q]? = some (.cells #[.int .i64 count, .int .i64 bytes, .int .i64 (m : Int), u] 56 (0, 0)) := by
    rw [heap_setCell_same _ _ _ _ _ _ hX]; simp
  have hL : Below w0.heap.size w0 V := h.L.grown hg h.L.size (fun k hk => (h.R.heap hk).1)
  refine ⟨⟨hx, hr.grown hk (fun g e1 e2 => hne (e1.trans e2)), h.B, hL.grown hk hL.size (fun k hk => by injection hk with hk; rw [← hk]; exact h.B)⟩, ⟨?_, fun k e => ?_⟩⟩
  · exact (Kept.grown (S := Mine q v) hg (fun k e => .inr e)).trans (Kept.grown (S := fun k => k = q) hk (fun k e => by injection e with e; exact e.symm)) (fun j _ e => .inl e)
  · rcases e with rfl | e
    · exact .inl (.inl rfl)
    · rcases hu k e with h1 | h1
      · exact .inl (.inr h1)
      · exact .inr h1
theorem Qu.stay (h : Qu w0 W q v count bytes l) {S : Nat → Prop} (hk : Kept S W W') (hn : ∀ k, Mine q v k → ¬ S k) (hL : Below w0.heap.size w0 W') : Qu w0 W' q v count bytes l :=
  ⟨h.N.stay hk hn hL, h.C, h.D, h.I, h.Z⟩
theorem Qu.below (h : Qu w0 W q v count bytes l) (k : Below W.heap.size W W') : Qu w0 W' q v count bytes l := ⟨h.N.below k, h.C, h.D, h.I, h.Z⟩
theorem Qu.most (h : Qu w0 W q v count bytes l) : l.length ≤ 1024 ∧ size l ≤ 4194304 := by
  obtain ⟨h1, h2⟩ := h.I
  have := h.C
  have := h.D
  omega
end
def hd (l : List Ev) : Ev := l.headD Ev0
/-- An event as a value. -/
def evV (e : Ev) : Value := .agg #[.int .i64 e.op, .int .i64 e.code, .string (strOf e.data)]
theorem str_nil : strOf [] = { data := #[] } := by kernel_rfl

theorem len_any {w0 W : World} {q : Nat} {v : Value} {count bytes : Int} {m : Nat} {l : List Ev} {n : Nat} (hn : l.length = n) (h : QuN w0 W q v count bytes m l) :
    Calls Try.prog 17 #[.pointer (some ⟨q, 0, none⟩)] W fun e w' => e = .returned (.int .i64 (n : Int)) ∧ W = w' := by
  obtain ⟨-, -, -, c3⟩ := h.cells
  obtain ⟨a, c, rfl⟩ := h.R.slice
  rw [hn] at c3
  clear h hn
  go_enter Try.func17, Try.ntmps17
  go_wp2
  go_ret
  exact ⟨rfl, rfl⟩
theorem size_any {w0 W : World} {q : Nat} {v : Value} {count bytes : Int} {n : Nat} {l : List Ev} (h : QuN w0 W q v count bytes n l) :
    Calls Try.prog 18 #[.pointer (some ⟨q, 0, none⟩)] W fun e w' => e = .returned (.int .i64 (n : Int)) ∧ W = w' := by
  obtain ⟨-, -, c2, -⟩ := h.cells
  clear h
  go_enter Try.func18, Try.ntmps18
  go_wp2
  go_ret
  exact ⟨rfl, rfl⟩
/-- To store what is there changes nothing. -/
theorem setCell_self {W : World} {g i : Nat} {cs : Array Value} {t : TypeId} {u : Value} (h : W.heap[g]? = some (.cells cs t (0, 0))) (hu : cs[i]? = some u) : W.setCell ⟨g, i, none⟩ u = W := by
  have hx : (W.setCell ⟨g, i, none⟩ u).heap = W.heap := by
    apply Array.ext_getElem?
    intro k
    by_cases hk : k = g
    · rw [hk, heap_setCell_same _ _ _ _ _ _ h, h]
      congr 2
      apply Array.ext
      · simp
      · intro j h1 h2
        rw [Array.getElem_setIfInBounds h2]
        split
        · rename_i e
          subst e
          exact (Array.getElem?_eq_some_iff.1 hu).2.symm
        · rfl
    · exact heap_setCell_other _ _ _ _ hk
  have h2 : W.setCell ⟨g, i, none⟩ u = { W with heap := (W.setCell ⟨g, i, none⟩ u).heap } := rfl
  rw [h2, hx]
theorem ret_ev {fn : Func} {p u : Tmp} (h : fn.results = #[.cell p 32, .tmp u]) (tmps : Array Value) (w : World) (g : Nat) (cs : Array Value)
    (hp : tmps.getD p undef = .pointer (some ⟨g, 0, none⟩)) (hg : w.heap[g]? = some (.cells cs 32 (0, 0))) (hs : cs.size = 3) :
    (results fn tmps).run Try.prog w = .ok (.tuple #[.agg cs, tmps.getD u undef]) w := by
  have hi : (Try.prog.info? 32).map (·.size) = some cs.size := ev_info hs
  have hp' : tmps[p]?.getD undef = .pointer (some ⟨g, 0, none⟩) := by simpa using hp
  simp only [results, h]
  simp [Result.andThen, hp', asAddr, run_loadVar_row (P := Try.prog) w g 32 32 cs (0, 0) _ hg Try.underlying32 rfl hi]
/-- A box for an event, and what is laid in it. -/
theorem box_ev (W : World) : ∃ V, W.alloc (.cells #[.int .i64 0, .int .i64 0, .string { data := #[] }] 32) = V ∧ Sl (Below W.heap.size W V) ∧ V.heap[W.heap.size]? = some (.cells #[.int .i64 0, .int .i64 0, .string { data := #[] }] 32 (0, 0)) :=
  ⟨_, rfl, ⟨(Below.refl _ _).alloc (Nat.le_refl _) _⟩, alloc_new _ _ _ rfl⟩
theorem set_ev {W : World} {g : Nat} {B : Nat} {w0 : World} {c0 : Array Value} (h : W.heap[g]? = some (.cells c0 32 (0, 0))) (hB : Below B w0 W) (hb : B ≤ g) (cs : Array Value) : ∃ V, W.setRow g cs = V ∧ Sl (Below B w0 V) ∧ Sl (V.heap[g]? = some (.cells cs 32 (0, 0))) :=
  ⟨_, rfl, ⟨below_setRow hB hb _⟩, ⟨setRow_heap _ _ _ _ _ _ h⟩⟩
theorem first_none {w0 W : World} {q : Nat} {v : Value} {count bytes : Int} {m : Nat} (h : QuN w0 W q v count bytes m []) :
    Calls Try.prog 23 #[.pointer (some ⟨q, 3, none⟩)] W fun e w' => e = .returned (.tuple #[.agg #[.int .i64 0, .int .i64 0, .string { data := #[] }], .bool false]) ∧ Sl (Below W.heap.size W w') := by
  obtain ⟨-, -, -, c3⟩ := h.cells
  obtain rfl := h.R.nil
  obtain ⟨wa, hwa, HB, ha⟩ := box_ev W
  have hc : wa.cell? ⟨q, 3, none⟩ = some (.slice none 0 0) := by rw [HB.out.cell (p := ⟨q, 3, none⟩) h.lt]; exact c3
  obtain ⟨wb, hwb, HBb, Hb⟩ := set_ev ha HB.out (Nat.le_refl _) #[.int .i64 0, .int .i64 0, .string { data := #[] }]
  obtain ⟨e0, e1, e2⟩ := ev_cells ha
  have HI : (Try.prog.info? 32).map (·.size) = some (#[Value.int .i64 0, .int .i64 0, .string { data := #[] }]).size := ev_info rfl
  clear h c3
  go_enter Try.func23, Try.ntmps23
  go_upto_region 2 with fail
  go_wp2_with (refine wpList_store_row rfl 32 (.tmp 2) (.tmp 10) rfl W.heap.size #[.int .i64 0, .int .i64 0, .string { data := #[] }] rfl rfl 32 #[.int .i64 0, .int .i64 0, .string { data := #[] }] ha HI rfl (ev_all _ _ _) ?_)
  (try simp only [Exit.inBlock, Exit.then])
  refine bodyPost_ret (ret_ev rfl _ _ W.heap.size _ rfl Hb.out rfl) rfl ?_
  exact ⟨rfl, HBb⟩
theorem first_some {w0 W : World} {q : Nat} {v : Value} {count bytes : Int} {m : Nat} {e : Ev} {l : List Ev} (h : QuN w0 W q v count bytes m (e :: l)) (hl : l.length ≤ 1000000) :
    Calls Try.prog 23 #[.pointer (some ⟨q, 3, none⟩)] W fun en w' => en = .returned (.tuple #[evV e, .bool true]) ∧ Sl (Below W.heap.size W w') := by
  obtain ⟨-, -, -, c3⟩ := h.cells
  obtain ⟨g, off, cap, rfl, hcap⟩ := h.R.one
  obtain ⟨o, c, d⟩ := e
  obtain ⟨S, hS⟩ : ∃ S, strOf d = S := ⟨_, rfl⟩
  obtain ⟨wa, hwa, HB, ha⟩ := box_ev W
  have hc : wa.cell? ⟨q, 3, none⟩ = some (.slice (some ⟨g, off, none⟩) (l.length + 1) cap) := by rw [HB.out.cell (p := ⟨q, 3, none⟩) h.lt]; exact c3
  obtain ⟨d0, d1, d2⟩ := (h.R.evs.below HB.out).at3 0 (Nat.succ_pos _) rfl
  simp only [Nat.zero_mul, Nat.add_zero] at d0 d1 d2
  rw [hS] at d2
  obtain ⟨wb, hwb, HBb, Hb⟩ := set_ev ha HB.out (Nat.le_refl _) #[.int .i64 o, .int .i64 c, .string S]
  have HI : (Try.prog.info? 32).map (·.size) = some (#[Value.int .i64 o, .int .i64 c, .string S]).size := ev_info rfl
  obtain ⟨n, hn⟩ : ∃ n, l.length = n := ⟨_, rfl⟩
  rw [hn] at hl
  rw [hn] at hc hcap
  have hz : (((n : Int) + 1) == 0) = false := beq_eq_false_iff_ne.2 (by omega)
  clear h c3 hn
  unfold evV
  rw [hS]
  clear hS
  go_enter Try.func23, Try.ntmps23
  go_upto_region 3 with fail
  go_wp2_with (refine wpList_store_row rfl 32 (.tmp 2) (.tmp 16) rfl W.heap.size #[.int .i64 o, .int .i64 c, .string S] rfl rfl 32 #[.int .i64 0, .int .i64 0, .string { data := #[] }] ha HI rfl (ev_all _ _ _) ?_)
  (try simp only [Exit.inBlock, Exit.then])
  refine bodyPost_ret (ret_ev rfl _ _ W.heap.size _ rfl Hb.out rfl) rfl ?_
  exact ⟨rfl, HBb⟩
end Go.Proofs.Ytflnmjiopeoodaa.Que
