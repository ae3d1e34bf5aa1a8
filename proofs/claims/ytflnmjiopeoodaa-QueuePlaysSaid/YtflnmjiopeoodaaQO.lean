/- queue: the document's queue beside the program's. -/
import Derived.Test.YtflnmjiopeoodaaQM
import Derived.Test.YtflnmjiopeoodaaQN
set_option maxRecDepth 100000
namespace Go.Proofs.Ytflnmjiopeoodaa.Que
open Go.RowKit Evt QueuePlain
open MsgPlain (Ev)

theorem Qu.beside_of {w0 W V : World} {q : Nat} {v : Value} {count bytes' : Int} {l l2 : List Ev} {o : Obj} (_h : Qu w0 V q v count bytes' l) (h : Qu w0 W q v count bytes' l2) (hV : V.heap[W.heap.size]? = some o) : Beside V q v W.heap.size o := h.beside hV
structure Doc (w0 W : World) (q : Nat) (u : Value) (count bytes' : Int) (la : List Ev) (mb : Nat) (L : Value) (ld : List Ev) : Prop where
  Q : Qu w0 W q u count bytes' la
  B : Beside W q u mb (.cells #[.int .i64 count, .int .i64 bytes', L] 30 (0, 0))
  E : EvsAt W L ld
  d : ∀ g, L.ownBlock = some g → ¬ Mine q u g ∧ g ≠ mb ∧ g < W.heap.size
  b : w0.heap.size ≤ mb
section
variable {w0 W W' V : World} {q mb : Nat} {u u' L L' : Value} {count bytes' : Int} {la la' ld ld' : List Ev}
theorem Doc.lt (h : Doc w0 W q u count bytes' la mb L ld) : mb < W.heap.size := (Array.getElem?_eq_some_iff.1 h.B.1).1
theorem Doc.below (h : Doc w0 W q u count bytes' la mb L ld) (k : Below W.heap.size W W') : Doc w0 W' q u count bytes' la mb L ld :=
  ⟨h.Q.below k, h.B.below k, h.E.below k, fun g hg => ⟨(h.d g hg).1, (h.d g hg).2.1, Nat.lt_of_lt_of_le (h.d g hg).2.2 k.size⟩, h.b⟩
theorem Doc.queue (h : Doc w0 W q u count bytes' la mb L ld) (h2 : Qu w0 W' q u' count bytes' la') (g : Goes W W' q u u') : Doc w0 W' q u' count bytes' la' mb L ld := by
  refine ⟨h2, h.B.goes g, ?_, fun k hk => ⟨fun e => ?_, (h.d k hk).2.1, Nat.lt_of_lt_of_le (h.d k hk).2.2 g.kept.size⟩, h.b⟩
  · obtain ⟨a, cap, sb, so, rfl, hc, h3, h4⟩ := h.E
    refine ⟨a, cap, sb, so, rfl, hc, h3, fun i hi j hj => ?_⟩
    have k := h4 i hi j hj
    obtain rfl := h3 (by omega)
    have hd := h.d sb rfl
    rw [World.cell?_of_block (w := W) (g.kept.block sb hd.2.2 hd.1)]; exact k
  · rcases g.mine k e with h1 | h1
    · exact (h.d k hk).1 h1
    · have := (h.d k hk).2.2; omega
/-- What a list's blocks may be. -/
theorem Doc.apart (h : Doc w0 W q u count bytes' la mb L ld) (f : From W L W' L') (hV : W'.heap.size ≤ V.heap.size) : ∀ g, L'.ownBlock = some g → ¬ Mine q u g ∧ g ≠ mb ∧ g < V.heap.size := fun g hg => by
  obtain ⟨h1, h2⟩ := f g hg
  rcases h1 with h1 | h1
  · exact ⟨(h.d g h1).1, (h.d g h1).2.1, by omega⟩
  · exact ⟨fun e => by have := (h.Q.N.own e).2; omega, fun e => by have := h.lt; omega, by omega⟩
theorem Doc.store (h : Doc w0 V q u count bytes' la mb L ld) (hE : EvsAt V L' ld') (hd : ∀ g, L'.ownBlock = some g → ¬ Mine q u g ∧ g ≠ mb ∧ g < V.heap.size) :
    Doc w0 (V.setRow mb #[.int .i64 count, .int .i64 bytes', L']) q u count bytes' la mb L' ld' := by
  have hg := grown_setRow V mb #[.int .i64 count, .int .i64 bytes', L']
  have hk : Kept (fun k => k = mb) V (V.setRow mb #[.int .i64 count, .int .i64 bytes', L']) := .grown hg (fun k e => by injection e with e; exact e.symm)
  refine ⟨h.Q.stay hk (fun k hm e => h.B.2 (e ▸ hm)) (h.Q.N.L.grown hg h.Q.N.L.size (fun k e => by injection e with e; rw [← e]; exact h.b)), ⟨setRow_heap _ _ _ _ _ _ h.B.1, h.B.2⟩, hE.grown hg (fun g hg2 e => by injection e with e; exact (hd g hg2).2.1 e), fun g hg2 => ⟨(hd g hg2).1, (hd g hg2).2.1, Nat.lt_of_lt_of_le (hd g hg2).2.2 hg.size⟩, h.b⟩
theorem Doc.new (h : Qu w0 W q u count bytes' la) (k : Below W.heap.size W V) (hb : V.heap[W.heap.size]? = some (.cells #[.int .i64 count, .int .i64 bytes', .slice none 0 0] 30 (0, 0))) : Doc w0 V q u count bytes' la W.heap.size (.slice none 0 0) [] :=
  ⟨h.below k, h.beside hb, ⟨none, 0, 0, 0, rfl, Nat.le_refl _, fun e => absurd e (Nat.lt_irrefl _), fun i hi => absurd hi (Nat.not_lt_zero _)⟩, fun g hg => (by cases hg), h.N.L.size⟩
end
/-- A box for an act, and what is laid in it. -/
theorem box_act (W : World) : ∃ V, W.alloc (.cells #[.int .i64 0, .int .i64 0, .int .i64 0, .int .i64 0, .string { data := #[] }] 34) = V ∧ Sl (Below W.heap.size W V) ∧ V.heap[W.heap.size]? = some (.cells #[.int .i64 0, .int .i64 0, .int .i64 0, .int .i64 0, .string { data := #[] }] 34 (0, 0)) :=
  ⟨_, rfl, ⟨(Below.refl _ _).alloc (Nat.le_refl _) _⟩, alloc_new _ _ _ rfl⟩
theorem set_act {W : World} {g : Nat} {B : Nat} {w0 : World} {c0 : Array Value} (h : W.heap[g]? = some (.cells c0 34 (0, 0))) (hB : Below B w0 W) (hb : B ≤ g) (cs : Array Value) : ∃ V, W.setRow g cs = V ∧ Sl (Below B w0 V) ∧ Sl (V.heap[g]? = some (.cells cs 34 (0, 0))) :=
  ⟨_, rfl, ⟨below_setRow hB hb _⟩, ⟨setRow_heap _ _ _ _ _ _ h⟩⟩
theorem act_info (a b o c : Int) (s : ByteArray) : (Try.prog.info? 34).map (·.size) = some (#[Value.int .i64 a, .int .i64 b, .int .i64 o, .int .i64 c, .string s]).size := by
  show _ = some 5
  kernel_rfl
theorem act_all (a b o c : Int) (s : ByteArray) : (#[.int .i64 a, .int .i64 b, .int .i64 o, .int .i64 c, .string s] : Array Value).all (·.oneCell') = true := by simp [Value.oneCell']
theorem act_cells {W : World} {g : Nat} {a b o c : Int} {s : ByteArray} (h : W.heap[g]? = some (.cells #[.int .i64 a, .int .i64 b, .int .i64 o, .int .i64 c, .string s] 34 (0, 0))) : W.cell? ⟨g, 0, none⟩ = some (.int .i64 a) ∧ W.cell? ⟨g, 1, none⟩ = some (.int .i64 b) ∧ W.cell? ⟨g, 2, none⟩ = some (.int .i64 o) ∧ W.cell? ⟨g, 3, none⟩ = some (.int .i64 c) ∧ W.cell? ⟨g, 4, none⟩ = some (.string s) := by
  refine ⟨?_, ?_, ?_, ?_, ?_⟩ <;> (rw [cell_of_row _ _ _ _ _ _ h]; rfl)
theorem doc_slice {W : World} {L : Value} {l : List Ev} (h : EvsAt W L l) : ∃ a c, L = .slice a l.length c := h.slice
end Go.Proofs.Ytflnmjiopeoodaa.Que
