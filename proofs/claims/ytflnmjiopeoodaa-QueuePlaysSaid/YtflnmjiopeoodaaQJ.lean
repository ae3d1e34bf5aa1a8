/- queue: two rows of one's own beside a queue. -/
import Derived.Test.YtflnmjiopeoodaaQI
set_option maxRecDepth 100000
namespace Go.Proofs.Ytflnmjiopeoodaa.Que
open Go.RowKit Evt QueuePlain
open MsgPlain (Ev)

theorem OwnE.keptS {W W' : World} {base : Nat} {v : Value} {l : List Ev} (h : OwnE W base v l) {S : Nat → Prop} (k : Kept S W W') (hn : ∀ g, v.ownBlock = some g → ¬ S g) : OwnE W' base v l := by
  obtain ⟨h1, h2⟩ := h
  refine ⟨h1, ?_⟩
  rcases h2 with ⟨rfl, hz⟩ | ⟨g, cap, cur, rfl, hg, hh, hr⟩
  · exact .inl ⟨rfl, hz⟩
  · refine .inr ⟨g, cap, cur, rfl, hg, ?_, hr⟩
    rw [k.block g (Array.getElem?_eq_some_iff.1 hh).1 (hn g rfl)]
    exact hh
theorem OwnE.lt {W : World} {base : Nat} {v : Value} {l : List Ev} (h : OwnE W base v l) {g : Nat} (hg : v.ownBlock = some g) : g < W.heap.size := by
  obtain ⟨_, cs, hc⟩ := h.heap hg
  exact (Array.getElem?_eq_some_iff.1 hc).1
/-- A queue, what went in, and what came out, beside each other. -/
structure Flow (w0 W : World) (q : Nat) (u : Value) (count bytes' : Int) (la : List Ev) (vi : Value) (li : List Ev) (vo : Value) (lo : List Ev) : Prop where
  Q : Qu w0 W q u count bytes' la
  I : OwnE W w0.heap.size vi li
  O : OwnE W w0.heap.size vo lo
  d1 : ∀ g, vi.ownBlock = some g → ¬ Mine q u g
  d2 : ∀ g, vo.ownBlock = some g → ¬ Mine q u g
  d3 : ∀ g, vi.ownBlock = some g → vo.ownBlock ≠ some g
section
variable {w0 W W' : World} {q : Nat} {u u' vi vo x : Value} {count bytes' : Int} {la la' li lo : List Ev} {e : Ev}
theorem Flow.below (h : Flow w0 W q u count bytes' la vi li vo lo) (k : Below W.heap.size W W') : Flow w0 W' q u count bytes' la vi li vo lo :=
  ⟨h.Q.below k, h.I.below k, h.O.below k, h.d1, h.d2, h.d3⟩
theorem Flow.queue (h : Flow w0 W q u count bytes' la vi li vo lo) (h2 : Qu w0 W' q u' count bytes' la') (g : Goes W W' q u u') : Flow w0 W' q u' count bytes' la' vi li vo lo :=
  ⟨h2, OwnE.keptS h.I g.kept h.d1, OwnE.keptS h.O g.kept h.d2, fun k hk e => by
    rcases g.mine k e with h1 | h1
    · exact h.d1 k hk h1
    · have := OwnE.lt h.I hk; omega, fun k hk e => by
    rcases g.mine k e with h1 | h1
    · exact h.d2 k hk h1
    · have := OwnE.lt h.O hk; omega, h.d3⟩
theorem Flow.into (h : Flow w0 W q u count bytes' la vi li vo lo) (hx : EvsAt W x [e]) (hl : li.length + 1 ≤ 1000000) :
    ∃ v1 w1, (Builtin.append_ #[28, 28] 28 #[vi, x]).run Try.prog W = .ok v1 w1 ∧ Flow w0 w1 q u count bytes' la v1 (li ++ [e]) vo lo := by
  obtain ⟨v1, w1, h1, h2, h3, h4⟩ := add_evs h.I hx hl h.Q.N.L.size
  have hk : Kept (fun k => vi.ownBlock = some k) W w1 := .grown h3 (fun k e => e)
  have hL : Below w0.heap.size w0 w1 := hk.up h.Q.N.L (fun k e => (h.I.heap e).1) h.Q.N.L.size
  refine ⟨v1, w1, h1, h.Q.stay hk (fun k hm e => h.d1 k e hm) hL, h2, OwnE.keptS h.O hk (fun g e1 e2 => h.d3 g e2 e1), fun g hg hm => ?_, h.d2, fun g hg e2 => ?_⟩
  · rcases h4 with h4 | h4
    · exact h.d1 g (h4.symm.trans hg) hm
    · rw [h4] at hg; injection hg with hg; have := (h.Q.N.own hm).2; omega
  · rcases h4 with h4 | h4
    · exact h.d3 g (h4.symm.trans hg) e2
    · rw [h4] at hg; injection hg with hg; have := OwnE.lt h.O e2; omega
theorem Flow.outof (h : Flow w0 W q u count bytes' la vi li vo lo) (hx : EvsAt W x [e]) (hl : lo.length + 1 ≤ 1000000) :
    ∃ v1 w1, (Builtin.append_ #[28, 28] 28 #[vo, x]).run Try.prog W = .ok v1 w1 ∧ Flow w0 w1 q u count bytes' la vi li v1 (lo ++ [e]) := by
  obtain ⟨v1, w1, h1, h2, h3, h4⟩ := add_evs h.O hx hl h.Q.N.L.size
  have hk : Kept (fun k => vo.ownBlock = some k) W w1 := .grown h3 (fun k e => e)
  have hL : Below w0.heap.size w0 w1 := hk.up h.Q.N.L (fun k e => (h.O.heap e).1) h.Q.N.L.size
  refine ⟨v1, w1, h1, h.Q.stay hk (fun k hm e => h.d2 k e hm) hL, OwnE.keptS h.I hk (fun g e1 e2 => h.d3 g e1 e2), h2, h.d1, fun g hg hm => ?_, fun g hg e2 => ?_⟩
  · rcases h4 with h4 | h4
    · exact h.d2 g (h4.symm.trans hg) hm
    · rw [h4] at hg; injection hg with hg; have := (h.Q.N.own hm).2; omega
  · rcases h4 with h4 | h4
    · exact h.d3 g hg (h4.symm.trans e2)
    · rw [h4] at e2; injection e2 with e2; have := OwnE.lt h.I hg; omega
/-- Both rows are made, one behind the other. -/
theorem Flow.new (h : Qu w0 W q u count bytes' la) {V X : World} (hV : W.alloc (.cells #[] 32) = V) (hX : V.alloc (.cells #[] 32) = X) :
    Flow w0 X q u count bytes' la (.slice (some ⟨W.heap.size, 0, none⟩) 0 0) [] (.slice (some ⟨V.heap.size, 0, none⟩) 0 0) [] := by
  have k1 : Below W.heap.size W V := by rw [← hV]; exact (Below.refl _ _).alloc (Nat.le_refl _) _
  have k2 : Below V.heap.size V X := by rw [← hX]; exact (Below.refl _ _).alloc (Nat.le_refl _) _
  have hs : V.heap.size = W.heap.size + 1 := by rw [← hV]; exact alloc_size _ _
  have o1 : OwnE V w0.heap.size (.slice (some ⟨W.heap.size, 0, none⟩) 0 0) [] := by rw [← hV]; exact ownE_made W _ h.N.L.size
  have o2 : OwnE X w0.heap.size (.slice (some ⟨V.heap.size, 0, none⟩) 0 0) [] := by rw [← hX]; exact ownE_made V _ (by have := h.N.L.size; omega)
  refine ⟨(h.below k1).below k2, o1.below k2, o2, fun g hg hm => ?_, fun g hg hm => ?_, fun g hg e => ?_⟩
  · have : W.heap.size = g := by simpa [Value.ownBlock] using hg
    have := (h.N.own hm).2; omega
  · have : V.heap.size = g := by simpa [Value.ownBlock] using hg
    have := (h.N.own hm).2; omega
  · have h1 : W.heap.size = g := by simpa [Value.ownBlock] using hg
    have h2 : V.heap.size = g := by simpa [Value.ownBlock] using e
    omega
end
/-- One byte of those that lie behind a slice. -/
theorem src_at {w : World} {a : Option Addr} {n c : Nat} {bs : List Nat} (h : SrcAt w (.slice a n c) bs) (k : Nat) (hk : k < bs.length) : ∃ b o, a = some ⟨b, o, none⟩ ∧ w.cell? ⟨b, o + k, none⟩ = some (.int .u8 ((bs.getD k 0 : Nat) : Int)) := by
  obtain ⟨a', c', sb, so, he, _, h2, h1⟩ := h
  injection he with e1 _ _
  exact ⟨sb, so, by rw [e1]; exact h2 (by omega), h1 k hk⟩
/-- An event's cells out of its value. -/
theorem ev_cs {e : Ev} {o c : Int} {s : ByteArray} (h : evV e = .agg #[.int .i64 o, .int .i64 c, .string s]) : (#[.int .i64 o, .int .i64 c, .string s] : Array Value) = (ec e).toArray := by
  unfold evV at h
  injection h with h
  rw [← h]; rfl
/-- How many elements a slice has. -/
def lenS : Value → Nat
  | .slice _ n _ => n
  | _ => 0
end Go.Proofs.Ytflnmjiopeoodaa.Que
