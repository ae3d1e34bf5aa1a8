/- queue: acts out of the data that comes in. -/
import Derived.Test.YtflnmjiopeoodaaEvA
set_option maxRecDepth 100000
namespace Go.Proofs.Ytflnmjiopeoodaa.Que
open Go.RowKit Go.WideShapes Go.ChangeShapes Evt
open MsgPlain (Ev)

structure AAct where
  kind : Int
  n : Int
  e : Ev
def Act0 : AAct := ⟨0, 0, Ev0⟩
/-- An act's cells. -/
def ac (a : AAct) : List Value := [.int .i64 a.kind, .int .i64 a.n, .int .i64 a.e.op, .int .i64 a.e.code, .string (strOf a.e.data)]
theorem ac_some (a : AAct) (j : Nat) (hj : j < 5) : ∃ u, (ac a)[j]? = some u := ⟨_, List.getElem?_eq_getElem (by simpa [ac] using hj)⟩
/-- The acts are the elements of the slice v. -/
def ActsAt (W : World) (v : Value) (als : List AAct) : Prop :=
  ∃ (a : Option Addr) (cap sb so : Nat), v = .slice a als.length cap ∧ als.length ≤ cap ∧ (0 < als.length → a = some ⟨sb, so, none⟩) ∧ ∀ i, i < als.length → ∀ j, j < 5 → W.cell? ⟨sb, so + i * 5 + j, none⟩ = (ac (als.getD i Act0))[j]?
theorem ActsAt.below {w w' : World} {v : Value} {als : List AAct} (h : ActsAt w v als) (hb : Below w.heap.size w w') : ActsAt w' v als := by
  obtain ⟨a, cap, sb, so, h1, hc, h3, h4⟩ := h
  refine ⟨a, cap, sb, so, h1, hc, h3, fun i hi j hj => ?_⟩
  have g := h4 i hi j hj
  obtain ⟨u, hu⟩ := ac_some (als.getD i Act0) j hj
  rw [hu] at g ⊢
  have k0 := block_lt_of_cell g
  rw [hb.cell (p := ⟨sb, so + i * 5 + j, none⟩) k0]; exact g
theorem ActsAt.slice {W : World} {v : Value} {als : List AAct} (h : ActsAt W v als) : ∃ a c, v = .slice a als.length c := by
  obtain ⟨a, c, _, _, rfl, _⟩ := h; exact ⟨a, c, rfl⟩
theorem ActsAt.cap {W : World} {a : Option Addr} {n cap : Nat} {als : List AAct} (h : ActsAt W (.slice a n cap) als) : n = als.length ∧ n ≤ cap ∧ (0 < n → ∃ sb so, a = some ⟨sb, so, none⟩) := by
  obtain ⟨a', cap', sb', so', he, hc, h3, _⟩ := h
  injection he with e1 e2 e3
  refine ⟨e2, by omega, fun hp => ⟨sb', so', ?_⟩⟩
  rw [e1]; exact h3 (by omega)
theorem ActsAt.at5 {W : World} {sb so n cap : Nat} {als : List AAct} (h : ActsAt W (.slice (some ⟨sb, so, none⟩) n cap) als) (i : Nat) (hi : i < als.length) {k m o c : Int} {s : ByteArray} (he : als.getD i Act0 = ⟨k, m, ⟨o, c, bytes s⟩⟩) :
    W.cell? ⟨sb, so + i * 5, none⟩ = some (.int .i64 k) ∧ W.cell? ⟨sb, so + i * 5 + 1, none⟩ = some (.int .i64 m) ∧ W.cell? ⟨sb, so + i * 5 + 2, none⟩ = some (.int .i64 o) ∧ W.cell? ⟨sb, so + i * 5 + 3, none⟩ = some (.int .i64 c) ∧ W.cell? ⟨sb, so + i * 5 + 4, none⟩ = some (.string s) := by
  obtain ⟨a, cap', sb', so', hs, _, h3, h4⟩ := h
  injection hs with e1 e2 e3
  rw [h3 (by omega)] at e1
  injection e1 with e1
  injection e1 with e4 e5
  subst e4 e5
  have g := h4 i hi
  rw [he] at g
  have g4 := g 4 (by decide)
  simp only [ac, strOf_bytes] at g4
  exact ⟨g 0 (by decide), g 1 (by decide), g 2 (by decide), g 3 (by decide), g4⟩
structure ActOk (a : AAct) : Prop where
  kind : -9223372036854775808 ≤ a.kind ∧ a.kind ≤ 9223372036854775807
  n : -9223372036854775808 ≤ a.n ∧ a.n ≤ 9223372036854775807
  e : EvOk a.e
theorem act_parts {als : List AAct} (hk : ∀ a ∈ als, ActOk a) (i : Nat) (hi : i < als.length) : ∃ k m o c s, als.getD i Act0 = ⟨k, m, ⟨o, c, bytes s⟩⟩ ∧ (-9223372036854775808 ≤ m ∧ m ≤ 9223372036854775807) := by
  have hm : als.getD i Act0 ∈ als := by rw [List.getD_eq_getElem?_getD, List.getElem?_eq_getElem hi]; exact List.getElem_mem _
  refine ⟨(als.getD i Act0).kind, (als.getD i Act0).n, (als.getD i Act0).e.op, (als.getD i Act0).e.code, strOf (als.getD i Act0).e.data, ?_, (hk _ hm).n⟩
  rw [bytes_strOf _ (hk _ hm).e.ds]
theorem list5 {α : Type} {l : List α} (h : l.length = 5) : ∃ a b c d e, l = [a, b, c, d, e] :=
  match l, h with
  | [a, b, c, d, e], _ => ⟨a, b, c, d, e, rfl⟩
theorem ac_of_trod {H : Type} {enc : TypeId × Value → H} {W : World} {base fuel : Nat} {sp : Nat → Bool} {held : Bool} {cs : List Value} {x : DataW H × List MemPlace}
    (hf : DataW.trod enc Try.prog W base sp held fuel 34 cs = some x) : ∃ a, cs = ac a ∧ ActOk a := by
  obtain ⟨xs, n, _, hx, hl, hxl, hf⟩ := DataW.trod_struct Try.underlying34 hf
  have c3 : Try.prog.cellsOf 3 = 1 := by kernel_rfl
  have ce : Try.prog.cellsOf 32 = 3 := by kernel_rfl
  have cf : Try.prog.cellsOf 34 = 5 := by kernel_rfl
  rw [cf] at hl
  match xs, hxl with
  | [y0, y1, y2], _ =>
    have h0 : DataW.trod enc Try.prog W base sp held n 3 ((cs.drop 0).take (Try.prog.cellsOf 3)) = some y0 := hf 0 _ rfl
    have h1 : DataW.trod enc Try.prog W base sp held n 3 ((cs.drop 1).take (Try.prog.cellsOf 3)) = some y1 := hf 1 _ rfl
    have h2 : DataW.trod enc Try.prog W base sp held n 32 ((cs.drop 2).take (Try.prog.cellsOf 32)) = some y2 := hf 2 _ rfl
    obtain ⟨a0, a1, a2, a3, a4, hcs⟩ := list5 hl
    rw [hcs] at h0 h1 h2
    rw [c3] at h0 h1
    rw [ce] at h2
    simp only [List.drop_zero, List.drop_succ_cons, List.take_succ_cons, List.take_zero] at h0 h1 h2
    obtain ⟨f0, g0, _, w0⟩ := DataW.trod_int Try.underlying3 h0
    obtain ⟨f1, g1, _, w1⟩ := DataW.trod_int Try.underlying3 h1
    obtain ⟨e, he, hok⟩ := ec_of_trod h2
    simp only [List.cons.injEq, and_true] at g0 g1
    subst g0 g1
    refine ⟨⟨f0, f1, e⟩, ?_, bounds_i64 w0, bounds_i64 w1, hok⟩
    rw [hcs]
    unfold ac
    rw [show [a2, a3, a4] = [Value.int .i64 e.op, .int .i64 e.code, .string (strOf e.data)] from he]
theorem actsAt_of_trod {H : Type} {enc : TypeId × Value → H} {W : World} {ad : Option Addr} {len cap : Nat} {d : DataW H} {p : List MemPlace} (h : DataW.Trod enc Try.prog W 0 (fun _ => true) true 22 (.slice ad len cap) d p) :
    ∃ l, ActsAt W (.slice ad len cap) l ∧ (∀ a ∈ l, ActOk a) ∧ l.length ≤ maxLen := by
  obtain ⟨fuel, hf⟩ := h
  have cf : Try.prog.cellsOf 34 = 5 := by kernel_rfl
  rcases DataW.trod_slice Try.underlying22 hf with ⟨hcs, _⟩ | ⟨a, len', cap', el, rest, n, _, hcs, _, hb, hl, hm, hz, hcell, _⟩
  · simp [Value.cells] at hcs
    obtain ⟨rfl, rfl, rfl⟩ := hcs
    exact ⟨[], ⟨none, 0, 0, 0, rfl, by simp, fun h => by simp at h, fun i hi => by simp at hi⟩, fun f hf => by simp at hf, by simp⟩
  · simp [Value.cells] at hcs
    obtain ⟨rfl, rfl, rfl⟩ := hcs
    rw [cf] at hcell
    have hsome : ∀ i, i < len → ∃ x, el[i]? = some x := fun i hi => ⟨el[i]'(by omega), List.getElem?_eq_getElem (by omega)⟩
    by_cases h0 : len = 0
    · subst h0
      exact ⟨[], ⟨some a, cap, 0, 0, rfl, by simp, fun h => by simp at h, fun i hi => by simp at hi⟩, fun f hf => by simp at hf, by simp⟩
    · have hspot : a.spot = none := by
        obtain ⟨x, hx⟩ := hsome 0 (by omega)
        have hc := hcell 0 (by omega)
        rw [hx, Option.bind_eq_some_iff] at hc
        obtain ⟨cs, hcs, _⟩ := hc
        obtain ⟨_, hlen, hce⟩ := World.cells?_some hcs
        have := hce 0 (by omega)
        rw [List.getElem?_eq_getElem (by omega)] at this
        simpa [Addr.add] using World.cell?_spot this
      obtain ⟨b, off, spot⟩ := a
      simp only at hspot
      subst hspot
      obtain ⟨l, hll, hp⟩ := list_of Act0 len (fun i e => ActOk e ∧ ∀ j, j < 5 → W.cell? ⟨b, off + i * 5 + j, none⟩ = (ac e)[j]?) (fun i hi => by
        obtain ⟨x, hx⟩ := hsome i hi
        have hc := hcell i hi
        rw [hx, Addr.add_mid, Option.bind_eq_some_iff] at hc
        obtain ⟨cs, hcs, hd⟩ := hc
        obtain ⟨_, hlen, hce⟩ := World.cells?_some hcs
        obtain ⟨e, he, hok⟩ := ac_of_trod hd
        subst he
        refine ⟨e, hok, fun j hj => ?_⟩
        have := hce j hj
        rw [Addr.add_mid] at this
        exact this)
      refine ⟨l, ⟨some ⟨b, off, none⟩, cap, b, off, by rw [hll], by rw [hll]; omega, fun _ => rfl, fun i hi => (hp i (by omega)).2⟩, fun e he => ?_, by rw [hll]; omega⟩
      obtain ⟨i, hi, rfl⟩ := List.getElem_of_mem he
      have := (hp i (by omega)).1
      rwa [List.getD_eq_getElem?_getD, List.getElem?_eq_getElem hi] at this
end Go.Proofs.Ytflnmjiopeoodaa.Que
