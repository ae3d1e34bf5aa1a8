/- The document's answer: what its walk over the chunks holds to. -/
import Derived.Test.YtmiemklgekhfeaaDoorY
namespace Go.Proofs.YtmiemklgekhfeaaDoor
open Go.RowKit

/-- A row of words, made new. -/
theorem row_new {W : World} {vs : List Value} {ns : List Nat} (hl : vs.length = ns.length) (h : ∀ i, i < ns.length → ∃ u, vs[i]? = some u ∧ Bits W u (ns.getD i 0)) :
    RowAt (W.alloc (.cells vs.toArray 42)) W.heap.size ns ∧ (W.alloc (.cells vs.toArray 42)).there W.heap.size 0 ns.length := by
  have hb : Below W.heap.size W (W.alloc (.cells vs.toArray 42)) := (Below.refl _ _).alloc (Nat.le_refl _) _
  refine ⟨⟨by rw [alloc_size]; omega, fun i hi => ?_⟩, fun j hj => ?_⟩
  · obtain ⟨u, hu, hB⟩ := h i hi
    exact ⟨u, by rw [cell_of_row _ _ _ _ _ _ (alloc_new _ _ _ rfl)]; simpa using hu, hB.below hb⟩
  · rw [Nat.zero_add]
    refine ⟨?_, frozen_of_row _ _ _ _ _ (alloc_new _ _ _ rfl)⟩
    rw [cell_of_row _ _ _ _ _ _ (alloc_new _ _ _ rfl)]
    simp; omega
theorem bits5 {W : World} {x0 x1 x2 x3 x4 : Value} {n0 n1 n2 n3 n4 : Nat} (h0 : Bits W x0 n0) (h1 : Bits W x1 n1) (h2 : Bits W x2 n2) (h3 : Bits W x3 n3) (h4 : Bits W x4 n4) :
    ∀ i, i < [n0, n1, n2, n3, n4].length → ∃ u, [x0, x1, x2, x3, x4][i]? = some u ∧ Bits W u ([n0, n1, n2, n3, n4].getD i 0)
  | 0, _ => ⟨_, rfl, h0⟩
  | 1, _ => ⟨_, rfl, h1⟩
  | 2, _ => ⟨_, rfl, h2⟩
  | 3, _ => ⟨_, rfl, h3⟩
  | 4, _ => ⟨_, rfl, h4⟩
  | n + 5, h => absurd h (by simp)
theorem bits4 {W : World} {x0 x1 x2 x3 : Value} {n0 n1 n2 n3 : Nat} (h0 : Bits W x0 n0) (h1 : Bits W x1 n1) (h2 : Bits W x2 n2) (h3 : Bits W x3 n3) :
    ∀ i, i < [n0, n1, n2, n3].length → ∃ u, [x0, x1, x2, x3][i]? = some u ∧ Bits W u ([n0, n1, n2, n3].getD i 0)
  | 0, _ => ⟨_, rfl, h0⟩
  | 1, _ => ⟨_, rfl, h1⟩
  | 2, _ => ⟨_, rfl, h2⟩
  | 3, _ => ⟨_, rfl, h3⟩
  | n + 4, h => absurd h (by simp)
theorem bits1 {W : World} {x0 : Value} {n0 : Nat} (h0 : Bits W x0 n0) : ∀ i, i < [n0].length → ∃ u, [x0][i]? = some u ∧ Bits W u ([n0].getD i 0)
  | 0, _ => ⟨_, rfl, h0⟩
  | n + 1, h => absurd h (by simp)

/-- What the loop over the chunks holds to. -/
structure CH (w : World) (gb gh gk : Nat) (P hs : List Nat) (wr : World) : Prop where
  bel : Below w.heap.size w wr
  lb : gb < wr.heap.size
  rb : wr.rangeAt gb 0 (u8s P)
  rk : RowAt wr gk ks
  rh : RowAt wr gh hs
  th : wr.there gh 0 5
  nb : gb ≠ gh
  nk : gk ≠ gh
  bh : w.heap.size ≤ gh
theorem CH.below {w wr wr' : World} {gb gh gk : Nat} {P hs : List Nat} (h : CH w gb gh gk P hs wr) (hb : Below wr.heap.size wr wr') : CH w gb gh gk P hs wr' :=
  ⟨h.bel.trans (hb.mono h.bel.size), Nat.lt_of_lt_of_le h.lb hb.size, fun j u hu => by rw [hb.cell (p := ⟨gb, 0 + j, none⟩) h.lb]; exact h.rb j u hu, h.rk.below hb, h.rh.below hb,
   fun j hj => by rw [hb.cell (p := ⟨gh, 0 + j, none⟩) h.rh.1, hb.frozen (p := ⟨gh, 0 + j, none⟩) h.rh.1]; exact h.th j hj, h.nb, h.nk, h.bh⟩
theorem CH.store {w wr : World} {gb gh gk : Nat} {P hs : List Nat} (h : CH w gb gh gk P hs wr) (hl : hs.length = 5) (i : Nat) (hi : i < 5) (u : Value) (n : Nat) (hu : Bits wr u n) : CH w gb gh gk P (hs.set i n) (wr.setCell ⟨gh, i, none⟩ u) := by
  have hg := grown_setCell wr gh i u
  have ho := h.rh.odd0 (by omega)
  have e : wr.setCell ⟨gh, i, none⟩ u = wr.setCells gh i [u] := rfl
  have hin : (wr.setCell ⟨gh, i, none⟩ u).cell? ⟨gh, i, none⟩ = some u := by
    have h2 := World.cell?_setCells_in gh [u] i wr (fun j hj => by simp at hj; subst hj; simpa using (h.th i hi).1) 0 (by simp)
    simpa [e] using h2
  have hout : ∀ j, j ≠ i → (wr.setCell ⟨gh, i, none⟩ u).cell? ⟨gh, j, none⟩ = wr.cell? ⟨gh, j, none⟩ := fun j hj => by
    rw [e, World.cell?_setCells_out _ _ _ _ _ (fun _ _ => by simp only [List.length_singleton]; omega)]
  refine ⟨h.bel.setCell h.bh _, Nat.lt_of_lt_of_le h.lb hg.size, fun j x hx => ?_, h.rk.grown hg ho h.nk, ⟨Nat.lt_of_lt_of_le h.rh.1 hg.size, fun j hj => ?_⟩, fun j hj => ?_, h.nb, h.nk, h.bh⟩
  · rw [World.cell?_of_block (w := wr) (a := ⟨gb, 0 + j, none⟩) (hg.block gb h.lb (fun e => by injection e with e; exact h.nb e))]; exact h.rb j x hx
  · simp only [List.length_set] at hj
    by_cases hji : j = i
    · subst hji
      refine ⟨u, hin, ?_⟩
      have : (hs.set j n).getD j 0 = n := by simp [List.getD, hj]
      rw [this]; exact hu.grown hg ho
    · obtain ⟨x, hx, hB⟩ := h.rh.2 j hj
      refine ⟨x, by rw [hout j hji]; exact hx, ?_⟩
      have : (hs.set i n).getD j 0 = hs.getD j 0 := by simp only [List.getD]; rw [List.getElem?_set_ne (Ne.symm hji)]
      rw [this]; exact hB.grown hg ho
  · rw [Nat.zero_add]
    have h2 := h.th j hj
    rw [Nat.zero_add] at h2
    refine ⟨?_, by rw [e, World.frozen?_setCells]; exact h2.2⟩
    by_cases hji : j = i
    · subst hji; rw [hin]; rfl
    · rw [hout j hji]; exact h2.1

/-- The five parts before chunk m. -/
def hsAt (P : List Nat) (m : Nat) : List Nat := (feed st0 (P.take (64 * m))).p
def chunk (P : List Nat) (m : Nat) : List Nat := (P.drop (64 * m)).take 64
theorem chunk_length {P : List Nat} {m N : Nat} (hP : P.length = 64 * N) (hm : m < N) : (chunk P m).length = 64 := by simp [chunk]; omega
theorem chunk_small {P : List Nat} (h : Small 256 P) (m : Nat) : Small 256 (chunk P m) := Small.of_mem (by decide) (fun x hx => h.mem x (List.mem_of_mem_drop (List.mem_of_mem_take hx)))
theorem chunk_get {P : List Nat} {m i : Nat} (hi : i < 64) : (chunk P m).getD i 0 = P.getD (64 * m + i) 0 := by
  simp only [chunk, List.getD]
  rw [List.getElem?_take, if_pos hi, List.getElem?_drop]
theorem hsAt_zero (P : List Nat) : hsAt P 0 = start := rfl
theorem okAt {P : List Nat} (h : Small 256 P) (m : Nat) : OkSt (feed st0 (P.take (64 * m))) := okSt0.feed (fun x hx => h.mem x (List.mem_of_mem_take hx))
theorem hsAt_next {P : List Nat} {m N : Nat} (h : Small 256 P) (hP : P.length = 64 * N) (hm : m < N) : hsAt P (m + 1) = mix (hsAt P m) (chunk P m) := by
  unfold hsAt
  have e : P.take (64 * (m + 1)) = P.take (64 * m) ++ chunk P m := by rw [show 64 * (m + 1) = 64 * m + 64 by omega, List.take_add]; rfl
  have ok := okAt h m
  have hL : (feed st0 (P.take (64 * m))).L = 64 * m := by rw [feed_L]; show 0 + _ = _; simp; omega
  have hc := chunk_length hP hm
  rw [e, feed_append]
  generalize feed st0 (P.take (64 * m)) = s at *
  obtain ⟨p, blk, L⟩ := s
  have hL' : L % 64 = 0 := by simp only at hL; omega
  rw [feed_chunk p (chunk P m) blk L ok.bl (by intro e; rw [e] at hc; simp at hc) (by omega), hL', hc]
  simp only [Nat.zero_add, if_true]
  congr 1
  have hb : blk.length = 64 := ok.bl
  unfold splice
  rw [List.take_zero, List.drop_of_length_le (by omega)]
  simp
theorem hsAt_all {bs : List Nat} {N : Nat} (hP : (bs ++ endOf bs.length).length = 64 * N) : hsAt (bs ++ endOf bs.length) N = (feed (feed st0 bs) (endOf (feed st0 bs).L)).p := by
  unfold hsAt
  rw [List.take_of_length_le (by omega), feed_append, feed_L]
  simp [st0]
theorem word0_plain {bl : List Nat} (h : Small 256 bl) (t : Nat) : word0 bl t = bl.getD (4 * t) 0 * 16777216 + bl.getD (4 * t + 1) 0 * 65536 + bl.getD (4 * t + 2) 0 * 256 + bl.getD (4 * t + 3) 0 := by
  have h0 := h (4 * t)
  have h1 := h (4 * t + 1)
  have h2 := h (4 * t + 2)
  have h3 := h (4 * t + 3)
  unfold word0
  generalize bl.getD (4 * t) 0 = a at *
  generalize bl.getD (4 * t + 1) 0 = b at *
  generalize bl.getD (4 * t + 2) 0 = c at *
  generalize bl.getD (4 * t + 3) 0 = d at *
  rw [Nat.mod_eq_of_lt (by omega), Nat.mod_eq_of_lt (by omega), Nat.mod_eq_of_lt (by omega)]
  rw [show a * 2 ^ 24 = 2 ^ 24 * a by omega, ← Nat.two_pow_add_eq_or_of_lt (i := 24) (b := b * 2 ^ 16) (by omega) a,
    show 2 ^ 24 * a + b * 2 ^ 16 = 2 ^ 16 * (2 ^ 8 * a + b) by omega, ← Nat.two_pow_add_eq_or_of_lt (i := 16) (b := c * 2 ^ 8) (by omega),
    show 2 ^ 16 * (2 ^ 8 * a + b) + c * 2 ^ 8 = 2 ^ 8 * (2 ^ 8 * (2 ^ 8 * a + b) + c) by omega, ← Nat.two_pow_add_eq_or_of_lt (i := 8) (b := d) (by omega)]
theorem slice26_lh (g o n len c : Nat) (h : o + n ≤ c) (w : World) (L H : Int) (hL : L = (o : Int)) (hH : H = ((o + n : Nat) : Int)) (hc : 0 < c - o) :
    (Instr.slice 26 (.slice (some ⟨g, 0, none⟩) len c) (some (.int .i64 L)) (some (.int .i64 H)) none).run Tryd.prog w = .ok (.slice (some ⟨g, o, none⟩) n (c - o)) w := by
  subst hL hH
  have hz : (sizeOf (Tryd.prog.elem 26)).run Tryd.prog w = .ok 1 w := by kernel_rfl
  rw [run_slice_lh w 26 (some ⟨g, 0, none⟩) len c (by kernel_rfl) .i64 .i64 (o : Int) ((o + n : Nat) : Int) (by omega) (by omega) (by omega), hz]
  simp only [Result.andThen, sliced, Int.toNat_natCast, Nat.mul_one]
  rw [if_neg (by omega)]
  simp [Addr.add_mid]
end Go.Proofs.YtmiemklgekhfeaaDoor
