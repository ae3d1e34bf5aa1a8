/- The state of a sum as plain data: what bytes that are added make of it; how it lies in memory. -/
import Derived.Test.YtmiemklgekhfeaaDoorD
namespace Go.Proofs.YtmiemklgekhfeaaDoor
open Go.RowKit

structure St where
  p : List Nat
  blk : List Nat
  L : Nat
/-- One byte more. -/
def feed1 (s : St) (x : Nat) : St :=
  if s.L % 64 = 63 then ⟨mix s.p (s.blk.set (s.L % 64) x), s.blk.set (s.L % 64) x, s.L + 1⟩ else ⟨s.p, s.blk.set (s.L % 64) x, s.L + 1⟩
/-- Bytes more. -/
def feed (s : St) (l : List Nat) : St := l.foldl feed1 s
theorem feed_append (s : St) (a b : List Nat) : feed s (a ++ b) = feed (feed s a) b := by simp [feed]
theorem feed_nil (s : St) : feed s [] = s := rfl
theorem feed_L (s : St) (l : List Nat) : (feed s l).L = s.L + l.length := by
  induction l generalizing s with
  | nil => rfl
  | cons x l ih =>
    have h1 : (feed1 s x).L = s.L + 1 := by unfold feed1; split <;> rfl
    rw [show feed s (x :: l) = feed (feed1 s x) l from rfl, ih, h1]
    simp; omega
/-- A sum of no bytes. -/
def st0 : St := ⟨start, zs 64, 0⟩
structure OkSt (s : St) : Prop where
  pl : s.p.length = 5
  ps : Small 4294967296 s.p
  bl : s.blk.length = 64
  bs : Small 256 s.blk
theorem OkSt.feed1 {s : St} (h : OkSt s) {x : Nat} (hx : x < 256) : OkSt (feed1 s x) := by
  have hb := h.bs.set (s.L % 64) x (by decide) hx
  unfold YtmiemklgekhfeaaDoor.feed1
  split
  · exact ⟨mix_length _ _, mix_small _ _, by simpa using h.bl, hb⟩
  · exact ⟨h.pl, h.ps, by simpa using h.bl, hb⟩
theorem OkSt.feed {s : St} (h : OkSt s) {l : List Nat} (hl : ∀ x ∈ l, x < 256) : OkSt (feed s l) := by
  induction l generalizing s with
  | nil => exact h
  | cons x l ih => exact ih (h.feed1 (hl x (by simp))) (fun y hy => hl y (by simp [hy]))
theorem okSt0 : OkSt st0 :=
  ⟨rfl, Small.of_mem (by decide) (by decide), zs_length 64, Small.of_mem (by decide) (fun x hx => by simp [zs, st0] at hx; omega)⟩

theorem feed_chunk (p : List Nat) (c : List Nat) : ∀ (blk : List Nat) (L : Nat), blk.length = 64 → c ≠ [] → L % 64 + c.length ≤ 64 →
    feed ⟨p, blk, L⟩ c = ⟨if L % 64 + c.length = 64 then mix p (splice blk (L % 64) c) else p, splice blk (L % 64) c, L + c.length⟩ := by
  induction c with
  | nil => intro _ _ _ h; exact absurd rfl h
  | cons x c ih =>
    intro blk L hb _ hl
    have hlt : L % 64 < 64 := Nat.mod_lt _ (by decide)
    cases hc : c with
    | nil =>
      subst hc
      have hsp : blk.set (L % 64) x = splice blk (L % 64) [x] := by
        unfold splice
        have e := List.take_append_drop (L % 64 + 1) (blk.set (L % 64) x)
        rw [take_set_succ _ _ _ (by omega), List.drop_set_of_lt (by omega)] at e
        rw [← e]; simp
      show feed1 _ x = _
      unfold feed1
      simp only [hsp, List.length_singleton]
      by_cases h : L % 64 = 63
      · rw [if_pos h, if_pos (by omega)]
      · rw [if_neg h, if_neg (by omega)]
    | cons y c' =>
      rw [← hc]
      have hne : c ≠ [] := by rw [hc]; simp
      have hpos : 0 < c.length := List.length_pos_iff.2 hne
      simp only [List.length_cons] at hl
      have h1 : feed1 ⟨p, blk, L⟩ x = ⟨p, blk.set (L % 64) x, L + 1⟩ := by unfold feed1; rw [if_neg (by simp only; omega)]
      have hm : (L + 1) % 64 = L % 64 + 1 := by omega
      rw [show feed ⟨p, blk, L⟩ (x :: c) = feed (feed1 ⟨p, blk, L⟩ x) c from rfl, h1, ih _ _ (by simpa using hb) hne (by omega), hm]
      have hsp : splice (blk.set (L % 64) x) (L % 64 + 1) c = splice blk (L % 64) (x :: c) := by
        unfold splice
        rw [take_set_succ _ _ _ (by omega), List.drop_set_of_lt (by omega)]
        simp only [List.append_assoc, List.length_cons, List.cons_append, List.nil_append]
        rw [show L % 64 + 1 + c.length = L % 64 + (c.length + 1) by omega]
      rw [hsp]
      simp only [List.length_cons]
      rw [show L % 64 + 1 + c.length = L % 64 + (c.length + 1) by omega, show L + 1 + c.length = L + (c.length + 1) by omega]

/-- How a sum lies in memory. -/
def sumCells (s : St) : List Value := u32s s.p ++ (u8s s.blk ++ [.int .u64 (s.L : Int)])
def SumAt (w : World) (b : Nat) (s : St) : Prop := w.heap[b]? = some (.cells (sumCells s).toArray 53 (0, 0))
theorem sumCells_length {s : St} (h : OkSt s) : (sumCells s).length = 70 := by simp [sumCells, h.pl, h.bl]
theorem sumCells_splice {s : St} (h : OkSt s) (used : Nat) (c : List Nat) (hu : used + c.length ≤ 64) :
    (sumCells s).take (5 + used) ++ (u8s c ++ (sumCells s).drop (5 + used + (u8s c).length)) = sumCells ⟨s.p, splice s.blk used c, s.L⟩ := by
  have h5 : (u32s s.p).length = 5 := by simp [h.pl]
  have h64 : (u8s s.blk).length = 64 := by simp [h.bl]
  unfold sumCells splice
  simp only [u8s_length]
  rw [List.take_append, List.take_of_length_le (by omega), List.drop_append, List.drop_of_length_le (by omega), h5, show 5 + used - 5 = used by omega, show 5 + used + c.length - 5 = used + c.length by omega,
    List.take_append_of_le_length (by omega), List.drop_append_of_le_length (by omega)]
  simp [u8s]
theorem sumAt_len {w : World} {b : Nat} {s : St} (h : SumAt w b s) (ok : OkSt s) : w.cell? ⟨b, 69, none⟩ = some (.int .u64 (s.L : Int)) := by
  refine row_cell h 69 _ ?_
  have h5 : (u32s s.p).length = 5 := by simp [ok.pl]
  have h64 : (u8s s.blk).length = 64 := by simp [ok.bl]
  unfold sumCells
  rw [List.getElem?_append_right (by omega), List.getElem?_append_right (by omega), h5, h64]
  rfl
theorem sumAt_setLen {w : World} {b : Nat} {s : St} (h : SumAt w b s) (ok : OkSt s) (n : Nat) : SumAt (w.setCell ⟨b, 69, none⟩ (.int .u64 (n : Int))) b ⟨s.p, s.blk, n⟩ := by
  unfold SumAt
  rw [heap_setCell_same _ _ _ _ _ _ h]
  have h5 : (u32s s.p).length = 5 := by simp [ok.pl]
  have h64 : (u8s s.blk).length = 64 := by simp [ok.bl]
  have e : (sumCells s).toArray.setIfInBounds 69 (.int .u64 (n : Int)) = (sumCells ⟨s.p, s.blk, n⟩).toArray := by
    simp only [List.setIfInBounds_toArray]
    unfold sumCells
    rw [List.set_append_right _ _ (by omega), List.set_append_right _ _ (by omega), h5, h64]
    rfl
  rw [e]
theorem sumAt_parts {w : World} {b : Nat} {s : St} (h : SumAt w b s) : w.rangeAt b 0 (u32s s.p) := fun j v hv => by
  have hj : j < (u32s s.p).length := (List.getElem?_eq_some_iff.1 hv).1
  rw [Nat.zero_add]
  exact row_cell h j _ (by unfold sumCells; rw [List.getElem?_append_left hj]; exact hv)
theorem sumAt_block {w : World} {b : Nat} {s : St} (h : SumAt w b s) (ok : OkSt s) : w.rangeAt b 5 (u8s s.blk) := fun j v hv => by
  have hj : j < (u8s s.blk).length := (List.getElem?_eq_some_iff.1 hv).1
  have h5 : (u32s s.p).length = 5 := by simp [ok.pl]
  exact row_cell h (5 + j) _ (by unfold sumCells; rw [List.getElem?_append_right (by omega), h5, show 5 + j - 5 = j by omega, List.getElem?_append_left hj]; exact hv)

theorem grown_refl (w : World) (r : Option Nat) : w.grownBy w r := ⟨rfl, rfl, rfl, Nat.le_refl _, fun _ _ _ => rfl⟩
theorem grown_trans {a b c : World} {r : Option Nat} (h : a.grownBy b r) (k : b.grownBy c r) : a.grownBy c r :=
  ⟨k.os.trans h.os, k.tape.trans h.tape, k.output.trans h.output, Nat.le_trans h.size k.size, fun i hi hr => (k.block i (Nat.lt_of_lt_of_le hi h.size) hr).trans (h.block i hi hr)⟩
theorem grown_setCell (w : World) (b i : Nat) (v : Value) : w.grownBy (w.setCell ⟨b, i, none⟩ v) (some b) :=
  ⟨rfl, rfl, rfl, by simp [World.setCell], fun k _ hr => heap_setCell_other _ _ _ _ (fun e => hr (by rw [e]))⟩
theorem grown_setRow (w : World) (b : Nat) (cs : Array Value) : w.grownBy (w.setRow b cs) (some b) :=
  ⟨rfl, rfl, rfl, by simp, fun k _ hr => setRow_other _ _ _ _ (fun e => hr (by rw [e]))⟩
theorem grown_below {w w' : World} (h : Below w.heap.size w w') (r : Option Nat) : w.grownBy w' r := ⟨h.os, h.tape, h.output, h.size, fun k hk _ => h.block k hk⟩
theorem grown_drew {w w' : World} {r : Option Nat} (h : w.grownBy w' r) : w.grownBy w'.drew r := ⟨h.os, h.tape, h.output, h.size, h.block⟩
theorem splice_cons {α : Type} (l : List α) (o : Nat) (v : α) (r : List α) (h : o < l.length) : splice (l.set o v) (o + 1) r = splice l o (v :: r) := by
  unfold splice
  have e : (l.set o v).take (o + 1) = l.take o ++ [v] := by
    rw [List.take_succ_eq_append_getElem (by simpa using h), List.take_set, List.set_eq_of_length_le (by simp; omega)]
    simp
  rw [e, List.drop_set_of_lt (by omega)]
  simp only [List.append_assoc, List.length_cons, List.cons_append, List.nil_append]
  rw [show o + 1 + r.length = o + (r.length + 1) by omega]
theorem setCells_heap (b : Nat) : ∀ (vs : List Value) (o : Nat) (w : World) (l : List Value) (t : TypeId), w.heap[b]? = some (.cells l.toArray t (0, 0)) → o + vs.length ≤ l.length →
    (w.setCells b o vs).heap[b]? = some (.cells (splice l o vs).toArray t (0, 0))
  | [], o, w, l, t, h, _ => by simpa [World.setCells, splice] using h
  | v :: r, o, w, l, t, h, hl => by
    simp only [List.length_cons] at hl
    rw [World.setCells, setCells_heap b r (o + 1) _ (l.set o v) t (by rw [heap_setCell_same _ _ _ _ _ _ h]; simp) (by simp; omega), splice_cons _ _ _ _ (by omega)]
theorem grown_setCells (b : Nat) : ∀ (vs : List Value) (o : Nat) (w : World), w.grownBy (w.setCells b o vs) (some b)
  | [], _, w => grown_refl w _
  | v :: r, o, w => by rw [World.setCells]; exact grown_trans (grown_setCell w b o v) (grown_setCells b r (o + 1) _)
theorem sumAt_setParts {w : World} {b : Nat} {s : St} (h : SumAt w b s) (ok : OkSt s) (p : List Nat) (hp : p.length = 5) : SumAt (w.setCells b 0 (u32s p)) b ⟨p, s.blk, s.L⟩ := by
  unfold SumAt
  rw [setCells_heap b _ 0 w _ _ h (by simp [sumCells_length ok, hp])]
  have e : splice (sumCells s) 0 (u32s p) = sumCells ⟨p, s.blk, s.L⟩ := by
    have h5 : (u32s s.p).length = 5 := by simp [ok.pl]
    unfold splice sumCells
    rw [List.take_zero, List.nil_append, Nat.zero_add, u32s_length, hp, List.drop_append_of_le_length (by omega), List.drop_of_length_le (by omega), List.nil_append]
  rw [e]
theorem sumAt_below {w w' : World} {b : Nat} {s : St} (h : SumAt w b s) (hb : Below w.heap.size w w') : SumAt w' b s := by
  have hlt : b < w.heap.size := (Array.getElem?_eq_some_iff.1 h).1
  unfold SumAt
  rw [hb.block b hlt]; exact h
theorem sumAt_there {w : World} {b : Nat} {s : St} (h : SumAt w b s) (ok : OkSt s) (n : Nat) (hn : n ≤ 70) : w.there b 0 n := fun j hj => by
  have hl := sumCells_length ok
  rw [Nat.zero_add]
  refine ⟨?_, frozen_of_row _ _ _ _ _ h⟩
  rw [cell_of_row _ _ _ _ _ _ h]
  simp; omega
theorem feed_more (s : St) (bs p' blk' : List Nat) (m r L' u c : Nat) (hm : bs.length = m + r) (hst : feed s (bs.take m) = ⟨p', blk', L'⟩) (hb : blk'.length = 64) (hu : u = L' % 64) (hc : c = min r (64 - u)) (hpos : 0 < r) :
    feed s (bs.take (m + c)) = ⟨if u + c = 64 then mix p' (splice blk' u ((bs.drop m).take c)) else p', splice blk' u ((bs.drop m).take c), L' + c⟩ := by
  have hlen : ((bs.drop m).take c).length = c := by simp; omega
  rw [List.take_add, feed_append, hst, feed_chunk p' _ blk' L' hb (by intro e; rw [e] at hlen; simp at hlen; omega) (by rw [hlen]; omega), hlen, ← hu]
theorem Globs.grown {w w' : World} {b : Nat} (h : Globs w) (hg : w.grownBy w' (some b)) (hb : 2 ≤ b) : Globs w' := by
  have hz := h.size
  exact h.below (B := 2) ⟨hg.os, hg.tape, hg.output, hg.size, fun k hk => hg.block k (by omega) (fun e => by injection e with e; omega)⟩ (Nat.le_refl _)
end Go.Proofs.YtmiemklgekhfeaaDoor
