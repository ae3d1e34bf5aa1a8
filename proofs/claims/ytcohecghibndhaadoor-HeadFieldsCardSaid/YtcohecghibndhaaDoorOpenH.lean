/- Heads and fields out of the data that comes in. -/
import Derived.Test.YtcohecghibndhaaDoorO
import Derived.SliceStrings
import Derived.ProofKit
import Derived.Deep.Strs
import Derived.ChangeArms
import Derived.OpenShut
import Derived.Laws.IdiomArrays
namespace Go.Proofs.YtcohecghibndhaaDoor
open Go.RowKit Go.WideShapes Go.ChangeShapes HeadPlain

theorem list_of {α : Type} (d : α) (n : Nat) (p : Nat → α → Prop) (h : ∀ i, i < n → ∃ x, p i x) : ∃ l : List α, l.length = n ∧ ∀ i, i < n → p i (l.getD i d) := by
  induction n with
  | zero => exact ⟨[], rfl, fun i hi => absurd hi (Nat.not_lt_zero _)⟩
  | succ n ih =>
    obtain ⟨l, hl, hp⟩ := ih (fun i hi => h i (by omega))
    obtain ⟨x, hx⟩ := h n (by omega)
    refine ⟨l ++ [x], by simp [hl], fun i hi => ?_⟩
    by_cases hin : i < n
    · have e : (l ++ [x]).getD i d = l.getD i d := by
        simp only [List.getD_eq_getElem?_getD]; rw [List.getElem?_append_left (by omega)]
      rw [e]; exact hp i hin
    · obtain rfl : i = n := by omega
      have e : (l ++ [x]).getD i d = x := by
        simp only [List.getD_eq_getElem?_getD]; rw [List.getElem?_append_right (by omega)]; simp [hl]
      rw [e]; exact hx
theorem two_of_trod {H : Type} {enc : TypeId × Value → H} {W : World} {base fuel : Nat} {sp : Nat → Bool} {held : Bool} {cs : List Value} {x : DataW H × List MemPlace}
    (h : DataW.trod enc Tryd.prog W base sp held fuel 48 cs = some x) : ∃ a b : ByteArray, cs = [.string a, .string b] ∧ a.size ≤ maxLen ∧ b.size ≤ maxLen := by
  obtain ⟨xs, n, _, hx, hl, hxl, hf⟩ := DataW.trod_struct Tryd.underlying48 h
  have c9 : Tryd.prog.cellsOf 9 = 1 := by kernel_rfl
  have c48 : Tryd.prog.cellsOf 48 = 2 := by kernel_rfl
  rw [c48] at hl
  match xs, hxl with
  | [y0, y1], _ =>
    have h0 := hf 0 _ rfl
    have h1 := hf 1 _ rfl
    simp only [List.getElem?_cons_zero, List.getElem?_cons_succ] at h0 h1
    obtain ⟨z0, g0, e0, w0⟩ := DataW.trod_string Tryd.underlying9 h0
    obtain ⟨z1, g1, e1, w1⟩ := DataW.trod_string Tryd.underlying9 h1
    match cs, hl with
    | [a0, a1], _ =>
      simp [c9] at g0 g1
      subst g0 g1
      exact ⟨z0, z1, rfl, w0, w1⟩
theorem fAt_of_trod {H : Type} {enc : TypeId × Value → H} {W : World} {base fuel : Nat} {sp : Nat → Bool} {held : Bool} {ad : Addr} {x : DataW H × List MemPlace} (hs : ad.spot = none)
    (h : (W.cells? base ad 2).bind (DataW.trod enc Tryd.prog W base sp held fuel 48) = some x) : ∃ y : FV, FAt W ad.block ad.off y := by
  obtain ⟨b, o, spot⟩ := ad
  subst hs
  rw [Option.bind_eq_some_iff] at h
  obtain ⟨cs, hc, h⟩ := h
  obtain ⟨_, hlen, hcell⟩ := World.cells?_some hc
  obtain ⟨s, t, rfl, hs, ht⟩ := two_of_trod h
  have k0 := hcell 0 (by omega)
  have k1 := hcell 1 (by omega)
  rw [Addr.add_mid] at k0 k1
  exact ⟨(s, t), k0, k1, hs, ht⟩
theorem fields_of_trod {H : Type} {enc : TypeId × Value → H} {W : World} {fuel : Nat} {cs : List Value} {x : DataW H × List MemPlace} (h : DataW.trod enc Tryd.prog W 0 (fun _ => true) true fuel 23 cs = some x) :
    ∃ v l, cs = [v] ∧ FieldsAt W v l := by
  have c48 : Tryd.prog.cellsOf 48 = 2 := by kernel_rfl
  rcases DataW.trod_slice Tryd.underlying23 h with ⟨rfl, _⟩ | ⟨a, len, cap, el, rest, n, _, rfl, _, hb, hl, hm, hz, hcell, _⟩
  · exact ⟨_, [], rfl, none, 0, 0, 0, rfl, Nat.le_refl _, Nat.zero_le _, fun h => absurd h (Nat.lt_irrefl _), fun i hi => absurd hi (Nat.not_lt_zero _)⟩
  · rw [c48] at hcell
    have hsome : ∀ i, i < len → ∃ x, el[i]? = some x := fun i hi => ⟨el[i]'(by omega), List.getElem?_eq_getElem (by omega)⟩
    by_cases h0 : len = 0
    · subst h0
      exact ⟨_, [], rfl, some a, cap, 0, 0, rfl, Nat.zero_le _, Nat.zero_le _, fun h => absurd h (Nat.lt_irrefl _), fun i hi => absurd hi (Nat.not_lt_zero _)⟩
    · have hspot : a.spot = none := by
        obtain ⟨x, hx⟩ := hsome 0 (by omega)
        have hc := hcell 0 (by omega)
        rw [hx, Option.bind_eq_some_iff] at hc
        obtain ⟨cs, hcs, _⟩ := hc
        obtain ⟨_, hlen, hce⟩ := World.cells?_some hcs
        have := hce 0 (by omega)
        rw [List.getElem?_eq_getElem (by omega)] at this
        simpa [Addr.add] using World.cell?_spot this
      obtain ⟨b, off, spot⟩ := a
      simp only at hspot
      subst hspot
      obtain ⟨l, hll, hp⟩ := list_of f0 len (fun i x => FAt W b (off + i * 2) x) (fun i hi => by
        obtain ⟨x, hx⟩ := hsome i hi
        have hc := hcell i hi
        rw [hx, Addr.add_mid] at hc
        exact fAt_of_trod rfl hc)
      exact ⟨_, l, rfl, some ⟨b, off, none⟩, cap, b, off, by rw [hll], by omega, by rw [hll]; omega, fun _ => rfl, fun i hi => hp i (by omega)⟩
theorem agg_of_cells {v : Value} {l : List Value} (h : v.cells.toList = l) (hl : l.length ≠ 1) : v = .agg l.toArray := by
  subst h
  cases v with
  | agg cs => simp [Value.cells]
  | _ => exact absurd rfl hl
theorem list4 {α : Type} {l : List α} (h : l.length = 4) : ∃ a b c d, l = [a, b, c, d] :=
  match l, h with
  | [a, b, c, d], _ => ⟨a, b, c, d, rfl⟩
theorem headAt_of_trod {H : Type} {enc : TypeId × Value → H} {W : World} {v : Value} {d : DataW H} {p : List MemPlace} (h : DataW.Trod enc Tryd.prog W 0 (fun _ => true) true 25 v d p) :
    ∃ (hh : HdV) (hv : Value), v = .agg #[.string hh.a, .string hh.b, .string hh.c, hv] ∧ hh.Fit ∧ FieldsAt W hv hh.fs := by
  obtain ⟨fuel, hf⟩ := h
  obtain ⟨xs, n, _, hx, hl, hxl, hf⟩ := DataW.trod_struct Tryd.underlying25 hf
  have c9 : Tryd.prog.cellsOf 9 = 1 := by kernel_rfl
  have c22 : Tryd.prog.cellsOf 22 = 3 := by kernel_rfl
  have c23 : Tryd.prog.cellsOf 23 = 1 := by kernel_rfl
  have c25 : Tryd.prog.cellsOf 25 = 4 := by kernel_rfl
  rw [c25] at hl
  match xs, hxl with
  | [y0, y1], _ =>
    have h0 : DataW.trod enc Tryd.prog W 0 (fun _ => true) true n 22 ((v.cells.toList.drop 0).take (Tryd.prog.cellsOf 22)) = some y0 := hf 0 _ rfl
    have h1 : DataW.trod enc Tryd.prog W 0 (fun _ => true) true n 23 ((v.cells.toList.drop 3).take (Tryd.prog.cellsOf 23)) = some y1 := hf 1 _ rfl
    obtain ⟨a0, a1, a2, a3, hcs⟩ := list4 hl
    rw [hcs] at h0 h1
    rw [c22] at h0
    rw [c23] at h1
    · have e := agg_of_cells hcs (by simp)
      obtain ⟨l, fs, el, hfs⟩ := fields_of_trod h1
      simp at el
      subst el
      simp only [List.drop_zero, List.take_succ_cons, List.take_zero] at h0
      obtain ⟨z0, z1, z2, m, _, g0, g1, g2⟩ := trod_array3 Tryd.underlying22 c9 h0
      obtain ⟨s0, k0, _, w0⟩ := DataW.trod_string Tryd.underlying9 g0
      obtain ⟨s1, k1, _, w1⟩ := DataW.trod_string Tryd.underlying9 g1
      obtain ⟨s2, k2, _, w2⟩ := DataW.trod_string Tryd.underlying9 g2
      simp only [List.cons.injEq, and_true] at k0 k1 k2
      subst k0 k1 k2
      exact ⟨⟨s0, s1, s2, fs⟩, _, e, ⟨w0, w1, w2⟩, hfs⟩
theorem fieldAt_of_trod {H : Type} {enc : TypeId × Value → H} {W : World} {v : Value} {d : DataW H} {p : List MemPlace} (h : DataW.Trod enc Tryd.prog W 0 (fun _ => true) true 48 v d p) :
    ∃ a b : ByteArray, v = .agg #[.string a, .string b] ∧ a.size ≤ maxLen ∧ b.size ≤ maxLen := by
  obtain ⟨fuel, hf⟩ := h
  obtain ⟨a, b, e, ha, hb⟩ := two_of_trod hf
  exact ⟨a, b, agg_of_cells e (by simp), ha, hb⟩
end Go.Proofs.YtcohecghibndhaaDoor
