/- RingPlays, what its acts are in memory. -/
import Derived.Test.YtfgpohfegjomfaaO
import Derived.Test.YtfgpohfegjomfaaL
import Derived.SliceStrings
import Derived.ProofKit
import Derived.Deep.Strs
import Derived.ChangeArms
import Derived.OpenShut
namespace Go.Proofs.Ytfgpohfegjomfaa
open Go.RowKit Go.WideShapes Go.ChangeShapes

/-- An act: its kind, its number, its text. -/
abbrev ActV := Int × Int × ByteArray
def act0 : ActV := (0, 0, ByteArray.empty)
/-- The three cells of an act lie at the place. -/
def ActAt (W : World) (b o : Nat) (x : ActV) : Prop :=
  W.cell? ⟨b, o, none⟩ = some (.int .i64 x.1) ∧ W.cell? ⟨b, o + 1, none⟩ = some (.int .i64 x.2.1) ∧ W.cell? ⟨b, o + 2, none⟩ = some (.string x.2.2) ∧ -9223372036854775808 ≤ x.2.1 ∧ x.2.1 ≤ 9223372036854775807 ∧ x.2.2.size ≤ maxLen
/-- The acts l are the elements of the slice v. -/
def ActsAt (W : World) (v : Value) (l : List ActV) : Prop :=
  ∃ (a : Option Addr) (cap sb so : Nat), v = .slice a l.length cap ∧ l.length ≤ maxLen ∧ (0 < l.length → a = some ⟨sb, so, none⟩) ∧ ∀ i, i < l.length → ActAt W sb (so + i * 3) (l.getD i act0)

theorem list_of {α : Type} (d : α) (n : Nat) (p : Nat → α → Prop) (h : ∀ i, i < n → ∃ x, p i x) : ∃ l : List α, l.length = n ∧ ∀ i, i < n → p i (l.getD i d) := by
  induction n with
  | zero => exact ⟨[], rfl, fun i hi => absurd hi (Nat.not_lt_zero _)⟩
  | succ n ih =>
    obtain ⟨l, hl, hp⟩ := ih (fun i hi => h i (by omega))
    obtain ⟨x, hx⟩ := h n (by omega)
    refine ⟨l ++ [x], by simp [hl], fun i hi => ?_⟩
    by_cases hin : i < n
    · have e : (l ++ [x]).getD i d = l.getD i d := by
        simp only [List.getD_eq_getElem?_getD]; rw [List.getElem?_append_left (by omega)]
      rw [e]; exact hp i hin
    · obtain rfl : i = n := by omega
      have e : (l ++ [x]).getD i d = x := by
        simp only [List.getD_eq_getElem?_getD]; rw [List.getElem?_append_right (by omega)]; simp [hl]
      rw [e]; exact hx
theorem actAt_of_trod {H : Type} {enc : TypeId × Value → H} {W : World} {base fuel : Nat} {sp : Nat → Bool} {held : Bool} {ad : Addr} {x : DataW H × List MemPlace} (hs : ad.spot = none)
    (h : (W.cells? base ad 3).bind (DataW.trod enc Try.prog W base sp held fuel 29) = some x) : ∃ y, ActAt W ad.block ad.off y := by
  obtain ⟨b, o, spot⟩ := ad
  subst hs
  rw [Option.bind_eq_some_iff] at h
  obtain ⟨cs, hc, h⟩ := h
  obtain ⟨_, hlen, hcell⟩ := World.cells?_some hc
  obtain ⟨xs, n, _, hx, hl, hxl, hf⟩ := DataW.trod_struct Try.underlying29 h
  have c3 : Try.prog.cellsOf 3 = 1 := by kernel_rfl
  have c9 : Try.prog.cellsOf 9 = 1 := by kernel_rfl
  match xs, hxl with
  | [y0, y1, y2], _ =>
    have h0 := hf 0 _ rfl
    have h1 := hf 1 _ rfl
    have h2 := hf 2 _ rfl
    simp only [List.getElem?_cons_zero, List.getElem?_cons_succ] at h0 h1 h2
    obtain ⟨z0, g0, e0, w0⟩ := DataW.trod_int Try.underlying3 h0
    obtain ⟨z1, g1, e1, w1⟩ := DataW.trod_int Try.underlying3 h1
    obtain ⟨z2, g2, e2, w2⟩ := DataW.trod_string Try.underlying9 h2
    match cs, hlen with
    | [a0, a1, a2], _ =>
      simp [c3, c9] at g0 g1 g2
      subst g0 g1 g2
      have k0 := hcell 0 (by omega)
      have k1 := hcell 1 (by omega)
      have k2 := hcell 2 (by omega)
      rw [Addr.add_mid] at k0 k1 k2
      have bd := bounds_i64 w1
      exact ⟨(z0, z1, z2), k0, k1, k2, bd.1, bd.2, w2⟩
theorem actsAt_of_trod {H : Type} {enc : TypeId × Value → H} {W : World} {ad : Option Addr} {len cap : Nat} {d : DataW H} {p : List MemPlace} (h : DataW.Trod enc Try.prog W 0 (fun _ => true) true 22 (.slice ad len cap) d p) :
    ∃ l, ActsAt W (.slice ad len cap) l := by
  obtain ⟨fuel, hf⟩ := h
  have c29 : Try.prog.cellsOf 29 = 3 := by kernel_rfl
  rcases DataW.trod_slice Try.underlying22 hf with ⟨hcs, _⟩ | ⟨a, len', cap', el, rest, n, _, hcs, _, hb, hl, hm, hz, hcell, _⟩
  · simp [Value.cells] at hcs
    obtain ⟨rfl, rfl, rfl⟩ := hcs
    exact ⟨[], none, 0, 0, 0, rfl, by simp, fun h => by simp at h, fun i hi => by simp at hi⟩
  · simp [Value.cells] at hcs
    obtain ⟨rfl, rfl, rfl⟩ := hcs
    rw [c29] at hcell
    have hsome : ∀ i, i < len → ∃ x, el[i]? = some x := fun i hi => ⟨el[i]'(by omega), List.getElem?_eq_getElem (by omega)⟩
    by_cases h0 : len = 0
    · subst h0
      exact ⟨[], some a, cap, 0, 0, rfl, by simp, fun h => by simp at h, fun i hi => by simp at hi⟩
    · have hspot : a.spot = none := by
        obtain ⟨x, hx⟩ := hsome 0 (by omega)
        have hc := hcell 0 (by omega)
        rw [hx, Option.bind_eq_some_iff] at hc
        obtain ⟨cs, hcs, _⟩ := hc
        obtain ⟨_, hlen, hce⟩ := World.cells?_some hcs
        have := hce 0 (by omega)
        rw [List.getElem?_eq_getElem (by omega)] at this
        simpa [Addr.add] using World.cell?_spot this
      obtain ⟨b, off, spot⟩ := a
      simp only at hspot
      subst hspot
      obtain ⟨l, hll, hp⟩ := list_of act0 len (fun i x => ActAt W b (off + i * 3) x) (fun i hi => by
        obtain ⟨x, hx⟩ := hsome i hi
        have hc := hcell i hi
        rw [hx, Addr.add_mid] at hc
        exact actAt_of_trod rfl hc)
      exact ⟨l, some ⟨b, off, none⟩, cap, b, off, by rw [hll], by rw [hll]; omega, fun _ => rfl, fun i hi => hp i (by omega)⟩
end Go.Proofs.Ytfgpohfegjomfaa
