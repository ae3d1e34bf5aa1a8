/- The document's answer: what append keeps; the five parts, one by one; the text of the parts. -/
import Derived.Test.YtmiemklgekhfeaaDoorYa
namespace Go.Proofs.YtmiemklgekhfeaaDoor
open Go.RowKit

/-- append leaves the words that are there. -/
theorem app_keeps {W w' : World} {base g cp : Nat} {v' : Value} {ns ms : List Nat} (h : OwnR base W (.slice (some ⟨g, 0, none⟩) ns.length cp) ns) (ad : Addr) (c : Nat) (news : List Value) (hl : news.length = ms.length) (hnews : ∀ j u, news[j]? = some u → W.cell? (ad.add j) = some u)
    (hms : ∀ i, i < ms.length → ∃ u, news[i]? = some u ∧ Bits W u (ms.getD i 0)) (hn : ns.length + ms.length ≤ 1000)
    (hrun : (Builtin.append_ #[44, 44] 44 #[.slice (some ⟨g, 0, none⟩) ns.length cp, .slice (some ad) ms.length c]).run Tryd.prog W = .ok v' w') : ∀ j, j < ns.length → w'.cell? ⟨g, j, none⟩ = W.cell? ⟨g, j, none⟩ := by
  intro j hj
  obtain ⟨i0, hi, hz0, hz1, hz2⟩ := info_parts info42
  obtain ⟨vs, hown, h3, g1, c1, e, h4⟩ := h
  have h1 : ∀ u ∈ news, u.oneCell' = true := fun u hu => by
    obtain ⟨i, hi, rfl⟩ := List.getElem_of_mem hu
    obtain ⟨u', hu', g', c', rfl, _⟩ := hms i (by omega)
    rw [List.getElem?_eq_getElem hi] at hu'
    injection hu' with hu'
    rw [hu']; rfl
  obtain ⟨a1, a2⟩ := hown
  rcases a2 with ⟨a2, _⟩ | ⟨g', cap', cur, e2, hg, hh, hn', hm, hs, ht⟩
  · cases a2
  cases e2
  have hc : ∀ j, j < cp → W.cell? ⟨g, j, none⟩ = cur[j]? := fun j _ => by rw [cell_of_row _ _ _ _ _ _ hh]
  have hsz : cur.size = cp := by omega
  by_cases hroom : ns.length + ms.length ≤ cp
  · have hr := run_append_room_cells (P := Tryd.prog) W 44 44 42 i0 Tryd.underlying44 hi g 0 ns.length cp ad ms.length c news (by rw [hz1]; omega) hnews h1 hroom (fun j hj => by
      rw [hc _ (by rw [hz1]; omega), hz1]
      have : 0 + ns.length * 1 + j < cur.size := by omega
      simp; omega) (fun j hj => frozen_of_row _ _ _ _ _ hh)
    rw [hr] at hrun
    injection hrun with _ hw
    rw [← hw, World.cell?_setCells_out _ _ _ _ _ (fun _ _ => Or.inl (by rw [hz1]; show j < _; omega))]
  · obtain ⟨v2, w2, hr, _, hgr⟩ := run_append_arg_grows (P := Tryd.prog) W 44 44 42 i0 (.slice none 0 0) 1 24 Tryd.underlying44 hi hz0 hz1 hz2 rfl (by decide) ⟨g, 0, none⟩ ns.length cp vs a1 (fun j u hu => by
        have hj : j < ns.length := by have := (List.getElem?_eq_some_iff.1 hu).1; omega
        rw [Addr.add_mid, Nat.zero_add, cell_of_row _ _ _ _ _ _ hh, ← hu, ← ht]
        simp [hj]) ad ms.length c news (by omega) hnews (by omega) (by unfold maxLen; omega) (by omega)
    rw [hr] at hrun
    injection hrun with _ hw
    rw [← hw]
    exact World.cell?_of_block (w := W) (a := ⟨g, j, none⟩) (hgr.block g (Array.getElem?_eq_some_iff.1 hh).1 (by simp))

/-- The first k of five parts, each with what is added to it. -/
def mixTo (H Y : List Nat) : Nat → List Nat
  | 0 => H
  | k + 1 => (mixTo H Y k).set k ((H.getD k 0 + Y.getD k 0) % 4294967296)
theorem mixTo_length (H Y : List Nat) : ∀ k, (mixTo H Y k).length = H.length
  | 0 => rfl
  | k + 1 => by simp [mixTo, mixTo_length H Y k]
theorem mixTo_get (H Y : List Nat) (j : Nat) : ∀ k, k ≤ j → (mixTo H Y k).getD j 0 = H.getD j 0
  | 0, _ => rfl
  | k + 1, h => by
    rw [mixTo]
    simp only [List.getD]
    rw [List.getElem?_set_ne (by omega)]
    exact mixTo_get H Y j k (by omega)
theorem mixTo_mix (h0 h1 h2 h3 h4 y0 y1 y2 y3 y4 : Nat) (bl : List Nat) (h : rounds (words bl 80) (h0, h1, h2, h3, h4) 80 = (y0, y1, y2, y3, y4)) :
    mixTo [h0, h1, h2, h3, h4] [y0, y1, y2, y3, y4] 5 = mix [h0, h1, h2, h3, h4] bl := by
  have e : five [h0, h1, h2, h3, h4] = (h0, h1, h2, h3, h4) := rfl
  unfold mix
  rw [e, h]
  rfl
theorem step_sum (A Y W K : Nat) : (A % 4294967296 + ((Y + W) % 4294967296 + K) % 4294967296) % 4294967296 = ((((A % 4294967296 + Y) % 4294967296) + W) % 4294967296 + K) % 4294967296 := by omega
theorem list5 {l : List Nat} (h : l.length = 5) : ∃ a b c d e, l = [a, b, c, d, e] := by
  match l, h with
  | [a, b, c, d, e], _ => exact ⟨a, b, c, d, e, rfl⟩
theorem rounds_next (ws : List Nat) (s : Nat × Nat × Nat × Nat × Nat) (t y0 y1 y2 y3 y4 : Nat) (h : rounds ws s t = (y0, y1, y2, y3, y4)) :
    rounds ws s (t + 1) = (((rot y0 5 + ch t y1 y2 y3) % 4294967296 + ((y4 + ws.getD t 0) % 4294967296 + kt t) % 4294967296) % 4294967296, y0, rot y1 30, y2, y3) := by
  rw [rounds, h, step_sum]; rfl
theorem strOf_append (a b : List Nat) : strOf a ++ strOf b = strOf (a ++ b) := by
  unfold strOf strOfNums
  apply ByteArray.ext
  simp
end Go.Proofs.YtmiemklgekhfeaaDoor
