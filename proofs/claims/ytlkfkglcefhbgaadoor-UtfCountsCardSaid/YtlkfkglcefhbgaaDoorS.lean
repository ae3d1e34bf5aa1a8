/- A slice of numbers that reads as data, opened for the walk of UtfCounts. -/
import Derived.Test.YtlkfkglcefhbgaaDoorL
import Derived.ChangeSlices
namespace Go.Proofs.YtlkfkglcefhbgaaDoor
open Go.RowKit Go.WideShapes Go.ChangeShapes

theorem intsAt_of_trod {H : Type} {enc : TypeId × Value → H} {W : World} {ad : Option Addr} {len cap : Nat} {d : DataW H} {p : List MemPlace} (h : DataW.Trod enc Tryd.prog W 0 (fun _ => true) true 39 (.slice ad len cap) d p) :
    ∃ l, IntsAt W (.slice ad len cap) l := by
  obtain ⟨fuel, hf⟩ := h
  rcases open_ints Tryd.underlying39 Tryd.underlying3 (by kernel_rfl) hf with ⟨hcs, _⟩ | ⟨a, len', cap', ss, hcs, _, hl, hm, hz, _, hcell, hws⟩
  · simp [Value.cells] at hcs
    obtain ⟨rfl, rfl, rfl⟩ := hcs
    exact ⟨[], none, 0, 0, 0, rfl, by simp, fun h => by simp at h, fun i hi => by simp at hi⟩
  · simp [Value.cells] at hcs
    obtain ⟨rfl, rfl, rfl⟩ := hcs
    have hlen : (ss.take len).length = len := by simp at hz; simp; omega
    have hg : ∀ i, i < len → (ss.take len).getD i 0 = ss.getD i 0 := fun i hi => by simp [List.getD, hi]
    refine ⟨ss.take len, some a, cap, a.block, a.off, by rw [hlen], by rw [hlen]; omega, fun hp => ?_, fun i hi => ?_⟩
    · rw [hlen] at hp
      have hc := hcell 0 (by simp at hz; omega)
      obtain ⟨b, off, spot⟩ := a
      have hspot : spot = none := by simpa [Addr.add] using World.cell?_spot hc
      rw [hspot]
    · rw [hlen] at hi
      have hc := hcell i (by simp at hz; omega)
      obtain ⟨b, off, spot⟩ := a
      have hspot : spot = none := by simpa [Addr.add] using World.cell?_spot (hcell 0 (by simp at hz; omega))
      subst hspot
      rw [Addr.add_mid] at hc
      rw [hg i hi, hc]
end Go.Proofs.YtlkfkglcefhbgaaDoor
