/- Strings and their bytes; what is the same in all of the statements' walks. -/
import Derived.Test.YtmiemklgekhfeaaDoorJ
namespace Go.Proofs.YtmiemklgekhfeaaDoor
open Go.RowKit

/-- A string's bytes. -/
def bytes (s : ByteArray) : List Nat := s.data.toList.map (·.toNat)
theorem bytes_length (s : ByteArray) : (bytes s).length = s.size := by unfold bytes; rw [List.length_map, Array.length_toList]; rfl
theorem bytes_small (s : ByteArray) : Small 256 (bytes s) := Small.of_mem (by decide) (fun x hx => by
  simp only [bytes, List.mem_map] at hx
  obtain ⟨b, _, rfl⟩ := hx
  exact b.toNat_lt)
theorem bytes_append (a b : ByteArray) : bytes (a ++ b) = bytes a ++ bytes b := by simp [bytes]
theorem bytes_getD (s : ByteArray) (i : Nat) (hi : i < s.size) : (bytes s).getD i 0 = (s.data[i]'hi).toNat := by
  have hi' : i < s.data.size := hi
  simp only [bytes, List.getD, List.getElem?_map, Array.getElem?_toList, Array.getElem?_eq_getElem hi']
  rfl
/-- The bytes of a string, made new. -/
theorem conv_str (s : ByteArray) (W : World) : ∃ cap w', (convert 9 26 (.string s)).run Tryd.prog W = .ok (.slice (some ⟨W.heap.size, 0, none⟩) s.size cap) w' ∧
    Sl (∀ b, b ≠ W.heap.size → SrcAt w' b (.slice (some ⟨W.heap.size, 0, none⟩) s.size cap) (bytes s)) ∧ Sl (Below W.heap.size W w') := by
  refine ⟨_, _, run_bytes_of_string (P := Tryd.prog) W 9 26 5 s Tryd.underlying9 Tryd.underlying26 Tryd.underlying5, ⟨fun b hb => ?_⟩, ⟨((Below.refl _ _).drew).alloc (Nat.le_refl _) _⟩⟩
  refine ⟨some ⟨W.heap.size, 0, none⟩, _, W.heap.size, 0, by rw [bytes_length], by rw [bytes_length]; exact grownCap_ge _ _ _ _, fun _ => rfl, fun _ => Ne.symm hb, fun i hi => ?_⟩
  rw [bytes_length] at hi
  rw [Nat.zero_add]
  have h := World.cell?_alloc_mark W.drew (bytesRow s (grownCap W s.size 0 5)) 5 ((bytesRow s (grownCap W s.size 0 5)).size, (bytesRow s (grownCap W s.size 0 5)).size + 1) i
  rw [show W.drew.heap.size = W.heap.size from rfl] at h
  rw [h, bytesRow_at s _ i hi, bytes_getD s i hi]
end Go.Proofs.YtmiemklgekhfeaaDoor
