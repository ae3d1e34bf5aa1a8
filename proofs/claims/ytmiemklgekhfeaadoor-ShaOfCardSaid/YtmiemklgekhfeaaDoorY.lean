/- The document's answer: what the walk of its Of needs, plain facts and rows. -/
import Derived.Test.YtmiemklgekhfeaaDoorX
import Derived.Test.YtmiemklgekhfeaaDoorFill
namespace Go.Proofs.YtmiemklgekhfeaaDoor
open Go.RowKit

theorem conv_br (s : ByteArray) (W : World) : ∃ v w', (convert 9 26 (.string s)).run Tryd.prog W = .ok v w' ∧ Sl (BR W.heap.size w' v (bytes s)) ∧ Sl (Below W.heap.size W w') := by
  refine ⟨_, _, run_bytes_of_string (P := Tryd.prog) W 9 26 5 s Tryd.underlying9 Tryd.underlying26 Tryd.underlying5, ⟨?_⟩, ⟨((Below.refl _ _).drew).alloc (Nat.le_refl _) _⟩⟩
  generalize hcap : grownCap W s.size 0 5 = cap
  have hge : s.size ≤ cap := by rw [← hcap]; exact grownCap_ge _ _ _ _
  have hsz : (bytesRow s cap).size = cap := by
    have : s.data.size = s.size := rfl
    simp [bytesRow, this]; omega
  rw [hsz]
  refine ⟨W.heap.size, cap, by rw [bytes_length], Nat.le_refl _, by rw [alloc_size]; show W.heap.size < W.heap.size + 1; omega, by rw [bytes_length]; exact hge, fun j u hu => ?_, fun j hj => ?_⟩
  · have hj : j < s.size := by simpa [bytes_length] using (List.getElem?_eq_some_iff.1 hu).1
    rw [Nat.zero_add]
    have h := World.cell?_alloc_mark W.drew (bytesRow s cap) 5 (cap, cap + 1) j
    rw [show W.drew.heap.size = W.heap.size from rfl] at h
    rw [h, bytesRow_at s _ j hj, ← hu, u8s_get _ _ (by rw [bytes_length]; exact hj), bytes_getD s j hj]
  · rw [Nat.zero_add]
    have h := World.cell?_alloc_mark W.drew (bytesRow s cap) 5 (cap, cap + 1) j
    rw [show W.drew.heap.size = W.heap.size from rfl] at h
    refine ⟨by rw [h]; simp; omega, ?_⟩
    have hn : (W.drew.alloc (.cells (bytesRow s cap) 5 (cap, cap + 1))).heap[W.heap.size]? = some (.cells (bytesRow s cap) 5 (cap, cap + 1)) := alloc_new _ _ _ rfl
    simp only [World.frozen?, hn]
    simp; omega

/-- The bytes of the padded text, the first k of the count's. -/
theorem br_len {base : Nat} {W : World} {v : Value} {l : List Nat} (h : BR base W v l) : lenOf v = l.length := by
  obtain ⟨g, cap, rfl, _⟩ := h; rfl
theorem be_step (b k : Nat) : beTo b (k + 1) = beTo b k ++ [b / 256 ^ (7 - k) % 256] := by
  rw [beTo, Nat.pow_mul]
theorem pad_done (L : Nat) (n : Nat) (hn : n ≤ nought L) (h : (L + 1 + n) % 64 = 56) : n = nought L := by unfold nought at *; omega
theorem pad_more (L : Nat) (n : Nat) (hn : n ≤ nought L) (h : ¬ (L + 1 + n) % 64 = 56) : n < nought L := by unfold nought at *; omega
theorem zs_more (n : Nat) : zs (n + 1) = zs n ++ [0] := by simp [zs, List.replicate_succ']
end Go.Proofs.YtmiemklgekhfeaaDoor
