/- The contract of fill of the statements' package: so many of a byte, as a string; nothing that was in memory changes. Condition: at most a million. -/
import Derived.Test.YtmiemklgekhfeaaDoorM
namespace Go.Proofs.YtmiemklgekhfeaaDoor
open Go.RowKit

/-- So many of a byte. -/
def reps (n v : Nat) : List Nat := List.replicate n v
theorem reps_length (n v : Nat) : (reps n v).length = n := by simp [reps]
theorem reps_small (n v : Nat) (h : v < 256) : Small 256 (reps n v) := Small.of_mem (by decide) (fun x hx => by simp [reps] at hx; omega)
/-- What the loop of fill holds to. -/
def FL (w : World) (n v k : Nat) (wr : World) : Prop :=
  ∃ bs : List Nat, bs.length = n ∧ bs.take k = reps k v ∧ wr.heap.size = w.heap.size + 1 ∧ wr.heap[w.heap.size]? = some (.cells (u8s bs).toArray 5 (0, 0)) ∧ Below w.heap.size w wr
theorem FL.next {w wr : World} {n v k : Nat} (h : FL w n v k wr) (hk : k < n) : FL w n v (k + 1) (wr.setCell ⟨w.heap.size, k, none⟩ (.int .u8 (v : Int))) := by
  obtain ⟨ws, h1, h3, h4, h7, h8⟩ := h
  refine ⟨ws.set k v, by simpa using h1, ?_, ?_, ?_, h8.setCell (by simp) _⟩
  · rw [take_set_succ _ _ _ (by omega), h3]
    simp [reps, List.replicate_succ']
  · simpa [World.setCell] using h4
  · rw [heap_setCell_same _ _ _ _ _ _ h7, u8s_set]

theorem conv_back {W : World} {g n c : Nat} (l : List Nat) (hn : l.length = n) (h : W.rangeAt g 0 (u8s l)) : (convert 26 9 (.slice (some ⟨g, 0, none⟩) n c)).run Tryd.prog W = .ok (.string (strOf l)) W :=
  run_convert_bytes_arg W 26 5 Tryd.underlying26 Tryd.underlying5 g 0 n c (l.map fun (n : Nat) => (n : Int)) (by simp [hn]) (fun i hi => by
    rw [h i _ (u8s_get l i (by omega))]
    cases h : l[i]? <;> simp [List.getD, h]) 9 Tryd.underlying9

set_option maxHeartbeats 400000 in
theorem fill_any (n v : Nat) (w : World) (hn : n ≤ 1000) :
    Calls Tryd.prog 17 #[.int .i64 n, .int .u8 v] w fun e w' => e = .returned (.string (strOf (reps n v))) ∧ Below w.heap.size w w' := by
  have hmk := make_u8 (n : Int) n rfl (by omega)
  go_enter Tryd.func17, Tryd.ntmps17
  go_wp2
  clear hmk
  go_loopw [6] (fun i wr => ∃ k : Nat, k ≤ n ∧ i = .int .i64 k ∧ FL w n v k wr) (fun i _ => n - (intOf i).toNat)
  case atStart => exact ⟨0, by omega, rfl, zs n, zs_length n, rfl, alloc_size _ _, alloc_new _ _ _ rfl, (Below.refl _ _).alloc (Nat.le_refl _) _⟩
  case round =>
    obtain ⟨k, hk, rfl, hrel⟩ := hrel
    have HR := Sl.mk hrel
    obtain ⟨bs, h1, h3, h4, h7, h8⟩ := hrel
    by_cases hlt : k < n
    · have cw := row_cell h7 k _ (u8s_get bs k (by omega))
      have fw := frozen_of_row _ _ k _ _ h7
      clear h1 h3 h4 h7 h8
      go_wp2
      go_roundw
      case rel => exact ⟨k + 1, by omega, by go_num, HR.out.next hlt⟩
      case measure => simp [intOf]; omega
    · have hge : n ≤ k := by omega
      have hbs : bs = reps n v := by
        have e : k = n := by omega
        rw [e] at h3; rw [← h3]; exact (List.take_of_length_le (by omega)).symm
      have hr : wr.rangeAt w.heap.size 0 (u8s (reps n v)) := fun j u hu => by
        rw [Nat.zero_add]; exact row_cell (by rw [← hbs]; exact h7) j u hu
      have hcv := fun (c : Nat) => conv_back (c := c) (reps n v) (reps_length n v) hr
      have H8 := Sl.mk h8
      clear h1 h3 h4 h7 h8 HR hbs hr
      go_wp2
      go_ret
      exact ⟨rfl, H8.out⟩
end Go.Proofs.YtmiemklgekhfeaaDoor
