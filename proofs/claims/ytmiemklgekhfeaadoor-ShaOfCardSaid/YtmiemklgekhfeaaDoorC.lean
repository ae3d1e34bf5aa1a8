/- The contract of partBytes of package sha: the five parts as 20 bytes; nothing that was in memory changes. Condition: five parts below 2^32. -/
import Derived.Test.YtmiemklgekhfeaaDoorB
namespace Go.Proofs.YtmiemklgekhfeaaDoor
open Go.RowKit

def z20 : List Nat := List.replicate 20 0
theorem u8s_set (ws : List Nat) (k x : Nat) : (u8s ws).toArray.setIfInBounds k (.int .u8 (x : Int)) = (u8s (ws.set k x)).toArray := by
  simp [u8s, v8, List.map_set]
/-- What the loop of partBytes holds to. -/
def PB (w : World) (p : List Nat) (k : Nat) (wr : World) : Prop :=
  ∃ bs : List Nat, bs.length = 20 ∧ bs.take k = bytesOf p k ∧
    wr.heap.size = w.heap.size + 3 ∧ wr.heap[w.heap.size]? = some (.cells (u32s p).toArray 50 (0, 0)) ∧ wr.heap[w.heap.size + 1]? = some (.cells (u8s z20).toArray 24 (0, 0)) ∧
    wr.heap[w.heap.size + 1 + 1]? = some (.cells (u8s bs).toArray 24 (0, 0)) ∧ Below w.heap.size w wr
theorem PB.next {w wr : World} {p : List Nat} {k : Nat} (h : PB w p k wr) (hk : k < 20) (x : Nat) (hw : bytesOf p (k + 1) = bytesOf p k ++ [x]) :
    PB w p (k + 1) (wr.setCell ⟨w.heap.size + 1 + 1, k, none⟩ (.int .u8 (x : Int))) := by
  obtain ⟨ws, h1, h3, h4, h5, h6, h7, h8⟩ := h
  refine ⟨ws.set k x, by simpa using h1, by rw [take_set_succ _ _ _ (by omega), h3, hw], ?_, ?_, ?_, ?_, ?_⟩
  · simpa [World.setCell] using h4
  · rw [heap_setCell_other _ _ _ _ (by simp; omega), h5]
  · rw [heap_setCell_other _ _ _ _ (by simp), h6]
  · rw [heap_setCell_same _ _ _ _ _ _ h7, u8s_set]
  · exact h8.setCell (by simp; omega) _

set_option maxHeartbeats 400000 in
theorem partBytes_any (p : List Nat) (w : World) (hp : p.length = 5) (hps : Small 4294967296 p) :
    Calls Tryd.prog 26 #[.agg (u32s p).toArray] w fun e w' => e = .returned (.agg (u8s (bytesOf p 20)).toArray) ∧ Below w.heap.size w w' := by
  have HP := Sl.mk hp
  have HPS := Sl.mk hps
  clear hp hps
  go_enter Tryd.func26, Tryd.ntmps26
  go_wp2
  go_loopw [5] (fun i wr => ∃ k : Nat, k ≤ 20 ∧ i = .int .i64 k ∧ PB w p k wr) (fun i _ => 20 - (intOf i).toNat)
  case atStart =>
    have h := alloc3 w (.cells (u32s p).toArray 50) (.cells (u8s z20).toArray 24) (.cells (u8s z20).toArray 24)
    exact ⟨0, by omega, rfl, z20, rfl, rfl, h.1, h.2.1, h.2.2.1, h.2.2.2.1, h.2.2.2.2⟩
  case round =>
    obtain ⟨k, hk, rfl, hrel⟩ := hrel
    have HR := Sl.mk hrel
    obtain ⟨bs, h1, h3, h4, h5, h6, h7, h8⟩ := hrel
    by_cases hlt : k < 20
    · have cp := row_cell h5 (k / 4) _ (u32s_get p (k / 4) (by have := HP.out; omega))
      have cw := row_cell h7 k _ (u8s_get bs k (by omega))
      have fw := frozen_of_row _ _ k _ _ h7
      clear h1 h3 h4 h5 h6 h7 h8
      have q1 : (0 : Int) ≤ (k : Int) / 4 := by omega
      have q2 : (k : Int) / 4 < 5 := by omega
      have q4 : ((k : Int) / 4).toNat = k / 4 := by omega
      have hx := HPS.out (k / 4)
      go_wp2
      go_roundw
      case rel =>
        have hn := HR.out.next hlt (p.getD (k / 4) 0 / 2 ^ (24 - 8 * (k % 4)) % 256) rfl
        have hi : (((p.getD (k / 4) 0 / 2 ^ (24 - 8 * (k % 4)) % 256 : Nat)) : Int) = (p[k / 4]?.getD 0 : Nat) / 2 ^ (24 - 8 * (k % 4)) % 256 := by simp [List.getD]
        rw [hi] at hn
        exact ⟨k + 1, by omega, by go_num, hn⟩
      case measure => simp [intOf]; omega
    · have e : k = 20 := by omega
      have hge : 20 ≤ k := by omega
      have hbs : bs = bytesOf p 20 := by rw [e] at h3; rw [← h3]; exact (List.take_of_length_le (by omega)).symm
      have HW := Sl.mk hbs
      clear hbs
      have H6 := Sl.mk h6
      have H7 := Sl.mk h7
      have H8 := Sl.mk h8
      have HI : Sl ((Tryd.prog.info? 24).map (·.size) = some (u8s bs).toArray.size) := ⟨by
        have : (Tryd.prog.info? 24).map (·.size) = some 20 := by kernel_rfl
        simpa [h1] using this⟩
      have HO : Sl ((u8s z20).toArray.size = (u8s bs).toArray.size) := ⟨by simp [h1, z20]⟩
      clear e h1 h3 h4 h5 h6 h7 h8 HR hlt hk
      go_wp2_with (first
        | (refine wpList_load_row rfl 24 (.tmp 3) rfl (w.heap.size + 1 + 1) rfl 24 _ (0, 0) (.array 20 5) H7.out Tryd.underlying24 rfl HI.out ?_)
        | (refine wpList_store_row rfl 24 (.tmp 2) (.tmp 21) rfl (w.heap.size + 1) _ rfl rfl 24 _ H6.out HI.out HO.out (all_oneCell_toArray (u8s_one _)) ?_))
      refine bodyPost_ret (v := .agg (u8s bs).toArray) ?_ rfl ⟨by rw [HW.out], below_setRow H8.out (by omega) _⟩
      exact results_cell_row Tryd.results26 _ _ (w.heap.size + 1) 24 _ (0, 0) (.array 20 5) rfl (setRow_heap _ _ _ _ _ _ H6.out) Tryd.underlying24 rfl HI.out
end Go.Proofs.YtmiemklgekhfeaaDoor
