/- The contract of ending of package sha: a new slice that holds the byte 128, as many noughts as fill the last block, and the count of bits as eight bytes; nothing that was in memory changes. Condition: fewer than 2^32 bytes were added. -/
import Derived.Test.YtmiemklgekhfeaaDoorC
namespace Go.Proofs.YtmiemklgekhfeaaDoor
open Go.RowKit

def zs (n : Nat) : List Nat := List.replicate n 0
theorem zs_length (n : Nat) : (zs n).length = n := by simp [zs]
/-- How many noughts stand behind the byte 128. -/
def nought (L : Nat) : Nat := (64 - (L + 9) % 64) % 64
/-- The first bytes of a number of eight, the highest first. -/
def beTo (b : Nat) : Nat → List Nat
  | 0 => []
  | i + 1 => beTo b i ++ [b / 2 ^ (8 * (7 - i)) % 256]
theorem beTo_length (b : Nat) : ∀ k, (beTo b k).length = k
  | 0 => rfl
  | k + 1 => by simp [beTo, beTo_length b k]
/-- What stands behind L bytes. -/
def endOf (L : Nat) : List Nat := 128 :: zs (nought L) ++ beTo (L * 8) 8
theorem endOf_length (L : Nat) : (endOf L).length = 1 + nought L + 8 := by simp [endOf, zs_length, beTo_length]; omega
theorem beTo_small (b : Nat) : ∀ k, Small 256 (beTo b k)
  | 0 => fun i => by simp [beTo]
  | k + 1 => Small.append (by decide) (beTo_small b k) (Small.of_mem (by decide) (fun x hx => by
      simp only [List.mem_singleton] at hx; subst hx; exact Nat.mod_lt _ (by decide)))
theorem endOf_small (L : Nat) : Small 256 (endOf L) :=
  Small.append (by decide) (Small.of_mem (by decide) (fun x hx => by
    simp only [zs, List.mem_cons, List.mem_replicate] at hx
    omega)) (beTo_small _ 8)

theorem info5 : (Tryd.prog.info? 5).map (fun i => (i.zero, i.size, i.bytes)) = some (some (.int .u8 0), 1, 1) := by kernel_rfl
theorem made_u8 (n : Nat) : madeCells (Value.int .u8 0).cells (n * 1) = (u8s (zs n)).toArray := by
  apply Array.ext_getElem?
  intro i
  by_cases h : i < n <;> simp [madeCells, Value.cells, u8s, v8, zs, Nat.mod_one, h]
theorem make_u8 (X : Int) (n : Nat) (hX : X = (n : Int)) (hn : n ≤ 1000000) (w : World) :
    (Instr.makeSlice 26 (.int .i64 X) (.int .i64 X)).run Tryd.prog w = .ok (.slice (some ⟨w.heap.size, 0, none⟩) n n) (w.alloc (.cells (u8s (zs n)).toArray 5)) := by
  subst hX
  have h5 := info5
  cases hi : Tryd.prog.info? 5 with
  | none => rw [hi] at h5; cases h5
  | some i =>
    rw [hi] at h5
    simp only [Option.map_some, Option.some.injEq, Prod.mk.injEq] at h5
    obtain ⟨hz, h1, h2⟩ := h5
    have := run_make (P := Tryd.prog) w 26 5 i (.int .u8 0) Tryd.underlying26 hi hz .i64 .i64 (n : Int) (n : Int) (by omega) (by omega) (by rw [h2]; omega) (by omega)
    rw [h1] at this
    rw [show ((n : Int).toNat) = n from by omega, made_u8] at this
    exact this

/-- What the loop of ending holds to. -/
def EN (w : World) (L n k : Nat) (wr : World) : Prop :=
  ∃ bs : List Nat, bs.length = 1 + n + 8 ∧ bs.take (1 + n + k) = 128 :: zs n ++ beTo (L * 8) k ∧
    wr.heap.size = w.heap.size + 1 ∧ wr.heap[w.heap.size]? = some (.cells (u8s bs).toArray 5 (0, 0)) ∧ Below w.heap.size w wr
theorem EN.first (w : World) (L n : Nat) : EN w L n 0 (w.alloc (.cells ((u8s (zs (1 + n + 8))).set 0 (.int .u8 128)).toArray 5)) := by
  refine ⟨(zs (1 + n + 8)).set 0 128, by simp [zs_length], ?_, alloc_size _ _, ?_, (Below.refl _ _).alloc (Nat.le_refl _) _⟩
  · simp only [beTo, List.append_nil, Nat.add_zero, zs]
    rw [show 1 + n + 8 = (n + 8) + 1 by omega, show 1 + n = n + 1 by omega, List.replicate_succ, List.set_cons_zero, List.take_succ_cons, List.take_replicate, Nat.min_eq_left (by omega)]
  · rw [alloc_new _ _ _ rfl]
    simp [u8s, v8, List.map_set]
theorem EN.next {w wr : World} {L n k : Nat} (h : EN w L n k wr) (hk : k < 8) : EN w L n (k + 1) (wr.setCell ⟨w.heap.size, 1 + n + k, none⟩ (.int .u8 ((L * 8 / 2 ^ (8 * (7 - k)) % 256 : Nat) : Int))) := by
  obtain ⟨ws, h1, h3, h4, h7, h8⟩ := h
  refine ⟨ws.set (1 + n + k) (L * 8 / 2 ^ (8 * (7 - k)) % 256), by simpa using h1, ?_, ?_, ?_, h8.setCell (by simp) _⟩
  · rw [← Nat.add_assoc, take_set_succ _ _ _ (by omega), h3, beTo]
    simp
  · simpa [World.setCell] using h4
  · rw [heap_setCell_same _ _ _ _ _ _ h7, u8s_set]

set_option maxHeartbeats 400000 in
theorem ending_any (L : Nat) (w : World) (hL : L < 4294967296) :
    Calls Tryd.prog 25 #[.int .u64 L] w fun e w' => e = .returned (.slice (some ⟨w.heap.size, 0, none⟩) (1 + nought L + 8) (1 + nought L + 8)) ∧
      w'.heap[w.heap.size]? = some (.cells (u8s (endOf L)).toArray 5 (0, 0)) ∧ w'.heap.size = w.heap.size + 1 ∧ Below w.heap.size w w' := by
  have hn : (64 - ((L : Int) + 1 + 8) % 64) % 64 = (nought L : Int) := by unfold nought; omega
  have hn' : -(((L : Int) + 1 + 8) % 64) % 64 = (nought L : Int) := by rw [← hn]; omega
  have hlt : nought L < 64 := by unfold nought; omega
  have HE : Sl (endOf L = 128 :: zs (nought L) ++ beTo (L * 8) 8) := ⟨rfl⟩
  generalize nought L = n at *
  have hmk := make_u8 (1 + (n : Int) + 8) (1 + n + 8) (by omega) (by omega)
  go_enter Tryd.func25, Tryd.ntmps25
  go_wp2
  clear hn hn' hmk
  go_loopw [24] (fun i wr => ∃ k : Nat, k ≤ 8 ∧ i = .int .i64 k ∧ EN w L n k wr) (fun i _ => 8 - (intOf i).toNat)
  case atStart => exact ⟨0, by omega, rfl, EN.first w L n⟩
  case round =>
    obtain ⟨k, hk, rfl, hrel⟩ := hrel
    have HR := Sl.mk hrel
    obtain ⟨bs, h1, h3, h4, h7, h8⟩ := hrel
    by_cases hlt : k < 8
    · have cw := row_cell h7 (1 + n + k) _ (u8s_get bs (1 + n + k) (by omega))
      have fw := frozen_of_row _ _ (1 + n + k) _ _ h7
      clear h1 h3 h4 h7 h8
      go_wp2
      go_roundw
      case rel =>
        have hn := HR.out.next hlt
        have hi : ((L * 8 / 2 ^ (8 * (7 - k)) % 256 : Nat) : Int) = (L : Int) * 8 / 2 ^ (8 * (7 - k)) % 256 := by simp
        rw [hi] at hn
        exact ⟨k + 1, by omega, by go_num, hn⟩
      case measure => simp [intOf]; omega
    · have e : k = 8 := by omega
      have hge : 8 ≤ k := by omega
      have hbs : bs = endOf L := by rw [e] at h3; rw [HE.out, ← h3]; exact (List.take_of_length_le (by omega)).symm
      have H7 : Sl (wr.heap[w.heap.size]? = some (.cells (u8s (endOf L)).toArray 5 (0, 0))) := ⟨by rw [← hbs]; exact h7⟩
      have H4 := Sl.mk h4
      have H8 := Sl.mk h8
      clear e h1 h3 h4 h7 h8 HR hbs
      go_wp2
      go_ret
      exact ⟨rfl, H7.out, H4.out, H8.out⟩
end Go.Proofs.YtmiemklgekhfeaaDoor
