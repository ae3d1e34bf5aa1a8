/- The contract of the document's Put: a letter's bytes; nothing that was in memory changes. -/
import Derived.Test.YtlkfkglcefhbgaaDoorJ
namespace Go.Proofs.YtlkfkglcefhbgaaDoor
open Go.RowKit

/-- The string of a new row of bytes. -/
theorem conv_new (W : World) (l : List Nat) (vs : Array Value) (hv : vs = (u8s l).toArray) (n : Nat) (hn : l.length = n) :
    (convert 28 9 (.slice (some ⟨W.heap.size, 0, none⟩) n n)).run Tryd.prog (W.alloc (.cells vs 5)) = .ok (.string (strOf l)) (W.alloc (.cells vs 5)) := by
  subst hn
  refine run_convert_bytes_arg _ 28 5 Tryd.underlying28 Tryd.underlying5 W.heap.size 0 l.length l.length (l.map fun (n : Nat) => (n : Int)) (by simp) (fun i hi => ?_) 9 Tryd.underlying9
  have hi' : i < l.length := by simpa using hi
  rw [Nat.zero_add, cell_of_row _ _ _ _ _ _ (alloc_new _ _ _ rfl), hv, List.getElem?_toArray, u8s_get l i hi']
  simp [List.getD, List.getElem?_eq_getElem hi']

theorem put_no (n : Int) (w : World) (h : putL n = none) :
    Calls Tryd.prog 18 #[.int .i64 n] w fun e w' => e = .returned (.tuple #[.string ByteArray.empty, .bool false]) ∧ Below w.heap.size w w' := by
  have hn : n < 0 ∨ n > 1114111 ∨ (55296 ≤ n ∧ n ≤ 57343) := by
    by_cases q : n < 0 ∨ n > 1114111 ∨ (55296 ≤ n ∧ n ≤ 57343)
    · exact q
    · unfold putL at h
      rw [if_neg q] at h
      repeat' split at h
      all_goals cases h
  clear h
  rcases hn with h | h | h
  · go_enter Tryd.func18, Tryd.ntmps18
    go_wp2
    go_ret2
    exact ⟨rfl, Below.refl _ _⟩
  · have h0 : ¬ n < 0 := by omega
    go_enter Tryd.func18, Tryd.ntmps18
    go_wp2
    go_ret2
    exact ⟨rfl, Below.refl _ _⟩
  · have h0 : ¬ n < 0 := by omega
    have h1 : ¬ 1114111 < n := by omega
    obtain ⟨h2, h3⟩ := h
    go_enter Tryd.func18, Tryd.ntmps18
    go_wp2
    go_ret2
    exact ⟨rfl, Below.refl _ _⟩
set_option maxHeartbeats 400000 in
set_option maxRecDepth 1000000 in
theorem put_1 (m : Nat) (w : World) (h : m < 128) :
    Calls Tryd.prog 18 #[.int .i64 (m : Int)] w fun e w' => e = .returned (.tuple #[.string (strOf [m]), .bool true]) ∧ Below w.heap.size w w' := by
  have hcv := fun W => conv_new W [m] #[.int .u8 m] rfl 1 rfl
  go_enter Tryd.func18, Tryd.ntmps18
  go_wp2
  go_ret2
  exact ⟨rfl, (Below.refl _ _).alloc (Nat.le_refl _) _⟩
set_option maxHeartbeats 1000000 in
set_option maxRecDepth 1000000 in
theorem put_2 (m q r : Nat) (w : World) (h1 : 128 ≤ m) (h2 : m < 2048) (hq : (m : Int) / 64 = q) (hr : (m : Int) % 64 = r) (bq : q < 32) (_br : r < 64) :
    Calls Tryd.prog 18 #[.int .i64 (m : Int)] w fun e w' => e = .returned (.tuple #[.string (strOf [192 + q, 128 + r]), .bool true]) ∧ Below w.heap.size w w' := by
  have hcv := fun W => conv_new W [192 + q, 128 + r] #[.int .u8 (192 + (q : Int)), .int .u8 (128 + (r : Int))] (by simp [u8s, v8]) 2 rfl
  go_enter Tryd.func18, Tryd.ntmps18
  go_wp2
  go_ret2
  exact ⟨rfl, (Below.refl _ _).alloc (Nat.le_refl _) _⟩
set_option maxHeartbeats 1000000 in
set_option maxRecDepth 1000000 in
theorem put_3 (m p q q2 r : Nat) (w : World) (h1 : 2048 ≤ m) (h2 : m < 65536) (h3 : m < 55296 ∨ 57343 < m) (hp : (m : Int) / 4096 = p) (hq : (m : Int) / 64 = q) (hq2 : (q : Int) % 64 = q2) (hr : (m : Int) % 64 = r) (bp : p < 16) (_bq : q2 < 64) (_br : r < 64) :
    Calls Tryd.prog 18 #[.int .i64 (m : Int)] w fun e w' => e = .returned (.tuple #[.string (strOf [224 + p, 128 + q2, 128 + r]), .bool true]) ∧ Below w.heap.size w w' := by
  have hcv := fun W => conv_new W [224 + p, 128 + q2, 128 + r] #[.int .u8 (224 + (p : Int)), .int .u8 (128 + (q2 : Int)), .int .u8 (128 + (r : Int))] (by simp [u8s, v8]) 3 rfl
  rcases h3 with h3 | h3
  · go_enter Tryd.func18, Tryd.ntmps18
    go_wp2
    go_ret2
    exact ⟨rfl, (Below.refl _ _).alloc (Nat.le_refl _) _⟩
  · go_enter Tryd.func18, Tryd.ntmps18
    go_wp2
    go_ret2
    exact ⟨rfl, (Below.refl _ _).alloc (Nat.le_refl _) _⟩
set_option maxHeartbeats 1000000 in
set_option maxRecDepth 1000000 in
theorem put_4 (m o p p2 q q2 r : Nat) (w : World) (h1 : 65536 ≤ m) (h2 : m ≤ 1114111) (ho : (m : Int) / 262144 = o) (hp : (m : Int) / 4096 = p) (hp2 : (p : Int) % 64 = p2) (hq : (m : Int) / 64 = q) (hq2 : (q : Int) % 64 = q2) (hr : (m : Int) % 64 = r) (bo : o < 8) (_bp : p2 < 64) (_bq : q2 < 64) (_br : r < 64) :
    Calls Tryd.prog 18 #[.int .i64 (m : Int)] w fun e w' => e = .returned (.tuple #[.string (strOf [240 + o, 128 + p2, 128 + q2, 128 + r]), .bool true]) ∧ Below w.heap.size w w' := by
  have hcv := fun W => conv_new W [240 + o, 128 + p2, 128 + q2, 128 + r] #[.int .u8 (240 + (o : Int)), .int .u8 (128 + (p2 : Int)), .int .u8 (128 + (q2 : Int)), .int .u8 (128 + (r : Int))] (by simp [u8s, v8]) 4 rfl
  go_enter Tryd.func18, Tryd.ntmps18
  go_wp2
  go_ret2
  exact ⟨rfl, (Below.refl _ _).alloc (Nat.le_refl _) _⟩
theorem put_yes (n : Int) (l : List Nat) (w : World) (h : putL n = some l) :
    Calls Tryd.prog 18 #[.int .i64 n] w fun e w' => e = .returned (.tuple #[.string (strOf l), .bool true]) ∧ Below w.heap.size w w' := by
  by_cases hn : n < 0
  · unfold putL at h; rw [if_pos (.inl hn)] at h; cases h
  · obtain ⟨m, rfl⟩ := Int.eq_ofNat_of_zero_le (show 0 ≤ n by omega)
    by_cases k0 : 1114111 < m ∨ (55296 ≤ m ∧ m ≤ 57343)
    · rw [put_none m k0] at h; cases h
    · by_cases k1 : m < 128
      · rw [put1 m k1] at h; injection h with h; subst h
        exact put_1 m w k1
      · by_cases k2 : m < 2048
        · rw [put2 m (by omega) k2] at h; injection h with h; subst h
          exact put_2 m (m / 64) (m % 64) w (by omega) k2 (by omega) (by omega) (by omega) (by omega)
        · by_cases k3 : m < 65536
          · rw [put3 m (by omega) k3 (by omega)] at h; injection h with h; subst h
            exact put_3 m (m / 4096) (m / 64) (m / 64 % 64) (m % 64) w (by omega) k3 (by omega) (by omega) (by omega) (by omega) (by omega) (by omega) (by omega) (by omega)
          · rw [put4 m (by omega) (by omega)] at h; injection h with h; subst h
            exact put_4 m (m / 262144) (m / 4096) (m / 4096 % 64) (m / 64) (m / 64 % 64) (m % 64) w (by omega) (by omega) (by omega) (by omega) (by omega) (by omega) (by omega) (by omega) (by omega) (by omega) (by omega) (by omega)
end Go.Proofs.YtlkfkglcefhbgaaDoor
