/- mask: numberBytes and number. -/
import Derived.Test.YtleekkjaoccjlaaDoorHeld
import Derived.Test.YtleekkjaoccjlaaDoorPlain
set_option maxRecDepth 100000
namespace Go.Proofs.YtleekkjaoccjlaaDoor
open Go.RowKit MaskPlain

theorem u8s_set (ws : List Nat) (k x : Nat) : (u8s ws).toArray.setIfInBounds k (.int .u8 (x : Int)) = (u8s (ws.set k x)).toArray := by
  simp [u8s, v8, List.map_set]
theorem RowB.set {w : World} {g : Nat} {bs : List Nat} (h : RowB w g bs) (i x : Nat) : RowB (w.setCell ⟨g, i, none⟩ (.int .u8 (x : Int))) g (bs.set i x) := by
  unfold RowB
  rw [heap_setCell_same _ _ _ _ _ _ h, u8s_set]
theorem RowB.cell {w : World} {g : Nat} {bs : List Nat} (h : RowB w g bs) (i : Nat) (hi : i < bs.length) : w.cell? ⟨g, i, none⟩ = some (.int .u8 ((bs.getD i 0 : Nat) : Int)) := by
  rw [cell_of_row _ _ _ _ _ _ h, List.getElem?_toArray]; exact u8s_get bs i hi
theorem RowB.froz {w : World} {g : Nat} {bs : List Nat} (h : RowB w g bs) (i : Nat) : w.frozen? ⟨g, i, none⟩ = false := frozen_of_row _ _ _ _ _ h
theorem rowB_new (w : World) (bs : List Nat) : RowB (w.alloc (.cells (u8s bs).toArray 5)) w.heap.size bs := alloc_new _ _ _ rfl

/-- Bits that lie apart. -/
theorem or_join (x y i : Nat) (hx : x % 2 ^ i = 0) (hy : y < 2 ^ i) (hb : x + y < 18446744073709551616) : bits .or .u64 (x : Int) (y : Int) = ((x + y : Nat) : Int) := by
  rw [u64_or_nat x y (by omega) (by omega), nat_join i x y hx hy]

set_option maxHeartbeats 2000000 in
theorem nb_any (N s : Nat) (w : World) (hs : s ≤ 8) :
    Calls Tryd.prog 18 #[.int .u64 N, .int .i64 s] w fun e w' => e = .returned (.slice (some ⟨w.heap.size, 0, none⟩) s s) ∧ Sl (RowB w' w.heap.size (be N s)) ∧ Sl (Below w.heap.size w w') := by
  obtain ⟨g, hg⟩ : ∃ g, w.heap.size = g := ⟨_, rfl⟩
  have hmake := make_u8 s s rfl (by omega) w
  rw [hg] at hmake ⊢
  obtain ⟨w1, hw1⟩ : ∃ w1, w.alloc (.cells (u8s (zs s)).toArray 5) = w1 := ⟨_, rfl⟩
  have HR1 : Sl (RowB w1 g (beTo N s 0)) := ⟨by rw [beTo_zero, ← hw1, ← hg]; exact rowB_new w _⟩
  have HB1 : Sl (Below g w w1) := ⟨by rw [← hw1, ← hg]; exact (Below.refl _ _).alloc (Nat.le_refl _) _⟩
  rw [hw1] at hmake
  clear hw1 hg
  go_enter Tryd.func18, Tryd.ntmps18
  go_wp2
  go_loopw [10] (fun i wr => ∃ k : Nat, k ≤ s ∧ i = .int .i64 k ∧ Sl (RowB wr g (beTo N s k)) ∧ Sl (Below g w wr)) (fun i _ => s - (intOf i).toNat)
  case atStart => exact ⟨0, Nat.zero_le _, rfl, HR1, HB1⟩
  case round =>
    obtain ⟨k, hk, rfl, HR, HB⟩ := hrel
    by_cases hlt : k < s
    · have cw := HR.out.cell k (by rw [beTo_length _ _ _ hk]; exact hlt)
      have fw := HR.out.froz k
      have k0 : (0 : Int) ≤ (k : Int) := by omega
      have k1 : (k : Int) < (s : Int) := by omega
      go_wp2
      rw [show (N : Int) / 2 ^ (8 * (s - 1 - k)) % 256 = ((N / 2 ^ (8 * (s - 1 - k)) % 256 : Nat) : Int) by simp]
      exact ⟨⟨k + 1, by omega, by go_num, ⟨by rw [← beTo_step N s k hlt]; exact HR.out.set k _⟩, ⟨HB.out.setCell (p := ⟨g, k, none⟩) (by have := HB.out.size; have := HR.out.lt; first | omega | exact Nat.le_refl _) _⟩⟩, by simp [intOf]; omega⟩
    · have hge : ((k : Int) < (s : Int)) = False := eq_false (by omega)
      obtain rfl : k = s := by omega
      rw [beTo_all] at HR
      go_wp2
      go_ret
      exact ⟨rfl, HR, HB⟩

set_option maxHeartbeats 2000000 in
theorem number_any (v : Value) (bs : List Nat) (w : World) (hv : SrcAt w v bs) (hsm : Small 256 bs) (hl : bs.length ≤ 8) :
    Calls Tryd.prog 21 #[v] w fun e w' => e = .returned (.int .u64 ((val bs : Nat) : Int)) ∧ w = w' := by
  obtain ⟨a, cap, sb, so, rfl, hcap, ha, hc⟩ := hv
  obtain ⟨n, hn⟩ : ∃ n, bs.length = n := ⟨_, rfl⟩
  have HN := Sl.mk hn
  rw [hn] at hcap ha hl ⊢
  have HC : Sl (∀ i, i < n → w.cell? ⟨sb, so + i, none⟩ = some (.int .u8 ((bs.getD i 0 : Nat) : Int))) := ⟨by rw [← hn]; exact hc⟩
  have HSM := Sl.mk hsm
  clear hc hn hsm
  go_enter Tryd.func21, Tryd.ntmps21
  go_wp2
  go_loopw [3, 7] (fun u i wr => ∃ k : Nat, k ≤ n ∧ u = .int .u64 ((val (bs.take k) : Nat) : Int) ∧ i = .int .i64 k ∧ w = wr) (fun _ i _ => n - (intOf i).toNat)
  case atStart => exact ⟨0, Nat.zero_le _, rfl, rfl, rfl⟩
  case round =>
    obtain ⟨k, hk, rfl, rfl, rfl⟩ := hrel
    by_cases hlt : k < n
    · have cw := HC.out k hlt
      obtain rfl := ha (by omega)
      have hs := HN.out
      have HS : Sl (val (bs.take (k + 1)) = 256 * val (bs.take k) + bs.getD k 0) := ⟨val_take bs k (by omega)⟩
      have hlt1 := val_lt (bs.take k) (HSM.out.take k)
      rw [List.length_take, Nat.min_eq_left (by omega)] at hlt1
      have hp : 256 ^ k ≤ 256 ^ 7 := Nat.pow_le_pow_right (by omega) (by omega)
      have hc256 : bs.getD k 0 < 256 := HSM.out.getD (by omega) k
      obtain ⟨c, hcc⟩ : ∃ c, bs.getD k 0 = c := ⟨_, rfl⟩
      obtain ⟨m, hm⟩ : ∃ m, val (bs.take k) = m := ⟨_, rfl⟩
      rw [hm] at hlt1
      rw [hcc] at cw hc256
      rw [hcc, hm] at HS
      have hm2 : m < 72057594037927936 := by omega
      clear hlt1 hp hs
      have k0 : (0 : Int) ≤ (k : Int) := by omega
      have k1 : (k : Int) < (n : Int) := by omega
      rw [hm]
      clear hm hcc
      go_wp2
      refine ⟨⟨k + 1, by omega, ?_, by go_num, trivial⟩, by simp [intOf]; omega⟩
      rw [show (m : Int) * 256 = ((m * 256 : Nat) : Int) by simp, or_join (m * 256) c 8 (by omega) hc256 (by omega), HS.out, Nat.mul_comm]
    · have hge : ((k : Int) < (n : Int)) = False := eq_false (by omega)
      obtain rfl : k = n := by omega
      have hv : bs.take k = bs := List.take_of_length_le (by rw [HN.out]; exact Nat.le_refl _)
      rw [hv]
      go_wp2
      go_ret
      exact ⟨rfl, rfl⟩
end Go.Proofs.YtleekkjaoccjlaaDoor
