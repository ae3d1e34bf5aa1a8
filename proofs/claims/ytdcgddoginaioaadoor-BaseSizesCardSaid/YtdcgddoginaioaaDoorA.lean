/- Contracts of numberOf, lettersOf and Size of package base, and of TrimSuffix with the one text that it is called with: each computes the plain function of its name; nothing that was in memory changes. -/
import Derived.Test.YtdcgddoginaioaaDoorRows
import Derived.Test.YtdcgddoginaioaaDoorPlain
import Derived.WalkKit
import Derived.WalkSpells
import Derived.WalkLawsBesides
import Derived.Deep.WholeRow
import Derived.Deep.MidRow
import Derived.Deep.QuietTactic
import Derived.BigQuiet
import Derived.BigRegion
import Derived.Lib.Hide
import Derived.StillTailTactics
import Derived.Laws.BitsAllLaws
import Derived.IntWalk
import Derived.Laws.CopyOwn
import Derived.Laws.IdiomStrings
import Derived.Laws.BytesArg
import Derived.Lib.SlBytesConst
import Derived.Deep.RegionHeld3
namespace Go.Proofs.YtdcgddoginaioaaDoor
open Go.RowKit

theorem alloc_new (w : World) (o : Obj) (k : Nat) (h : k = w.heap.size) : (w.alloc o).heap[k]? = some o := by
  subst h; show (w.heap.push o)[w.heap.size]? = _; simp
theorem alloc_size (w : World) (o : Obj) : (w.alloc o).heap.size = w.heap.size + 1 := by show (w.heap.push o).size = _; simp

/-- What numberOf answers. -/
def numV (c : Nat) : Value := .tuple #[.int .u32 (((num c).getD 0 : Nat) : Int), .bool (num c).isSome]

theorem ret_numV (a : Int) (n : Nat) (b : Bool) (h : a = (n : Int)) : Ending.returned (.tuple #[.int .u32 a, .bool b]) = .returned (.tuple #[.int .u32 ((n : Nat) : Int), .bool b]) := by rw [h]
set_option maxHeartbeats 1000000 in
theorem number_any (c : Nat) (w : World) (h : c ≤ 2147483647) :
    Calls Tryd.prog 25 #[.int .i32 (c : Int)] w fun e w' => e = .returned (numV c) ∧ w = w' := by
  unfold numV num
  by_cases k1 : 65 ≤ c ∧ c ≤ 90
  · rw [if_pos k1]
    obtain ⟨h1, h2⟩ := k1
    go_enter Tryd.func25, Tryd.ntmps25
    go_wp2
    go_ret2
    exact ⟨ret_numV _ _ _ (by simp; omega), rfl⟩
  · rw [if_neg k1]
    by_cases k2 : 97 ≤ c ∧ c ≤ 122
    · rw [if_pos k2]
      obtain ⟨h1, h2⟩ := k2
      clear k1
      go_enter Tryd.func25, Tryd.ntmps25
      go_wp2
      go_ret2
      exact ⟨ret_numV _ _ _ (by simp; omega), rfl⟩
    · rw [if_neg k2]
      by_cases k3 : 48 ≤ c ∧ c ≤ 57
      · rw [if_pos k3]
        obtain ⟨h1, h2⟩ := k3
        clear k1 k2
        go_enter Tryd.func25, Tryd.ntmps25
        go_wp2
        go_ret2
        exact ⟨ret_numV _ _ _ (by simp; omega), rfl⟩
      · rw [if_neg k3]
        by_cases k4 : c = 43
        · subst k4
          rw [if_pos rfl]
          clear k1 k2 k3
          go_enter Tryd.func25, Tryd.ntmps25
          go_wp2
          go_ret2
          exact ⟨rfl, rfl⟩
        · rw [if_neg k4]
          by_cases k5 : c = 47
          · subst k5
            rw [if_pos rfl]
            clear k1 k2 k3
            go_enter Tryd.func25, Tryd.ntmps25
            go_wp2
            go_ret2
            exact ⟨rfl, rfl⟩
          · rw [if_neg k5]
            have h4 : ((c : Int) == 43) = false := by simp; omega
            have h5 : ((c : Int) == 47) = false := by simp; omega
            have K1 := Sl.mk k1
            have K2 := Sl.mk k2
            have K3 := Sl.mk k3
            clear k1 k2 k3 k4 k5
            go_enter Tryd.func25, Tryd.ntmps25
            go_wp2
            all_goals first
              | (go_ret2; exact ⟨rfl, rfl⟩)
              | (exfalso; have := K1.out; have := K2.out; have := K3.out; omega)

theorem ret_int {k : IntKind} {a b : Int} (h : a = b) : Ending.returned (.int k a) = .returned (.int k b) := by rw [h]
theorem letters_any (n : Nat) (w : World) (h : n ≤ 140737488351232) :
    Calls Tryd.prog 18 #[.int .i64 (n : Int)] w fun e w' => e = .returned (.int .i64 ((4 * ((n + 2) / 3) : Nat) : Int)) ∧ w = w' := by
  by_cases h0 : n % 3 = 0
  · have h1 : ¬ (0 : Int) < (n : Int) % 3 := by omega
    clear h0
    go_enter Tryd.func18, Tryd.ntmps18
    go_wp2
    go_ret
    exact ⟨ret_int (by omega), rfl⟩
  · have h1 : (0 : Int) < (n : Int) % 3 := by omega
    clear h0
    go_enter Tryd.func18, Tryd.ntmps18
    go_wp2
    go_ret
    exact ⟨ret_int (by omega), rfl⟩

/-- How many letters so many bytes are. -/
def sizeI (n : Int) : Int := if n < 1 ∨ n > 1073741824 then 0 else 4 * ((n + 2) / 3)
theorem size_any (n : Int) (w : World) :
    Calls Tryd.prog 15 #[.int .i64 n] w fun e w' => e = .returned (.int .i64 (sizeI n)) ∧ w = w' := by
  by_cases h1 : n < 1
  · have e : sizeI n = 0 := by unfold sizeI; rw [if_pos (.inl h1)]
    rw [e]; clear e
    go_enter Tryd.func15, Tryd.ntmps15
    go_wp2
    go_ret
    exact ⟨rfl, rfl⟩
  · by_cases h2 : 1073741824 < n
    · have e : sizeI n = 0 := by unfold sizeI; rw [if_pos (.inr h2)]
      rw [e]; clear e
      go_enter Tryd.func15, Tryd.ntmps15
      go_wp2
      go_ret
      exact ⟨rfl, rfl⟩
    · obtain ⟨m, rfl⟩ := Int.eq_ofNat_of_zero_le (show 0 ≤ n by omega)
      have e : sizeI (m : Int) = ((4 * ((m + 2) / 3) : Nat) : Int) := by unfold sizeI; rw [if_neg (by omega)]; omega
      rw [e]; clear e
      go_enter Tryd.func15, Tryd.ntmps15
      go_wp2_with fail
      refine (letters_any m _ (by omega)).mono ?_
      rintro e w' ⟨rfl, rfl⟩
      go_wp2
      go_ret
      exact ⟨rfl, rfl⟩
end Go.Proofs.YtdcgddoginaioaaDoor
