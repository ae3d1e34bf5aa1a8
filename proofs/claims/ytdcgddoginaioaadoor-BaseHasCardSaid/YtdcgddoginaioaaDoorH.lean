/- The document's answer, bits as lists: the contract of number. -/
import Derived.Test.YtdcgddoginaioaaDoorG
namespace Go.Proofs.YtdcgddoginaioaaDoor
open Go.RowKit

/-- The letters as the document's package holds them. -/
def lettersS : ByteArray := { data := #[65, 66, 67, 68, 69, 70, 71, 72, 73, 74, 75, 76, 77, 78, 79, 80, 81, 82, 83, 84, 85, 86, 87, 88, 89, 90, 97, 98, 99, 100, 101, 102, 103, 104, 105, 106, 107, 108, 109, 110, 111, 112, 113, 114, 115, 116, 117, 118, 119, 120, 121, 122, 48, 49, 50, 51, 52, 53, 54, 55, 56, 57, 43, 47] }
theorem bytes_letters : bytes lettersS = table := by decide
theorem letters_at (k : Nat) (hk : k < 64) : (lettersS.data[k]'hk).toNat = letter k := by
  have h := bytes_getD lettersS k hk
  rw [bytes_letters] at h
  rw [← h]
  simp [table, List.getD, hk]

/-- What number answers. -/
def numI (c : Nat) : Int := match num c with | none => -1 | some n => (n : Int)

set_option maxHeartbeats 1000000 in
theorem ref_number (c : Nat) (w : World) :
    Calls Tryd.prog 23 #[.int .u8 (c : Int)] w fun e w' => e = .returned (.int .i64 (numI c)) ∧ w = w' := by
  go_enter Tryd.func23, Tryd.ntmps23
  go_wp2
  go_loop [3] (fun i => ∃ k : Nat, k ≤ 64 ∧ i = .int .i64 k ∧ ∀ j, j < k → letter j ≠ c) (fun i => 64 - (intOf i).toNat)
  case atStart => exact ⟨0, by omega, rfl, fun j hj => by omega⟩
  case round =>
    obtain ⟨k, hk, rfl, hrel⟩ := hrel
    have HR := Sl.mk hrel
    clear hrel
    by_cases hlt : k < 64
    · have hl : (lettersS[k]'hlt).toNat = letter k := letters_at k hlt
      unfold lettersS at hl
      by_cases he : letter k = c
      · have hq : (((letter k : Nat) : Int) == (c : Int)) = true := by rw [he]; simp
        have HN : Sl (numI c = (k : Int)) := ⟨by unfold numI; rw [← he, num_letter k hlt]⟩
        clear he
        go_wp2
        go_ret
        exact ⟨by rw [HN.out]; rfl, rfl⟩
      · have hq : (((letter k : Nat) : Int) == (c : Int)) = false := by simp; omega
        have HE := Sl.mk he
        clear he
        go_wp2
        go_round
        case rel => exact ⟨k + 1, by omega, by go_num, fun j hj => by
          by_cases e : j = k
          · subst e; exact HE.out
          · exact HR.out j (by omega)⟩
        case measure => simp [intOf]; omega
    · have hge : ¬ (k : Int) < 64 := by omega
      have HN : Sl (numI c = -1) := ⟨by
        unfold numI
        cases h : num c with
        | none => rfl
        | some n =>
          have := num_some h
          exact absurd this.2 (HR.out n (by omega))⟩
      go_wp2
      go_ret
      exact ⟨by rw [HN.out]; rfl, rfl⟩
end Go.Proofs.YtdcgddoginaioaaDoor
