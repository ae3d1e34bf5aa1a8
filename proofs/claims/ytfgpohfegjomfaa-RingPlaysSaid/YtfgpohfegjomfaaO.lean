/- The document's answers for the ring: Put, Peek, Rest. -/
import Derived.Test.YtfgpohfegjomfaaK
namespace Go.Proofs.Ytfgpohfegjomfaa
open Go.RowKit

set_option maxHeartbeats 400000 in
theorem refput_any (s b : ByteArray) (most : Nat) (m : Nat) (w : World) (hs : s.size ≤ most) (hm : most ≤ 65536) (hb : b.size ≤ 65536) (hmm : m = min b.size (most - s.size)) :
    Calls Try.prog 11 #[.string s, .string b, .int .i64 most] w fun e w' => e = .returned (.tuple #[.string (s ++ b.extract 0 m), .int .i64 m]) ∧ w = w' := by
  have h1 : m ≤ b.size := by omega
  have h2 : s.size + m ≤ most := by omega
  have H3 : Sl (m = b.size ∨ s.size + m = most) := ⟨by omega⟩
  clear hmm
  go_enter Try.func11, Try.ntmps11
  go_wp2
  go_loop [8] (fun i => ∃ k : Nat, k ≤ m ∧ i = .int .i64 k) (fun i => m - (intOf i).toNat)
  case atStart => exact ⟨0, Nat.zero_le _, rfl⟩
  case round =>
    obtain ⟨k, hk, rfl⟩ := hrel
    by_cases hlt : k < m
    · have t1 : (k : Int) < (b.size : Int) := by omega
      have t2 : (s.size : Int) + (k : Int) < (most : Int) := by omega
      go_wp2
      go_round
      case rel => exact ⟨k + 1, by omega, by go_num⟩
      case measure => simp [intOf]; omega
    · obtain rfl : k = m := by omega
      by_cases c1 : k = b.size
      · have t1 : ¬ (k : Int) < (b.size : Int) := by omega
        go_wp2
        go_ret2
        exact ⟨rfl, rfl⟩
      · have t1 : (k : Int) < (b.size : Int) := by omega
        have t2 : ¬ (s.size : Int) + (k : Int) < (most : Int) := by have := H3.out; omega
        go_wp2
        go_ret2
        exact ⟨rfl, rfl⟩

theorem refpeek_any (s : ByteArray) (z : Int) (w : World) (hs : s.size ≤ 65536) :
    Calls Try.prog 14 #[.string s, .int .i64 z] w fun e w' => e = .returned (.string (s.extract 0 z.toNat)) ∧ w = w' := by
  have e1 : z < 0 → Sl (s.extract 0 z.toNat = ByteArray.empty) := fun h => ⟨by
    have : z.toNat = 0 := by omega
    rw [this]; apply ByteArray.ext; simp⟩
  have e2 : (s.size : Int) < z → Sl (s.extract 0 z.toNat = s) := fun h => ⟨by
    apply ByteArray.ext
    rw [ByteArray.data_extract]
    have : s.data.size = s.size := rfl
    simp; omega⟩
  by_cases h1 : z < 0
  · have E := e1 h1
    clear e1 e2
    go_enter Try.func14, Try.ntmps14
    go_wp2
    go_ret
    exact ⟨by rw [E.out]; rfl, rfl⟩
  · by_cases h2 : (s.size : Int) < z
    · have E := e2 h2
      clear e1 e2
      go_enter Try.func14, Try.ntmps14
      go_wp2
      go_ret
      exact ⟨by rw [E.out]; rfl, rfl⟩
    · obtain ⟨k, rfl⟩ := Int.eq_ofNat_of_zero_le (by omega : 0 ≤ z)
      have h3 : k ≤ s.size := by omega
      clear e1 e2
      go_enter Try.func14, Try.ntmps14
      go_wp2
      go_ret
      exact ⟨rfl, rfl⟩

theorem extract_all (s : ByteArray) : s.extract 0 s.size = s := by
  apply ByteArray.ext
  rw [ByteArray.data_extract]
  have : s.data.size = s.size := rfl
  simp [this]
/-- What Rest answers: the string of the bytes r, in the same world. -/
def RS (w : World) (r : List Nat) (e : Ending) (w' : World) : Prop := ∃ t, e = .returned (.string t) ∧ bytes t = r ∧ w = w'
set_option maxHeartbeats 400000 in
theorem refrest_any (s : ByteArray) (z : Int) (w : World) (hs : s.size ≤ 65536) (hz : z ≤ 9223372036854775807) (hz0 : -9223372036854775808 ≤ z) :
    Calls Try.prog 15 #[.string s, .int .i64 z] w (RS w ((bytes s).drop z.toNat)) := by
  obtain ⟨s0, hs0⟩ : ∃ s0, s0 = s := ⟨_, rfl⟩
  obtain ⟨z0, hz0'⟩ : ∃ z0, z0 = z := ⟨_, rfl⟩
  have HD : Sl ((bytes s).drop z.toNat = (bytes s0).drop z0.toNat) := ⟨by rw [hs0, hz0']⟩
  clear hs0 hz0'
  rw [HD.out]
  go_enter Try.func15, Try.ntmps15
  go_wp2
  go_loop [0, 1] (fun a b => ∃ (t : ByteArray) (y : Int), a = .string t ∧ b = .int .i64 y ∧ t.size ≤ 65536 ∧ -9223372036854775808 ≤ y ∧ y ≤ 9223372036854775807 ∧ Sl ((bytes t).drop y.toNat = (bytes s0).drop z0.toNat)) (fun _ b => (intOf b).toNat)
  case atStart => exact ⟨s, z, rfl, rfl, hs, hz0, hz, HD⟩
  case round =>
    obtain ⟨t, y, rfl, rfl, ht, hy1, hy2, HT⟩ := hrel
    by_cases h1 : 0 < y
    · by_cases h2 : t.toList = []
      · have h2' : (t.toList == []) = true := by rw [h2]; rfl
        have h3 : (!t.toList.isEmpty) = false := by rw [h2]; rfl
        have hfin : Sl (bytes t = (bytes s0).drop z0.toNat) := ⟨by
          rw [← HT.out, toList_bytes, h2]; simp⟩
        go_wp2
        go_ret
        exact ⟨t, rfl, hfin.out, rfl⟩
      · have h2' : (t.toList == []) = false := by simpa using h2
        have h3 : (!t.toList.isEmpty) = true := by simpa using h2
        have h4 : 0 < t.size := by
          rcases Nat.eq_zero_or_pos t.size with h0 | h0
          · exact absurd (by rw [ByteArray.size_eq_zero_iff.1 h0, ByteArray.toList_eq]; rfl) h2
          · exact h0
        have h5 : (1 : Int) ≤ (t.size : Int) := by omega
        have HT2 : Sl ((bytes (t.extract 1 t.size)).drop (y - 1).toNat = (bytes s0).drop z0.toNat) := ⟨by
          rw [← HT.out, bytes_extract, List.take_of_length_le (by rw [bytes_length]; exact Nat.le_refl _), List.drop_drop]
          congr 1
          omega⟩
        clear h2
        go_wp2
        go_round
        case rel => exact ⟨t.extract 1 t.size, y - 1, rfl, by go_num, by rw [ByteArray.size_extract]; omega, by omega, by omega, HT2⟩
        case measure => simp [intOf]; omega
    · have h6 : Sl (bytes t = (bytes s0).drop z0.toNat) := ⟨by
        rw [← HT.out, show y.toNat = 0 from by omega, List.drop_zero]⟩
      go_wp2
      go_ret
      exact ⟨t, rfl, h6.out, rfl⟩
end Go.Proofs.Ytfgpohfegjomfaa
