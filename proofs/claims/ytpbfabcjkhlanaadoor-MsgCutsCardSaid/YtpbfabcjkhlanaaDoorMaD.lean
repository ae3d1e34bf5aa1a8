/- mask: the document's Put. -/
import Derived.Test.YtpbfabcjkhlanaaDoorMaC
import Derived.Deep.DeepCutAuto
set_option maxRecDepth 100000
namespace Go.Proofs.YtpbfabcjkhlanaaDoor.Mas
open Go.RowKit MaskPlain

/-- What the document's digits holds to, i bytes on. -/
def DG (n size : Nat) (m i : Nat) (s : ByteArray) : Prop := be n size = be m (size - i) ++ bytes s
theorem DG.next {n size m i : Nat} {s : ByteArray} (h : DG n size m i s) (hi : i < size) : DG n size (m / 256) (i + 1) (strOf [m % 256] ++ s) := by
  unfold DG at *
  rw [h, show size - i = (size - (i + 1)) + 1 by omega, be, bytes_append, strOf_one _ (Nat.mod_lt _ (by decide)), List.append_assoc]
theorem DG.size {n size m i : Nat} {s : ByteArray} (h : DG n size m i s) (hi : i ≤ size) : s.size = i := by
  unfold DG at h
  have h2 := congrArg List.length h
  rw [be_length, List.length_append, be_length, bytes_length] at h2
  omega
theorem DG.fin {n size m : Nat} {s : ByteArray} (h : DG n size m size s) : s = strOf (be n size) := by
  unfold DG at h
  rw [Nat.sub_self] at h
  rw [h]
  exact (strOf_bytes s).symm

/-- What the document's Put answers. -/
theorem put_low (n : Nat) (h : n < 126) : putL n = some [n] := by unfold putL; rw [if_neg (by omega), if_pos h]
theorem put_mid (n : Nat) (h : ¬ n < 126) (h2 : n ≤ 65535) : putL n = some (126 :: be n 2) := by unfold putL; rw [if_neg (by omega), if_neg h, if_pos h2]
theorem put_high (n : Nat) (h2 : ¬ n ≤ 65535) (h3 : n ≤ 9223372036854775807) : putL n = some (127 :: be n 8) := by unfold putL; rw [if_neg (by omega), if_neg (by omega), if_neg h2]
end Go.Proofs.YtpbfabcjkhlanaaDoor.Mas
/- mask: the document's Apply. -/
set_option maxRecDepth 100000
namespace Go.Proofs.YtpbfabcjkhlanaaDoor.Mas
open Go.RowKit MaskPlain

theorem rest4_pos {at' r : Int} (h : at'.tmod 4 = r) (h0 : ¬ r < 0) : ((rest4 at' : Nat) : Int) = r := by
  subst h
  unfold rest4
  by_cases hp : 0 ≤ at'
  · rw [Int.tmod_eq_emod_of_nonneg hp]; omega
  · obtain ⟨m, rfl⟩ : ∃ m, at' = -m := ⟨-at', by omega⟩
    rw [Int.neg_tmod, Int.tmod_eq_emod_of_nonneg (by omega)] at h0 ⊢
    omega
theorem rest4_neg {at' r : Int} (h : at'.tmod 4 = r) (h0 : r < 0) : ((rest4 at' : Nat) : Int) = r + 4 ∧ -4 < r := by
  subst h
  unfold rest4
  by_cases hp : 0 ≤ at'
  · rw [Int.tmod_eq_emod_of_nonneg hp] at h0; omega
  · obtain ⟨m, rfl⟩ : ∃ m, at' = -m := ⟨-at', by omega⟩
    rw [Int.neg_tmod, Int.tmod_eq_emod_of_nonneg (by omega)] at h0 ⊢
    omega

end Go.Proofs.YtpbfabcjkhlanaaDoor.Mas
/- mask: MaskTurns' walk. -/
set_option maxRecDepth 100000
namespace Go.Proofs.YtpbfabcjkhlanaaDoor.Mas
open Go.RowKit MaskPlain

end Go.Proofs.YtpbfabcjkhlanaaDoor.Mas
/- mask: MaskCuts' walk. -/
set_option maxRecDepth 100000
namespace Go.Proofs.YtpbfabcjkhlanaaDoor.Mas
open Go.RowKit MaskPlain

theorem rest4_add (key : List Nat) (n m : Nat) (l : List Nat) : turn key (rest4 ((n : Int) + (m : Int))) l = turn key (rest4 (n : Int) + m) l :=
  turn_same key (by unfold rest4; omega) l
theorem cut_str (key : List Nat) (K : Nat) (a b : ByteArray) (hks : Small 256 key) : strOf (turn key K (bytes (a ++ b))) = strOf (turn key K (bytes a)) ++ strOf (turn key (K + a.size) (bytes b)) := by
  have hk := fun i => hks.getD (by omega) i
  refine bytes_inj ?_
  rw [bytes_append (strOf (turn key K (bytes a))), bytes_strOf _ (turn_lt key K _ (bytes_small a) hk), bytes_strOf _ (turn_lt key (K + a.size) _ (bytes_small b) hk), bytes_strOf _ (turn_lt key K _ (bytes_small (a ++ b)) hk), bytes_append, turn_append, bytes_length]
end Go.Proofs.YtpbfabcjkhlanaaDoor.Mas
