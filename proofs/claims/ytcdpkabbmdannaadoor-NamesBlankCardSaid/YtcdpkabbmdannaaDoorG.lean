/- The pieces of a text between its commas, as strings: where the first comma stands; the function that the library ranges over, told piece by piece. -/
import Derived.Test.YtcdpkabbmdannaaDoorC
import Derived.Test.YtcdpkabbmdannaaDoorNamesPlain
import Derived.Test.YtcdpkabbmdannaaDoorFlow
import Derived.Test.YtcdpkabbmdannaaDoorStrsOwn
import Derived.RangeFuncBound
import Derived.Shelf.RegionOpen
import Derived.WalkKit
import Derived.OwnWalkIn
import Derived.TacticsInMore
import Derived.LoopNIn
import Derived.LoopIn
namespace Go.Proofs.YtcdpkabbmdannaaDoor
open Go.RowKit Go.Shelf HeadPlain Flow

theorem indexByte_pos (c : UInt8) (l : List UInt8) : Lib.indexByte l c = pos (HeadPlain.fst c.toNat (toN l)) := by
  induction l with
  | nil => rfl
  | cons x r ih =>
    unfold Lib.indexByte
    rw [show toN (x :: r) = x.toNat :: toN r from rfl, HeadPlain.fst]
    by_cases h : x = c
    · subst h; simp [pos]
    · have h2 : (x == c) = false := by rw [beq_eq_false_iff_ne]; exact h
      rw [h2, if_neg (by simp), if_neg (fun e => h (UInt8.toNat_inj.1 e)), pos_succ, ih]
theorem fst_lt {c : Nat} {l : List Nat} {i : Nat} (h : HeadPlain.fst c l = some i) : i < l.length := by
  induction l generalizing i with
  | nil => cases h
  | cons x r ih =>
    rw [HeadPlain.fst] at h
    split at h
    · injection h with h; subst h; simp
    · cases hr : HeadPlain.fst c r with
      | none => rw [hr] at h; cases h
      | some j => rw [hr] at h; simp at h; have := ih hr; simp; omega
theorem pieces_none {l : List Nat} (h : HeadPlain.fst 44 l = none) : pieces l = [l] := by
  induction l with
  | nil => rfl
  | cons x r ih =>
    rw [HeadPlain.fst] at h
    split at h
    · cases h
    · rename_i hx
      exact pieces_cons hx (ih (by cases hr : HeadPlain.fst 44 r with | none => rfl | some j => rw [hr] at h; cases h))
theorem pieces_some {l : List Nat} {i : Nat} (h : HeadPlain.fst 44 l = some i) : pieces l = l.take i :: pieces (l.drop (i + 1)) := by
  induction l generalizing i with
  | nil => cases h
  | cons x r ih =>
    rw [HeadPlain.fst] at h
    split at h
    · rename_i hx
      injection h with h; subst h
      rw [pieces, if_pos hx]; rfl
    · rename_i hx
      cases hr : HeadPlain.fst 44 r with
      | none => rw [hr] at h; cases h
      | some j =>
        rw [hr] at h
        injection h with h
        subst h
        exact pieces_cons hx (ih hr)
/-- The pieces as strings. -/
def cuts (s : ByteArray) : List ByteArray := (pieces (bytes s)).map strOf
theorem take_size (s : ByteArray) (i : Nat) : strOf ((bytes s).take i) = s.extract 0 i := bytes_inj (by rw [bytes_strOf _ ((bytes_small s).take i), bytes_extract, List.drop_zero])
theorem cuts_none {s : ByteArray} (h : HeadPlain.fst 44 (bytes s) = none) : cuts s = [s] := by unfold cuts; rw [pieces_none h, List.map_singleton, strOf_bytes]
theorem drop_bytes (s : ByteArray) (i : Nat) : (bytes s).drop i = bytes (s.extract i s.size) := by rw [bytes_extract, List.take_of_length_le (by rw [bytes_length]; exact Nat.le_refl _)]
theorem cuts_some {s : ByteArray} {i : Nat} (h : HeadPlain.fst 44 (bytes s) = some i) : cuts s = s.extract 0 i :: cuts (s.extract (i + 1) s.size) := by
  unfold cuts; rw [pieces_some h, List.map_cons, take_size, drop_bytes]
theorem pieces_small (l : List Nat) (h : Small 256 l) : ∀ p ∈ pieces l, Small 256 p := by
  induction l with
  | nil => intro p hp; simp [pieces] at hp; subst hp; intro x hx; cases hx
  | cons x r ih =>
    have hr : Small 256 r := fun y hy => h y (by simp [hy])
    obtain ⟨p, ps, e⟩ := pieces_ne r
    rw [pieces, e]
    have ih' := ih hr
    rw [e] at ih'
    split
    · intro q hq
      rcases List.mem_cons.1 hq with rfl | hq
      · intro y hy; cases hy
      · exact ih' q hq
    · intro q hq
      rcases List.mem_cons.1 hq with rfl | hq
      · intro y hy
        rcases List.mem_cons.1 hy with rfl | hy
        · exact h y (by simp)
        · exact ih' p (by simp) y hy
      · exact ih' q (by simp [hq])
theorem cuts_bytes (s : ByteArray) : (cuts s).map bytes = pieces (bytes s) := by
  unfold cuts
  rw [List.map_map]
  conv => rhs; rw [← List.map_id (pieces (bytes s))]
  exact List.map_congr_left (fun p hp => bytes_strOf p (pieces_small _ (bytes_small s) p hp))
theorem pieces_le (l : List Nat) : ∀ p ∈ pieces l, p.length ≤ l.length := by
  induction l with
  | nil => intro p hp; simp [pieces] at hp; subst hp; simp
  | cons x r ih =>
    obtain ⟨p, ps, e⟩ := pieces_ne r
    rw [pieces, e]
    rw [e] at ih
    split
    · intro q hq
      rcases List.mem_cons.1 hq with rfl | hq
      · simp
      · have := ih q hq; simp; omega
    · intro q hq
      rcases List.mem_cons.1 hq with rfl | hq
      · have := ih p (by simp); simp; omega
      · have := ih q (by simp [hq]); simp; omega
theorem cuts_le (s : ByteArray) : ∀ p ∈ cuts s, p.size ≤ s.size := fun p hp => by
  have h1 : bytes p ∈ pieces (bytes s) := by rw [← cuts_bytes]; exact List.mem_map.2 ⟨p, hp, rfl⟩
  have := pieces_le _ _ h1
  rwa [bytes_length, bytes_length] at this
end Go.Proofs.YtcdpkabbmdannaaDoor
