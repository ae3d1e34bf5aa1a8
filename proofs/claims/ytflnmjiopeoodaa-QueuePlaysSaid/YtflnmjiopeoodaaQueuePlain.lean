/- queue, plain: what waits, its bounds, and what comes of a put and a take. -/
import Derived.Test.YtflnmjiopeoodaaMsgPlain
namespace QueuePlain
open MsgPlain (Ev)

/-- How many bytes events have. -/
def size (l : List Ev) : Nat := (l.map fun e => e.data.length).sum
theorem size_nil : size [] = 0 := rfl
theorem size_cons (e : Ev) (l : List Ev) : size (e :: l) = e.data.length + size l := by simp [size]
theorem size_append (a b : List Ev) : size (a ++ b) = size a + size b := by simp [size]
theorem size_one (e : Ev) : size [e] = e.data.length := by simp [size]
theorem size_take_le (l : List Ev) (k : Nat) : size (l.take k) ≤ size l := by
  have h := congrArg size (List.take_append_drop k l)
  rw [size_append] at h
  omega
theorem size_take (l : List Ev) (k : Nat) (h : k < l.length) (d : Ev) : size (l.take (k + 1)) = size (l.take k) + (l.getD k d).data.length := by
  rw [List.take_add_one, List.getElem?_eq_getElem h, List.getD_eq_getElem?_getD, List.getElem?_eq_getElem h, size_append]
  simp [size]
/-- Is there room for so many bytes? -/
def room (count bytes : Int) (l : List Ev) (n : Int) : Bool := decide ((l.length : Int) < count ∧ 0 ≤ n ∧ n ≤ bytes ∧ (size l : Int) + n ≤ bytes)
def put (count bytes : Int) (l : List Ev) (e : Ev) : List Ev × Bool := if room count bytes l (e.data.length : Int) then (l ++ [e], true) else (l, false)
/-- The bounds. -/
def Within (count bytes : Int) (l : List Ev) : Prop := (l.length : Int) ≤ count ∧ (size l : Int) ≤ bytes
theorem within_nil {count bytes : Int} (h1 : 0 ≤ count) (h2 : 0 ≤ bytes) : Within count bytes [] := ⟨by simpa using h1, by simpa [size] using h2⟩
theorem room_iff {count bytes : Int} {l : List Ev} {n : Int} : room count bytes l n = true ↔ ((l.length : Int) < count ∧ 0 ≤ n ∧ n ≤ bytes ∧ (size l : Int) + n ≤ bytes) := by simp [room]
theorem put_yes {count bytes : Int} {l : List Ev} {e : Ev} (h : room count bytes l (e.data.length : Int) = true) : put count bytes l e = (l ++ [e], true) := by unfold put; rw [if_pos h]
theorem put_no {count bytes : Int} {l : List Ev} {e : Ev} (h : room count bytes l (e.data.length : Int) = false) : put count bytes l e = (l, false) := by unfold put; rw [if_neg (by rw [h]; decide)]
theorem put_within {count bytes : Int} {l : List Ev} (e : Ev) (h : Within count bytes l) : Within count bytes (put count bytes l e).1 := by
  by_cases hr : room count bytes l (e.data.length : Int) = true
  · rw [put_yes hr]
    have h2 := room_iff.1 hr
    refine ⟨?_, ?_⟩
    · show ((l ++ [e]).length : Int) ≤ count
      rw [List.length_append]; simp; omega
    · show (size (l ++ [e]) : Int) ≤ bytes
      rw [size_append, size_one]; omega
  · rw [put_no (by simpa using hr)]; exact h
theorem tail_within {count bytes : Int} {e : Ev} {l : List Ev} (h : Within count bytes (e :: l)) : Within count bytes l := by
  obtain ⟨h1, h2⟩ := h
  rw [List.length_cons] at h1
  rw [size_cons] at h2
  exact ⟨by omega, by omega⟩
/-- Where there is room for more there is room for fewer; what is taken makes room for as much. -/
theorem room_less {count bytes : Int} {l : List Ev} {a b : Int} (ha : 0 ≤ a) (hab : a ≤ b) (h : room count bytes l b = true) : room count bytes l a = true := by
  have h2 := room_iff.1 h
  exact room_iff.2 ⟨h2.1, ha, by omega, by omega⟩
theorem room_tail {count bytes : Int} {e : Ev} {l : List Ev} (h : Within count bytes (e :: l)) : room count bytes l (e.data.length : Int) = true := by
  obtain ⟨h1, h2⟩ := h
  rw [List.length_cons] at h1
  rw [size_cons] at h2
  exact room_iff.2 ⟨by omega, by omega, by omega, by omega⟩
end QueuePlain
