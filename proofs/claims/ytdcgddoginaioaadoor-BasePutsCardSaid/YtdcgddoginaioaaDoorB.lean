/- TrimSuffix with = as the text to be cut off. -/
import Derived.Test.YtdcgddoginaioaaDoorA
namespace Go.Proofs.YtdcgddoginaioaaDoor
open Go.RowKit

/-- A string's bytes. -/
def bytes (s : ByteArray) : List Nat := s.data.toList.map (·.toNat)
theorem bytes_length (s : ByteArray) : (bytes s).length = s.size := by unfold bytes; rw [List.length_map, Array.length_toList]; rfl
theorem bytes_small (s : ByteArray) : Small 256 (bytes s) := fun x hx => by
  simp only [bytes, List.mem_map] at hx
  obtain ⟨b, _, rfl⟩ := hx
  exact b.toNat_lt
theorem bytes_append (a b : ByteArray) : bytes (a ++ b) = bytes a ++ bytes b := by simp [bytes]
theorem bytes_getD (s : ByteArray) (i : Nat) (hi : i < s.size) : (bytes s).getD i 0 = (s.data[i]'hi).toNat := by
  have hi' : i < s.data.size := hi
  simp only [bytes, List.getD, List.getElem?_map, Array.getElem?_toList, Array.getElem?_eq_getElem hi']
  rfl
theorem bytes_inj {a b : ByteArray} (h : bytes a = bytes b) : a = b := by
  unfold bytes at h
  have h2 : a.data.toList = b.data.toList := by
    have := (List.map_inj_right (fun x y (e : UInt8.toNat x = UInt8.toNat y) => UInt8.toNat_inj.1 e)).1 h
    exact this
  cases a; cases b
  simp at h2
  simp [h2]
theorem bytes_extract (s : ByteArray) (i j : Nat) : bytes (s.extract i j) = ((bytes s).take j).drop i := by
  unfold bytes
  rw [ByteArray.data_extract, Array.toList_extract, List.extract_eq_take_drop, ← List.map_take, ← List.map_drop]
  congr 1
  rw [List.drop_take]

/-- Without one = at the end. -/
def trimS (s : ByteArray) : ByteArray := if (bytes s).getLast? = some 61 then s.extract 0 (s.size - 1) else s
theorem bytes_trimS (s : ByteArray) : bytes (trimS s) = trim1 (bytes s) := by
  unfold trimS trim1
  split
  · rw [bytes_extract, List.drop_zero, List.dropLast_eq_take, bytes_length]
  · rfl
theorem size_trimS (s : ByteArray) : (trimS s).size ≤ s.size := by
  unfold trimS; split
  · rw [ByteArray.size_extract]; omega
  · exact Nat.le_refl _
theorem drop_last (l : List Nat) (c : Nat) (h : l ≠ []) : l.drop (l.length - 1) = [c] ↔ l.getLast? = some c := by
  obtain ⟨m, x, rfl⟩ : ∃ m x, l = m ++ [x] := ⟨_, _, (List.dropLast_concat_getLast h).symm⟩
  simp
theorem toList_bytes (x : ByteArray) : bytes x = x.toList.map (·.toNat) := by rw [ByteArray.toList_eq]; rfl
theorem toNat_inj_map {a b : List UInt8} (h : a.map (·.toNat) = b.map (·.toNat)) : a = b := (List.map_inj_right (fun x y (e : UInt8.toNat x = UInt8.toNat y) => UInt8.toNat_inj.1 e)).1 h
/-- Strings are compared by their bytes. -/
theorem beq_bytes (a : ByteArray) (l : List UInt8) : (a.toList == l) = decide (bytes a = l.map (·.toNat)) := by
  rw [Bool.eq_iff_iff, toList_bytes]
  simp only [beq_iff_eq, decide_eq_true_eq]
  exact ⟨fun h => by rw [h], toNat_inj_map⟩
theorem beq_bytes2 (a b : ByteArray) : (a.toList == b.toList) = decide (bytes a = bytes b) := by rw [beq_bytes, ← toList_bytes]
theorem last_eq (s : ByteArray) (h : 1 ≤ s.size) : ((s.extract (s.size - 1) s.size).toList == [61]) = decide ((bytes s).getLast? = some 61) := by
  rw [beq_bytes, bytes_extract, List.take_of_length_le (by rw [bytes_length]; exact Nat.le_refl _), ← bytes_length]
  have hne : bytes s ≠ [] := by intro e; have := bytes_length s; rw [e] at this; simp at this; omega
  exact decide_eq_decide.2 (drop_last (bytes s) 61 hne)
theorem ret_bool {a b : Bool} (h : a = b) : Ending.returned (.bool a) = .returned (.bool b) := by rw [h]

theorem has_yes (s : ByteArray) (w : World) (h : 1 ≤ s.size) (hs : s.size ≤ 140737488351232) :
    Calls Tryd.prog 27 #[.string s, .string { data := #[61] }] w fun e w' => e = .returned (.bool (decide ((bytes s).getLast? = some 61))) ∧ w = w' := by
  have h1 : (1 : Int) ≤ (s.size : Int) := by omega
  go_enter Tryd.func27, Tryd.ntmps27
  go_wp2
  go_ret
  exact ⟨ret_bool (last_eq s h), rfl⟩
theorem has_no (s : ByteArray) (w : World) (h : s.size = 0) :
    Calls Tryd.prog 27 #[.string s, .string { data := #[61] }] w fun e w' => e = .returned (.bool false) ∧ w = w' := by
  obtain rfl : s = ByteArray.empty := ByteArray.size_eq_zero_iff.1 h
  clear h
  go_enter Tryd.func27, Tryd.ntmps27
  go_wp2
  go_ret
  exact ⟨rfl, rfl⟩
theorem trimSuffix_any (s : ByteArray) (w : World) (hs : s.size ≤ 140737488351232) :
    Calls Tryd.prog 26 #[.string s, .string { data := #[61] }] w fun e w' => e = .returned (.string (trimS s)) ∧ w = w' := by
  by_cases h : 1 ≤ s.size
  · have h1 : (1 : Int) ≤ (s.size : Int) := by omega
    unfold trimS
    by_cases hl : (bytes s).getLast? = some 61
    · rw [if_pos hl]
      have hd : decide ((bytes s).getLast? = some 61) = true := decide_eq_true hl
      have HC := Sl.mk (fun w => has_yes s w h hs)
      rw [hd] at HC
      clear hl hd
      go_enter Tryd.func26, Tryd.ntmps26
      go_wp2_with fail
      refine (HC.out _).mono ?_
      rintro e w' ⟨rfl, rfl⟩
      go_wp2
      go_ret
      exact ⟨rfl, rfl⟩
    · rw [if_neg hl]
      have hd : decide ((bytes s).getLast? = some 61) = false := decide_eq_false hl
      have HC := Sl.mk (fun w => has_yes s w h hs)
      rw [hd] at HC
      clear hl hd
      go_enter Tryd.func26, Tryd.ntmps26
      go_wp2_with fail
      refine (HC.out _).mono ?_
      rintro e w' ⟨rfl, rfl⟩
      go_wp2
      go_ret
      exact ⟨rfl, rfl⟩
  · have h0 : s.size = 0 := by omega
    have e : trimS s = s := by
      unfold trimS; rw [if_neg]
      intro h; have := bytes_length s; rw [h0] at this; rw [List.length_eq_zero_iff.1 this] at h; cases h
    rw [e]
    have HC := Sl.mk (fun w => has_no s w h0)
    clear e h h0
    go_enter Tryd.func26, Tryd.ntmps26
    go_wp2_with fail
    refine (HC.out _).mono ?_
    rintro e w' ⟨rfl, rfl⟩
    go_wp2
    go_ret
    exact ⟨rfl, rfl⟩
theorem trim_any (s : ByteArray) (w : World) (hs : s.size ≤ 140737488351232) :
    Calls Tryd.prog 24 #[.string s, .string { data := #[61] }] w fun e w' => e = .returned (.string (trimS s)) ∧ w = w' := by
  go_enter Tryd.func24, Tryd.ntmps24
  go_wp2_with fail
  refine (trimSuffix_any s _ hs).mono ?_
  rintro e w' ⟨rfl, rfl⟩
  go_wp2
  go_ret
  exact ⟨rfl, rfl⟩
end Go.Proofs.YtdcgddoginaioaaDoor
