/- The document's at and trim; where the end of a head is found. -/
import Derived.Test.YtcohecghibndhaaDoorU0
import Derived.Deep.DeepCutAuto
namespace Go.Proofs.YtcohecghibndhaaDoor
open Go.RowKit HeadPlain

set_option maxHeartbeats 1000000 in
theorem at_any (s : ByteArray) (c : Nat) (W : World) (hs : s.size ≤ maxLen) : Calls Tryd.prog 37 #[.string s, .int .u8 (c : Int)] W fun e w' => e = .returned (.int .i64 (idx c (bytes s) : Nat)) ∧ w' = W := by
  unfold maxLen at hs
  go_enter Tryd.func37, Tryd.ntmps37
  go_wp2
  go_loopw [5] (fun i wr => ∃ k : Nat, k ≤ s.size ∧ i = .int .i64 k ∧ wr = W ∧ Sl (∀ j, j < k → (bytes s).getD j 0 ≠ c)) (fun i _ => s.size - (intOf i).toNat)
  case atStart => exact ⟨0, by omega, rfl, rfl, ⟨fun j hj => by omega⟩⟩
  case round =>
    rename World => W0
    obtain ⟨k, hk, rfl, rfl, HA⟩ := hrel
    by_cases hlt : k < s.size
    · obtain ⟨x, hx⟩ : ∃ x, (s[k]'hlt).toNat = x := ⟨_, rfl⟩
      have HX : Sl ((bytes s).getD k 0 = x) := ⟨by rw [bytes_getD s k hlt, ← hx]; rfl⟩
      by_cases hxc : x = c
      · have hxc' : ((x : Int) == (c : Int)) = true := by simp [hxc]
        have HR : Sl (idx c (bytes s) = k) := ⟨idx_of (by rw [bytes_length]; omega) (fun _ => by rw [HX.out, hxc]) HA.out⟩
        go_wp2
        go_ret
        exact ⟨ret_int (by rw [HR.out]), rfl⟩
      · have hxc' : ((x : Int) == (c : Int)) = false := by simp; omega
        go_wp2
        refine ⟨⟨k + 1, by omega, by go_num, trivial, ⟨fun j hj => ?_⟩⟩, by simp [intOf]; omega⟩
        by_cases e : j = k
        · subst e; rw [HX.out]; exact hxc
        · exact HA.out j (by omega)
    · have hge : ((k : Int) < (s.size : Int)) = False := by simp; omega
      obtain rfl : k = s.size := by omega
      have HR : Sl (idx c (bytes s) = s.size) := ⟨idx_of (by rw [bytes_length]; exact Nat.le_refl _) (fun h => by rw [bytes_length] at h; omega) HA.out⟩
      go_wp2
      go_ret
      exact ⟨ret_int (by rw [HR.out]), rfl⟩

def strSize : Value → Nat
  | .string b => b.size
  | _ => 0
theorem head_cons (x : ByteArray) (h : 0 < x.size) : bytes x = (bytes x).getD 0 0 :: (bytes x).drop 1 := by
  have hl : 0 < (bytes x).length := by rw [bytes_length]; exact h
  cases hb : bytes x with
  | nil => rw [hb] at hl; cases hl
  | cons a r => rfl
theorem last_snoc (x : ByteArray) (h : 0 < x.size) : bytes x = (bytes x).take (x.size - 1) ++ [(bytes x).getD (x.size - 1) 0] := by
  have hl : x.size - 1 < (bytes x).length := by rw [bytes_length]; omega
  have e : (bytes x).getD (x.size - 1) 0 = (bytes x)[x.size - 1] := by rw [List.getD_eq_getElem?_getD, List.getElem?_eq_getElem hl]; rfl
  rw [e, ← List.take_succ_eq_append_getElem hl, List.take_of_length_le (by rw [bytes_length]; omega)]
set_option maxHeartbeats 2000000 in
theorem trim_any (s : ByteArray) (W : World) (hs : s.size ≤ maxLen) : Calls Tryd.prog 38 #[.string s] W fun e w' => ∃ t : ByteArray, e = .returned (.string t) ∧ Sl (bytes t = trim (bytes s)) ∧ w' = W := by
  unfold maxLen at hs
  go_enter Tryd.func38, Tryd.ntmps38
  go_wp2
  go_loopw [0] (fun u wr => ∃ x : ByteArray, x.size ≤ s.size ∧ u = .string x ∧ wr = W ∧ Sl (ltrim (bytes x) = ltrim (bytes s))) (fun u _ => strSize u)
  case atStart => exact ⟨s, Nat.le_refl _, rfl, rfl, ⟨rfl⟩⟩
  case round =>
    rename World => W0
    obtain ⟨x, hx, rfl, rfl, HX⟩ := hrel
    by_cases h0 : 0 < x.size
    · obtain ⟨c, hc⟩ : ∃ c, (x[0]'h0).toNat = c := ⟨_, rfl⟩
      have HC : Sl ((bytes x).getD 0 0 = c) := ⟨by rw [bytes_getD x 0 h0, ← hc]; rfl⟩
      have HCO : Sl (bytes x = c :: (bytes x).drop 1) := ⟨by have := head_cons x h0; rw [HC.out] at this; exact this⟩
      have h0' : (x.size : Int) > 0 := by omega
      by_cases hb : c = 32 ∨ c = 9
      · have HN : Sl (ltrim (bytes (x.extract 1 x.size)) = ltrim (bytes s)) := ⟨by
          rw [bytes_extract, List.take_of_length_le (by rw [bytes_length]; exact Nat.le_refl _), ← HX.out]
          conv => rhs; rw [HCO.out, ltrim, if_pos hb]⟩
        have HZ : Sl ((x.extract 1 x.size).size = x.size - 1) := ⟨by rw [ByteArray.size_extract]; omega⟩
        by_cases h32 : c = 32
        · have h32' : ((c : Int) == 32) = true := by simp [h32]
          go_wp2
          refine ⟨⟨_, by rw [HZ.out]; omega, rfl, trivial, HN⟩, by simp only [strSize]; rw [HZ.out]; omega⟩
        · have h32' : ((c : Int) == 32) = false := by simp; omega
          have h9' : ((c : Int) == 9) = true := by simp; omega
          go_wp2
          refine ⟨⟨_, by rw [HZ.out]; omega, rfl, trivial, HN⟩, by simp only [strSize]; rw [HZ.out]; omega⟩
      · have HLX : Sl (ltrim (bytes s) = bytes x) := ⟨by
          rw [← HX.out]
          conv => lhs; rw [HCO.out, ltrim, if_neg hb]
          exact HCO.out.symm⟩
        have h32' : ((c : Int) == 32) = false := by simp; omega
        have h9' : ((c : Int) == 9) = false := by simp; omega
        have HY0 : Sl (rtrim (bytes x) = trim (bytes s)) := ⟨by rw [trim_eq, HLX.out]⟩
        go_wp2
        go_loopw [0] (fun u wr => ∃ y : ByteArray, y.size ≤ s.size ∧ u = .string y ∧ wr = W0 ∧ Sl (rtrim (bytes y) = trim (bytes s))) (fun u _ => strSize u)
        case atStart => exact ⟨x, hx, rfl, rfl, HY0⟩
        case round =>
          rename World => W1
          obtain ⟨y, hy, rfl, rfl, HY⟩ := hrel
          clear HLX HY0 HX
          by_cases g0 : 0 < y.size
          · have hlast : y.size - 1 < y.size := by omega
            obtain ⟨d, hd⟩ : ∃ d, (y[y.size - 1]'hlast).toNat = d := ⟨_, rfl⟩
            have HD : Sl ((bytes y).getD (y.size - 1) 0 = d) := ⟨by rw [bytes_getD y _ hlast, ← hd]; rfl⟩
            have HDO : Sl (bytes y = (bytes y).take (y.size - 1) ++ [d]) := ⟨by have := last_snoc y g0; rw [HD.out] at this; exact this⟩
            have g0' : (y.size : Int) > 0 := by omega
            have hz : ((y.size : Int) - 1) = ((y.size - 1 : Nat) : Int) := by omega
            by_cases hb2 : d = 32 ∨ d = 9
            · have HN : Sl (rtrim (bytes (y.extract 0 (y.size - 1))) = trim (bytes s)) := ⟨by
                rw [bytes_extract, List.drop_zero, ← HY.out]
                conv => rhs; rw [HDO.out, rtrim_snoc, if_pos hb2]⟩
              have HZ : Sl ((y.extract 0 (y.size - 1)).size = y.size - 1) := ⟨by rw [ByteArray.size_extract]; omega⟩
              by_cases k32 : d = 32
              · have k32' : ((d : Int) == 32) = true := by simp [k32]
                go_wp2
                refine ⟨⟨_, by rw [HZ.out]; omega, rfl, trivial, HN⟩, by simp only [strSize]; rw [HZ.out]; omega⟩
              · have k32' : ((d : Int) == 32) = false := by simp; omega
                have k9' : ((d : Int) == 9) = true := by simp; omega
                go_wp2
                refine ⟨⟨_, by rw [HZ.out]; omega, rfl, trivial, HN⟩, by simp only [strSize]; rw [HZ.out]; omega⟩
            · have HN : Sl (bytes y = trim (bytes s)) := ⟨by
                rw [← HY.out]
                conv => rhs; rw [HDO.out, rtrim_snoc, if_neg hb2]
                exact HDO.out⟩
              have k32' : ((d : Int) == 32) = false := by simp; omega
              have k9' : ((d : Int) == 9) = false := by simp; omega
              go_wp2
              go_ret
              exact ⟨_, rfl, HN, rfl⟩
          · have g0' : ((y.size : Int) > 0) = False := eq_false (by omega)
            have HN : Sl (bytes y = trim (bytes s)) := ⟨by
              have e : bytes y = [] := List.eq_nil_of_length_eq_zero (by rw [bytes_length]; omega)
              rw [← HY.out, e]; rfl⟩
            go_wp2
            go_ret
            exact ⟨_, rfl, HN, rfl⟩
    · have h0' : ((x.size : Int) > 0) = False := eq_false (by omega)
      have HLX : Sl (ltrim (bytes s) = bytes x) := ⟨by
        have e : bytes x = [] := List.eq_nil_of_length_eq_zero (by rw [bytes_length]; omega)
        rw [← HX.out, e]; rfl⟩
      have HY0 : Sl (rtrim (bytes x) = trim (bytes s)) := ⟨by rw [trim_eq, HLX.out]⟩
      go_wp2
      go_loopw [0] (fun u wr => ∃ y : ByteArray, y.size ≤ s.size ∧ u = .string y ∧ wr = W0 ∧ Sl (rtrim (bytes y) = trim (bytes s))) (fun u _ => strSize u)
      case atStart => exact ⟨x, hx, rfl, rfl, HY0⟩
      case round =>
        rename World => W1
        obtain ⟨y, hy, rfl, rfl, HY⟩ := hrel
        clear HLX HY0 HX
        by_cases g0 : 0 < y.size
        · have hlast : y.size - 1 < y.size := by omega
          obtain ⟨d, hd⟩ : ∃ d, (y[y.size - 1]'hlast).toNat = d := ⟨_, rfl⟩
          have HD : Sl ((bytes y).getD (y.size - 1) 0 = d) := ⟨by rw [bytes_getD y _ hlast, ← hd]; rfl⟩
          have HDO : Sl (bytes y = (bytes y).take (y.size - 1) ++ [d]) := ⟨by have := last_snoc y g0; rw [HD.out] at this; exact this⟩
          have g0' : (y.size : Int) > 0 := by omega
          have hz : ((y.size : Int) - 1) = ((y.size - 1 : Nat) : Int) := by omega
          by_cases hb2 : d = 32 ∨ d = 9
          · have HN : Sl (rtrim (bytes (y.extract 0 (y.size - 1))) = trim (bytes s)) := ⟨by
              rw [bytes_extract, List.drop_zero, ← HY.out]
              conv => rhs; rw [HDO.out, rtrim_snoc, if_pos hb2]⟩
            have HZ : Sl ((y.extract 0 (y.size - 1)).size = y.size - 1) := ⟨by rw [ByteArray.size_extract]; omega⟩
            by_cases k32 : d = 32
            · have k32' : ((d : Int) == 32) = true := by simp [k32]
              go_wp2
              refine ⟨⟨_, by rw [HZ.out]; omega, rfl, trivial, HN⟩, by simp only [strSize]; rw [HZ.out]; omega⟩
            · have k32' : ((d : Int) == 32) = false := by simp; omega
              have k9' : ((d : Int) == 9) = true := by simp; omega
              go_wp2
              refine ⟨⟨_, by rw [HZ.out]; omega, rfl, trivial, HN⟩, by simp only [strSize]; rw [HZ.out]; omega⟩
          · have HN : Sl (bytes y = trim (bytes s)) := ⟨by
              rw [← HY.out]
              conv => rhs; rw [HDO.out, rtrim_snoc, if_neg hb2]
              exact HDO.out⟩
            have k32' : ((d : Int) == 32) = false := by simp; omega
            have k9' : ((d : Int) == 9) = false := by simp; omega
            go_wp2
            go_ret
            exact ⟨_, rfl, HN, rfl⟩
        · have g0' : ((y.size : Int) > 0) = False := eq_false (by omega)
          have HN : Sl (bytes y = trim (bytes s)) := ⟨by
            have e : bytes y = [] := List.eq_nil_of_length_eq_zero (by rw [bytes_length]; omega)
            rw [← HY.out, e]; rfl⟩
          go_wp2
          go_ret
          exact ⟨_, rfl, HN, rfl⟩
theorem two_drop {s : ByteArray} {n t : Nat} (h : t + 2 ≤ n) : bytes (s.extract t (t + 2)) = (((bytes s).take n).drop t).take 2 := by
  rw [bytes_extract, List.drop_take, List.drop_take, List.take_take]
  congr 1
  omega
theorem four_text (s : ByteArray) (i : Nat) : ((s.extract i (i + 4)).toList == [13, 10, 13, 10]) = four ((bytes s).drop i) := by
  rw [beq_bytes, bytes_extract, List.drop_take, show i + 4 - i = 4 by omega]
  unfold four
  rw [Bool.eq_iff_iff]
  simp
theorem two_text (s : ByteArray) (n t : Nat) (h : t + 2 ≤ n) : ((s.extract t (t + 2)).toList == [13, 10]) = two (((bytes s).take n).drop t) := by
  rw [beq_bytes, two_drop h]
  unfold two
  rw [Bool.eq_iff_iff]
  simp
theorem fnd_of : ∀ (s : List Nat) (n : Nat), four (s.drop n) = true → (∀ j, j < n → four (s.drop j) = false) → fnd s = some n := by
  intro s
  induction s with
  | nil => intro n h _; simp [four] at h
  | cons x r ih =>
    intro n h1 h2
    rw [fnd]
    cases n with
    | zero => rw [if_pos (by simpa using h1)]
    | succ n =>
      have h0 := h2 0 (by omega)
      rw [List.drop_zero] at h0
      rw [h0, if_neg (by simp)]
      rw [ih n (by simpa using h1) (fun j hj => by simpa using h2 (j + 1) (by omega))]
      rfl
theorem fnd_two (s : List Nat) (n : Nat) (h1 : four (s.drop n) = true) (h2 : ∀ j, j < n → four (s.drop j) = false) (h3 : n + 4 ≤ 2048) : fnd (s.take 2048) = some n := by
  rw [fnd_take, fnd_of s n h1 h2]
  simp only [Option.bind_some]
  rw [if_pos h3]
theorem fnd_no (s : List Nat) (h2 : ∀ j, j + 4 ≤ s.length → j + 4 ≤ 2048 → four (s.drop j) = false) : fnd (s.take 2048) = none := by
  rw [fnd_take]
  cases hf : fnd s with
  | none => rfl
  | some m =>
    obtain ⟨k1, k2⟩ := fnd_length hf
    simp only [Option.bind_some]
    by_cases h : m + 4 ≤ 2048
    · have := h2 m k1 h
      rw [k2] at this
      cases this
    · rw [if_neg h]
end Go.Proofs.YtcohecghibndhaaDoor
