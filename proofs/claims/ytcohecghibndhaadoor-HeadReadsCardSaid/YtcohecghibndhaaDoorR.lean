/- HeadCuts, the walk: whatever string and number come in, the law's Go text returns true, and nothing that was in memory changes. -/
import Derived.Test.YtcohecghibndhaaDoorO
namespace Go.Proofs.YtcohecghibndhaaDoor
open Go.RowKit HeadPlain

/-- How many bytes, and which error, are answered. -/
def resN : Res → Nat
  | .ok _ n => n
  | _ => 0
def resE : Res → Nat
  | .more => 50
  | .long => 51
  | .form => 52
  | .ok _ _ => 0
theorem readR_ne {w' : World} {s : List Nat} {e : Ending} (h : ReadR w' s e) :
    ∃ (a b c : ByteArray) (x : Option Addr) (y z : Nat), e = .returned (.tuple #[.agg #[.string a, .string b, .string c, .slice x y z], .int .i64 (resN (rd s) : Nat), .int .i64 (resE (rd s) : Nat)]) := by
  unfold ReadR at h
  cases hr : rd s with
  | more => rw [hr] at h; exact ⟨_, _, _, _, _, _, h⟩
  | long => rw [hr] at h; exact ⟨_, _, _, _, _, _, h⟩
  | form => rw [hr] at h; exact ⟨_, _, _, _, _, _, h⟩
  | ok hd n =>
    rw [hr] at h
    obtain ⟨g, v, h1, h2, h3, h4⟩ := h
    obtain ⟨a, c, _, _, rfl, _⟩ := h4
    exact ⟨_, _, _, _, _, _, h2⟩
theorem resE_lt (r : Res) : resE r ≤ 52 := by cases r <;> simp [resE]
theorem resN_lt (s : List Nat) : resN (rd s) ≤ 2048 := by
  cases h : rd s with
  | ok hd n => have := (rd_ok h).2.2.2.1; exact this
  | more => exact Nat.zero_le _
  | long => exact Nat.zero_le _
  | form => exact Nat.zero_le _
set_option maxHeartbeats 400000 in
theorem cuts_long (s : ByteArray) (x : Nat) (w : World) (hg : Globs w) (h : 2000 < s.size ∨ s.size = 0) (hs : s.size ≤ maxLen) :
    Calls Tryd.prog 5 #[.string s, .int .u16 (x : Int)] w fun e w' => e = .returned (.bool true) ∧ Below w.heap.size w w' := by
  unfold maxLen at hs
  have HG := Sl.mk hg
  clear hg
  by_cases h1 : 2000 < s.size
  · have h1' : (s.size : Int) > 2000 := by omega
    clear h
    go_enter Tryd.func5, Tryd.ntmps5
    go_wp2_with fail
    refine (awake_ex w _ (Below.refl _ _) HG.out).mono ?_
    rintro e w1 ⟨rfl, HX1, HB1⟩
    go_wp2_with fail
    refine (awake_ex w _ HB1.out HG.out).mono ?_
    rintro e w2 ⟨rfl, HX2, HB2⟩
    go_wp2
    go_ret
    exact ⟨rfl, HB2.out⟩
  · have h1' : ((s.size : Int) > 2000) = False := eq_false (by omega)
    obtain rfl : s = ByteArray.empty := ByteArray.size_eq_zero_iff.1 (by omega)
    clear h h1 h1' hs
    go_enter Tryd.func5, Tryd.ntmps5
    go_wp2_with fail
    refine (awake_ex w _ (Below.refl _ _) HG.out).mono ?_
    rintro e w1 ⟨rfl, HX1, HB1⟩
    go_wp2_with fail
    refine (awake_ex w _ HB1.out HG.out).mono ?_
    rintro e w2 ⟨rfl, HX2, HB2⟩
    go_wp2
    go_ret
    exact ⟨rfl, HB2.out⟩
set_option maxHeartbeats 1000000 in
theorem cuts_short (s : ByteArray) (x : Nat) (w : World) (hg : Globs w) (h1 : s.size ≤ 2000) (h0 : s.size ≠ 0) (hx : x < 65536) :
    Calls Tryd.prog 5 #[.string s, .int .u16 (x : Int)] w fun e w' => e = .returned (.bool true) ∧ Below w.heap.size w w' := by
  have HG := Sl.mk hg
  clear hg
  have h1' : ((s.size : Int) > 2000) = False := eq_false (by omega)
  have h0' : ((s.size : Int) == 0) = false := by simp; intro e; apply h0; rw [e]; rfl
  obtain ⟨k, hk⟩ : ∃ k, x % s.size = k := ⟨_, rfl⟩
  have hkn : k < s.size := by rw [← hk]; exact Nat.mod_lt _ (by omega)
  have hmod : ((x : Int) % (s.size : Int)) = (k : Int) := by rw [← hk]; rfl
  clear hk h0
  go_enter Tryd.func5, Tryd.ntmps5
  go_wp2_with fail
  refine (awake_ex w _ (Below.refl _ _) HG.out).mono ?_
  rintro e w1 ⟨rfl, HX1, HB1⟩
  obtain ⟨c2, w2, hc2, HS2, HX2⟩ := conv_str s w1
  have HB2 : Sl (Below w.heap.size w w2) := ⟨below_trans HB1.out HX2.out⟩
  go_wp2_with fail
  rw [hmod]
  have HSM : Sl (Small 256 (bytes s)) := ⟨bytes_small s⟩
  have HLN : Sl ((bytes s).length = s.size) := ⟨bytes_length s⟩
  refine (read_ex w _ (bytes s) _ HB2.out HG.out HS2.out.srcS HSM.out (by rw [HLN.out]; omega)).mono ?_
  rintro e w3 ⟨HR3, HX3, HB3⟩
  obtain ⟨ra, rb, rc, rx, ry, rz, rfl⟩ := readR_ne HR3.out
  obtain ⟨t, ht⟩ : ∃ t, s.extract 0 k = t := ⟨_, rfl⟩
  have HBT : Sl (bytes t = (bytes s).take k) := ⟨by rw [← ht, bytes_extract, List.drop_zero]⟩
  have hts : t.size = k := by rw [← ht, ByteArray.size_extract]; omega
  have HT := Sl.mk ht
  obtain ⟨c4, w4, hc4, HS4, HX4⟩ := conv_str t (w3.alloc (.cells #[.string ra, .string rb, .string rc, .slice rx ry rz] 25))
  have HB4 : Sl (Below w.heap.size w w4) := ⟨below_trans (HB3.out.alloc HB3.out.size _) HX4.out⟩
  have HRT : Sl ((rd ((bytes s).take k) = .more ∧ ∀ h n, rd (bytes s) = .ok h n → k < n) ∨ (rd ((bytes s).take k) ≠ .more ∧ rd ((bytes s).take k) = rd (bytes s))) := ⟨rd_take (bytes s) k (by rw [HLN.out]; omega) (by rw [HLN.out]; omega)⟩
  have HSM2 : Sl (Small 256 (bytes t)) := ⟨bytes_small t⟩
  have HLN2 : Sl ((bytes t).length = t.size) := ⟨bytes_length t⟩
  rw [alloc_size] at hc4 HS4
  have N1 := Sl.mk (resN_lt (bytes s))
  have N2 := Sl.mk (resN_lt (bytes t))
  have E1 := Sl.mk (resE_lt (rd (bytes s)))
  have E2 := Sl.mk (resE_lt (rd (bytes t)))
  clear hc2 HS2 HX2 HR3 HX3 HX4 HB2
  rw [hts] at hc4 HS4
  go_wp2_with fail
  refine (read_ex w _ (bytes t) _ HB4.out HG.out HS4.out.srcS HSM2.out (by rw [HLN2.out]; omega)).mono ?_
  rintro e w5 ⟨HR5, HX5, HB5⟩
  obtain ⟨sa, sb, sc, sx, sy, sz, rfl⟩ := readR_ne HR5.out
  have HPP : Sl ((resE (rd (bytes t)) = 50 ∧ resN (rd (bytes t)) = 0 ∧ (resE (rd (bytes s)) ≠ 0 ∨ k < resN (rd (bytes s)))) ∨ (resE (rd (bytes t)) ≠ 50 ∧ resN (rd (bytes s)) = resN (rd (bytes t)) ∧ resE (rd (bytes s)) = resE (rd (bytes t)))) := ⟨by
    rw [HBT.out]
    rcases HRT.out with ⟨h1, h2⟩ | ⟨h1, h2⟩
    · left
      rw [h1]
      refine ⟨rfl, rfl, ?_⟩
      cases hr : rd (bytes s) with
      | more => left; simp [resE]
      | long => left; simp [resE]
      | form => left; simp [resE]
      | ok h n => right; exact h2 h n hr
    · right
      rw [h2]
      refine ⟨?_, rfl, rfl⟩
      rw [h2] at h1
      cases hr : rd (bytes s) with
      | more => exact absurd hr h1
      | long => simp [resE]
      | form => simp [resE]
      | ok h n => simp [resE]⟩
  clear hc4 HS4 HR5 HRT HX5 HBT HT ht
  generalize resN (rd (bytes s)) = n at *
  generalize resE (rd (bytes s)) = e at *
  generalize resN (rd (bytes t)) = m at *
  generalize resE (rd (bytes t)) = f at *
  rcases HPP.out with ⟨rfl, rfl, h3⟩ | ⟨h1, rfl, rfl⟩
  · by_cases he : e = 0
    · have hk2 : k < n := by rcases h3 with h3 | h3; exact absurd he h3; exact h3
      have hk3 : (n : Int) > (k : Int) := by omega
      subst he
      clear h3 HPP
      go_wp2
      go_ret
      exact ⟨rfl, HB5.out.alloc HB5.out.size _⟩
    · have he2 : ((e : Int) == 0) = false := by simp; omega
      clear h3 HPP
      go_wp2
      go_ret
      exact ⟨rfl, HB5.out.alloc HB5.out.size _⟩
  · have hf2 : ((e : Int) == 50) = false := by simp; omega
    have q1 : ((n : Int) == (n : Int)) = true := by simp
    have q2 : ((e : Int) == (e : Int)) = true := by simp
    clear HPP h1
    go_wp2
    go_ret
    exact ⟨rfl, HB5.out.alloc HB5.out.size _⟩
theorem cuts_walk (s : ByteArray) (x : Nat) (w : World) (hg : Globs w) (hs : s.size ≤ maxLen) (hx : x < 65536) :
    Calls Tryd.prog 5 #[.string s, .int .u16 (x : Int)] w fun e w' => e = .returned (.bool true) ∧ Below w.heap.size w w' := by
  by_cases h : 2000 < s.size ∨ s.size = 0
  · exact cuts_long s x w hg h hs
  · exact cuts_short s x w hg (by omega) (by omega) hx
end Go.Proofs.YtcohecghibndhaaDoor
