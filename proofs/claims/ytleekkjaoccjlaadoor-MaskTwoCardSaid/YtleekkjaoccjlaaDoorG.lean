/- mask: MaskLonger's walk. -/
import Derived.Test.YtleekkjaoccjlaaDoorF
set_option maxRecDepth 100000
namespace Go.Proofs.YtleekkjaoccjlaaDoor
open Go.RowKit MaskPlain

theorem put_len (n : Nat) (s : List Nat) (k : Nat) (w : World) (hg : Globs w) (h : putL n = some s) (hk : s.length = k) :
    Calls Tryd.prog 13 #[.int .u64 n] w fun e w' => ∃ g cap, e = .returned (.tuple #[.slice (some ⟨g, 0, none⟩) k cap, .int .i64 0]) ∧ Sl (SrcAt w' (.slice (some ⟨g, 0, none⟩) k cap) s) ∧ Sl (Below w.heap.size w w') := by
  subst hk; exact put_yes n s w hg h
theorem put_cases (n : Nat) : (∃ s, putL n = some s ∧ n ≤ 9223372036854775807) ∨ (putL n = none ∧ 9223372036854775807 < n) := by
  have h := put_some n
  cases hp : putL n with
  | some s => rw [hp] at h; exact .inl ⟨s, rfl, of_decide_eq_true h.symm⟩
  | none => rw [hp] at h; exact .inr ⟨rfl, by have := of_decide_eq_false h.symm; omega⟩

set_option maxHeartbeats 4000000 in
theorem longer_walk (n m : Nat) (w : World) (hg : Globs w) (_ : n < 18446744073709551616) (_ : m < 18446744073709551616) :
    Calls Tryd.prog 9 #[.int .u64 n, .int .u64 m] w fun e w' => e = .returned (.bool true) ∧ Below w.heap.size w w' := by
  have HG := Sl.mk hg
  clear hg
  rcases put_cases n with ⟨s, hs, hs2⟩ | ⟨hs, hs2⟩
  · rcases put_cases m with ⟨t, ht, ht2⟩ | ⟨ht, ht2⟩
    · obtain ⟨ls, hls⟩ : ∃ ls, s.length = ls := ⟨_, rfl⟩
      obtain ⟨lt, hlt⟩ : ∃ lt, t.length = lt := ⟨_, rfl⟩
      have hput := put_length hs
      rw [hls] at hput
      have hsz : (ls = 1 ∧ n ≤ 125) ∨ (ls = 3 ∧ 125 < n ∧ n ≤ 65535) ∨ (ls = 9 ∧ 125 < n ∧ 65535 < n) := by
        rw [hput]; split
        · exact .inr (.inr ⟨rfl, by omega, by omega⟩)
        · split
          · exact .inr (.inl ⟨rfl, by omega, by omega⟩)
          · exact .inl ⟨rfl, by omega⟩
      have HLONG : Sl (n ≤ m → ls ≤ lt) := ⟨fun h => by have := put_longer hs ht h; rwa [hls, hlt] at this⟩
      have HEQ : ((strOf s).toList == (strOf t).toList) = decide (n = m) := by
        rw [beq_bytes2, bytes_strOf _ (put_small hs), bytes_strOf _ (put_small ht), decide_eq_decide]
        exact ⟨fun h => put_inj hs (by rw [ht, h]), fun h => by subst h; rw [hs] at ht; injection ht⟩
      have HC1 := fun W hW => put_len n s ls W hW hs hls
      have HC2 := fun W hW => put_len m t lt W hW ht hlt
      clear hs ht hls hlt hs2 ht2 hput
      go_enter Tryd.func9, Tryd.ntmps9
      rcases hsz with ⟨rfl, h1⟩ | ⟨rfl, h1, h2⟩ | ⟨rfl, h1, h2⟩
      · have h2 : n ≤ 65535 := by omega
        by_cases ho : n > m
        · clear HLONG
          have hne : decide (n = m) = false := decide_eq_false (by omega)
          rw [hne] at HEQ
          have hqq : ((n : Int) == (m : Int)) = false := beq_eq_false_iff_ne.2 (by omega)
          go_wp2_with fail
          refine (HC1 w HG.out).mono ?_
          rintro e w1 ⟨g1, c1, rfl, HS1, HB1⟩
          go_wp2_with fail
          refine (HC2 w1 (HG.out.below HB1.out HG.out.size)).mono ?_
          rintro e w2 ⟨g2, c2, rfl, HS2, HX2⟩
          have HB2 : Sl (Below w.heap.size w w2) := ⟨HB1.out.trans (HX2.out.mono HB1.out.size)⟩
          have HS12 := Sl.mk (HS1.out.below (Nat.le_refl _) HX2.out)
          clear HS1
          go_wp2_with fail
          refine (awake_any w2 (HG.out.below HB2.out HG.out.size)).mono ?_
          rintro e w3 ⟨rfl, HX3⟩
          have HB3 : Sl (Below w.heap.size w w3) := ⟨HB2.out.trans (HX3.out.mono HB2.out.size)⟩
          have hv1 := (HS12.out.below (Nat.le_refl _) HX3.out).conv
          have hv2 := (HS2.out.below (Nat.le_refl _) HX3.out).conv
          go_wp2
          go_ret
          exact ⟨rfl, HB3.out⟩
        · have hle := HLONG.out (by omega)
          clear HLONG
          by_cases he : n = m
          · have hne : decide (n = m) = true := decide_eq_true (by omega)
            rw [hne] at HEQ
            subst he
            clear hne
            have hqq : ((n : Int) == (n : Int)) = true := by simp
            go_wp2_with fail
            refine (HC1 w HG.out).mono ?_
            rintro e w1 ⟨g1, c1, rfl, HS1, HB1⟩
            go_wp2_with fail
            refine (HC2 w1 (HG.out.below HB1.out HG.out.size)).mono ?_
            rintro e w2 ⟨g2, c2, rfl, HS2, HX2⟩
            have HB2 : Sl (Below w.heap.size w w2) := ⟨HB1.out.trans (HX2.out.mono HB1.out.size)⟩
            have HS12 := Sl.mk (HS1.out.below (Nat.le_refl _) HX2.out)
            clear HS1
            go_wp2_with fail
            refine (awake_any w2 (HG.out.below HB2.out HG.out.size)).mono ?_
            rintro e w3 ⟨rfl, HX3⟩
            have HB3 : Sl (Below w.heap.size w w3) := ⟨HB2.out.trans (HX3.out.mono HB2.out.size)⟩
            have hv1 := (HS12.out.below (Nat.le_refl _) HX3.out).conv
            have hv2 := (HS2.out.below (Nat.le_refl _) HX3.out).conv
            go_wp2
            go_ret
            exact ⟨rfl, HB3.out⟩
          · have hne : decide (n = m) = false := decide_eq_false (by omega)
            rw [hne] at HEQ
            have hqq : ((n : Int) == (m : Int)) = false := beq_eq_false_iff_ne.2 (by omega)
            go_wp2_with fail
            refine (HC1 w HG.out).mono ?_
            rintro e w1 ⟨g1, c1, rfl, HS1, HB1⟩
            go_wp2_with fail
            refine (HC2 w1 (HG.out.below HB1.out HG.out.size)).mono ?_
            rintro e w2 ⟨g2, c2, rfl, HS2, HX2⟩
            have HB2 : Sl (Below w.heap.size w w2) := ⟨HB1.out.trans (HX2.out.mono HB1.out.size)⟩
            have HS12 := Sl.mk (HS1.out.below (Nat.le_refl _) HX2.out)
            clear HS1
            go_wp2_with fail
            refine (awake_any w2 (HG.out.below HB2.out HG.out.size)).mono ?_
            rintro e w3 ⟨rfl, HX3⟩
            have HB3 : Sl (Below w.heap.size w w3) := ⟨HB2.out.trans (HX3.out.mono HB2.out.size)⟩
            have hv1 := (HS12.out.below (Nat.le_refl _) HX3.out).conv
            have hv2 := (HS2.out.below (Nat.le_refl _) HX3.out).conv
            go_wp2
            go_ret
            exact ⟨rfl, HB3.out⟩
      · by_cases ho : n > m
        · clear HLONG
          have hne : decide (n = m) = false := decide_eq_false (by omega)
          rw [hne] at HEQ
          have hqq : ((n : Int) == (m : Int)) = false := beq_eq_false_iff_ne.2 (by omega)
          go_wp2_with fail
          refine (HC1 w HG.out).mono ?_
          rintro e w1 ⟨g1, c1, rfl, HS1, HB1⟩
          go_wp2_with fail
          refine (HC2 w1 (HG.out.below HB1.out HG.out.size)).mono ?_
          rintro e w2 ⟨g2, c2, rfl, HS2, HX2⟩
          have HB2 : Sl (Below w.heap.size w w2) := ⟨HB1.out.trans (HX2.out.mono HB1.out.size)⟩
          have HS12 := Sl.mk (HS1.out.below (Nat.le_refl _) HX2.out)
          clear HS1
          go_wp2_with fail
          refine (awake_any w2 (HG.out.below HB2.out HG.out.size)).mono ?_
          rintro e w3 ⟨rfl, HX3⟩
          have HB3 : Sl (Below w.heap.size w w3) := ⟨HB2.out.trans (HX3.out.mono HB2.out.size)⟩
          have hv1 := (HS12.out.below (Nat.le_refl _) HX3.out).conv
          have hv2 := (HS2.out.below (Nat.le_refl _) HX3.out).conv
          go_wp2
          go_ret
          exact ⟨rfl, HB3.out⟩
        · have hle := HLONG.out (by omega)
          clear HLONG
          by_cases he : n = m
          · have hne : decide (n = m) = true := decide_eq_true (by omega)
            rw [hne] at HEQ
            subst he
            clear hne
            have hqq : ((n : Int) == (n : Int)) = true := by simp
            go_wp2_with fail
            refine (HC1 w HG.out).mono ?_
            rintro e w1 ⟨g1, c1, rfl, HS1, HB1⟩
            go_wp2_with fail
            refine (HC2 w1 (HG.out.below HB1.out HG.out.size)).mono ?_
            rintro e w2 ⟨g2, c2, rfl, HS2, HX2⟩
            have HB2 : Sl (Below w.heap.size w w2) := ⟨HB1.out.trans (HX2.out.mono HB1.out.size)⟩
            have HS12 := Sl.mk (HS1.out.below (Nat.le_refl _) HX2.out)
            clear HS1
            go_wp2_with fail
            refine (awake_any w2 (HG.out.below HB2.out HG.out.size)).mono ?_
            rintro e w3 ⟨rfl, HX3⟩
            have HB3 : Sl (Below w.heap.size w w3) := ⟨HB2.out.trans (HX3.out.mono HB2.out.size)⟩
            have hv1 := (HS12.out.below (Nat.le_refl _) HX3.out).conv
            have hv2 := (HS2.out.below (Nat.le_refl _) HX3.out).conv
            go_wp2
            go_ret
            exact ⟨rfl, HB3.out⟩
          · have hne : decide (n = m) = false := decide_eq_false (by omega)
            rw [hne] at HEQ
            have hqq : ((n : Int) == (m : Int)) = false := beq_eq_false_iff_ne.2 (by omega)
            go_wp2_with fail
            refine (HC1 w HG.out).mono ?_
            rintro e w1 ⟨g1, c1, rfl, HS1, HB1⟩
            go_wp2_with fail
            refine (HC2 w1 (HG.out.below HB1.out HG.out.size)).mono ?_
            rintro e w2 ⟨g2, c2, rfl, HS2, HX2⟩
            have HB2 : Sl (Below w.heap.size w w2) := ⟨HB1.out.trans (HX2.out.mono HB1.out.size)⟩
            have HS12 := Sl.mk (HS1.out.below (Nat.le_refl _) HX2.out)
            clear HS1
            go_wp2_with fail
            refine (awake_any w2 (HG.out.below HB2.out HG.out.size)).mono ?_
            rintro e w3 ⟨rfl, HX3⟩
            have HB3 : Sl (Below w.heap.size w w3) := ⟨HB2.out.trans (HX3.out.mono HB2.out.size)⟩
            have hv1 := (HS12.out.below (Nat.le_refl _) HX3.out).conv
            have hv2 := (HS2.out.below (Nat.le_refl _) HX3.out).conv
            go_wp2
            go_ret
            exact ⟨rfl, HB3.out⟩
      · by_cases ho : n > m
        · clear HLONG
          have hne : decide (n = m) = false := decide_eq_false (by omega)
          rw [hne] at HEQ
          have hqq : ((n : Int) == (m : Int)) = false := beq_eq_false_iff_ne.2 (by omega)
          go_wp2_with fail
          refine (HC1 w HG.out).mono ?_
          rintro e w1 ⟨g1, c1, rfl, HS1, HB1⟩
          go_wp2_with fail
          refine (HC2 w1 (HG.out.below HB1.out HG.out.size)).mono ?_
          rintro e w2 ⟨g2, c2, rfl, HS2, HX2⟩
          have HB2 : Sl (Below w.heap.size w w2) := ⟨HB1.out.trans (HX2.out.mono HB1.out.size)⟩
          have HS12 := Sl.mk (HS1.out.below (Nat.le_refl _) HX2.out)
          clear HS1
          go_wp2_with fail
          refine (awake_any w2 (HG.out.below HB2.out HG.out.size)).mono ?_
          rintro e w3 ⟨rfl, HX3⟩
          have HB3 : Sl (Below w.heap.size w w3) := ⟨HB2.out.trans (HX3.out.mono HB2.out.size)⟩
          have hv1 := (HS12.out.below (Nat.le_refl _) HX3.out).conv
          have hv2 := (HS2.out.below (Nat.le_refl _) HX3.out).conv
          go_wp2
          go_ret
          exact ⟨rfl, HB3.out⟩
        · have hle := HLONG.out (by omega)
          clear HLONG
          by_cases he : n = m
          · have hne : decide (n = m) = true := decide_eq_true (by omega)
            rw [hne] at HEQ
            subst he
            clear hne
            have hqq : ((n : Int) == (n : Int)) = true := by simp
            go_wp2_with fail
            refine (HC1 w HG.out).mono ?_
            rintro e w1 ⟨g1, c1, rfl, HS1, HB1⟩
            go_wp2_with fail
            refine (HC2 w1 (HG.out.below HB1.out HG.out.size)).mono ?_
            rintro e w2 ⟨g2, c2, rfl, HS2, HX2⟩
            have HB2 : Sl (Below w.heap.size w w2) := ⟨HB1.out.trans (HX2.out.mono HB1.out.size)⟩
            have HS12 := Sl.mk (HS1.out.below (Nat.le_refl _) HX2.out)
            clear HS1
            go_wp2_with fail
            refine (awake_any w2 (HG.out.below HB2.out HG.out.size)).mono ?_
            rintro e w3 ⟨rfl, HX3⟩
            have HB3 : Sl (Below w.heap.size w w3) := ⟨HB2.out.trans (HX3.out.mono HB2.out.size)⟩
            have hv1 := (HS12.out.below (Nat.le_refl _) HX3.out).conv
            have hv2 := (HS2.out.below (Nat.le_refl _) HX3.out).conv
            go_wp2
            go_ret
            exact ⟨rfl, HB3.out⟩
          · have hne : decide (n = m) = false := decide_eq_false (by omega)
            rw [hne] at HEQ
            have hqq : ((n : Int) == (m : Int)) = false := beq_eq_false_iff_ne.2 (by omega)
            go_wp2_with fail
            refine (HC1 w HG.out).mono ?_
            rintro e w1 ⟨g1, c1, rfl, HS1, HB1⟩
            go_wp2_with fail
            refine (HC2 w1 (HG.out.below HB1.out HG.out.size)).mono ?_
            rintro e w2 ⟨g2, c2, rfl, HS2, HX2⟩
            have HB2 : Sl (Below w.heap.size w w2) := ⟨HB1.out.trans (HX2.out.mono HB1.out.size)⟩
            have HS12 := Sl.mk (HS1.out.below (Nat.le_refl _) HX2.out)
            clear HS1
            go_wp2_with fail
            refine (awake_any w2 (HG.out.below HB2.out HG.out.size)).mono ?_
            rintro e w3 ⟨rfl, HX3⟩
            have HB3 : Sl (Below w.heap.size w w3) := ⟨HB2.out.trans (HX3.out.mono HB2.out.size)⟩
            have hv1 := (HS12.out.below (Nat.le_refl _) HX3.out).conv
            have hv2 := (HS2.out.below (Nat.le_refl _) HX3.out).conv
            go_wp2
            go_ret
            exact ⟨rfl, HB3.out⟩
    · have hq1 : ((n : Int) < 9223372036854775808) = True := eq_true (by omega)
      have hq2 : ((m : Int) < 9223372036854775808) = False := eq_false (by omega)
      clear hs2 ht2
      go_enter Tryd.func9, Tryd.ntmps9
      go_wp2_with fail
      refine (put_yes n s w HG.out hs).mono ?_
      rintro e w1 ⟨g1, c1, rfl, _, HB1⟩
      go_wp2_with fail
      refine (put_no m w1 (HG.out.below HB1.out HG.out.size) ht).mono ?_
      rintro e w2 ⟨rfl, HX2⟩
      have HB2 : Sl (Below w.heap.size w w2) := ⟨HB1.out.trans (HX2.out.mono HB1.out.size)⟩
      go_wp2_with fail
      refine (awake_any w2 (HG.out.below HB2.out HG.out.size)).mono ?_
      rintro e w3 ⟨rfl, HX3⟩
      have HB3 : Sl (Below w.heap.size w w3) := ⟨HB2.out.trans (HX3.out.mono HB2.out.size)⟩
      go_wp2
      go_ret
      exact ⟨rfl, HB3.out⟩
  · have hq1 : ((n : Int) < 9223372036854775808) = False := eq_false (by omega)
    clear hs2
    rcases put_cases m with ⟨t, ht, ht2⟩ | ⟨ht, ht2⟩
    · have hq2 : ((m : Int) < 9223372036854775808) = True := eq_true (by omega)
      clear ht2
      go_enter Tryd.func9, Tryd.ntmps9
      go_wp2_with fail
      refine (put_no n w HG.out hs).mono ?_
      rintro e w1 ⟨rfl, HB1⟩
      go_wp2_with fail
      refine (put_yes m t w1 (HG.out.below HB1.out HG.out.size) ht).mono ?_
      rintro e w2 ⟨g2, c2, rfl, _, HX2⟩
      have HB2 : Sl (Below w.heap.size w w2) := ⟨HB1.out.trans (HX2.out.mono HB1.out.size)⟩
      go_wp2_with fail
      refine (awake_any w2 (HG.out.below HB2.out HG.out.size)).mono ?_
      rintro e w3 ⟨rfl, HX3⟩
      have HB3 : Sl (Below w.heap.size w w3) := ⟨HB2.out.trans (HX3.out.mono HB2.out.size)⟩
      go_wp2
      go_ret
      exact ⟨rfl, HB3.out⟩
    · have hq2 : ((m : Int) < 9223372036854775808) = False := eq_false (by omega)
      clear ht2
      go_enter Tryd.func9, Tryd.ntmps9
      go_wp2_with fail
      refine (put_no n w HG.out hs).mono ?_
      rintro e w1 ⟨rfl, HB1⟩
      go_wp2_with fail
      refine (put_no m w1 (HG.out.below HB1.out HG.out.size) ht).mono ?_
      rintro e w2 ⟨rfl, HX2⟩
      have HB2 : Sl (Below w.heap.size w w2) := ⟨HB1.out.trans (HX2.out.mono HB1.out.size)⟩
      go_wp2_with fail
      refine (awake_any w2 (HG.out.below HB2.out HG.out.size)).mono ?_
      rintro e w3 ⟨rfl, HX3⟩
      have HB3 : Sl (Below w.heap.size w w3) := ⟨HB2.out.trans (HX3.out.mono HB2.out.size)⟩
      go_wp2
      go_ret
      exact ⟨rfl, HB3.out⟩
end Go.Proofs.YtleekkjaoccjlaaDoor
