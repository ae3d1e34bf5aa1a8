/- RouteBelow's walk. -/
import Derived.Test.YtdndpicfnlcgjaaDoorRO
set_option maxRecDepth 100000
namespace Go.Proofs.YtdndpicfnlcgjaaDoor.Rou
open Go.RowKit Nam
open RoutePlain (Rt below better fits pick stem)

theorem str_ne {x y : ByteArray} (h : bytes x = bytes y) : (x.toList != y.toList) = false ∧ (x.toList == y.toList) = true := by
  have : (x.toList == y.toList) = true := by rw [beq_bytes2]; exact decide_eq_true h
  exact ⟨by rw [bne, this]; rfl, this⟩
theorem str_ne' {x y : ByteArray} (h : bytes x ≠ bytes y) : (x.toList != y.toList) = true ∧ (x.toList == y.toList) = false := by
  have : (x.toList == y.toList) = false := by rw [beq_bytes2]; exact decide_eq_false h
  exact ⟨by rw [bne, this]; rfl, this⟩
set_option maxHeartbeats 8000000 in
theorem below_walk (a b m : ByteArray) (W : World) (hg : Globs W) (ha : a.size ≤ maxLen) (hb : b.size ≤ maxLen) (hm : m.size ≤ maxLen) : Calls Tryd.prog 5 #[.string a, .string b, .string m] W fun e w' => e = .returned (.bool true) ∧ Below W.heap.size W w' := by
  have AW : Sl (∀ V, Below W.heap.size W V → Calls Tryd.prog 10 #[] V fun e w' => e = .returned (.bool true) ∧ Sl (Below V.heap.size V w')) := ⟨fun V h => awake_any V (hg.of h)⟩
  have hz : ∀ s : ByteArray, s.size ≤ maxLen → s.size ≤ 9223372036854775807 := fun s h => by unfold maxLen at h; omega
  have ha9 := hz a ha
  have hb9 := hz b hb
  have hm9 := hz m hm
  clear hz hg ha hb hm
  by_cases h0 : a.size > 300
  · have h0' : ((a.size : Int) > 300) = True := eq_true (by omega)
    go_enter Tryd.func5, Tryd.ntmps5
    go_wp2_with fail
    refine (AW.out W (Below.refl _ _)).mono ?_
    rintro e w1 ⟨rfl, HB1⟩
    go_wp2_with fail
    refine (AW.out _ HB1.out).mono ?_
    rintro e w2 ⟨rfl, HB2⟩
    go_wp2
    go_ret
    exact ⟨rfl, HB1.out.trans (HB2.out.mono HB1.out.size)⟩
  have h0' : ((a.size : Int) > 300) = False := eq_false (by omega)
  by_cases h1 : b.size > 300
  · have h1' : ((b.size : Int) > 300) = True := eq_true (by omega)
    go_enter Tryd.func5, Tryd.ntmps5
    go_wp2_with fail
    refine (AW.out W (Below.refl _ _)).mono ?_
    rintro e w1 ⟨rfl, HB1⟩
    go_wp2_with fail
    refine (AW.out _ HB1.out).mono ?_
    rintro e w2 ⟨rfl, HB2⟩
    go_wp2
    go_ret
    exact ⟨rfl, HB1.out.trans (HB2.out.mono HB1.out.size)⟩
  have h1' : ((b.size : Int) > 300) = False := eq_false (by omega)
  by_cases h2 : m.size > 300
  · have h2' : ((m.size : Int) > 300) = True := eq_true (by omega)
    go_enter Tryd.func5, Tryd.ntmps5
    go_wp2_with fail
    refine (AW.out W (Below.refl _ _)).mono ?_
    rintro e w1 ⟨rfl, HB1⟩
    go_wp2_with fail
    refine (AW.out _ HB1.out).mono ?_
    rintro e w2 ⟨rfl, HB2⟩
    go_wp2
    go_ret
    exact ⟨rfl, HB1.out.trans (HB2.out.mono HB1.out.size)⟩
  have h2' : ((m.size : Int) > 300) = False := eq_false (by omega)
  have A1 : a.size ≤ maxLen := by unfold maxLen; omega
  have B1 : b.size ≤ maxLen := by unfold maxLen; omega
  obtain ⟨x, hx⟩ : ∃ x, below (bytes a) (bytes b) = x := ⟨_, rfl⟩
  obtain ⟨s1, hs1⟩ : ∃ s, a ++ { data := #[63] } ++ m = s := ⟨_, rfl⟩
  obtain ⟨s2, hs2⟩ : ∃ s, a ++ { data := #[47] } ++ m = s := ⟨_, rfl⟩
  have z1 : s1.size = a.size + 1 + m.size := by rw [← hs1, ByteArray.size_append, ByteArray.size_append]; rfl
  have z2 : s2.size = a.size + 1 + m.size := by rw [← hs2, ByteArray.size_append, ByteArray.size_append]; rfl
  have HX := Sl.mk hx
  have BL : Sl (∀ V, Calls Tryd.prog 19 #[.string a, .string b] V fun e w' => e = .returned (.bool x) ∧ Sl (Below V.heap.size V w')) := ⟨fun V => below_any a b V A1 B1 x hx⟩
  have RB : Sl (∀ V, Calls Tryd.prog 20 #[.string a, .string b] V fun e w' => e = .returned (.bool x) ∧ V = w') := ⟨fun V => rbelow_any a b V A1 B1 x hx⟩
  have BM : Sl (∀ V, Calls Tryd.prog 19 #[.string s1, .string b] V fun e w' => e = .returned (.bool x) ∧ Sl (Below V.heap.size V w')) := ⟨fun V => below_any s1 b V (by unfold maxLen; omega) B1 x (by
    rw [← hx, ← hs1, bytes_append, bytes_append, List.append_assoc]
    exact RoutePlain.below_mark _ _ _)⟩
  have LP : Sl (∀ V, Calls Tryd.prog 21 #[.string a] V fun e w' => e = .returned (.string (plc a)) ∧ V = w') := ⟨fun V => lplain_any a V A1⟩
  have BN : Sl (x = true → bytes (plc a) = bytes a → ∀ V, Calls Tryd.prog 19 #[.string s2, .string b] V fun e w' => e = .returned (.bool true) ∧ Sl (Below V.heap.size V w')) := ⟨fun h1 h2 V => below_any s2 b V (by unfold maxLen; omega) B1 true (by
    rw [← hs2, bytes_append, bytes_append, List.append_assoc]
    exact RoutePlain.below_more (bytes m) (hx.trans h1) (by rw [← plc_bytes]; exact h2))⟩
  have SF : Sl (bytes b = bytes a → bytes (plc a) = bytes a → x = true) := ⟨fun h1 h2 => by
    rw [← hx, h1]; exact RoutePlain.below_self (by rw [← plc_bytes]; exact h2)⟩
  obtain ⟨pa, hpa⟩ : ∃ p, plc a = p := ⟨_, rfl⟩
  rw [hpa] at LP BN SF
  clear hx A1 B1 z1 z2 hpa
  cases x with
  | true =>
    by_cases HPA : bytes pa = bytes a
    · obtain ⟨n1, n2⟩ := str_ne HPA
      by_cases HEB : bytes b = bytes a
      · obtain ⟨l1, l2⟩ := str_ne HEB
        go_enter Tryd.func5, Tryd.ntmps5
        go_wp2_with fail
        refine (AW.out W (Below.refl _ _)).mono ?_
        rintro e w1 ⟨rfl, HB1⟩
        go_wp2_with fail
        refine (BL.out _).mono ?_
        rintro e w2 ⟨rfl, HB2⟩
        have HC2 : Sl (Below W.heap.size W w2) := ⟨HB1.out.trans (HB2.out.mono HB1.out.size)⟩
        go_wp2_with fail
        refine (RB.out _).mono ?_
        rintro e w3 ⟨rfl, rfl⟩
        go_wp2_with fail
        (try rw [hs1])
        refine (BM.out _).mono ?_
        rintro e w4 ⟨rfl, HB4⟩
        have HC4 : Sl (Below W.heap.size W w4) := ⟨HC2.out.trans (HB4.out.mono HC2.out.size)⟩
        go_wp2_with fail
        refine (LP.out _).mono ?_
        rintro e w5 ⟨rfl, rfl⟩
        go_wp2_with fail
        (try rw [hs2])
        refine (BN.out (by trivial) HPA _).mono ?_
        rintro e w6 ⟨rfl, HB6⟩
        have HC6 : Sl (Below W.heap.size W w6) := ⟨HC4.out.trans (HB6.out.mono HC4.out.size)⟩
        go_wp2_with fail
        refine (LP.out _).mono ?_
        rintro e w7 ⟨rfl, rfl⟩
        go_wp2
        go_ret
        exact ⟨rfl, HC6.out⟩
      · obtain ⟨l1, l2⟩ := str_ne' HEB
        go_enter Tryd.func5, Tryd.ntmps5
        go_wp2_with fail
        refine (AW.out W (Below.refl _ _)).mono ?_
        rintro e w1 ⟨rfl, HB1⟩
        go_wp2_with fail
        refine (BL.out _).mono ?_
        rintro e w2 ⟨rfl, HB2⟩
        have HC2 : Sl (Below W.heap.size W w2) := ⟨HB1.out.trans (HB2.out.mono HB1.out.size)⟩
        go_wp2_with fail
        refine (RB.out _).mono ?_
        rintro e w3 ⟨rfl, rfl⟩
        go_wp2_with fail
        (try rw [hs1])
        refine (BM.out _).mono ?_
        rintro e w4 ⟨rfl, HB4⟩
        have HC4 : Sl (Below W.heap.size W w4) := ⟨HC2.out.trans (HB4.out.mono HC2.out.size)⟩
        go_wp2_with fail
        refine (LP.out _).mono ?_
        rintro e w5 ⟨rfl, rfl⟩
        go_wp2_with fail
        (try rw [hs2])
        refine (BN.out (by trivial) HPA _).mono ?_
        rintro e w6 ⟨rfl, HB6⟩
        have HC6 : Sl (Below W.heap.size W w6) := ⟨HC4.out.trans (HB6.out.mono HC4.out.size)⟩
        go_wp2
        go_ret
        exact ⟨rfl, HC6.out⟩
    · obtain ⟨n1, n2⟩ := str_ne' HPA
      by_cases HEB : bytes b = bytes a
      · obtain ⟨l1, l2⟩ := str_ne HEB
        go_enter Tryd.func5, Tryd.ntmps5
        go_wp2_with fail
        refine (AW.out W (Below.refl _ _)).mono ?_
        rintro e w1 ⟨rfl, HB1⟩
        go_wp2_with fail
        refine (BL.out _).mono ?_
        rintro e w2 ⟨rfl, HB2⟩
        have HC2 : Sl (Below W.heap.size W w2) := ⟨HB1.out.trans (HB2.out.mono HB1.out.size)⟩
        go_wp2_with fail
        refine (RB.out _).mono ?_
        rintro e w3 ⟨rfl, rfl⟩
        go_wp2_with fail
        (try rw [hs1])
        refine (BM.out _).mono ?_
        rintro e w4 ⟨rfl, HB4⟩
        have HC4 : Sl (Below W.heap.size W w4) := ⟨HC2.out.trans (HB4.out.mono HC2.out.size)⟩
        go_wp2_with fail
        refine (LP.out _).mono ?_
        rintro e w5 ⟨rfl, rfl⟩
        go_wp2_with fail
        refine (LP.out _).mono ?_
        rintro e w7 ⟨rfl, rfl⟩
        go_wp2
        go_ret
        exact ⟨rfl, HC4.out⟩
      · obtain ⟨l1, l2⟩ := str_ne' HEB
        go_enter Tryd.func5, Tryd.ntmps5
        go_wp2_with fail
        refine (AW.out W (Below.refl _ _)).mono ?_
        rintro e w1 ⟨rfl, HB1⟩
        go_wp2_with fail
        refine (BL.out _).mono ?_
        rintro e w2 ⟨rfl, HB2⟩
        have HC2 : Sl (Below W.heap.size W w2) := ⟨HB1.out.trans (HB2.out.mono HB1.out.size)⟩
        go_wp2_with fail
        refine (RB.out _).mono ?_
        rintro e w3 ⟨rfl, rfl⟩
        go_wp2_with fail
        (try rw [hs1])
        refine (BM.out _).mono ?_
        rintro e w4 ⟨rfl, HB4⟩
        have HC4 : Sl (Below W.heap.size W w4) := ⟨HC2.out.trans (HB4.out.mono HC2.out.size)⟩
        go_wp2_with fail
        refine (LP.out _).mono ?_
        rintro e w5 ⟨rfl, rfl⟩
        go_wp2
        go_ret
        exact ⟨rfl, HC4.out⟩
  | false =>
    by_cases HPA : bytes pa = bytes a
    · obtain ⟨n1, n2⟩ := str_ne HPA
      by_cases HEB : bytes b = bytes a
      · obtain ⟨l1, l2⟩ := str_ne HEB
        exact absurd (SF.out HEB HPA) (by decide)
      · obtain ⟨l1, l2⟩ := str_ne' HEB
        go_enter Tryd.func5, Tryd.ntmps5
        go_wp2_with fail
        refine (AW.out W (Below.refl _ _)).mono ?_
        rintro e w1 ⟨rfl, HB1⟩
        go_wp2_with fail
        refine (BL.out _).mono ?_
        rintro e w2 ⟨rfl, HB2⟩
        have HC2 : Sl (Below W.heap.size W w2) := ⟨HB1.out.trans (HB2.out.mono HB1.out.size)⟩
        go_wp2_with fail
        refine (RB.out _).mono ?_
        rintro e w3 ⟨rfl, rfl⟩
        go_wp2_with fail
        (try rw [hs1])
        refine (BM.out _).mono ?_
        rintro e w4 ⟨rfl, HB4⟩
        have HC4 : Sl (Below W.heap.size W w4) := ⟨HC2.out.trans (HB4.out.mono HC2.out.size)⟩
        go_wp2
        go_ret
        exact ⟨rfl, HC4.out⟩
    · obtain ⟨n1, n2⟩ := str_ne' HPA
      by_cases HEB : bytes b = bytes a
      · obtain ⟨l1, l2⟩ := str_ne HEB
        go_enter Tryd.func5, Tryd.ntmps5
        go_wp2_with fail
        refine (AW.out W (Below.refl _ _)).mono ?_
        rintro e w1 ⟨rfl, HB1⟩
        go_wp2_with fail
        refine (BL.out _).mono ?_
        rintro e w2 ⟨rfl, HB2⟩
        have HC2 : Sl (Below W.heap.size W w2) := ⟨HB1.out.trans (HB2.out.mono HB1.out.size)⟩
        go_wp2_with fail
        refine (RB.out _).mono ?_
        rintro e w3 ⟨rfl, rfl⟩
        go_wp2_with fail
        (try rw [hs1])
        refine (BM.out _).mono ?_
        rintro e w4 ⟨rfl, HB4⟩
        have HC4 : Sl (Below W.heap.size W w4) := ⟨HC2.out.trans (HB4.out.mono HC2.out.size)⟩
        go_wp2_with fail
        refine (LP.out _).mono ?_
        rintro e w7 ⟨rfl, rfl⟩
        go_wp2
        go_ret
        exact ⟨rfl, HC4.out⟩
      · obtain ⟨l1, l2⟩ := str_ne' HEB
        go_enter Tryd.func5, Tryd.ntmps5
        go_wp2_with fail
        refine (AW.out W (Below.refl _ _)).mono ?_
        rintro e w1 ⟨rfl, HB1⟩
        go_wp2_with fail
        refine (BL.out _).mono ?_
        rintro e w2 ⟨rfl, HB2⟩
        have HC2 : Sl (Below W.heap.size W w2) := ⟨HB1.out.trans (HB2.out.mono HB1.out.size)⟩
        go_wp2_with fail
        refine (RB.out _).mono ?_
        rintro e w3 ⟨rfl, rfl⟩
        go_wp2_with fail
        (try rw [hs1])
        refine (BM.out _).mono ?_
        rintro e w4 ⟨rfl, HB4⟩
        have HC4 : Sl (Below W.heap.size W w4) := ⟨HC2.out.trans (HB4.out.mono HC2.out.size)⟩
        go_wp2
        go_ret
        exact ⟨rfl, HC4.out⟩
end Go.Proofs.YtdndpicfnlcgjaaDoor.Rou
