/- HeadSame, the walk: whatever three strings come in, the law's Go text returns true, and nothing that was in memory changes. -/
import Derived.Test.YtcohecghibndhaaDoorO
namespace Go.Proofs.YtcohecghibndhaaDoor
open Go.RowKit HeadPlain

theorem sameR_ex (w0 W : World) (a b : ByteArray) (r : Bool) (hr : same (bytes a) (bytes b) = r) (hB : Below w0.heap.size w0 W) (ha : a.size ≤ maxLen) :
    Calls Tryd.prog 26 #[.string a, .string b] W fun e w' => e = .returned (.bool r) ∧ Sl (Below W.heap.size W w') ∧ Sl (Below w0.heap.size w0 w') := by
  subst hr
  exact (sameR_any a b W ha).mono fun _ _ ⟨h1, h2⟩ => ⟨h1, ⟨h2.below⟩, ⟨below_trans hB h2.below⟩⟩

set_option maxHeartbeats 400000 in
theorem same_long (a b c : ByteArray) (w : World) (hg : Globs w) (h : 300 < a.size ∨ 300 < b.size ∨ 300 < c.size) (ha : a.size ≤ maxLen) (hb : b.size ≤ maxLen) (hc : c.size ≤ maxLen) :
    Calls Tryd.prog 7 #[.string a, .string b, .string c] w fun e w' => e = .returned (.bool true) ∧ Below w.heap.size w w' := by
  unfold maxLen at ha hb hc
  have HG := Sl.mk hg
  clear hg
  by_cases h1 : 300 < a.size
  · have h1' : (a.size : Int) > 300 := by omega
    clear h
    go_enter Tryd.func7, Tryd.ntmps7
    go_wp2_with fail
    refine (awake_ex w _ (Below.refl _ _) HG.out).mono ?_
    rintro e w1 ⟨rfl, HX1, HB1⟩
    go_wp2_with fail
    refine (awake_ex w _ HB1.out HG.out).mono ?_
    rintro e w2 ⟨rfl, HX2, HB2⟩
    go_wp2
    go_ret
    exact ⟨rfl, HB2.out⟩
  · have h1' : ((a.size : Int) > 300) = False := eq_false (by omega)
    by_cases h2 : 300 < b.size
    · have h2' : (b.size : Int) > 300 := by omega
      clear h
      go_enter Tryd.func7, Tryd.ntmps7
      go_wp2_with fail
      refine (awake_ex w _ (Below.refl _ _) HG.out).mono ?_
      rintro e w1 ⟨rfl, HX1, HB1⟩
      go_wp2_with fail
      refine (awake_ex w _ HB1.out HG.out).mono ?_
      rintro e w2 ⟨rfl, HX2, HB2⟩
      go_wp2
      go_ret
      exact ⟨rfl, HB2.out⟩
    · have h2' : ((b.size : Int) > 300) = False := eq_false (by omega)
      have h3' : (c.size : Int) > 300 := by omega
      clear h
      go_enter Tryd.func7, Tryd.ntmps7
      go_wp2_with fail
      refine (awake_ex w _ (Below.refl _ _) HG.out).mono ?_
      rintro e w1 ⟨rfl, HX1, HB1⟩
      go_wp2_with fail
      refine (awake_ex w _ HB1.out HG.out).mono ?_
      rintro e w2 ⟨rfl, HX2, HB2⟩
      go_wp2
      go_ret
      exact ⟨rfl, HB2.out⟩
set_option maxHeartbeats 1000000 in
theorem same_short (a b c : ByteArray) (w : World) (hg : Globs w) (h1 : a.size ≤ 300) (h2 : b.size ≤ 300) (h3 : c.size ≤ 300) :
    Calls Tryd.prog 7 #[.string a, .string b, .string c] w fun e w' => e = .returned (.bool true) ∧ Below w.heap.size w w' := by
  have HG := Sl.mk hg
  clear hg
  have h1' : ((a.size : Int) > 300) = False := eq_false (by omega)
  have h2' : ((b.size : Int) > 300) = False := eq_false (by omega)
  have h3' : ((c.size : Int) > 300) = False := eq_false (by omega)
  obtain ⟨x, hx⟩ : ∃ x, same (bytes a) (bytes b) = x := ⟨_, rfl⟩
  obtain ⟨y, hy⟩ : ∃ y, same (bytes b) (bytes c) = y := ⟨_, rfl⟩
  have HX := Sl.mk hx
  have HY := Sl.mk hy
  have HBA : Sl (same (bytes b) (bytes a) = x) := ⟨by rw [same_comm, hx]⟩
  have HAC : Sl (x = true → y = true → same (bytes a) (bytes c) = true) := ⟨fun p q => same_trans (hx.trans p) (hy.trans q)⟩
  have hm : ∀ s : ByteArray, s.size ≤ 300 → s.size ≤ maxLen := fun s h => by unfold maxLen; omega
  have HMa := Sl.mk (hm a h1)
  have HMb := Sl.mk (hm b h2)
  have hxx : (x == x) = true := by simp
  clear hx hy hm
  go_enter Tryd.func7, Tryd.ntmps7
  go_wp2_with fail
  refine (awake_ex w _ (Below.refl _ _) HG.out).mono ?_
  rintro e w1 ⟨rfl, HX1, HB1⟩
  go_wp2_with fail
  refine (same_ex w _ a b x HX.out HB1.out HMa.out).mono ?_
  rintro e w2 ⟨rfl, HX2, HB2⟩
  go_wp2_with fail
  refine (same_ex w _ b c y HY.out HB2.out HMb.out).mono ?_
  rintro e w3 ⟨rfl, HX3, HB3⟩
  go_wp2_with fail
  refine (sameR_ex w _ a b x HX.out HB3.out HMa.out).mono ?_
  rintro e w4 ⟨rfl, HX4, HB4⟩
  go_wp2_with fail
  refine (same_ex w _ a a true (same_refl _) HB4.out HMa.out).mono ?_
  rintro e w5 ⟨rfl, HX5, HB5⟩
  go_wp2_with fail
  refine (same_ex w _ b a x HBA.out HB5.out HMb.out).mono ?_
  rintro e w6 ⟨rfl, HX6, HB6⟩
  cases hxb : x with
  | false =>
    subst hxb
    go_wp2
    go_ret
    exact ⟨rfl, HB6.out⟩
  | true =>
    subst hxb
    cases hyb : y with
    | false =>
      subst hyb
      go_wp2
      go_ret
      exact ⟨rfl, HB6.out⟩
    | true =>
      subst hyb
      go_wp2_with fail
      refine (same_ex w _ a c true (HAC.out (by first | rfl | trivial) (by first | rfl | trivial)) HB6.out HMa.out).mono ?_
      rintro e w7 ⟨rfl, HX7, HB7⟩
      go_wp2
      go_ret
      exact ⟨rfl, HB7.out⟩
theorem same_walk (a b c : ByteArray) (w : World) (hg : Globs w) (ha : a.size ≤ maxLen) (hb : b.size ≤ maxLen) (hc : c.size ≤ maxLen) :
    Calls Tryd.prog 7 #[.string a, .string b, .string c] w fun e w' => e = .returned (.bool true) ∧ Below w.heap.size w w' := by
  by_cases h : 300 < a.size ∨ 300 < b.size ∨ 300 < c.size
  · exact same_long a b c w hg h ha hb hc
  · exact same_short a b c w hg (by omega) (by omega) (by omega)
end Go.Proofs.YtcohecghibndhaaDoor
