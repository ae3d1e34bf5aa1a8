/- UtfJoins, the walk: whatever two strings are handed over, the law's Go text returns true, and nothing that was in memory changes. Conditions: the table of package utf is as its text lays it; the strings fit in memory. -/
import Derived.Test.YtlkfkglcefhbgaaDoorF
namespace Go.Proofs.YtlkfkglcefhbgaaDoor
open Go.RowKit

theorem vb_append {a b : List Nat} (h : vb a = true) : vb (a ++ b) = vb b := by
  have h' : uend s0 a = some s0 := of_decide_eq_true h
  unfold vb
  rw [uend_append, h']
  rfl
theorem cb_append {a b : List Nat} (h : vb a = true) (k : vb b = true) : cb (a ++ b) = cb a + cb b := by
  have h' : uend s0 a = some s0 := of_decide_eq_true h
  have e : vb (a ++ b) = true := by rw [vb_append h]; exact k
  unfold cb
  rw [if_pos h, if_pos k, if_pos e, ucount_append, h']
theorem ucount_le (bs : List Nat) : ∀ s, ucount s bs ≤ bs.length := by
  induction bs with
  | nil => intro s; exact Nat.le_refl _
  | cons x r ih =>
    intro s
    simp only [ucount, List.length_cons]
    cases ustep s x with
    | none => exact Nat.zero_le _
    | some u => simp only; have := ih u; split <;> omega
theorem cb_le (bs : List Nat) : cb bs ≤ bs.length := by
  unfold cb; split
  · exact ucount_le bs s0
  · exact Nat.zero_le _

set_option maxHeartbeats 400000 in
theorem joins_long (a b : ByteArray) (w : World) (hg : Globs w) (h : 200 < a.size ∨ 200 < b.size) (ha : a.size ≤ maxLen) (hb : b.size ≤ maxLen) :
    Calls Tryd.prog 6 #[.string a, .string b] w fun e w' => e = .returned (.bool true) ∧ Below w.heap.size w w' := by
  unfold maxLen at ha hb
  have HG := Sl.mk hg
  clear hg
  by_cases h1 : 200 < a.size
  · clear h
    go_enter Tryd.func6, Tryd.ntmps6
    go_wp2_with fail
    refine (awake_ex w _ (Below.refl _ _) HG.out).mono ?_
    rintro e w1 ⟨rfl, HX1, HB1⟩
    go_wp2
    go_ret
    exact ⟨rfl, HB1.out⟩
  · have h2 : 200 < b.size := by omega
    clear h
    go_enter Tryd.func6, Tryd.ntmps6
    go_wp2_with fail
    refine (awake_ex w _ (Below.refl _ _) HG.out).mono ?_
    rintro e w1 ⟨rfl, HX1, HB1⟩
    go_wp2
    go_ret
    exact ⟨rfl, HB1.out⟩

set_option maxHeartbeats 1000000 in
theorem joins_short (a b : ByteArray) (w : World) (hg : Globs w) (h1 : a.size ≤ 200) (h2 : b.size ≤ 200) :
    Calls Tryd.prog 6 #[.string a, .string b] w fun e w' => e = .returned (.bool true) ∧ Below w.heap.size w w' := by
  have HG := Sl.mk hg
  clear hg
  have la : (bytes a).length ≤ 100000 := by rw [bytes_length]; omega
  have lb : (bytes b).length ≤ 100000 := by rw [bytes_length]; omega
  have lab : (bytes (a ++ b)).length ≤ 100000 := by rw [bytes_length, ByteArray.size_append]; omega
  obtain ⟨x, hx⟩ : ∃ x, cb (bytes a) = x := ⟨_, rfl⟩
  obtain ⟨y, hy⟩ : ∃ y, cb (bytes b) = y := ⟨_, rfl⟩
  obtain ⟨z, hz⟩ : ∃ z, cb (bytes (a ++ b)) = z := ⟨_, rfl⟩
  obtain ⟨p, hp⟩ : ∃ p, vb (bytes a) = p := ⟨_, rfl⟩
  obtain ⟨q, hq⟩ : ∃ q, vb (bytes b) = q := ⟨_, rfl⟩
  obtain ⟨r, hr⟩ : ∃ r, vb (bytes (a ++ b)) = r := ⟨_, rfl⟩
  have HX := Sl.mk hx
  have HY := Sl.mk hy
  have HZ := Sl.mk hz
  have HP := Sl.mk hp
  have HQ := Sl.mk hq
  have HR := Sl.mk hr
  have k1 : p = true → r = q := fun h => by rw [← hr, ← hq, bytes_append]; exact vb_append (hp.trans h)
  have k2 : p = true → q = true → z = x + y := fun h k => by rw [← hx, ← hy, ← hz, bytes_append]; exact cb_append (hp.trans h) (hq.trans k)
  have bx : x ≤ 200 := by rw [← hx]; exact Nat.le_trans (cb_le _) (by rw [bytes_length]; exact h1)
  have by' : y ≤ 200 := by rw [← hy]; exact Nat.le_trans (cb_le _) (by rw [bytes_length]; exact h2)
  have LA := Sl.mk la
  have LB := Sl.mk lb
  have LAB := Sl.mk lab
  clear hx hy hz hp hq hr la lb lab
  obtain ⟨c0, w1, hc0, HV1, HB1⟩ := conv_str a w
  go_enter Tryd.func6, Tryd.ntmps6
  go_wp2_with fail
  refine (count_ex w _ (bytes a) _ x p HX.out HP.out HB1.out HG.out HV1.out LA.out).mono ?_
  rintro e w2 ⟨rfl, HX2, HB2⟩
  obtain ⟨c3, w3, hc3, HV3, HX3⟩ := conv_str b w2
  have HB3 : Sl (Below w.heap.size w w3) := ⟨HB2.out.trans (HX3.out.mono HB2.out.size)⟩
  clear hc0
  go_wp2_with fail
  refine (count_ex w _ (bytes b) _ y q HY.out HQ.out HB3.out HG.out HV3.out LB.out).mono ?_
  rintro e w4 ⟨rfl, HX4, HB4⟩
  obtain ⟨c5, w5, hc5, HV5, HX5⟩ := conv_str (a ++ b) w4
  have HB5 : Sl (Below w.heap.size w w5) := ⟨HB4.out.trans (HX5.out.mono HB4.out.size)⟩
  have hsz : (a ++ b).size ≤ 400 := by rw [ByteArray.size_append]; omega
  rw [ByteArray.size_append] at hc5 HV5
  clear hc3
  go_wp2_with fail
  refine (count_ex w _ (bytes (a ++ b)) _ z r HZ.out HR.out HB5.out HG.out HV5.out LAB.out).mono ?_
  rintro e w6 ⟨rfl, HX6, HB6⟩
  clear hc5
  go_wp2_with fail
  refine (awake_ex w _ HB6.out HG.out).mono ?_
  rintro e w7 ⟨rfl, HX7, HB7⟩
  cases hp : p with
  | false =>
    subst hp
    clear k1 k2
    go_wp2
    go_ret
    exact ⟨rfl, HB7.out⟩
  | true =>
    subst hp
    obtain rfl := k1 rfl
    cases hq : r with
    | false =>
      subst hq
      clear k1 k2
      go_wp2
      go_ret
      exact ⟨rfl, HB7.out⟩
    | true =>
      subst hq
      have e : z = x + y := k2 rfl rfl
      have hz : ((z : Int) == (x : Int) + (y : Int)) = true := by rw [e]; simp
      clear k1 k2
      go_wp2
      go_ret
      exact ⟨rfl, HB7.out⟩
theorem joins_walk (a b : ByteArray) (w : World) (hg : Globs w) (ha : a.size ≤ maxLen) (hb : b.size ≤ maxLen) :
    Calls Tryd.prog 6 #[.string a, .string b] w fun e w' => e = .returned (.bool true) ∧ Below w.heap.size w w' := by
  by_cases h : 200 < a.size ∨ 200 < b.size
  · exact joins_long a b w hg h ha hb
  · exact joins_short a b w hg (by omega) (by omega)
end Go.Proofs.YtlkfkglcefhbgaaDoor
