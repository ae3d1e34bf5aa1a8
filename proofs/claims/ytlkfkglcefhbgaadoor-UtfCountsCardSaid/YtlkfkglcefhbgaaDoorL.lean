/- UtfCounts, the walk: whatever numbers are handed over, the law's Go text returns true, and nothing that was in memory changes. Conditions: the table of package utf is as its text lays it; the row of numbers fits in memory. -/
import Derived.Test.YtlkfkglcefhbgaaDoorK
namespace Go.Proofs.YtlkfkglcefhbgaaDoor
open Go.RowKit Go.WideShapes Go.ChangeShapes

/-- The numbers l are the elements of the slice v. -/
def IntsAt (W : World) (v : Value) (l : List Int) : Prop :=
  ∃ (a : Option Addr) (cap sb so : Nat), v = .slice a l.length cap ∧ l.length ≤ maxLen ∧ (0 < l.length → a = some ⟨sb, so, none⟩) ∧ (∀ i, i < l.length → W.cell? ⟨sb, so + i, none⟩ = some (.int .i64 (l.getD i 0)))

theorem put_vb {n : Int} {l : List Nat} (h : putL n = some l) : vb l = true := decide_eq_true (put_run n l h).1
theorem put_cb {n : Int} {l : List Nat} (h : putL n = some l) : cb l = 1 := by unfold cb; rw [if_pos (put_vb h)]; exact (put_run n l h).2.1
theorem put_size {n : Int} {l : List Nat} (h : putL n = some l) : l.length ≤ 4 := by
  unfold putL at h
  repeat' split at h
  all_goals first | (injection h with h; subst h; simp) | cases h
theorem put_small {n : Int} {l : List Nat} (h : putL n = some l) : Small 256 l := by
  by_cases hn : n < 0
  · unfold putL at h; rw [if_pos (.inl hn)] at h; cases h
  · obtain ⟨m, rfl⟩ := Int.eq_ofNat_of_zero_le (show 0 ≤ n by omega)
    by_cases k0 : 1114111 < m ∨ (55296 ≤ m ∧ m ≤ 57343)
    · rw [put_none m k0] at h; cases h
    · by_cases k1 : m < 128
      · rw [put1 m k1] at h; injection h with h; subst h
        intro x hx; simp at hx; omega
      · by_cases k2 : m < 2048
        · rw [put2 m (by omega) k2] at h; injection h with h; subst h
          intro x hx; simp at hx; omega
        · by_cases k3 : m < 65536
          · rw [put3 m (by omega) k3 (by omega)] at h; injection h with h; subst h
            intro x hx; simp at hx; omega
          · rw [put4 m (by omega) (by omega)] at h; injection h with h; subst h
            intro x hx; simp at hx; omega
/-- Put, in a call that began in w0. -/
theorem put_ex (w0 W : World) (n : Int) (l : List Nat) (hB : Below w0.heap.size w0 W) (h : putL n = some l) :
    Calls Tryd.prog 18 #[.int .i64 n] W fun e w' => e = .returned (.tuple #[.string (strOf l), .bool true]) ∧ Sl (Below w0.heap.size w0 w') :=
  (put_yes n l W h).mono fun _ _ ⟨he, hb⟩ => ⟨he, ⟨hB.trans (hb.mono hB.size)⟩⟩
theorem putNo_ex (w0 W : World) (n : Int) (hB : Below w0.heap.size w0 W) (h : putL n = none) :
    Calls Tryd.prog 18 #[.int .i64 n] W fun e w' => e = .returned (.tuple #[.string ByteArray.empty, .bool false]) ∧ Sl (Below w0.heap.size w0 w') :=
  (put_no n W h).mono fun _ _ ⟨he, hb⟩ => ⟨he, ⟨hB.trans (hb.mono hB.size)⟩⟩

set_option maxHeartbeats 400000 in
theorem counts_long (v : Value) (l : List Int) (w : World) (hg : Globs w) (hv : IntsAt w v l) (h1 : 30 < l.length) :
    Calls Tryd.prog 8 #[v] w fun e w' => e = .returned (.bool true) ∧ Below w.heap.size w w' := by
  obtain ⟨a, cap, sb, so, rfl, hm, _, _⟩ := hv
  unfold maxLen at hm
  have HG := Sl.mk hg
  clear hg
  go_enter Tryd.func8, Tryd.ntmps8
  go_wp2_with fail
  refine (awake_ex w _ (Below.refl _ _) HG.out).mono ?_
  rintro e w1 ⟨rfl, HX1, HB1⟩
  go_wp2_with fail
  refine (awake_ex w _ HB1.out HG.out).mono ?_
  rintro e w2 ⟨rfl, HX2, HB2⟩
  go_wp2
  go_ret
  exact ⟨rfl, HB2.out⟩

/-- What the loop holds to. -/
def CO (w : World) (m : Nat) (s n i : Value) (wr : World) : Prop :=
  ∃ (k c : Nat) (x : ByteArray), k ≤ m ∧ i = .int .i64 k ∧ s = .string x ∧ n = .int .i64 c ∧ Sl (vb (bytes x) = true) ∧ Sl (cb (bytes x) = c) ∧ x.size ≤ 4 * k ∧ c ≤ k ∧ Below w.heap.size w wr

set_option maxHeartbeats 1000000 in
theorem counts_short (v : Value) (l : List Int) (w : World) (hg : Globs w) (hv : IntsAt w v l) (h1 : l.length ≤ 30) :
    Calls Tryd.prog 8 #[v] w fun e w' => e = .returned (.bool true) ∧ Below w.heap.size w w' := by
  obtain ⟨a, cap, sb, so, rfl, hm, ha, hcell⟩ := hv
  have HA := Sl.mk ha
  have HCE := Sl.mk hcell
  have HG := Sl.mk hg
  clear hg ha hcell hm
  go_enter Tryd.func8, Tryd.ntmps8
  go_wp2_with fail
  refine (awake_ex w _ (Below.refl _ _) HG.out).mono ?_
  rintro e w1 ⟨rfl, HX1, HB1⟩
  go_wp2
  go_loopw [3, 4, 5] (fun s n i wr => CO w l.length s n i wr) (fun _ _ i _ => l.length - (intOf i).toNat)
  case atStart => exact ⟨0, 0, _, Nat.zero_le _, rfl, rfl, rfl, ⟨rfl⟩, ⟨rfl⟩, Nat.le_refl _, Nat.le_refl _, HB1.out⟩
  case round =>
    obtain ⟨k, c, x, hk, rfl, rfl, rfl, HVX, HCX, hxs, hcs, hrel⟩ := hrel
    have HR := Sl.mk hrel
    clear hrel
    by_cases hlt : k < l.length
    · obtain rfl := HA.out (by omega)
      have hcl : wr.cell? ⟨sb, so + k, none⟩ = some (.int .i64 (l.getD k 0)) := by
        have h := HCE.out k hlt
        rw [HR.out.cell (p := ⟨sb, so + k, none⟩) (block_lt_of_cell h)]; exact h
      generalize l.getD k 0 = z at *
      cases hz : putL z with
      | none =>
        have HZ := Sl.mk hz
        clear hz
        go_wp2_with fail
        refine (putNo_ex w _ z HR.out HZ.out).mono ?_
        rintro e w2 ⟨rfl, HB2⟩
        go_wp2
        go_roundw
        case rel => exact ⟨k + 1, c, x, by omega, by go_num, rfl, rfl, HVX, HCX, by omega, by omega, HB2.out⟩
        case measure => simp [intOf]; omega
      | some t =>
        have HZ := Sl.mk hz
        have HBY : Sl (bytes (x ++ strOf t) = bytes x ++ t) := ⟨by rw [bytes_append, bytes_strOf _ (put_small hz)]⟩
        have HV1 : Sl (vb (bytes (x ++ strOf t)) = true) := ⟨by rw [HBY.out, vb_append HVX.out]; exact put_vb hz⟩
        have HC1 : Sl (cb (bytes (x ++ strOf t)) = c + 1) := ⟨by rw [HBY.out, cb_append HVX.out (put_vb hz), HCX.out, put_cb hz]⟩
        have hts : (strOf t).size ≤ 4 := by rw [strOf_size]; exact put_size hz
        clear hz
        go_wp2_with fail
        refine (put_ex w _ z t HR.out HZ.out).mono ?_
        rintro e w2 ⟨rfl, HB2⟩
        go_wp2
        go_roundw
        case rel => exact ⟨k + 1, c + 1, x ++ strOf t, by omega, by go_num, rfl, by go_num, HV1, HC1, by rw [ByteArray.size_append]; omega, by omega, HB2.out⟩
        case measure => simp [intOf]; omega
    · have hge : ¬ (k : Int) < (l.length : Int) := by omega
      obtain ⟨c2, w2, hc2, HV2, HX2⟩ := conv_str x wr
      have HB2 : Sl (Below w.heap.size w w2) := ⟨HR.out.trans (HX2.out.mono HR.out.size)⟩
      have HL : Sl ((bytes x).length ≤ 100000) := ⟨by rw [bytes_length]; omega⟩
      go_wp2_with fail
      refine (count_ex w _ (bytes x) _ c true HCX.out HVX.out HB2.out HG.out HV2.out HL.out).mono ?_
      rintro e w3 ⟨rfl, HX3, HB3⟩
      clear hc2
      go_wp2
      go_ret
      exact ⟨by first | rfl | simp, HB3.out⟩
theorem counts_walk (v : Value) (l : List Int) (w : World) (hg : Globs w) (hv : IntsAt w v l) :
    Calls Tryd.prog 8 #[v] w fun e w' => e = .returned (.bool true) ∧ Below w.heap.size w w' := by
  by_cases h : 30 < l.length
  · exact counts_long v l w hg hv h
  · exact counts_short v l w hg hv (by omega)
end Go.Proofs.YtlkfkglcefhbgaaDoor
