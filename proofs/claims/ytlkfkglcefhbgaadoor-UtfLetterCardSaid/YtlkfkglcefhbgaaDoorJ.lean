/- UtfCuts, the walk: whatever strings are handed over, the law's Go text returns true, and nothing that was in memory changes. Conditions: the table of package utf is as its text lays it; the strings fit in memory. -/
import Derived.Test.YtlkfkglcefhbgaaDoorI
import Derived.SliceStrings
import Derived.ProofKit
namespace Go.Proofs.YtlkfkglcefhbgaaDoor
open Go.RowKit Go.WideShapes Go.ChangeShapes

/-- The strings l are the elements of the slice v. -/
def StrsAt (W : World) (v : Value) (l : List ByteArray) : Prop :=
  ∃ (a : Option Addr) (cap sb so : Nat), v = .slice a l.length cap ∧ l.length ≤ maxLen ∧ (0 < l.length → a = some ⟨sb, so, none⟩) ∧ (∀ i, i < l.length → W.cell? ⟨sb, so + i, none⟩ = some (.string (l.getD i ByteArray.empty))) ∧
    ∀ i, (l.getD i ByteArray.empty).size ≤ maxLen
theorem strsAt_of_trod {H : Type} {enc : TypeId × Value → H} {W : World} {ad : Option Addr} {len cap : Nat} {d : DataW H} {p : List MemPlace} (h : DataW.Trod enc Tryd.prog W 0 (fun _ => true) true 36 (.slice ad len cap) d p) :
    ∃ l, StrsAt W (.slice ad len cap) l := by
  obtain ⟨fuel, hf⟩ := h
  rcases open_strings Tryd.underlying36 Tryd.underlying9 (by kernel_rfl) hf with ⟨hcs, _⟩ | ⟨a, len', cap', ss, hcs, _, hl, hm, hz, _, hcell, hws⟩
  · simp [Value.cells] at hcs
    obtain ⟨rfl, rfl, rfl⟩ := hcs
    exact ⟨[], none, 0, 0, 0, rfl, by simp, fun h => by simp at h, fun i hi => by simp at hi, fun i => by simp [List.getD]⟩
  · simp [Value.cells] at hcs
    obtain ⟨rfl, rfl, rfl⟩ := hcs
    have hlen : (ss.take len).length = len := by simp at hz; simp; omega
    have hg : ∀ i, i < len → (ss.take len).getD i ByteArray.empty = ss.getD i ByteArray.empty := fun i hi => by simp [List.getD, hi]
    refine ⟨ss.take len, some a, cap, a.block, a.off, by rw [hlen], by rw [hlen]; omega, fun hp => ?_, fun i hi => ?_, fun i => ?_⟩
    · rw [hlen] at hp
      have hc := hcell 0 (by simp at hz; omega)
      obtain ⟨b, off, spot⟩ := a
      have hspot : spot = none := by simpa [Addr.add] using World.cell?_spot hc
      rw [hspot]
    · rw [hlen] at hi
      have hc := hcell i (by simp at hz; omega)
      obtain ⟨b, off, spot⟩ := a
      have hspot : spot = none := by simpa [Addr.add] using World.cell?_spot (hcell 0 (by simp at hz; omega))
      subst hspot
      rw [Addr.add_mid] at hc
      rw [hg i hi, hc]
    · by_cases hi : i < len
      · rw [hg i hi]
        have hi' : i < ss.length := by simp at hz; omega
        have := hws ss[i] (List.getElem_mem hi')
        simpa [List.getD, List.getElem?_eq_getElem hi'] using this
      · rw [List.getD, List.getElem?_eq_none (by rw [hlen]; omega)]
        exact Nat.zero_le _

theorem rt_append (o : Option St) (a b : List Nat) : rt o (a ++ b) = rt o a + rt (en o a) b := by
  cases o with
  | none => rfl
  | some s =>
    show uright s (a ++ b) = uright s a + rt (uend s a) b
    rw [uright_append]
    cases h : uend s a with
    | none => rfl
    | some t => simp only [rt]; rw [uright_all s t a h]
theorem en_append (o : Option St) (a b : List Nat) : en o (a ++ b) = en (en o a) b := by
  cases o with
  | none => rfl
  | some s => exact uend_append a b s
theorem rt_le (o : Option St) (a : List Nat) : rt o a ≤ a.length := by
  cases o with
  | none => exact Nat.zero_le _
  | some s => exact uright_le a s
theorem reset_ex (w0 W : World) (b : Nat) (o : Option St) (h0 : w0.heap.size ≤ b) (hB : Below w0.heap.size w0 W) (hc : ChkO W b o) :
    Calls Tryd.prog 19 #[.pointer (some ⟨b, 0, none⟩)] W fun e w' => e = .returned (.tuple #[]) ∧ Sl (ChkO w' b (some s0)) ∧ Sl (W.grownBy w' (some b)) ∧ Sl (Below w0.heap.size w0 w') :=
  (reset_any b o W hc).mono fun _ _ ⟨he, h1, h2⟩ => ⟨he, ⟨h1⟩, ⟨h2⟩, ⟨below_grow hB h2 h0⟩⟩

set_option maxHeartbeats 400000 in
theorem cuts_long (v : Value) (l : List ByteArray) (w : World) (hg : Globs w) (hv : StrsAt w v l) (h1 : 20 < l.length) :
    Calls Tryd.prog 5 #[v] w fun e w' => e = .returned (.bool true) ∧ Below w.heap.size w w' := by
  obtain ⟨a, cap, sb, so, rfl, hm, _, _, _⟩ := hv
  unfold maxLen at hm
  have HG := Sl.mk hg
  clear hg
  go_enter Tryd.func5, Tryd.ntmps5
  go_wp2_with fail
  refine (new_ex w _ (Below.refl _ _)).mono ?_
  rintro e w0 ⟨rfl, HC0, HX0, HB0⟩
  go_wp2_with fail
  refine (awake_ex w _ HB0.out HG.out).mono ?_
  rintro e w1 ⟨rfl, HX1, HB1⟩
  go_wp2_with fail
  refine (awake_ex w _ HB1.out HG.out).mono ?_
  rintro e w2 ⟨rfl, HX2, HB2⟩
  go_wp2
  go_ret
  exact ⟨rfl, HB2.out⟩

/-- What the loop holds to. -/
def CU (w : World) (m : Nat) (al n i : Value) (wr : World) : Prop :=
  ∃ (k c : Nat) (x : ByteArray), k ≤ m ∧ i = .int .i64 k ∧ al = .string x ∧ n = .int .i64 c ∧ Sl (rt (some s0) (bytes x) = c) ∧ x.size ≤ 50 * k ∧ c ≤ 50 * k ∧ Sl (ChkO wr w.heap.size (en (some s0) (bytes x))) ∧ Below w.heap.size w wr

set_option maxHeartbeats 1000000 in
set_option maxRecDepth 100000 in
theorem cuts_short (v : Value) (l : List ByteArray) (w : World) (hg : Globs w) (hv : StrsAt w v l) (h1 : l.length ≤ 20) :
    Calls Tryd.prog 5 #[v] w fun e w' => e = .returned (.bool true) ∧ Below w.heap.size w w' := by
  obtain ⟨a, cap, sb, so, rfl, hm, ha, hcell, hsz⟩ := hv
  have HA := Sl.mk ha
  have HCE := Sl.mk hcell
  have HSZ := Sl.mk hsz
  have HG := Sl.mk hg
  clear hg ha hcell hsz hm
  go_enter Tryd.func5, Tryd.ntmps5
  go_wp2_with fail
  refine (new_ex w _ (Below.refl _ _)).mono ?_
  rintro e w0 ⟨rfl, HC0, HX0, HB0⟩
  go_wp2_with fail
  refine (awake_ex w _ HB0.out HG.out).mono ?_
  rintro e w1 ⟨rfl, HX1, HB1⟩
  have HC1 : Sl (ChkO w1 w.heap.size (some s0)) := ⟨chk_below HC0.out HX1.out⟩
  clear HC0 HX0 HB0 HX1
  go_wp2
  go_loopw [4, 5, 6] (fun al n i wr => CU w l.length al n i wr) (fun _ _ i _ => l.length - (intOf i).toNat)
  case atStart => exact ⟨0, 0, _, Nat.zero_le _, rfl, rfl, rfl, ⟨rfl⟩, Nat.le_refl _, Nat.le_refl _, HC1, HB1.out⟩
  case round =>
    obtain ⟨k, c, x, hk, rfl, rfl, rfl, HN, hxs, hcs, HC, hrel⟩ := hrel
    have HR := Sl.mk hrel
    clear hrel
    by_cases hlt : k < l.length
    · obtain rfl := HA.out (by omega)
      have HCW : Sl (∀ W, Below w.heap.size w W → W.cell? ⟨sb, so + k, none⟩ = some (.string (l.getD k ByteArray.empty))) := ⟨fun W hb => by
        have h := HCE.out k hlt
        have hl := block_lt_of_cell h
        rw [hb.cell (p := ⟨sb, so + k, none⟩) hl]; exact h⟩
      have hzz := HSZ.out k
      unfold maxLen at hzz
      generalize l.getD k ByteArray.empty = z at *
      have hcl := HCW.out wr HR.out
      by_cases h3 : z.size ≤ 50
      · obtain ⟨c2, w2, hc2, HV2, HX2⟩ := conv_str z wr
        have HB2 : Sl (Below w.heap.size w w2) := ⟨HR.out.trans (HX2.out.mono HR.out.size)⟩
        have HC2 : Sl (ChkO w2 w.heap.size (en (some s0) (bytes x))) := ⟨chk_below HC.out HX2.out⟩
        obtain ⟨r, hr⟩ : ∃ r, rt (en (some s0) (bytes x)) (bytes z) = r := ⟨_, rfl⟩
        have HRR := Sl.mk hr
        have hr50 : r ≤ 50 := by rw [← hr]; exact Nat.le_trans (rt_le _ _) (by rw [bytes_length]; exact h3)
        have HN1 : Sl (rt (some s0) (bytes (x ++ z)) = c + r) := ⟨by rw [bytes_append, rt_append, HN.out, hr]⟩
        have HE1 : Sl (en (some s0) (bytes (x ++ z)) = en (en (some s0) (bytes x)) (bytes z)) := ⟨by rw [bytes_append]; exact en_append _ _ _⟩
        clear hr
        go_wp2_with fail
        refine (feed_ex w _ w.heap.size _ (bytes z) _ r HRR.out (Nat.le_refl _) HB2.out HG.out HC2.out (okO0.en _) (HV2.out.offs (chk_lt HC.out)) (by rw [bytes_length]; omega)).mono ?_
        rintro e w3 ⟨rfl, HC3, HX3, HB3⟩
        clear hc2 hcl
        go_wp2
        go_roundw
        case rel => exact ⟨k + 1, c + r, x ++ z, by omega, by go_num, rfl, by go_num, HN1, by rw [ByteArray.size_append]; omega, by omega, ⟨by rw [HE1.out]; exact HC3.out⟩, HB3.out⟩
        case measure => simp [intOf]; omega
      · go_wp2
        go_ret
        exact ⟨rfl, HR.out⟩
    · have hge : ¬ (k : Int) < (l.length : Int) := by omega
      have hx1000 : x.size ≤ 1000 := by omega
      have hc1000 : c ≤ 1000 := by omega
      obtain ⟨p, hp⟩ : ∃ p, (en (some s0) (bytes x)).isSome = p := ⟨_, rfl⟩
      obtain ⟨q, hq⟩ : ∃ q, decide (en (some s0) (bytes x) = some s0) = q := ⟨_, rfl⟩
      have HP := Sl.mk hp
      have HQ := Sl.mk hq
      have HL : Sl ((bytes x).length ≤ 100000) := ⟨by rw [bytes_length]; omega⟩
      clear hp hq
      go_wp2_with fail
      refine (new_ex w _ HR.out).mono ?_
      rintro e w2 ⟨rfl, HC2, HX2, HB2⟩
      have HCC2 : Sl (ChkO w2 w.heap.size (en (some s0) (bytes x))) := ⟨chk_below HC.out HX2.out⟩
      have hne : w.heap.size ≠ wr.heap.size := by have := chk_lt HC.out; omega
      obtain ⟨c3, w3, hc3, HV3, HX3⟩ := conv_str x w2
      have HB3 : Sl (Below w.heap.size w w3) := ⟨HB2.out.trans (HX3.out.mono HB2.out.size)⟩
      have HC3 : Sl (ChkO w3 wr.heap.size (some s0)) := ⟨chk_below HC2.out HX3.out⟩
      have HCC3 : Sl (ChkO w3 w.heap.size (en (some s0) (bytes x))) := ⟨chk_below HCC2.out HX3.out⟩
      go_wp2_with fail
      refine (feed_ex w _ wr.heap.size (some s0) (bytes x) _ c HN.out HR.out.size HB3.out HG.out HC3.out okO0 (HV3.out.offs (chk_lt HC2.out)) HL.out).mono ?_
      rintro e w4 ⟨rfl, HC4, HX4, HB4⟩
      have HCC4 : Sl (ChkO w4 w.heap.size (en (some s0) (bytes x))) := ⟨chk_grown HCC3.out HX4.out hne⟩
      clear hc3 HC3 HCC3 HV3 HX3 HC2 HX2 HCC2
      go_wp2_with fail
      refine (right_ex wr.heap.size _ _ p HC4.out HP.out).mono ?_
      rintro e w4' ⟨rfl, rfl⟩
      go_wp2_with fail
      refine (right_ex w.heap.size _ _ p HCC4.out HP.out).mono ?_
      rintro e w4' ⟨rfl, rfl⟩
      go_wp2_with fail
      refine (whole_ex wr.heap.size _ _ q HC4.out (okO0.en _) HQ.out).mono ?_
      rintro e w4' ⟨rfl, rfl⟩
      go_wp2_with fail
      refine (whole_ex w.heap.size _ _ q HCC4.out (okO0.en _) HQ.out).mono ?_
      rintro e w4' ⟨rfl, rfl⟩
      go_wp2_with fail
      refine (reset_ex w _ w.heap.size _ (Nat.le_refl _) HB4.out HCC4.out).mono ?_
      rintro e w5 ⟨rfl, HC5, HX5, HB5⟩
      clear HCC4 HC4
      go_wp2_with fail
      refine (right_ex w.heap.size _ _ true HC5.out rfl).mono ?_
      rintro e w5' ⟨rfl, rfl⟩
      go_wp2_with fail
      refine (whole_ex w.heap.size _ _ true HC5.out okO0 (by decide)).mono ?_
      rintro e w5' ⟨rfl, rfl⟩
      obtain ⟨c6, w6, hc6, HV6, HX6⟩ := conv_str x w5
      have HB6 : Sl (Below w.heap.size w w6) := ⟨HB5.out.trans (HX6.out.mono HB5.out.size)⟩
      have HC6 : Sl (ChkO w6 w.heap.size (some s0)) := ⟨chk_below HC5.out HX6.out⟩
      go_wp2_with fail
      refine (feed_ex w _ w.heap.size (some s0) (bytes x) _ c HN.out (Nat.le_refl _) HB6.out HG.out HC6.out okO0 (HV6.out.offs (chk_lt HC5.out)) HL.out).mono ?_
      rintro e w7 ⟨rfl, HC7, HX7, HB7⟩
      clear hc6
      go_wp2
      go_ret
      exact ⟨by first | rfl | kernel_rfl, HB7.out⟩
theorem cuts_walk (v : Value) (l : List ByteArray) (w : World) (hg : Globs w) (hv : StrsAt w v l) :
    Calls Tryd.prog 5 #[v] w fun e w' => e = .returned (.bool true) ∧ Below w.heap.size w w' := by
  by_cases h : 20 < l.length
  · exact cuts_long v l w hg hv h
  · exact cuts_short v l w hg hv (by omega)
end Go.Proofs.YtlkfkglcefhbgaaDoor
