/- BaseFours, the walk: whatever strings are handed over, the law's Go text returns true, and nothing that was in memory changes. Conditions: the table of package base is as its text lays it; the strings fit in memory. -/
import Derived.Test.YtdcgddoginaioaaDoorM
import Derived.SliceStrings
import Derived.ProofKit
namespace Go.Proofs.YtdcgddoginaioaaDoor
open Go.RowKit Go.WideShapes Go.ChangeShapes

/-- The strings l are the elements of the slice v. -/
def StrsAt (W : World) (v : Value) (l : List ByteArray) : Prop :=
  ∃ (a : Option Addr) (cap sb so : Nat), v = .slice a l.length cap ∧ l.length ≤ maxLen ∧ (0 < l.length → a = some ⟨sb, so, none⟩) ∧ (∀ i, i < l.length → W.cell? ⟨sb, so + i, none⟩ = some (.string (l.getD i ByteArray.empty))) ∧
    ∀ i, (l.getD i ByteArray.empty).size ≤ maxLen
theorem strsAt_of_trod {H : Type} {enc : TypeId × Value → H} {W : World} {ad : Option Addr} {len cap : Nat} {d : DataW H} {p : List MemPlace} (h : DataW.Trod enc Tryd.prog W 0 (fun _ => true) true 36 (.slice ad len cap) d p) :
    ∃ l, StrsAt W (.slice ad len cap) l := by
  obtain ⟨fuel, hf⟩ := h
  rcases open_strings Tryd.underlying36 Tryd.underlying9 (by kernel_rfl) hf with ⟨hcs, _⟩ | ⟨a, len', cap', ss, hcs, _, hl, hm, hz, _, hcell, hws⟩
  · simp [Value.cells] at hcs
    obtain ⟨rfl, rfl, rfl⟩ := hcs
    exact ⟨[], none, 0, 0, 0, rfl, by simp, fun h => by simp at h, fun i hi => by simp at hi, fun i => by simp [List.getD]⟩
  · simp [Value.cells] at hcs
    obtain ⟨rfl, rfl, rfl⟩ := hcs
    have hlen : (ss.take len).length = len := by simp at hz; simp; omega
    have hg : ∀ i, i < len → (ss.take len).getD i ByteArray.empty = ss.getD i ByteArray.empty := fun i hi => by simp [List.getD, hi]
    refine ⟨ss.take len, some a, cap, a.block, a.off, by rw [hlen], by rw [hlen]; omega, fun hp => ?_, fun i hi => ?_, fun i => ?_⟩
    · rw [hlen] at hp
      have hc := hcell 0 (by simp at hz; omega)
      obtain ⟨b, off, spot⟩ := a
      have hspot : spot = none := by simpa [Addr.add] using World.cell?_spot hc
      rw [hspot]
    · rw [hlen] at hi
      have hc := hcell i (by simp at hz; omega)
      obtain ⟨b, off, spot⟩ := a
      have hspot : spot = none := by simpa [Addr.add] using World.cell?_spot (hcell 0 (by simp at hz; omega))
      subst hspot
      rw [Addr.add_mid] at hc
      rw [hg i hi, hc]
    · by_cases hi : i < len
      · rw [hg i hi]
        have hi' : i < ss.length := by simp at hz; omega
        have := hws ss[i] (List.getElem_mem hi')
        simpa [List.getD, List.getElem?_eq_getElem hi'] using this
      · rw [List.getD, List.getElem?_eq_none (by rw [hlen]; omega)]
        exact Nat.zero_le _

/-- What the loop holds to. -/
def FO (w : World) (n : Nat) (s want i : Value) (wr : World) : Prop :=
  ∃ (k : Nat) (x y : ByteArray), k ≤ n ∧ i = .int .i64 k ∧ s = .string x ∧ want = .string y ∧ Sl (bytes x = enc (bytes y)) ∧ Sl (y.size = 3 * k) ∧ x.size ≤ 4 * k ∧ y.size ≤ 3 * k ∧ Below w.heap.size w wr

set_option maxHeartbeats 400000 in
theorem fours_long (v : Value) (l : List ByteArray) (w : World) (hg : Globs w) (hv : StrsAt w v l) (h1 : 100 < l.length) :
    Calls Tryd.prog 7 #[v] w fun e w' => e = .returned (.bool true) ∧ Below w.heap.size w w' := by
  obtain ⟨a, cap, sb, so, rfl, hm, _, _, _⟩ := hv
  unfold maxLen at hm
  have HG := Sl.mk hg
  clear hg
  go_enter Tryd.func7, Tryd.ntmps7
  go_wp2_with fail
  refine (awake_ex w _ (Below.refl _ _) HG.out).mono ?_
  rintro e w1 ⟨rfl, HX1, HB1⟩
  go_wp2_with fail
  refine (awake_ex w _ HB1.out HG.out).mono ?_
  rintro e w2 ⟨rfl, HX2, HB2⟩
  go_wp2
  go_ret
  exact ⟨rfl, HB2.out⟩

set_option maxHeartbeats 1000000 in
theorem fours_short (v : Value) (l : List ByteArray) (w : World) (hg : Globs w) (hv : StrsAt w v l) (h1 : l.length ≤ 100) :
    Calls Tryd.prog 7 #[v] w fun e w' => e = .returned (.bool true) ∧ Below w.heap.size w w' := by
  obtain ⟨a, cap, sb, so, rfl, hm, ha, hcell, hsz⟩ := hv
  have HA := Sl.mk ha
  have HCE := Sl.mk hcell
  have HSZ := Sl.mk hsz
  have HG := Sl.mk hg
  clear hg ha hcell hsz hm
  go_enter Tryd.func7, Tryd.ntmps7
  go_wp2_with fail
  refine (awake_ex w _ (Below.refl _ _) HG.out).mono ?_
  rintro e w1 ⟨rfl, HX1, HB1⟩
  go_wp2
  go_loopw [3, 4, 5] (fun s want i wr => FO w l.length s want i wr) (fun _ _ i _ => l.length - (intOf i).toNat)
  case atStart => exact ⟨0, _, _, Nat.zero_le _, rfl, rfl, rfl, ⟨rfl⟩, ⟨rfl⟩, Nat.le_refl _, Nat.le_refl _, HB1.out⟩
  case round =>
    obtain ⟨k, x, y, hk, rfl, rfl, rfl, HXY, HY3, hxs, hys, hrel⟩ := hrel
    have HR := Sl.mk hrel
    clear hrel
    by_cases hlt : k < l.length
    · obtain rfl := HA.out (by omega)
      have HCW : Sl (∀ W, Below w.heap.size w W → W.cell? ⟨sb, so + k, none⟩ = some (.string (l.getD k ByteArray.empty))) := ⟨fun W hb => by
        have h := HCE.out k hlt
        have hl := block_lt_of_cell h
        rw [hb.cell (p := ⟨sb, so + k, none⟩) hl]; exact h⟩
      have hzz := HSZ.out k
      unfold maxLen at hzz
      generalize l.getD k ByteArray.empty = z at *
      have hcl := HCW.out wr HR.out
      by_cases h3 : z.size = 3
      · have hq : ((z.size : Int) != 3) = false := by rw [h3]; rfl
        obtain ⟨c2, w2, hc2, HV2, HX2⟩ := conv_str z wr
        have HB2 : Sl (Below w.heap.size w w2) := ⟨HR.out.trans (HX2.out.mono HR.out.size)⟩
        have HXY1 : Sl (bytes (x ++ strOf (enc (bytes z))) = enc (bytes (y ++ z))) := ⟨by
          rw [bytes_append, bytes_append, HXY.out, bytes_enc _ (bytes_small z), enc_append _ _ (by rw [bytes_length, HY3.out]; omega)]⟩
        have s1 : (strOf (enc (bytes z))).size ≤ 4 := by rw [strOf_size, enc_length, bytes_length, h3]; decide
        have HZ3 := Sl.mk h3
        have hz3 : z.size ≤ 3 := by omega
        clear h3
        go_wp2_with fail
        refine (putS w z _ _ HV2.out HB2.out HG.out (by omega)).mono ?_
        rintro e w3 ⟨rfl, HX3, HB3⟩
        have hcl3 := HCW.out w3 HB3.out
        clear hc2 hcl
        go_wp2
        go_roundw
        case rel => exact ⟨k + 1, x ++ strOf (enc (bytes z)), y ++ z, by omega, by go_num, rfl, rfl, HXY1, ⟨by rw [ByteArray.size_append, HY3.out, HZ3.out]; omega⟩, by rw [ByteArray.size_append]; omega, by rw [ByteArray.size_append]; omega, HB3.out⟩
        case measure => simp [intOf]; omega
      · have hq : ((z.size : Int) != 3) = true := by simp; omega
        clear h3
        go_wp2
        go_ret
        exact ⟨rfl, HR.out⟩
    · have hge : ¬ (k : Int) < (l.length : Int) := by omega
      have HRD : Sl (rd (bytes x) = some (bytes y)) := ⟨by rw [HXY.out]; exact rd_enc _ (bytes_small y)⟩
      go_wp2_with fail
      refine (getYesX w x (bytes y) _ HR.out (by omega) HRD.out).mono ?_
      rintro e w2 ⟨u, rfl, HO2, HX2, HB2⟩
      have hcv := conv_own HO2.out
      rw [show strOfNums (List.map (fun (n : Nat) => (n : Int)) (bytes y)) = y from strOf_bytes y] at hcv
      have q2 : (y.toList == y.toList) = true := by simp
      go_wp2
      go_ret
      exact ⟨by first | rfl | simp, HB2.out⟩

theorem fours_walk (v : Value) (l : List ByteArray) (w : World) (hg : Globs w) (hv : StrsAt w v l) :
    Calls Tryd.prog 7 #[v] w fun e w' => e = .returned (.bool true) ∧ Below w.heap.size w w' := by
  by_cases h : 100 < l.length
  · exact fours_long v l w hg hv h
  · exact fours_short v l w hg hv (by omega)
end Go.Proofs.YtdcgddoginaioaaDoor
