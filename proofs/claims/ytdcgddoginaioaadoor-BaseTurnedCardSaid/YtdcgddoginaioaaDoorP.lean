/- BaseTurned, the walk: whatever string, place and byte are handed over, the law's Go text returns true, and nothing that was in memory changes. Conditions: the table of package base is as its text lays it; the string fits in memory; the place and the byte are numbers of their kinds. -/
import Derived.Test.YtdcgddoginaioaaDoorM
namespace Go.Proofs.YtdcgddoginaioaaDoor
open Go.RowKit

/-- The bytes of a string, made new, in memory that may be written. -/
theorem conv_rw (s : ByteArray) (W : World) : ∃ cap w', (convert 9 24 (.string s)).run Tryd.prog W = .ok (.slice (some ⟨W.heap.size, 0, none⟩) s.size cap) w' ∧ s.size ≤ cap ∧
    Sl (∀ j, j < s.size → w'.cell? ⟨W.heap.size, j, none⟩ = some (.int .u8 (((bytes s).getD j 0 : Nat) : Int)) ∧ w'.frozen? ⟨W.heap.size, j, none⟩ = false) ∧ Sl (Below W.heap.size W w') := by
  refine ⟨_, _, run_bytes_of_string (P := Tryd.prog) W 9 24 5 s Tryd.underlying9 Tryd.underlying24 Tryd.underlying5, grownCap_ge _ _ _ _, ⟨fun j hj => ?_⟩, ⟨((Below.refl _ _).drew).alloc (Nat.le_refl _) _⟩⟩
  generalize hcap : grownCap W s.size 0 5 = cap
  have hge : s.size ≤ cap := by rw [← hcap]; exact grownCap_ge _ _ _ _
  have hsz : (bytesRow s cap).size = cap := by
    have : s.data.size = s.size := rfl
    simp [bytesRow, this]; omega
  rw [hsz]
  have h := World.cell?_alloc_mark W.drew (bytesRow s cap) 5 (cap, cap + 1) j
  rw [show W.drew.heap.size = W.heap.size from rfl] at h
  refine ⟨by rw [h, bytesRow_at s _ j hj, bytes_getD s j hj], ?_⟩
  have hn : (W.drew.alloc (.cells (bytesRow s cap) 5 (cap, cap + 1))).heap[W.heap.size]? = some (.cells (bytesRow s cap) 5 (cap, cap + 1)) := alloc_new _ _ _ rfl
  simp only [World.frozen?, hn]
  simp; omega
theorem conv_set {W : World} {g n cap i v : Nat} {l : List Nat} (hl : l.length = n) (hi : i < n) (h : ∀ j, j < n → W.cell? ⟨g, j, none⟩ = some (.int .u8 ((l.getD j 0 : Nat) : Int)) ∧ W.frozen? ⟨g, j, none⟩ = false) :
    (convert 24 9 (.slice (some ⟨g, 0, none⟩) n cap)).run Tryd.prog (W.setCell ⟨g, i, none⟩ (.int .u8 (v : Int))) = .ok (.string (strOf (l.set i v))) (W.setCell ⟨g, i, none⟩ (.int .u8 (v : Int))) :=
  run_convert_bytes_arg _ 24 5 Tryd.underlying24 Tryd.underlying5 g 0 n cap ((l.set i v).map fun (n : Nat) => (n : Int)) (by simp [hl]) (fun j hj => by
    have hj' : j < n := by simpa [hl] using hj
    rw [Nat.zero_add]
    by_cases e : j = i
    · subst e
      rw [World.cell?_setCell_same' _ _ _ (by rw [(h j hj').1]; rfl)]
      simp [List.getD, hl, hj']
    · have hna : (⟨g, i, none⟩ : Addr) ≠ ⟨g, j, none⟩ := fun e2 => e (by injection e2 with _ e3; exact e3.symm)
      rw [World.cell?_setCell_other (h := hna), (h j hj').1]
      have hne : ¬ i = j := by omega
      simp [List.getD, hne, hl, hj']) 9 Tryd.underlying9

set_option maxHeartbeats 400000 in
theorem turned_long (a : ByteArray) (at_ v : Nat) (w : World) (hg : Globs w) (h : 200 < a.size ∨ a.size = 0) (ha : a.size ≤ maxLen) :
    Calls Tryd.prog 8 #[.string a, .int .u16 at_, .int .u8 v] w fun e w' => e = .returned (.bool true) ∧ Below w.heap.size w w' := by
  unfold maxLen at ha
  have HG := Sl.mk hg
  clear hg
  rcases h with h | h
  · go_enter Tryd.func8, Tryd.ntmps8
    go_wp2_with fail
    refine (awake_ex w _ (Below.refl _ _) HG.out).mono ?_
    rintro e w1 ⟨rfl, HX1, HB1⟩
    go_wp2_with fail
    refine (awake_ex w _ HB1.out HG.out).mono ?_
    rintro e w2 ⟨rfl, HX2, HB2⟩
    go_wp2
    go_ret
    exact ⟨rfl, HB2.out⟩
  · obtain rfl : a = ByteArray.empty := ByteArray.size_eq_zero_iff.1 h
    clear h ha
    go_enter Tryd.func8, Tryd.ntmps8
    go_wp2_with fail
    refine (awake_ex w _ (Below.refl _ _) HG.out).mono ?_
    rintro e w1 ⟨rfl, HX1, HB1⟩
    go_wp2_with fail
    refine (awake_ex w _ HB1.out HG.out).mono ?_
    rintro e w2 ⟨rfl, HX2, HB2⟩
    go_wp2
    go_ret
    exact ⟨rfl, HB2.out⟩

theorem set_same (l : List Nat) (i v : Nat) (hi : i < l.length) (h : l.getD i 0 = v) : l.set i v = l := by
  subst h
  apply List.ext_getElem?
  intro j
  rw [List.getElem?_set]
  by_cases e : i = j
  · subst e; simp [List.getD, hi]
  · simp [e]
theorem set_other (l : List Nat) (i v : Nat) (hi : i < l.length) (h : l.getD i 0 ≠ v) : l.set i v ≠ l := fun e => h (by
  rw [← e]; simp [List.getD, hi])
theorem set_small {l : List Nat} {b i v : Nat} (h : Small b l) (hv : v < b) : Small b (l.set i v) := fun x hx => by
  rcases List.mem_or_eq_of_mem_set hx with hx | rfl
  · exact h x hx
  · exact hv

set_option maxHeartbeats 1000000 in
theorem turned_short (a : ByteArray) (at_ v : Nat) (w : World) (hg : Globs w) (h : a.size ≤ 200) (h0 : 0 < a.size) (hat : at_ < 65536) (hv : v < 256) :
    Calls Tryd.prog 8 #[.string a, .int .u16 at_, .int .u8 v] w fun e w' => e = .returned (.bool true) ∧ Below w.heap.size w w' := by
  have HG := Sl.mk hg
  clear hg
  obtain ⟨s, hs⟩ : ∃ s, s = strOf (enc (bytes a)) := ⟨_, rfl⟩
  have HBS : Sl (bytes s = enc (bytes a)) := ⟨by rw [hs]; exact bytes_enc _ (bytes_small a)⟩
  have HSZ : Sl (s.size = 4 * ((a.size + 2) / 3)) := ⟨by rw [hs, strOf_size, enc_length, bytes_length]⟩
  have hsl : s.size ≤ 1000 := by rw [HSZ.out]; omega
  have hs0 : 0 < s.size := by rw [HSZ.out]; omega
  have HS := Sl.mk hs
  clear hs
  obtain ⟨i, hi⟩ : ∃ i : Nat, i = at_ % s.size := ⟨_, rfl⟩
  have hil : i < s.size := by rw [hi]; exact Nat.mod_lt _ hs0
  have hi' : (at_ : Int) % (s.size : Int) = (i : Int) := by rw [hi]; simp
  clear hi
  have h00 : ((a.size : Int) == 0) = false := beq_eq_false_iff_ne.2 (by omega)
  obtain ⟨c, hc⟩ : ∃ c, c = (bytes s).getD i 0 := ⟨_, rfl⟩
  have HC := Sl.mk hc
  have HNB : Sl (bytes (strOf ((bytes s).set i v)) = (bytes s).set i v) := ⟨bytes_strOf _ (set_small (bytes_small s) hv)⟩
  have hnl : (strOf ((bytes s).set i v)).size ≤ 1000 := by rw [strOf_size]; simpa [bytes_length] using hsl
  have HIL : Sl (i < (bytes s).length) := ⟨by rw [bytes_length]; exact hil⟩
  clear hc
  obtain ⟨c0, w1, hc0, HV1, HB1⟩ := conv_str a w
  have hz0 : (0 : Int) < (s.size : Int) := by omega
  by_cases hcv0 : c = v
  · have hq : ((c : Int) == (v : Int)) = true := by simp; omega
    have HRD : Sl (rd (bytes (strOf ((bytes s).set i v))) = some (bytes a)) := ⟨by
      rw [HNB.out, set_same _ _ _ HIL.out (by rw [← HC.out]; exact hcv0), HBS.out]; exact rd_enc _ (bytes_small a)⟩
    clear hcv0
    go_enter Tryd.func8, Tryd.ntmps8
    go_wp2_with fail
    refine (awake_ex w _ (Below.refl _ _) HG.out).mono ?_
    rintro e wa ⟨rfl, HXa, HBa⟩
    clear hc0 HV1 HB1 w1 c0
    obtain ⟨c0, w1, hc0, HV1, HX1⟩ := conv_str a wa
    have HB1 : Sl (Below w.heap.size w w1) := ⟨HBa.out.trans (HX1.out.mono HBa.out.size)⟩
    go_wp2_with fail
    refine (putS w a _ _ HV1.out HB1.out HG.out (by omega)).mono ?_
    rw [← HS.out]
    rintro e w2 ⟨rfl, HX2, HB2⟩
    clear hc0
    obtain ⟨c3, w3, hc3, hge3, HV3, HX3⟩ := conv_rw s w2
    have HB3 : Sl (Below w.heap.size w w3) := ⟨HB2.out.trans (HX3.out.mono HB2.out.size)⟩
    have hcl := (HV3.out i hil).1
    rw [← HC.out] at hcl
    have hfr := (HV3.out i hil).2
    have hcs := conv_set (cap := c3) (v := v) (bytes_length s) hil HV3.out
    have HB4 : Sl (Below w.heap.size w (w3.setCell ⟨w2.heap.size, i, none⟩ (.int .u8 (v : Int)))) := ⟨HB3.out.setCell HB2.out.size _⟩
    go_wp2_with fail
    refine (getYesX w (strOf ((bytes s).set i v)) (bytes a) _ HB4.out (by omega) HRD.out).mono ?_
    rintro e w5 ⟨u, rfl, HO5, HX5, HB5⟩
    have hcv := conv_own HO5.out
    rw [show strOfNums (List.map (fun (n : Nat) => (n : Int)) (bytes a)) = a from strOf_bytes a] at hcv
    have q2 : (a.toList == a.toList) = true := by simp
    clear hc3 hcl hfr hcs
    go_wp2
    go_ret
    exact ⟨by first | rfl | simp, HB5.out⟩
  · have hq : ((c : Int) == (v : Int)) = false := beq_eq_false_iff_ne.2 (by omega)
    have HNE : Sl ((bytes s).set i v ≠ enc (bytes a)) := ⟨by rw [← HBS.out]; exact set_other _ _ _ HIL.out (by rw [← HC.out]; exact hcv0)⟩
    clear hcv0
    cases hr : rd (bytes (strOf ((bytes s).set i v))) with
    | none =>
      have HRD := Sl.mk hr
      clear hr
      go_enter Tryd.func8, Tryd.ntmps8
      go_wp2_with fail
      refine (awake_ex w _ (Below.refl _ _) HG.out).mono ?_
      rintro e wa ⟨rfl, HXa, HBa⟩
      clear hc0 HV1 HB1 w1 c0
      obtain ⟨c0, w1, hc0, HV1, HX1⟩ := conv_str a wa
      have HB1 : Sl (Below w.heap.size w w1) := ⟨HBa.out.trans (HX1.out.mono HBa.out.size)⟩
      go_wp2_with fail
      refine (putS w a _ _ HV1.out HB1.out HG.out (by omega)).mono ?_
      rw [← HS.out]
      rintro e w2 ⟨rfl, HX2, HB2⟩
      clear hc0
      obtain ⟨c3, w3, hc3, hge3, HV3, HX3⟩ := conv_rw s w2
      have HB3 : Sl (Below w.heap.size w w3) := ⟨HB2.out.trans (HX3.out.mono HB2.out.size)⟩
      have hcl := (HV3.out i hil).1
      rw [← HC.out] at hcl
      have hfr := (HV3.out i hil).2
      have hcs := conv_set (cap := c3) (v := v) (bytes_length s) hil HV3.out
      have HB4 : Sl (Below w.heap.size w (w3.setCell ⟨w2.heap.size, i, none⟩ (.int .u8 (v : Int)))) := ⟨HB3.out.setCell HB2.out.size _⟩
      go_wp2_with fail
      refine (getNoX w (strOf ((bytes s).set i v)) _ HB4.out (by omega) HRD.out).mono ?_
      rintro e w5 ⟨rfl, HX5, HB5⟩
      clear hc3 hcl hfr hcs
      go_wp2
      go_ret
      exact ⟨by first | rfl | simp, HB5.out⟩
    | some b =>
      have HRD := Sl.mk hr
      have q2 : (!((strOf b).toList == a.toList)) = true := by
        have h1 := enc_of_rd hr
        rw [beq_bytes2, bytes_strOf _ h1.2]
        have hne : b ≠ bytes a := fun e => HNE.out (by rw [← HNB.out, ← h1.1, e])
        simp [hne]
      clear hr
      go_enter Tryd.func8, Tryd.ntmps8
      go_wp2_with fail
      refine (awake_ex w _ (Below.refl _ _) HG.out).mono ?_
      rintro e wa ⟨rfl, HXa, HBa⟩
      clear hc0 HV1 HB1 w1 c0
      obtain ⟨c0, w1, hc0, HV1, HX1⟩ := conv_str a wa
      have HB1 : Sl (Below w.heap.size w w1) := ⟨HBa.out.trans (HX1.out.mono HBa.out.size)⟩
      go_wp2_with fail
      refine (putS w a _ _ HV1.out HB1.out HG.out (by omega)).mono ?_
      rw [← HS.out]
      rintro e w2 ⟨rfl, HX2, HB2⟩
      clear hc0
      obtain ⟨c3, w3, hc3, hge3, HV3, HX3⟩ := conv_rw s w2
      have HB3 : Sl (Below w.heap.size w w3) := ⟨HB2.out.trans (HX3.out.mono HB2.out.size)⟩
      have hcl := (HV3.out i hil).1
      rw [← HC.out] at hcl
      have hfr := (HV3.out i hil).2
      have hcs := conv_set (cap := c3) (v := v) (bytes_length s) hil HV3.out
      have HB4 : Sl (Below w.heap.size w (w3.setCell ⟨w2.heap.size, i, none⟩ (.int .u8 (v : Int)))) := ⟨HB3.out.setCell HB2.out.size _⟩
      go_wp2_with fail
      refine (getYesX w (strOf ((bytes s).set i v)) b _ HB4.out (by omega) HRD.out).mono ?_
      rintro e w5 ⟨u, rfl, HO5, HX5, HB5⟩
      have hcv := conv_own HO5.out
      rw [show strOfNums (List.map (fun (n : Nat) => (n : Int)) b) = strOf b from rfl] at hcv
      clear hc3 hcl hfr hcs
      go_wp2
      go_ret
      exact ⟨by first | rfl | simp, HB5.out⟩

theorem turned_walk (a : ByteArray) (at_ v : Nat) (w : World) (hg : Globs w) (ha : a.size ≤ maxLen) (hat : at_ < 65536) (hv : v < 256) :
    Calls Tryd.prog 8 #[.string a, .int .u16 at_, .int .u8 v] w fun e w' => e = .returned (.bool true) ∧ Below w.heap.size w w' := by
  by_cases h : 200 < a.size ∨ a.size = 0
  · exact turned_long a at_ v w hg h ha
  · exact turned_short a at_ v w hg (by omega) (by omega) hat hv
end Go.Proofs.YtdcgddoginaioaaDoor
