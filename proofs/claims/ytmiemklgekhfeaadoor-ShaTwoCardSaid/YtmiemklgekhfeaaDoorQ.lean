/- ShaTwo, the walk: whatever two rows of strings are handed over, the law's Go text returns true, and nothing that was in memory changes. Conditions: the two tables of package sha are as its text lays them; the strings fit in memory. -/
import Derived.Test.YtmiemklgekhfeaaDoorP
import Derived.Test.YtmiemklgekhfeaaDoorO
namespace Go.Proofs.YtmiemklgekhfeaaDoor
open Go.RowKit

set_option maxHeartbeats 1000000 in
theorem two_long (v1 v2 : Value) (l1 l2 : List ByteArray) (w : World) (hg : Globs w) (hv1 : StrsAt w v1 l1) (hv2 : StrsAt w v2 l2) (h : 20 < l1.length ∨ 20 < l2.length) :
    Calls Tryd.prog 5 #[v1, v2] w fun e w' => e = .returned (.bool true) ∧ Below w.heap.size w w' := by
  obtain ⟨a1, cap1, sb1, so1, rfl, hm1, _, _, _⟩ := hv1
  obtain ⟨a2, cap2, sb2, so2, rfl, hm2, _, _, _⟩ := hv2
  unfold maxLen at hm1 hm2
  have HG := Sl.mk hg
  clear hg
  by_cases h1 : 20 < l1.length
  all_goals
    first
      | (have h2 : 20 < l2.length := by omega)
      | skip
    clear h
    go_enter Tryd.func5, Tryd.ntmps5
    go_wp2_with fail
    refine (new_ex _ HG.out).mono ?_
    rintro e w0 ⟨rfl, HS0, HB0⟩
    go_wp2_with fail
    refine (new_ex _ (HG.out.below HB0.out HG.out.size)).mono ?_
    rintro e w1 ⟨rfl, HS1, HX1⟩
    have HB1 : Sl (Below w.heap.size w w1) := ⟨HB0.out.trans (HX1.out.mono HB0.out.size)⟩
    go_wp2_with fail
    refine (awake_ex w _ HB1.out HG.out).mono ?_
    rintro e w2 ⟨rfl, HX2, HB2⟩
    go_wp2_with fail
    refine (awake_ex w _ HB2.out HG.out).mono ?_
    rintro e w3 ⟨rfl, HX3, HB3⟩
    go_wp2
    go_ret
    exact ⟨rfl, HB3.out⟩

/-- What the loop of ShaTwo holds to. -/
structure TR (w : World) (M k : Nat) (x y : ByteArray) (wr : World) : Prop where
  xs : x.size ≤ 200 * k
  ys : y.size ≤ 200 * k
  s : SumAt wr w.heap.size (feed st0 (bytes x))
  t : SumAt wr M (feed st0 (bytes y))
  b : Below w.heap.size w wr

/-- A string more goes into a sum; another sum stays. -/
theorem add_str (w W : World) (b b' : Nat) (x z : ByteArray) (s' : St) (c g : Nat) (hw : w.heap.size ≤ b) (hB : Below w.heap.size w W) (hg : Globs w) (hs : SumAt W b (feed st0 (bytes x))) (hs' : SumAt W b' s') (hne : b' ≠ b)
    (hv : SrcAt W b (.slice (some ⟨g, 0, none⟩) z.size c) (bytes z)) (hL : x.size + z.size < 100000) :
    Calls Tryd.prog 14 #[.pointer (some ⟨b, 0, none⟩), .slice (some ⟨g, 0, none⟩) z.size c] W fun e w' => e = .returned (.tuple #[]) ∧ Sl (SumAt w' b (feed st0 (bytes (x ++ z)))) ∧ Sl (SumAt w' b' s') ∧ Sl (Below w.heap.size w w') :=
  (add_ex w W b _ (bytes z) _ hw hB hg hs (okSt0.feed (bytes_small x).mem) hv (bytes_small z) (by rw [feed_L, bytes_length, bytes_length]; show 0 + _ + _ < _; omega)).mono fun _ _ ⟨he, h1, h2, h3⟩ =>
    ⟨he, ⟨by rw [bytes_append, feed_append]; exact h1.out⟩, ⟨sumAt_grown hs' h3.out hne⟩, h2⟩
theorem size_app (x z : ByteArray) : (x ++ z).size = x.size + z.size := by simp

set_option maxRecDepth 100000 in
set_option maxHeartbeats 2000000 in
theorem two_short (v1 v2 : Value) (l1 l2 : List ByteArray) (w : World) (hg : Globs w) (hv1 : StrsAt w v1 l1) (hv2 : StrsAt w v2 l2) (h1 : l1.length ≤ 20) (h2 : l2.length ≤ 20) :
    Calls Tryd.prog 5 #[v1, v2] w fun e w' => e = .returned (.bool true) ∧ Below w.heap.size w w' := by
  obtain ⟨a1, cap1, sb1, so1, rfl, hm1, ha1, hc1, hz1⟩ := hv1
  obtain ⟨a2, cap2, sb2, so2, rfl, hm2, ha2, hc2, hz2⟩ := hv2
  have HG := Sl.mk hg
  have HA1 := Sl.mk ha1
  have HC1 := Sl.mk hc1
  have HZ1 := Sl.mk hz1
  have HA2 := Sl.mk ha2
  have HC2 := Sl.mk hc2
  have HZ2 := Sl.mk hz2
  clear hg hm1 ha1 hc1 hz1 hm2 ha2 hc2 hz2
  go_enter Tryd.func5, Tryd.ntmps5
  go_wp2_with fail
  refine (new_ex _ HG.out).mono ?_
  rintro e w0 ⟨rfl, HS0, HB0⟩
  go_wp2_with fail
  refine (new_ex _ (HG.out.below HB0.out HG.out.size)).mono ?_
  rintro e w1 ⟨rfl, HS1, HX1⟩
  have HB1 : Sl (Below w.heap.size w w1) := ⟨HB0.out.trans (HX1.out.mono HB0.out.size)⟩
  have HS01 : Sl (SumAt w1 w.heap.size st0) := ⟨sumAt_below HS0.out HX1.out⟩
  have hNM : w.heap.size < w0.heap.size := sumAt_lt HS0.out
  clear HS0 HB0 HX1
  go_wp2_with fail
  refine (awake_ex w _ HB1.out HG.out).mono ?_
  rintro e w2 ⟨rfl, HX2, HB2⟩
  have HS2 : Sl (SumAt w2 w.heap.size st0) := ⟨sumAt_below HS01.out HX2.out⟩
  have HT2 : Sl (SumAt w2 w0.heap.size st0) := ⟨sumAt_below HS1.out HX2.out⟩
  clear HS1 HB1 HX2 HS01
  go_wp2_with fail
  go_loopw [7, 8, 9] (fun x y i wr => ∃ (k : Nat) (xs ys : ByteArray), k ≤ 20 ∧ x = .string xs ∧ y = .string ys ∧ i = .int .i64 k ∧ TR w w0.heap.size k xs ys wr) (fun _ _ i _ => 20 - (intOf i).toNat)
  case atStart => exact ⟨0, _, _, by omega, rfl, rfl, rfl, Nat.zero_le _, Nat.zero_le _, HS2.out, HT2.out, HB2.out⟩
  case round =>
    clear HS2 HT2 HB2
    obtain ⟨k, xs, ys, hk, rfl, rfl, rfl, hrel⟩ := hrel
    have hxs := hrel.xs
    have hys := hrel.ys
    have HR := Sl.mk hrel
    clear hrel
    by_cases hA : k < l1.length
    · obtain rfl := HA1.out (by omega)
      have hc0 := HC1.out k hA
      have hsb : sb1 < w.heap.size := block_lt_of_cell hc0
      have hps : (l1.getD k ByteArray.empty).size ≤ 9223372036854775807 := HZ1.out k
      have hcr : wr.cell? ⟨sb1, so1 + k, none⟩ = some (.string (l1.getD k ByteArray.empty)) := by rw [HR.out.b.cell (p := ⟨sb1, so1 + k, none⟩) hsb]; exact hc0
      have HC0 := Sl.mk hc0
      clear hc0
      generalize l1.getD k ByteArray.empty = p at *
      by_cases hp : 200 < p.size
      · go_wp2
        go_ret
        exact ⟨rfl, HR.out.b⟩
      · have hp' : p.size ≤ 200 := by omega
        obtain ⟨c5, w5, hc5, HV5, HB5⟩ := conv_str p wr
        have HB05 : Sl (Below w.heap.size w w5) := ⟨HR.out.b.trans (HB5.out.mono HR.out.b.size)⟩
        have HS5 : Sl (SumAt w5 w.heap.size (feed st0 (bytes xs))) := ⟨sumAt_below HR.out.s HB5.out⟩
        have HT5 : Sl (SumAt w5 w0.heap.size (feed st0 (bytes ys))) := ⟨sumAt_below HR.out.t HB5.out⟩
        have HN : Sl (w0.heap.size < wr.heap.size) := ⟨sumAt_lt HR.out.t⟩
        go_wp2_with fail
        refine (add_str w _ w.heap.size w0.heap.size xs p _ _ _ (Nat.le_refl _) HB05.out HG.out HS5.out HT5.out (by omega) (HV5.out _ (by have := HN.out; omega)) (by omega)).mono ?_
        rintro e w6 ⟨rfl, HS6, HT6, HB6⟩
        have hcr6 : w6.cell? ⟨sb1, so1 + k, none⟩ = some (.string p) := by rw [HB6.out.cell (p := ⟨sb1, so1 + k, none⟩) hsb]; exact HC0.out
        have hxp := size_app xs p
        have HXP := Sl.mk hxp
        clear hc5 HV5 HB5 HB05 HS5 HT5 HN HR hcr hxp
        by_cases hB : k < l2.length
        · obtain rfl := HA2.out (by omega)
          have hd0 := HC2.out k hB
          have hsd : sb2 < w.heap.size := block_lt_of_cell hd0
          have hqs : (l2.getD k ByteArray.empty).size ≤ 9223372036854775807 := HZ2.out k
          have hdr : w6.cell? ⟨sb2, so2 + k, none⟩ = some (.string (l2.getD k ByteArray.empty)) := by rw [HB6.out.cell (p := ⟨sb2, so2 + k, none⟩) hsd]; exact hd0
          have HD0 := Sl.mk hd0
          clear hd0
          generalize l2.getD k ByteArray.empty = q at *
          by_cases hq : 200 < q.size
          · go_wp2
            go_ret
            exact ⟨rfl, HB6.out⟩
          · have hq' : q.size ≤ 200 := by omega
            obtain ⟨c7, w7, hc7, HV7, HB7⟩ := conv_str q w6
            have HB07 : Sl (Below w.heap.size w w7) := ⟨HB6.out.trans (HB7.out.mono HB6.out.size)⟩
            have HS7 : Sl (SumAt w7 w.heap.size (feed st0 (bytes (xs ++ p)))) := ⟨sumAt_below HS6.out HB7.out⟩
            have HT7 : Sl (SumAt w7 w0.heap.size (feed st0 (bytes ys))) := ⟨sumAt_below HT6.out HB7.out⟩
            have HN : Sl (w0.heap.size < w6.heap.size) := ⟨sumAt_lt HT6.out⟩
            go_wp2_with fail
            refine (add_str w _ w0.heap.size w.heap.size ys q _ _ _ (by omega) HB07.out HG.out HT7.out HS7.out (by omega) (HV7.out _ (by have := HN.out; omega)) (by omega)).mono ?_
            rintro e w8 ⟨rfl, HT8, HS8, HB8⟩
            have hdr8 : w8.cell? ⟨sb2, so2 + k, none⟩ = some (.string q) := by rw [HB8.out.cell (p := ⟨sb2, so2 + k, none⟩) hsd]; exact HD0.out
            have HYQ := Sl.mk (size_app ys q)
            clear hc7 HV7 HB7 HB07 HS7 HT7 HN hdr
            go_wp2
            go_roundw
            case rel => exact ⟨k + 1, xs ++ p, ys ++ q, by omega, rfl, rfl, by go_num, by rw [HXP.out]; omega, by rw [HYQ.out]; omega, HS8.out, HT8.out, HB8.out⟩
            case measure => simp [intOf]; omega
        · have hB' : l2.length ≤ k := by omega
          go_wp2
          go_roundw
          case rel => exact ⟨k + 1, xs ++ p, ys, by omega, rfl, rfl, by go_num, by rw [HXP.out]; omega, by omega, HS6.out, HT6.out, HB6.out⟩
          case measure => simp [intOf]; omega
    · have hA' : l1.length ≤ k := by omega
      by_cases hB : k < l2.length
      · obtain rfl := HA2.out (by omega)
        have hd0 := HC2.out k hB
        have hsd : sb2 < w.heap.size := block_lt_of_cell hd0
        have hqs : (l2.getD k ByteArray.empty).size ≤ 9223372036854775807 := HZ2.out k
        have hdr : wr.cell? ⟨sb2, so2 + k, none⟩ = some (.string (l2.getD k ByteArray.empty)) := by rw [HR.out.b.cell (p := ⟨sb2, so2 + k, none⟩) hsd]; exact hd0
        have HD0 := Sl.mk hd0
        clear hd0
        generalize l2.getD k ByteArray.empty = q at *
        by_cases hq : 200 < q.size
        · go_wp2
          go_ret
          exact ⟨rfl, HR.out.b⟩
        · have hq' : q.size ≤ 200 := by omega
          obtain ⟨c7, w7, hc7, HV7, HB7⟩ := conv_str q wr
          have HB07 : Sl (Below w.heap.size w w7) := ⟨HR.out.b.trans (HB7.out.mono HR.out.b.size)⟩
          have HS7 : Sl (SumAt w7 w.heap.size (feed st0 (bytes xs))) := ⟨sumAt_below HR.out.s HB7.out⟩
          have HT7 : Sl (SumAt w7 w0.heap.size (feed st0 (bytes ys))) := ⟨sumAt_below HR.out.t HB7.out⟩
          have HN : Sl (w0.heap.size < wr.heap.size) := ⟨sumAt_lt HR.out.t⟩
          go_wp2_with fail
          refine (add_str w _ w0.heap.size w.heap.size ys q _ _ _ (by omega) HB07.out HG.out HT7.out HS7.out (by omega) (HV7.out _ (by have := HN.out; omega)) (by omega)).mono ?_
          rintro e w8 ⟨rfl, HT8, HS8, HB8⟩
          have hdr8 : w8.cell? ⟨sb2, so2 + k, none⟩ = some (.string q) := by rw [HB8.out.cell (p := ⟨sb2, so2 + k, none⟩) hsd]; exact HD0.out
          have HYQ := Sl.mk (size_app ys q)
          clear hc7 HV7 HB7 HB07 HS7 HT7 HN hdr
          go_wp2
          go_roundw
          case rel => exact ⟨k + 1, xs, ys ++ q, by omega, rfl, rfl, by go_num, by omega, by rw [HYQ.out]; omega, HS8.out, HT8.out, HB8.out⟩
          case measure => simp [intOf]; omega
      · have hB' : l2.length ≤ k := by omega
        have hx4 : xs.size ≤ 4000 := by omega
        have hy4 : ys.size ≤ 4000 := by omega
        have OK1 : Sl (OkSt (feed st0 (bytes xs))) := ⟨okSt0.feed (bytes_small xs).mem⟩
        have HL1 : Sl ((feed st0 (bytes xs)).L = xs.size) := ⟨by rw [feed_L, bytes_length]; show 0 + _ = _; omega⟩
        have OK2 : Sl (OkSt (feed st0 (bytes ys))) := ⟨okSt0.feed (bytes_small ys).mem⟩
        have HL2 : Sl ((feed st0 (bytes ys)).L = ys.size) := ⟨by rw [feed_L, bytes_length]; show 0 + _ = _; omega⟩
        have HS := Sl.mk HR.out.s
        have HT := Sl.mk HR.out.t
        have HB := Sl.mk HR.out.b
        clear HR
        obtain ⟨s1, hs1⟩ : ∃ s1, s1 = feed st0 (bytes xs) := ⟨_, rfl⟩
        have HE1 := Sl.mk hs1
        rw [← hs1] at HS OK1 HL1
        clear hs1
        obtain ⟨s2, hs2⟩ : ∃ s2, s2 = feed st0 (bytes ys) := ⟨_, rfl⟩
        have HE2 := Sl.mk hs2
        rw [← hs2] at HT OK2 HL2
        clear hs2
        obtain ⟨b1, hb1⟩ : ∃ bt, bt = told s1 := ⟨_, rfl⟩
        obtain ⟨b2, hb2⟩ : ∃ bt, bt = told s2 := ⟨_, rfl⟩
        have HB1T := Sl.mk hb1
        have HB2T := Sl.mk hb2
        have HBL1 : Sl (b1.length = 20) := ⟨by rw [hb1]; exact told_length _⟩
        have HSM1 : Sl (Small 256 b1) := ⟨by rw [hb1]; exact told_small _⟩
        have HBL2 : Sl (b2.length = 20) := ⟨by rw [hb2]; exact told_length _⟩
        have HSM2 : Sl (Small 256 b2) := ⟨by rw [hb2]; exact told_small _⟩
        clear hb1 hb2
        have q1 := eql_u8s b1 HBL1.out HSM1.out
        have q2 := eqlIn_u8s b1 HBL1.out HSM1.out
        have q3 := eql_u8s b2 HBL2.out HSM2.out
        have q4 := eqlIn_u8s b2 HBL2.out HSM2.out
        have HT1 : Sl (b1 = told (feed st0 (bytes xs))) := ⟨by rw [HB1T.out, HE1.out]⟩
        have HT2 : Sl (b2 = told (feed st0 (bytes ys))) := ⟨by rw [HB2T.out, HE2.out]⟩
        go_wp2_with fail
        refine (toldW _ (HG.out.below HB.out HG.out.size) w.heap.size s1 b1 HS.out OK1.out (by rw [HL1.out]; omega) HB1T).mono ?_
        rintro e w9 ⟨rfl, hb9⟩
        have HB9 : Sl (Below w.heap.size w w9) := ⟨HB.out.trans (hb9.mono HB.out.size)⟩
        have HS9 : Sl (SumAt w9 w.heap.size s1) := ⟨sumAt_below HS.out hb9⟩
        have HT9 : Sl (SumAt w9 w0.heap.size s2) := ⟨sumAt_below HT.out hb9⟩
        clear hb9 HS HT HB
        obtain ⟨c5, w5, hc5, HV5, HB5⟩ := conv_str xs w9
        have HB05 : Sl (Below w.heap.size w w5) := ⟨HB9.out.trans (HB5.out.mono HB9.out.size)⟩
        go_wp2_with fail
        refine (ofW _ (HG.out.below HB05.out HG.out.size) _ (bytes xs) b1 ⟨⟨_, HV5.out (w9.heap.size + 1) (by omega)⟩⟩ (bytes_small xs) (by rw [bytes_length]; omega) HT1).mono ?_
        rintro e w10 ⟨rfl, hb10⟩
        have HX : Sl (Below w9.heap.size w9 w10) := ⟨HB5.out.trans (hb10.mono HB5.out.size)⟩
        have HB10 : Sl (Below w.heap.size w w10) := ⟨HB9.out.trans (HX.out.mono HB9.out.size)⟩
        have HS10 : Sl (SumAt w10 w.heap.size s1) := ⟨sumAt_below HS9.out HX.out⟩
        have HT10 : Sl (SumAt w10 w0.heap.size s2) := ⟨sumAt_below HT9.out HX.out⟩
        clear hb10 hc5 HX HS9 HT9 HB9 HB05 HB5 HV5
        go_wp2_with fail
        refine (toldW _ (HG.out.below HB10.out HG.out.size) w0.heap.size s2 b2 HT10.out OK2.out (by rw [HL2.out]; omega) HB2T).mono ?_
        rintro e w11 ⟨rfl, hb11⟩
        have HB11 : Sl (Below w.heap.size w w11) := ⟨HB10.out.trans (hb11.mono HB10.out.size)⟩
        have HS11 : Sl (SumAt w11 w.heap.size s1) := ⟨sumAt_below HS10.out hb11⟩
        have HT11 : Sl (SumAt w11 w0.heap.size s2) := ⟨sumAt_below HT10.out hb11⟩
        clear hb11 HS10 HT10 HB10
        obtain ⟨c6, w6, hc6, HV6, HB6⟩ := conv_str ys w11
        have HB06 : Sl (Below w.heap.size w w6) := ⟨HB11.out.trans (HB6.out.mono HB11.out.size)⟩
        go_wp2_with fail
        refine (ofW _ (HG.out.below HB06.out HG.out.size) _ (bytes ys) b2 ⟨⟨_, HV6.out (w11.heap.size + 1) (by omega)⟩⟩ (bytes_small ys) (by rw [bytes_length]; omega) HT2).mono ?_
        rintro e w12 ⟨rfl, hb12⟩
        have HX : Sl (Below w11.heap.size w11 w12) := ⟨HB6.out.trans (hb12.mono HB6.out.size)⟩
        have HB12 : Sl (Below w.heap.size w w12) := ⟨HB11.out.trans (HX.out.mono HB11.out.size)⟩
        have HS12 : Sl (SumAt w12 w.heap.size s1) := ⟨sumAt_below HS11.out HX.out⟩
        have HT12 : Sl (SumAt w12 w0.heap.size s2) := ⟨sumAt_below HT11.out HX.out⟩
        clear hb12 hc6 HX HS11 HT11 HB11 HB06 HB6 HV6
        go_wp2_with fail
        refine (len_any w.heap.size s1 _ HS12.out OK1.out).mono ?_
        rintro e w13 ⟨rfl, rfl⟩
        have hl1 : ((s1.L : Int) == (xs.size : Int)) = true := by rw [HL1.out]; simp
        go_wp2_with fail
        refine (len_any w0.heap.size s2 _ HT12.out OK2.out).mono ?_
        rintro e w14 ⟨rfl, rfl⟩
        have hl2 : ((s2.L : Int) == (ys.size : Int)) = true := by rw [HL2.out]; simp
        go_wp2
        go_ret
        exact ⟨rfl, HB12.out⟩

theorem two_walk (v1 : Value) (l1 : List ByteArray) (v2 : Value) (l2 : List ByteArray) (w : World) (hg : Globs w) (hv1 : StrsAt w v1 l1) (hv2 : StrsAt w v2 l2) :
    Calls Tryd.prog 5 #[v1, v2] w fun e w' => e = .returned (.bool true) ∧ Below w.heap.size w w' := by
  by_cases h : 20 < l1.length ∨ 20 < l2.length
  · exact two_long v1 v2 l1 l2 w hg hv1 hv2 h
  · exact two_short v1 v2 l1 l2 w hg hv1 hv2 (by omega) (by omega)
end Go.Proofs.YtmiemklgekhfeaaDoor
