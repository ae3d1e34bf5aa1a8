/- ShaBlocks, the walk: whatever two bytes and string are handed over, the law's Go text returns true, and nothing that was in memory changes. Conditions: the two tables of package sha are as its text lays them; the string fits in memory. -/
import Derived.Test.YtmiemklgekhfeaaDoorFill
namespace Go.Proofs.YtmiemklgekhfeaaDoor
open Go.RowKit

theorem sumAt_grown {w w' : World} {b b' : Nat} {s : St} (h : SumAt w b s) (hg : w.grownBy w' (some b')) (hne : b ≠ b') : SumAt w' b s := by
  show _ = _
  rw [hg.block _ (sumAt_lt h) (fun e => hne (by injection e))]; exact h
theorem strOf_size (l : List Nat) : (strOf l).size = l.length := by unfold strOf; rw [strOfNums_size]; simp
theorem bytes_strOf (l : List Nat) (h : Small 256 l) : bytes (strOf l) = l := by
  unfold bytes strOf
  rw [strOfNums_data, List.map_map, List.map_map]
  conv => rhs; rw [← List.map_id l]
  refine List.map_congr_left (fun x hx => ?_)
  have := h.mem x hx
  simp only [Function.comp_def, Int.toNat_natCast, id]
  exact UInt8.toNat_ofNat_of_lt' this
theorem reps_add (m n v : Nat) : reps (m + n) v = reps m v ++ reps n v := by simp [reps, List.replicate_append_replicate]
theorem reps_getD (n v i : Nat) (hi : i < n) : (reps n v).getD i 0 = v := by simp [reps, List.getD, hi]
theorem src_range {W : World} {b G n c : Nat} {l : List Nat} (h : SrcAt W b (.slice (some ⟨G, 0, none⟩) n c) l) (hp : 0 < l.length) : W.rangeAt G 0 (u8s l) ∧ n ≤ c := by
  obtain ⟨a, cap, sb, so, h0, h1, h3, h4, h5⟩ := h
  injection h0 with e1 e2 e3
  rw [h3 hp] at e1
  injection e1 with e1
  injection e1 with e4 e5
  subst e4 e5
  refine ⟨fun j v hv => ?_, by omega⟩
  have hj : j < l.length := by simpa using (List.getElem?_eq_some_iff.1 hv).1
  rw [h5 j hj, ← hv, u8s_get l j hj]
theorem slice_one (G j cap : Nat) (hj : j < 64) (hc : 64 ≤ cap) (w : World) :
    (Instr.slice 26 (.slice (some ⟨G, 0, none⟩) 64 cap) (some (.int .i64 (j : Int))) (some (.int .i64 ((j : Int) + 1))) none).run Tryd.prog w = .ok (.slice (some ⟨G, j, none⟩) 1 (cap - j)) w := by
  have hz : (sizeOf (Tryd.prog.elem 26)).run Tryd.prog w = .ok 1 w := by kernel_rfl
  rw [run_slice_lh w 26 (some ⟨G, 0, none⟩) 64 cap (by kernel_rfl) .i64 .i64 (j : Int) ((j : Int) + 1) (by omega) (by omega) (by omega), hz]
  have e1 : ((j : Int) + 1).toNat = j + 1 := by omega
  simp only [Result.andThen, sliced, Int.toNat_natCast, e1, Nat.mul_one]
  rw [if_neg (by omega), show j + 1 - j = 1 by omega]
  simp [Addr.add_mid]
theorem src_cell {W : World} {G j c b v : Nat} (h : W.rangeAt G 0 (u8s (reps 64 v))) (hj : j < 64) (hc : 1 ≤ c) (hne : G ≠ b) : SrcAt W b (.slice (some ⟨G, j, none⟩) 1 c) [v] :=
  ⟨some ⟨G, j, none⟩, c, G, j, rfl, hc, fun _ => rfl, fun _ => hne, fun i hi => by
    have hi0 : i = 0 := by simp at hi; omega
    subst hi0
    have := h j _ (u8s_get (reps 64 v) j (by rw [reps_length]; exact hj))
    rw [Nat.zero_add] at this
    rw [Nat.add_zero, this, reps_getD 64 v j hj]
    rfl⟩
theorem src_rep {W : World} {G c b v : Nat} (h : W.rangeAt G 0 (u8s (reps 64 v))) (hc : 64 ≤ c) (hne : G ≠ b) : SrcAt W b (.slice (some ⟨G, 0, none⟩) 64 c) (reps 64 v) :=
  ⟨some ⟨G, 0, none⟩, c, G, 0, by rw [reps_length], by rw [reps_length]; exact hc, fun _ => rfl, fun _ => hne, fun i hi => h i _ (u8s_get (reps 64 v) i hi)⟩

/-- What the loops of ShaBlocks hold to: two sums, and the block of bytes. -/
structure BL (w : World) (M G v m n : Nat) (wr : World) : Prop where
  s : SumAt wr w.heap.size (feed st0 (reps m v))
  t : SumAt wr M (feed st0 (reps n v))
  g : wr.rangeAt G 0 (u8s (reps 64 v))
  b : Below w.heap.size w wr
theorem BL.lt {w wr : World} {M G v m n : Nat} (h : BL w M G v m n wr) : G < wr.heap.size := block_lt_of_cell (h.g 0 _ (u8s_get _ 0 (by rw [reps_length]; decide)))
theorem reps_ok (m v : Nat) (hv : v < 256) : OkSt (feed st0 (reps m v)) := okSt0.feed (reps_small m v hv).mem
theorem reps_L (m v : Nat) : (feed st0 (reps m v)).L = m := by rw [feed_L, reps_length]; show 0 + _ = _; omega

set_option maxHeartbeats 1000000 in
theorem blocks_long (n v : Nat) (a : ByteArray) (w : World) (hg : Globs w) (h1 : 64 < a.size) (ha : a.size ≤ maxLen) :
    Calls Tryd.prog 8 #[.int .u8 n, .int .u8 v, .string a] w fun e w' => e = .returned (.bool true) ∧ Below w.heap.size w w' := by
  unfold maxLen at ha
  have HG := Sl.mk hg
  clear hg
  go_enter Tryd.func8, Tryd.ntmps8
  go_wp2_with fail
  refine (new_ex _ HG.out).mono ?_
  rintro e w0 ⟨rfl, HS0, HB0⟩
  go_wp2_with fail
  refine (new_ex _ (HG.out.below HB0.out HG.out.size)).mono ?_
  rintro e w1 ⟨rfl, HS1, HX1⟩
  have HB1 : Sl (Below w.heap.size w w1) := ⟨HB0.out.trans (HX1.out.mono HB0.out.size)⟩
  go_wp2_with fail
  refine (awake_ex w _ HB1.out HG.out).mono ?_
  rintro e w2 ⟨rfl, HX2, HB2⟩
  go_wp2_with fail
  refine (awake_ex w _ HB2.out HG.out).mono ?_
  rintro e w3 ⟨rfl, HX3, HB3⟩
  go_wp2
  go_ret
  exact ⟨rfl, HB3.out⟩

set_option maxHeartbeats 1000000 in
theorem blocks_short (n v : Nat) (a : ByteArray) (w : World) (hg : Globs w) (h1 : a.size ≤ 64) (hn : n < 256) (hv : v < 256) :
    Calls Tryd.prog 8 #[.int .u8 n, .int .u8 v, .string a] w fun e w' => e = .returned (.bool true) ∧ Below w.heap.size w w' := by
  have HG := Sl.mk hg
  clear hg
  obtain ⟨k, hk⟩ : ∃ k : Nat, k = n % 6 := ⟨_, rfl⟩
  have hk6 : k < 6 := by omega
  have hkk : (n : Int) % 6 = (k : Int) := by omega
  clear hk
  go_enter Tryd.func8, Tryd.ntmps8
  go_wp2_with fail
  refine (new_ex _ HG.out).mono ?_
  rintro e w0 ⟨rfl, HS0, HB0⟩
  go_wp2_with fail
  refine (new_ex _ (HG.out.below HB0.out HG.out.size)).mono ?_
  rintro e w1 ⟨rfl, HS1, HX1⟩
  have HB1 : Sl (Below w.heap.size w w1) := ⟨HB0.out.trans (HX1.out.mono HB0.out.size)⟩
  have HS01 : Sl (SumAt w1 w.heap.size st0) := ⟨sumAt_below HS0.out HX1.out⟩
  have hNM : w.heap.size < w0.heap.size := sumAt_lt HS0.out
  clear HS0 HB0 HX1
  go_wp2_with fail
  refine (awake_ex w _ HB1.out HG.out).mono ?_
  rintro e w2 ⟨rfl, HX2, HB2⟩
  have HS2 : Sl (SumAt w2 w.heap.size st0) := ⟨sumAt_below HS01.out HX2.out⟩
  have HT2 : Sl (SumAt w2 w0.heap.size st0) := ⟨sumAt_below HS1.out HX2.out⟩
  clear HS1 HB1 HX2 HS01
  go_wp2_with fail
  refine (fill_any 64 v _ (by omega)).mono ?_
  rintro e w3 ⟨rfl, hb3⟩
  have HS3 : Sl (SumAt w3 w.heap.size st0) := ⟨sumAt_below HS2.out hb3⟩
  have HT3 : Sl (SumAt w3 w0.heap.size st0) := ⟨sumAt_below HT2.out hb3⟩
  have HB3 : Sl (Below w.heap.size w w3) := ⟨HB2.out.trans (hb3.mono HB2.out.size)⟩
  clear hb3 HS2 HT2 HB2
  obtain ⟨c4, w4, hc4, HV4, HB4⟩ := conv_str (strOf (reps 64 v)) w3
  rw [strOf_size, reps_length] at hc4 HV4
  rw [bytes_strOf _ (reps_small 64 v hv)] at HV4
  have HRG := src_range (HV4.out (w3.heap.size + 1) (by omega)) (by rw [reps_length]; decide)
  have hc64 := HRG.2
  have hMG : w0.heap.size < w3.heap.size := sumAt_lt HT3.out
  have HBL : Sl (BL w w0.heap.size w3.heap.size v 0 0 w4) := ⟨⟨sumAt_below HS3.out HB4.out, sumAt_below HT3.out HB4.out, HRG.1, HB3.out.trans (HB4.out.mono HB3.out.size)⟩⟩
  clear HRG HV4 HB4 HS3 HT3 HB3
  obtain ⟨G, hG⟩ : ∃ G, G = w3.heap.size := ⟨_, rfl⟩
  rw [← hG] at HBL hMG
  go_wp2_with fail
  rw [← hG]
  clear hG hc4
  go_loopw [11] (fun i wr => ∃ m : Nat, m ≤ k ∧ i = .int .i64 m ∧ BL w w0.heap.size G v (64 * m) (64 * m) wr) (fun i _ => k - (intOf i).toNat)
  case atStart => exact ⟨0, by omega, rfl, HBL.out⟩
  case round =>
    clear HBL
    obtain ⟨m, hm, rfl, hrel⟩ := hrel
    have HR := Sl.mk hrel
    clear hrel
    by_cases hlt : m < k
    · go_wp2_with fail
      refine (add_ex w _ w.heap.size _ (reps 64 v) _ (Nat.le_refl _) HR.out.b HG.out HR.out.s (reps_ok _ v hv) (src_rep HR.out.g hc64 (by omega)) (reps_small 64 v hv) (by rw [reps_L, reps_length]; omega)).mono ?_
      rintro e wi ⟨rfl, HSi, HBi, HXi⟩
      have HR0 : Sl (BL w w0.heap.size G v (64 * m + 64) (64 * m + 0) wi) := ⟨⟨by rw [reps_add, feed_append]; exact HSi.out, sumAt_grown HR.out.t HXi.out (by omega), range_grown HR.out.g HXi.out (by omega) HR.out.lt, HBi.out⟩⟩
      clear HSi HBi HXi HR
      obtain ⟨wo, rfl⟩ : ∃ wo : World, wo = wr := ⟨_, rfl⟩
      go_wp2_with fail
      go_loopw [12] (fun i wr => ∃ j : Nat, j ≤ 64 ∧ i = .int .i64 j ∧ BL w w0.heap.size G v (64 * m + 64) (64 * m + j) wr) (fun i _ => 64 - (intOf i).toNat)
      case atStart => exact ⟨0, by omega, rfl, HR0.out⟩
      case round =>
        clear HR0
        obtain ⟨j, hj, rfl, hrel⟩ := hrel
        have HR := Sl.mk hrel
        clear hrel
        by_cases hlj : j < 64
        · have hsl := slice_one G j c4 hlj hc64
          go_wp2_with fail
          refine (add_ex w _ w0.heap.size _ [v] _ (by omega) HR.out.b HG.out HR.out.t (reps_ok _ v hv) (src_cell HR.out.g hlj (by omega) (by omega)) (Small.of_mem (by decide) (fun x hx => by simp at hx; omega)) (by rw [reps_L]; show _ + 1 < _; omega)).mono ?_
          rintro e wj ⟨rfl, HSj, HBj, HXj⟩
          have HR1 : Sl (BL w w0.heap.size G v (64 * m + 64) (64 * m + (j + 1)) wj) := ⟨⟨sumAt_grown HR.out.s HXj.out (by omega), by rw [← Nat.add_assoc, reps_add, feed_append]; exact HSj.out, range_grown HR.out.g HXj.out (by omega) HR.out.lt, HBj.out⟩⟩
          clear HSj HBj HXj HR hsl
          go_wp2
          go_roundw
          case rel => exact ⟨j + 1, by omega, by go_num, HR1.out⟩
          case measure => simp [intOf]; omega
        · have hge : 64 ≤ j := by omega
          have HR1 : Sl (BL w w0.heap.size G v (64 * (m + 1)) (64 * (m + 1)) wr) := ⟨by
            have e : j = 64 := by omega
            have := HR.out
            rw [e] at this
            rw [Nat.mul_add]; exact this⟩
          clear HR
          go_wp2
          go_roundw
          case rel => exact ⟨m + 1, by omega, by go_num, HR1.out⟩
          case measure => simp [intOf]; omega
    · have hge : k ≤ m := by omega
      have hmk : Sl (m = k) := ⟨by omega⟩
      obtain ⟨c5, w5, hc5, HV5, HB5⟩ := conv_str a wr
      have HB05 : Sl (Below w.heap.size w w5) := ⟨HR.out.b.trans (HB5.out.mono HR.out.b.size)⟩
      have HS5 : Sl (SumAt w5 w.heap.size (feed st0 (reps (64 * m) v))) := ⟨sumAt_below HR.out.s HB5.out⟩
      have HT5 : Sl (SumAt w5 w0.heap.size (feed st0 (reps (64 * m) v))) := ⟨sumAt_below HR.out.t HB5.out⟩
      have hN5 : w0.heap.size < wr.heap.size := sumAt_lt HR.out.t
      clear HR
      go_wp2_with fail
      refine (add_ex w _ w.heap.size _ (bytes a) _ (Nat.le_refl _) HB05.out HG.out HS5.out (reps_ok _ v hv) (HV5.out _ (by omega)) (bytes_small a) (by rw [reps_L, bytes_length]; omega)).mono ?_
      rintro e w6 ⟨rfl, HS6, HB6, HX6⟩
      have HT6 : Sl (SumAt w6 w0.heap.size (feed st0 (reps (64 * m) v))) := ⟨sumAt_grown HT5.out HX6.out (by omega)⟩
      clear HB05 HS5 HT5 HX6 HV5 HB5
      obtain ⟨c7, w7, hc7, HV7, HB7⟩ := conv_str a w6
      have HB07 : Sl (Below w.heap.size w w7) := ⟨HB6.out.trans (HB7.out.mono HB6.out.size)⟩
      have HS7 : Sl (SumAt w7 w.heap.size (feed (feed st0 (reps (64 * m) v)) (bytes a))) := ⟨sumAt_below HS6.out HB7.out⟩
      have HT7 : Sl (SumAt w7 w0.heap.size (feed st0 (reps (64 * m) v))) := ⟨sumAt_below HT6.out HB7.out⟩
      have hN7 : w0.heap.size < w6.heap.size := sumAt_lt HT6.out
      clear HS6 HT6 HB6
      go_wp2_with fail
      refine (add_ex w _ w0.heap.size _ (bytes a) _ (by omega) HB07.out HG.out HT7.out (reps_ok _ v hv) (HV7.out _ (by omega)) (bytes_small a) (by rw [reps_L, bytes_length]; omega)).mono ?_
      rintro e w8 ⟨rfl, HT8, HB8, HX8⟩
      have HS8 : Sl (SumAt w8 w.heap.size (feed (feed st0 (reps (64 * m) v)) (bytes a))) := ⟨sumAt_grown HS7.out HX8.out (by omega)⟩
      have OK8 : Sl (OkSt (feed (feed st0 (reps (64 * m) v)) (bytes a))) := ⟨(reps_ok _ v hv).feed (bytes_small a).mem⟩
      have HL8 : Sl ((feed (feed st0 (reps (64 * m) v)) (bytes a)).L = 64 * k + a.size) := ⟨by rw [feed_L, reps_L, bytes_length, hmk.out]⟩
      clear HB07 HS7 HT7 HX8 HV7 HB7
      generalize feed (feed st0 (reps (64 * m) v)) (bytes a) = s1 at *
      obtain ⟨bt, hbt⟩ : ∃ bt, bt = told s1 := ⟨_, rfl⟩
      have HBT := Sl.mk hbt
      have HBL : Sl (bt.length = 20) := ⟨by rw [hbt]; exact told_length _⟩
      have HSM : Sl (Small 256 bt) := ⟨by rw [hbt]; exact told_small _⟩
      clear hbt
      have q1 := eql_u8s bt HBL.out HSM.out
      have q2 := eqlIn_u8s bt HBL.out HSM.out
      clear hc5 hc7
      go_wp2_with fail
      refine (toldW _ (HG.out.below HB8.out HG.out.size) w.heap.size s1 bt HS8.out OK8.out (by rw [HL8.out]; omega) HBT).mono ?_
      rintro e w9 ⟨rfl, hb9⟩
      have HB9 : Sl (Below w.heap.size w w9) := ⟨HB8.out.trans (hb9.mono HB8.out.size)⟩
      have HS9 : Sl (SumAt w9 w.heap.size s1) := ⟨sumAt_below HS8.out hb9⟩
      have HT9 : Sl (SumAt w9 w0.heap.size s1) := ⟨sumAt_below HT8.out hb9⟩
      clear hb9
      go_wp2_with fail
      refine (toldW _ (HG.out.below HB9.out HG.out.size) w0.heap.size s1 bt HT9.out OK8.out (by rw [HL8.out]; omega) HBT).mono ?_
      rintro e w10 ⟨rfl, hb10⟩
      have HB10 : Sl (Below w.heap.size w w10) := ⟨HB9.out.trans (hb10.mono HB9.out.size)⟩
      have HS10 : Sl (SumAt w10 w.heap.size s1) := ⟨sumAt_below HS9.out hb10⟩
      have HT10 : Sl (SumAt w10 w0.heap.size s1) := ⟨sumAt_below HT9.out hb10⟩
      clear hb10
      go_wp2_with fail
      refine (len_any w.heap.size s1 _ HS10.out OK8.out).mono ?_
      rintro e w11 ⟨rfl, rfl⟩
      have hl1 : ((s1.L : Int) == 64 * (k : Int) + (a.size : Int)) = true := by rw [HL8.out]; simp
      go_wp2_with fail
      refine (len_any w0.heap.size s1 _ HT10.out OK8.out).mono ?_
      rintro e w12 ⟨rfl, rfl⟩
      go_wp2_with fail
      refine (len_any w.heap.size s1 _ HS10.out OK8.out).mono ?_
      rintro e w13 ⟨rfl, rfl⟩
      go_wp2
      go_ret
      exact ⟨rfl, HB10.out⟩

theorem blocks_walk (n v : Nat) (a : ByteArray) (w : World) (hg : Globs w) (ha : a.size ≤ maxLen) (hn : n < 256) (hv : v < 256) :
    Calls Tryd.prog 8 #[.int .u8 n, .int .u8 v, .string a] w fun e w' => e = .returned (.bool true) ∧ Below w.heap.size w w' := by
  by_cases h : 64 < a.size
  · exact blocks_long n v a w hg h ha
  · exact blocks_short n v a w hg (by omega) hn hv
end Go.Proofs.YtmiemklgekhfeaaDoor
