/- stream: StreamFeeds' walk. -/
import Derived.Test.YtlgmgalopdfcaaaDoorL1
import Derived.Test.YtlgmgalopdfcaaaDoorSN
set_option maxRecDepth 100000
namespace Go.Proofs.YtlgmgalopdfcaaaDoor
open Go.RowKit MaskPlain FramePlain StreamPlain Mas Fra

set_option maxHeartbeats 2000000 in
theorem feeds_walk (masked : Bool) (most : Int) (v : Value) (l : List ByteArray) (w : World) (hg : Globs w) (_hmo : -9223372036854775808 ≤ most ∧ most ≤ 9223372036854775807) (hv : StrsAt w v l) : Calls Tryd.prog 3 #[.bool masked, .int .i64 most, v] w fun e w' => e = .returned (.bool true) ∧ Below w.heap.size w w' := by
  have HG := Sl.mk hg
  have HV := Sl.mk hv
  have hq1 : ((0 : Int) != 0) = false := rfl
  by_cases hin : 125 ≤ most ∧ most ≤ 65536
  · have hm1 : (most < 125) = False := eq_false (by omega)
    have hm2 : (most > 65536) = False := eq_false (by omega)
    obtain ⟨fw, hfw⟩ : ∃ b, few l = b := ⟨_, rfl⟩
    obtain ⟨a, cap, sb, so, rfl, hm, ha, hce, _⟩ := hv
    have HA := Sl.mk ha
    have HCE := Sl.mk hce
    clear hg ha hce
    cases fw with
    | false =>
      go_enter Tryd.func3, Tryd.ntmps3
      go_wp2_with fail
      refine (new_yes masked most w w (Below.refl _ _) hin).mono ?_
      rintro e w1 ⟨rfl, HS1, _⟩
      go_wp2_with fail
      refine (awake_any w1 (HG.out.below HS1.out.L HG.out.size)).mono ?_
      rintro e w2 ⟨rfl, HX2⟩
      have HS2 := Sl.mk (HS1.out.below HX2.out)
      have HF := few_any l _ w2 (HV.out.below HS2.out.L)
      rw [hfw] at HF
      clear HS1 HX2 hfw
      go_wp2_with fail
      refine HF.mono ?_
      rintro e w3 ⟨rfl, rfl⟩
      clear HF
      go_wp2_with fail
      refine (awake_any w2 (HG.out.below HS2.out.L HG.out.size)).mono ?_
      rintro e w4 ⟨rfl, HX4⟩
      go_wp2
      go_ret
      exact ⟨rfl, (HS2.out.below HX4.out).L⟩
    | true =>
      have HFA := Sl.mk (few_all hfw)
      have hn40 : l.length ≤ 40 := HFA.out.2
      go_enter Tryd.func3, Tryd.ntmps3
      go_wp2_with fail
      refine (new_yes masked most w w (Below.refl _ _) hin).mono ?_
      rintro e w1 ⟨rfl, HS1, _⟩
      go_wp2_with fail
      refine (awake_any w1 (HG.out.below HS1.out.L HG.out.size)).mono ?_
      rintro e w2 ⟨rfl, HX2⟩
      have HS2 := Sl.mk (HS1.out.below HX2.out)
      have HF := few_any l _ w2 (HV.out.below HS2.out.L)
      rw [hfw] at HF
      clear HS1 HX2 hfw
      go_wp2_with fail
      refine HF.mono ?_
      rintro e w3 ⟨rfl, rfl⟩
      clear HF
      have B4 : Below w2.heap.size w2 (w2.alloc (.cells #[] 43)) := (Below.refl _ _).alloc (Nat.le_refl _) _
      have HS4 := Sl.mk (HS2.out.below B4)
      have HO4 : Sl (OwnR (w2.alloc (.cells #[] 43)) w.heap.size (.slice (some ⟨w2.heap.size, 0, none⟩) 0 0) []) := ⟨World.ownsRow_lit w2 #[] 0 HS2.out.L.size (by decide) rfl⟩
      clear B4 HS2
      go_wp2
      go_loopw [9, 10, 11, 12] (fun y u0 x i wr => ∃ (k : Nat) (S0 : ByteArray) (u : Value) (fs : List Fr) (e : Nat) (part : List Nat) (v1 : Value), y = .string S0 ∧ u = u0 ∧ x = .int .i64 (e : Int) ∧ i = .int .i64 (k : Int) ∧ k ≤ l.length ∧ S0.size ≤ 300 * k ∧ Sl (FedS (bytes S0) masked most fs e part) ∧ Sl (StrmAt w wr w.heap.size masked most part e v1) ∧ Sl (OwnR wr w.heap.size u fs)) (fun _ _ _ i _ => l.length - (intOf i).toNat)
      case atStart => exact ⟨0, { data := #[] }, _, [], 0, [], _, rfl, rfl, rfl, rfl, Nat.zero_le _, Nat.zero_le _, ⟨fed_nil masked most⟩, HS4, HO4⟩
      case round =>
        obtain ⟨k, S0, u, fs, e, part, v1, rfl, rfl, rfl, rfl, hk, hsz, HFD, HST, HO⟩ := hrel
        by_cases hkn : k < l.length
        · have hlt : ((k : Int) < (l.length : Int)) = True := eq_true (by omega)
          obtain rfl := HA.out (by omega)
          obtain ⟨s, hs⟩ : ∃ s, l.getD k ByteArray.empty = s := ⟨_, rfl⟩
          have hc := HCE.out k hkn
          rw [hs] at hc
          have hcl : wr.cell? ⟨sb, so + k, none⟩ = some (.string s) := (HST.out.L.cell (block_lt_of_cell hc)).trans hc
          have hs300 : s.size ≤ 300 := by rw [← hs]; exact HFA.out.1 k
          obtain ⟨c6, w6, hconv, HS6, HX6⟩ := conv_str s wr
          have HST6 := Sl.mk (HST.out.below HX6.out)
          have HO6 := Sl.mk (HO.out.below HX6.out)
          clear hc hs
          by_cases he : e = 0
          · subst he
            have hq8 : (((0 : Nat) : Int) == 0) = true := rfl
            have hq8' : (((0 : Nat) : Int) != 0) = false := rfl
            have hcat : S0.size + s.size ≤ 1000000 := by omega
            obtain ⟨gs, e', part', HF', _, FF⟩ := feed_fed HFD.out (bytes_small S0) (bytes_small s) (by rw [bytes_length, bytes_length]; omega) (by omega : most ≤ 9223372036854775807)
            obtain ⟨S1, hS1⟩ : ∃ S, S0 ++ s = S := ⟨_, rfl⟩
            have HFD' : Sl (FedS (bytes S1) masked most (fs ++ gs) e' part') := ⟨by rw [← hS1, bytes_append]; exact HF'⟩
            have HS1Z : Sl (S1.size ≤ 300 * (k + 1) ∧ S1.size ≤ 12000) := ⟨by rw [← hS1, ByteArray.size_append]; omega⟩
            have hfp := fed_part HFD'.out (bytes_small S1)
            have hfr := all_frs masked most _ (bytes S1) (Nat.le_refl _) (bytes_small S1)
            rw [hfp.2.2.2] at hfr
            simp only [bytes_length] at hfr
            have HKS : Sl (∀ f ∈ (fs ++ gs), Small 256 f.key) := ⟨fun f hf => (hfr.1 f hf).2.2.1⟩
            have HFL : Sl ((fs ++ gs).length ≤ 1000000) := ⟨by have := hfr.2.2; have := HS1Z.out; omega⟩
            have CA := fun W => refall_any S1 masked most W (by have := HS1Z.out; omega) (by omega) (fs ++ gs) e' part'.length hfp.2.2.2
            obtain ⟨pn, hpn⟩ : ∃ n, part'.length = n := ⟨_, rfl⟩
            rw [hpn] at CA
            have HPN := Sl.mk hpn
            obtain ⟨NN, hNN⟩ : ∃ n, (fs ++ gs).length = n := ⟨_, rfl⟩
            have HNN := Sl.mk hNN
            clear hfp hfr hpn hNN
            have F9 := FF w w6 w.heap.size v1 (.slice (some ⟨wr.heap.size, 0, none⟩) s.size c6) HG.out HST6.out HS6.out
            obtain ⟨n9, hn9⟩ : ∃ n, gs.length = n := ⟨_, rfl⟩
            rw [hn9] at F9
            have HLEN : Sl (fs.length + gs.length ≤ 1000000) := ⟨by rw [← List.length_append]; exact HFL.out⟩
            clear FF hn9 HF' HS6 HX6 HST HFD HO hs300
            go_wp2_with fail
            refine F9.mono ?_
            rintro x w7 ⟨a7, c7, v7, rfl, HF7, _, HS7, HT7⟩
            clear F9 hconv hcl
            have HO7 : Sl (OwnR w7 w.heap.size u fs) := ⟨own_fed HO6.out HST6.out (by decide) (by decide) HT7.out⟩
            have hz7 : w.heap.size ≤ w7.heap.size := HS7.out.L.size
            clear HO6 HST6 HT7
            go_wp2_with (at_builtin; refine app_frs rfl (.tmp 80) (.tmp 81) rfl rfl w.heap.size u (.slice a7 n9 c7) fs gs rfl HO7.out rfl HF7.out HLEN.out hz7 ?_)
            intro u' w8 HO8 HG8
            have HS8 := Sl.mk (strm_told HS7.out HO7.out (by decide) (by decide) (Nat.le_refl _) HG8.out)
            clear HS7 HO7 HF7 HG8 hz7
            go_wp2_with fail
            refine (CA w8).mono ?_
            rintro x w9 ⟨vf, rfl, HO9, HX9⟩
            have HS9 := Sl.mk (HS8.out.below HX9.out)
            have HT9 := Sl.mk (HO8.out.below HX9.out)
            obtain ⟨a9, c9, hv9⟩ := HO9.out.slice
            obtain ⟨a8, c8', hv8⟩ := HT9.out.slice
            rw [HNN.out] at hv9 hv8
            subst hv9 hv8
            clear CA HS8 HX9
            have E9 := err_any HS9.out
            go_wp2_with fail
            refine E9.mono ?_
            rintro x w10 ⟨rfl, rfl⟩
            clear E9
            have P9 := part_ex HS9.out pn HPN.out
            go_wp2_with fail
            refine P9.mono ?_
            rintro x w10 ⟨rfl, rfl⟩
            clear P9
            have S10 := same_yes _ _ _ w9 HT9.out.frs HO9.out.frs HKS.out HFL.out
            go_wp2_with fail
            refine S10.mono ?_
            rintro x w11 ⟨rfl, HX11⟩
            have HS11 := Sl.mk (HS9.out.below HX11.out)
            have HT11 := Sl.mk (HT9.out.below HX11.out)
            clear S10 HS9 HT9 HO9 HO8 HX11
            go_wp2
            exact ⟨⟨k + 1, S1, _, fs ++ gs, e', part', v7, rfl, rfl, rfl, by go_num, by omega, HS1Z.out.1, HFD', HS11, HT11⟩, by simp [intOf]; omega⟩
          · have hq8 : ((e : Int) == 0) = false := by simp; omega
            have hq8' : ((e : Int) != 0) = true := by simp; omega
            have HFD' := HFD
            obtain ⟨S1, hS1⟩ : ∃ S, S0 = S := ⟨_, rfl⟩
            subst hS1
            have HS1Z : Sl (S0.size ≤ 300 * (k + 1) ∧ S0.size ≤ 12000) := ⟨by omega⟩
            have hfp := fed_part HFD'.out (bytes_small S0)
            have hfr := all_frs masked most _ (bytes S0) (Nat.le_refl _) (bytes_small S0)
            rw [hfp.2.2.2] at hfr
            simp only [bytes_length] at hfr
            have HKS : Sl (∀ f ∈ fs, Small 256 f.key) := ⟨fun f hf => (hfr.1 f hf).2.2.1⟩
            have HFL : Sl (fs.length ≤ 1000000) := ⟨by have := hfr.2.2; have := HS1Z.out; omega⟩
            have CA := fun W => refall_any S0 masked most W (by have := HS1Z.out; omega) (by omega) fs e part.length hfp.2.2.2
            obtain ⟨pn, hpn⟩ : ∃ n, part.length = n := ⟨_, rfl⟩
            rw [hpn] at CA
            have HPN := Sl.mk hpn
            obtain ⟨NN, hNN⟩ : ∃ n, fs.length = n := ⟨_, rfl⟩
            have HNN := Sl.mk hNN
            clear hfp hfr hpn hNN
            have F9 := feed_err HST6.out he (.slice (some ⟨wr.heap.size, 0, none⟩) s.size c6)
            have HLEN : Sl (fs.length + ([] : List Fr).length ≤ 1000000) := ⟨by simpa using HFL.out⟩
            clear HS6 HX6 HST HO HFD hs300
            go_wp2_with fail
            refine F9.mono ?_
            rintro x w7 ⟨rfl, HS7, HX7⟩
            clear F9 hconv hcl
            have HO7 : Sl (OwnR w7 w.heap.size u fs) := ⟨HO6.out.below HX7.out⟩
            have HF7 : Sl (FrsAt w7 (.slice none 0 0) []) := ⟨⟨none, 0, 0, 0, rfl, Nat.le_refl _, fun h => absurd h (by decide), fun i hi => absurd hi (by simp)⟩⟩
            have hz7 : w.heap.size ≤ w7.heap.size := HS7.out.L.size
            clear HO6 HST6 HX7
            go_wp2_with (at_builtin; refine app_frs rfl (.tmp 80) (.tmp 81) rfl rfl w.heap.size u (.slice none 0 0) fs [] rfl HO7.out rfl HF7.out HLEN.out hz7 ?_)
            intro u' w8 HO8 HG8
            have HS8 := Sl.mk (strm_told HS7.out HO7.out (by decide) (by decide) (Nat.le_refl _) HG8.out)
            clear HS7 HO7 HF7 HG8 hz7
            go_wp2_with fail
            refine (CA w8).mono ?_
            rintro x w9 ⟨vf, rfl, HO9, HX9⟩
            have HS9 := Sl.mk (HS8.out.below HX9.out)
            have HT9 := Sl.mk (HO8.out.below HX9.out)
            obtain ⟨a9, c9, hv9⟩ := HO9.out.slice
            obtain ⟨a8, c8', hv8⟩ := HT9.out.slice
            rw [HNN.out] at hv9 hv8
            subst hv9 hv8
            clear CA HS8 HX9
            have E9 := err_any HS9.out
            go_wp2_with fail
            refine E9.mono ?_
            rintro x w10 ⟨rfl, rfl⟩
            clear E9
            have P9 := part_ex HS9.out pn HPN.out
            go_wp2_with fail
            refine P9.mono ?_
            rintro x w10 ⟨rfl, rfl⟩
            clear P9
            have S10 := same_yes _ _ _ w9 HT9.out.frs HO9.out.frs HKS.out HFL.out
            go_wp2_with fail
            refine S10.mono ?_
            rintro x w11 ⟨rfl, HX11⟩
            have HS11 := Sl.mk (HS9.out.below HX11.out)
            have HT11 := Sl.mk (HT9.out.below HX11.out)
            clear S10 HS9 HT9 HO9 HO8 HX11
            go_wp2
            exact ⟨⟨k + 1, S0, _, fs, e, part, v1, rfl, rfl, rfl, by go_num, by omega, HS1Z.out.1, HFD', HS11, HT11⟩, by simp [intOf]; omega⟩
        · obtain rfl : k = l.length := by omega
          have hlt : ((l.length : Int) < (l.length : Int)) = False := eq_false (by omega)
          go_wp2
          go_ret
          exact ⟨rfl, HST.out.L⟩
  · by_cases hm1 : most < 125
    · have hm1' : (most < 125) = True := eq_true hm1
      clear hg hv hm1
      go_enter Tryd.func3, Tryd.ntmps3
      go_wp2_with fail
      refine (new_no masked most w hin).mono ?_
      rintro e w1 ⟨rfl, rfl⟩
      go_wp2_with fail
      refine (awake_any w HG.out).mono ?_
      rintro e w2 ⟨rfl, HX2⟩
      go_wp2
      go_ret
      exact ⟨rfl, HX2.out⟩
    · have hm1' : (most < 125) = False := eq_false hm1
      have hm2 : (most > 65536) = True := eq_true (by omega)
      clear hg hv hm1
      go_enter Tryd.func3, Tryd.ntmps3
      go_wp2_with fail
      refine (new_no masked most w hin).mono ?_
      rintro e w1 ⟨rfl, rfl⟩
      go_wp2_with fail
      refine (awake_any w HG.out).mono ?_
      rintro e w2 ⟨rfl, HX2⟩
      go_wp2
      go_ret
      exact ⟨rfl, HX2.out⟩
end Go.Proofs.YtlgmgalopdfcaaaDoor
