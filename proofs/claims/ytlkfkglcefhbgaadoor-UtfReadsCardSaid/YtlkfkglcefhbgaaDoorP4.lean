/- begins, where the first byte says 4 bytes. -/
import Derived.Test.YtlkfkglcefhbgaaDoorP
namespace Go.Proofs.YtlkfkglcefhbgaaDoor
open Go.RowKit

set_option maxHeartbeats 2000000 in
set_option maxRecDepth 100000 in
theorem begins_4 (s : ByteArray) (w : World) (hs : 0 < s.size) (hlg : long ((bytes s).headD 0) = 4) (h : s.size < 4) :
    Calls Tryd.prog 21 #[.string s] w fun e w' => e = .returned (.bool (beg (bytes s))) ∧ Below w.heap.size w w' := by
  obtain ⟨b, hb⟩ : ∃ b, (s[0]'hs).toNat = b := ⟨_, rfl⟩
  have hh := headD_bytes s hs
  rw [hb] at hh
  have HLG : Sl (∀ W, Calls Tryd.prog 24 #[.int .u8 b] W fun e w' => e = .returned (.int .i64 4) ∧ W = w') := ⟨fun W => by
    have e := hlg; rw [hh] at e; have := long_any b W; rw [e] at this; exact this⟩
  have LB : Sl ((bytes s).length = s.size) := ⟨bytes_length s⟩
  obtain ⟨r, hr⟩ : ∃ r, b % 8 = r := ⟨_, rfl⟩
  have HBE : Sl (beg (bytes s) = if (bytes s).tail.all (fun c => decide (128 ≤ c ∧ c ≤ 191)) then fits 4 (lm r (bytes s) 4) else false) := ⟨by
    unfold beg
    simp only [hlg, bytes_length]
    rw [if_neg (by omega), hh, show modOf 4 = 8 from rfl, hr]⟩
  have hb256 : b < 256 := by rw [← hb]; exact UInt8.toNat_lt _
  have hr2 : r < 256 := by omega
  have hr' : (b : Int) % 8 = (r : Int) := by omega
  have ht2 : Int.tmod (b : Int) 8 = (r : Int) := by rw [← hr', Int.tmod_eq_emod_of_nonneg (by omega)]
  have hns : (s.size : Int) < 4 := by omega
  clear hh hlg hr
  go_enter Tryd.func21, Tryd.ntmps21
  go_wp2_with fail
  refine (HLG.out _).mono ?_
  rintro e w' ⟨rfl, rfl⟩
  go_upto_region 4 with fail
  go_cut [4, 5] (fun s4 s5 wx => s4 = .int .i64 r ∧ s5 = .int .i64 r ∧ Below w.heap.size w wx)
  case first =>
    have hb0 : Below w.heap.size w w.drew := (Below.refl _ _).drew
    have z1 : IntKind.i64.wrap (b : Int) = (b : Int) := IntWalk.i64_in _ (by omega)
    have z2 : IntKind.i64.wrap (r : Int) = (r : Int) := IntWalk.i64_in _ (by omega)
    have z3 : IntKind.i64.wrap 8 = 8 := IntWalk.i64_in _ (by omega)
    have z4 : Int.tdiv 256 32 = 8 := rfl
    go_region_held3 (fun W => Below w.heap.size w W) (first | exact hb0 | assumption) (first | (go_at_call 25; refine (pow_ex w _ 4 32 rfl (by decide) (by assumption)).mono ?_; rintro e w4 ⟨rfl, HB4⟩; have hb4 := HB4.out))
    all_goals (clear z1 z2 z3 z4; go_wp2_with fail; go_meet; exact ⟨rfl, rfl, by assumption⟩)
  case rest =>
  obtain ⟨rfl, rfl, hb1⟩ := hcut
  have HB1 := Sl.mk hb1
  clear hb1 ht2
  go_wp2
  go_loopw [4, 5, 6] (fun x y i wr => BG w r 4 (bytes s) x y i wr) (fun _ _ i _ => 4 - (intOf i).toNat)
  case atStart => exact ⟨1, r, r, Nat.le_refl _, by omega, rfl, rfl, rfl, ⟨rfl⟩, ⟨by simpa using hr2⟩, ⟨by simpa using hr2⟩, ⟨fun j h1 h2 => by omega⟩, HB1.out⟩
  case round =>
    obtain ⟨k, p, q, hk1, hk, rfl, rfl, rfl, HPQ, HPB, HQB, HAL, hrel⟩ := hrel
    have HR := Sl.mk hrel
    clear hrel
    by_cases hlt : k < 4
    · have hp3 := bound3 hk1 (by omega) HPB.out
      have hq3 := bound3 hk1 (by omega) HQB.out
      have HLM := Sl.mk (lm_more r (bytes s) k hk1)
      by_cases hks : k < s.size
      · obtain ⟨c, hc⟩ : ∃ c, (s[k]'hks).toNat = c := ⟨_, rfl⟩
        have hc256 : c < 256 := by rw [← hc]; exact UInt8.toNat_lt _
        have HGC : Sl ((bytes s).getD k 0 = c) := ⟨by rw [bytes_getD s k hks, ← hc]; rfl⟩
        have hksI : (k : Int) < (s.size : Int) := by omega
        by_cases hlo : c < 128
        · have HF : Sl (beg (bytes s) = false) := ⟨by rw [HBE.out, tail_bad (bytes s) k hk1 (by rw [LB.out]; exact hks) (by rw [HGC.out]; omega)]; rfl⟩
          have hlo' : (c : Int) < 128 := by omega
          go_wp2
          go_ret
          exact ⟨by rw [HF.out]; rfl, HR.out⟩
        · by_cases hhi : 191 < c
          · have HF : Sl (beg (bytes s) = false) := ⟨by rw [HBE.out, tail_bad (bytes s) k hk1 (by rw [LB.out]; exact hks) (by rw [HGC.out]; omega)]; rfl⟩
            have hhi' : (191 : Int) < (c : Int) := by omega
            go_wp2
            go_ret
            exact ⟨by rw [HF.out]; rfl, HR.out⟩
          · have hlo' : ¬ (c : Int) < 128 := by omega
            have hhi' : ¬ (191 : Int) < (c : Int) := by omega
            obtain ⟨d, hd⟩ : ∃ d, c - 128 = d := ⟨_, rfl⟩
            have hd' : (c : Int) - 128 = (d : Int) := by omega
            have hd64 : d < 64 := by omega
            have HN1 : Sl ((64 * p + d, 64 * q + d) = lm r (bytes s) (k + 1)) := ⟨by
              rw [HLM.out, if_pos (by rw [LB.out]; exact hks), if_pos (by rw [LB.out]; exact hks), ← HPQ.out, HGC.out, hd]⟩
            have HB2 : Sl (64 * p + d < 256 * 64 ^ (k + 1 - 1)) := ⟨bound_more hk1 hd64 HPB.out⟩
            have HB3 : Sl (64 * q + d < 256 * 64 ^ (k + 1 - 1)) := ⟨bound_more hk1 hd64 HQB.out⟩
            have HA2 : Sl (∀ j, 1 ≤ j → j < k + 1 → j < (bytes s).length → 128 ≤ (bytes s).getD j 0 ∧ (bytes s).getD j 0 ≤ 191) := ⟨fun j h1 h2 h3 => by
              by_cases e : j = k
              · subst e; rw [HGC.out]; omega
              · exact HAL.out j h1 (by omega) h3⟩
            clear hd
            go_wp2
            have y1 : IntKind.i64.wrap (c : Int) = (c : Int) := IntWalk.i64_in _ (by omega)
            have y2 : IntKind.i64.wrap (d : Int) = (d : Int) := IntWalk.i64_in _ (by omega)
            go_region
            all_goals
              clear y1 y2
              go_wp2
              go_roundw
              case rel => exact ⟨k + 1, 64 * p + d, 64 * q + d, by omega, by omega, by go_num, by go_num, by go_num, HN1, HB2, HB3, HA2, HR.out.drew⟩
              case measure => simp [intOf]; omega
      · have hksI : ¬ (k : Int) < (s.size : Int) := by omega
        have HN1 : Sl ((64 * p, 64 * q + 63) = lm r (bytes s) (k + 1)) := ⟨by
          rw [HLM.out, if_neg (by rw [LB.out]; exact hks), if_neg (by rw [LB.out]; exact hks), ← HPQ.out]; rfl⟩
        go_wp2
        go_roundw
        case rel => exact ⟨k + 1, 64 * p, 64 * q + 63, by omega, by omega, by go_num, by go_num, by go_num, HN1, ⟨by have := bound_more (d := 0) hk1 (by decide) HPB.out; simpa using this⟩, ⟨bound_more hk1 (by decide) HQB.out⟩, ⟨fun j h1 h2 h3 => HAL.out j h1 (by rw [LB.out] at h3; omega) h3⟩, HR.out⟩
        case measure => simp [intOf]; omega
    · have hge : ¬ (k : Int) < 4 := by omega
      have hkn : k = 4 := by omega
      subst hkn
      have hp4 := bound4 hk1 (by decide) HPB.out
      have hq4 := bound4 hk1 (by decide) HQB.out
      have HF : Sl (beg (bytes s) = fits 4 (p, q)) := ⟨by rw [HBE.out, tail_all (bytes s) (fun j h1 h2 => HAL.out j h1 (by rw [LB.out] at h2; omega) h2), if_pos rfl, ← HPQ.out]⟩
      go_upto_region 14 with fail
      go_cut [9, 10] (fun s9 s10 wx => ∃ F T : Nat, s9 = .int .i64 F ∧ s10 = .int .i64 T ∧ Sl (F = 65536 ∧ T = 1114111) ∧ Below w.heap.size w wx)
      case first =>
        go_region
        all_goals (go_wp2_with fail; go_meet; exact ⟨65536, 1114111, rfl, rfl, ⟨rfl, rfl⟩, by first | exact below_2a HR.out _ _ | exact below_2b HR.out _ _⟩)
      case rest =>
      obtain ⟨F, T, rfl, rfl, HFT, hb5⟩ := hcut
      have HB5 := Sl.mk hb5
      clear hb5
      clear HPQ HPB HQB HAL HBE
      have hF7 : F ≤ 100000 := by have := HFT.out; omega
      have hT7 : T ≤ 2000000 := by have := HFT.out; omega
      go_wp2
      all_goals
        go_ret
        refine ⟨?_, HB5.out⟩
        rw [HF.out]
        refine ret_bool ?_
        symm
        rw [Bool.eq_iff_iff, fits_iff]
        simp only [fromOf, toOf]
        obtain ⟨hF, hT⟩ := HFT.out
        first
          | (simp; omega)
          | (simp only [Bool.true_eq, Bool.false_eq, iff_true, iff_false, Bool.false_eq_true, decide_eq_true_eq]; omega)
          | (simp)
end Go.Proofs.YtlkfkglcefhbgaaDoor
