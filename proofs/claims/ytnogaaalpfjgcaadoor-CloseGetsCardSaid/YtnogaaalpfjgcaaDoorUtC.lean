/- The contract of the document's begins: are bytes the beginning of a letter's, that has more; nothing that was in memory changes. Condition: the text isn't empty. -/
import Derived.Test.YtnogaaalpfjgcaaDoorUtB
import Derived.Deep.DeepCutAuto
namespace Go.Proofs.YtnogaaalpfjgcaaDoor.Utf
open Go.RowKit UtfPlain

theorem begins_no (s : ByteArray) (w : World) (hs : 0 < s.size) (_hL : s.size ≤ 100000) (h : long ((bytes s).headD 0) ≤ s.size) :
    Calls Tryd.prog 35 #[.string s] w fun e w' => e = .returned (.bool false) ∧ Below w.heap.size w w' := by
  obtain ⟨b, hb⟩ : ∃ b, (s[0]'hs).toNat = b := ⟨_, rfl⟩
  have hh := headD_bytes s hs
  rw [hb] at hh
  rw [hh] at h
  obtain ⟨n, hn⟩ : ∃ n, long b = n := ⟨_, rfl⟩
  rw [hn] at h
  have HLG : Sl (∀ W, Calls Tryd.prog 37 #[.int .u8 b] W fun e w' => e = .returned (.int .i64 n) ∧ W = w') := ⟨fun W => by rw [← hn]; exact long_any b W⟩
  have hle : (n : Int) ≤ (s.size : Int) := by omega
  clear hn hh
  go_enter Tryd.func35, Tryd.ntmps35
  go_wp2_with fail
  refine (HLG.out _).mono ?_
  rintro e w' ⟨rfl, rfl⟩
  go_wp2
  go_ret
  exact ⟨rfl, Below.refl _ _⟩

theorem lm_more (v : Nat) (s : List Nat) (k : Nat) (h : 1 ≤ k) : lm v s (k + 1) = (64 * (lm v s k).1 + (if k < s.length then s.getD k 0 - 128 else 0), 64 * (lm v s k).2 + (if k < s.length then s.getD k 0 - 128 else 63)) := by
  obtain ⟨j, rfl⟩ : ∃ j, k = j + 1 := ⟨k - 1, by omega⟩
  rfl
theorem tail_all (l : List Nat) (h : ∀ j, 1 ≤ j → j < l.length → 128 ≤ l.getD j 0 ∧ l.getD j 0 ≤ 191) : l.tail.all (fun c => decide (128 ≤ c ∧ c ≤ 191)) = true := by
  rw [List.all_eq_true]
  intro x hx
  obtain ⟨i, hi, rfl⟩ := List.getElem_of_mem hx
  have hi' : i + 1 < l.length := by simp at hi; omega
  have := h (i + 1) (by omega) hi'
  simp only [List.getElem_tail, decide_eq_true_eq]
  simpa [List.getD, List.getElem?_eq_getElem hi'] using this
theorem tail_bad (l : List Nat) (j : Nat) (h1 : 1 ≤ j) (h2 : j < l.length) (h : ¬ (128 ≤ l.getD j 0 ∧ l.getD j 0 ≤ 191)) : l.tail.all (fun c => decide (128 ≤ c ∧ c ≤ 191)) = false := by
  rw [List.all_eq_false]
  refine ⟨l.getD j 0, ?_, by simpa using h⟩
  rw [List.getD, List.getElem?_eq_getElem h2]
  have : l[j] = l.tail[j - 1]'(by simp; omega) := by
    rw [List.getElem_tail]; congr 1; omega
  simp only [Option.getD_some]
  rw [this]
  exact List.getElem_mem _
theorem below_2a {w W : World} (h : Below w.heap.size w W) (A B : Obj) : Below w.heap.size w ((W.alloc A).alloc B).drew :=
  ((h.alloc h.size A).alloc (by have := h.size; rw [alloc_size]; omega) B).drew
theorem below_2b {w W : World} (h : Below w.heap.size w W) (A B : Obj) : Below w.heap.size w ((W.drew.alloc A).alloc B) :=
  ((h.drew.alloc h.drew.size A).alloc (by have := h.drew.size; rw [alloc_size]; omega) B)
/-- What the loop of begins holds to. -/
def BG (w : World) (r n : Nat) (l : List Nat) (x y i : Value) (wr : World) : Prop :=
  ∃ k p q : Nat, 1 ≤ k ∧ k ≤ n ∧ i = .int .i64 k ∧ x = .int .i64 p ∧ y = .int .i64 q ∧ Sl ((p, q) = lm r l k) ∧ Sl (p < 256 * 64 ^ (k - 1)) ∧ Sl (q < 256 * 64 ^ (k - 1)) ∧ Sl (∀ j, 1 ≤ j → j < k → j < l.length → 128 ≤ l.getD j 0 ∧ l.getD j 0 ≤ 191) ∧ Below w.heap.size w wr

end Go.Proofs.YtnogaaalpfjgcaaDoor.Utf
/- begins, where the first byte says 2 bytes. -/
namespace Go.Proofs.YtnogaaalpfjgcaaDoor.Utf
open Go.RowKit UtfPlain

set_option maxHeartbeats 2000000 in
set_option maxRecDepth 100000 in
theorem begins_2 (s : ByteArray) (w : World) (hs : 0 < s.size) (hlg : long ((bytes s).headD 0) = 2) (h : s.size < 2) :
    Calls Tryd.prog 35 #[.string s] w fun e w' => e = .returned (.bool (beg (bytes s))) ∧ Below w.heap.size w w' := by
  obtain ⟨b, hb⟩ : ∃ b, (s[0]'hs).toNat = b := ⟨_, rfl⟩
  have hh := headD_bytes s hs
  rw [hb] at hh
  have HLG : Sl (∀ W, Calls Tryd.prog 37 #[.int .u8 b] W fun e w' => e = .returned (.int .i64 2) ∧ W = w') := ⟨fun W => by
    have e := hlg; rw [hh] at e; have := long_any b W; rw [e] at this; exact this⟩
  have LB : Sl ((bytes s).length = s.size) := ⟨bytes_length s⟩
  obtain ⟨r, hr⟩ : ∃ r, b % 32 = r := ⟨_, rfl⟩
  have HBE : Sl (beg (bytes s) = if (bytes s).tail.all (fun c => decide (128 ≤ c ∧ c ≤ 191)) then fits 2 (lm r (bytes s) 2) else false) := ⟨by
    unfold beg
    simp only [hlg, bytes_length]
    rw [if_neg (by omega), hh, show modOf 2 = 32 from rfl, hr]⟩
  have hb256 : b < 256 := by rw [← hb]; exact UInt8.toNat_lt _
  have hr2 : r < 256 := by omega
  have hr' : (b : Int) % 32 = (r : Int) := by omega
  have ht2 : Int.tmod (b : Int) 32 = (r : Int) := by rw [← hr', Int.tmod_eq_emod_of_nonneg (by omega)]
  have hns : (s.size : Int) < 2 := by omega
  clear hh hlg hr
  go_enter Tryd.func35, Tryd.ntmps35
  go_wp2_with fail
  refine (HLG.out _).mono ?_
  rintro e w' ⟨rfl, rfl⟩
  go_upto_region 4 with fail
  go_cut [4, 5] (fun s4 s5 wx => s4 = .int .i64 r ∧ s5 = .int .i64 r ∧ Below w.heap.size w wx)
  case first =>
    have hb0 : Below w.heap.size w w.drew := (Below.refl _ _).drew
    have z1 : IntKind.i64.wrap (b : Int) = (b : Int) := IntWalk.i64_in _ (by omega)
    have z2 : IntKind.i64.wrap (r : Int) = (r : Int) := IntWalk.i64_in _ (by omega)
    have z3 : IntKind.i64.wrap 32 = 32 := IntWalk.i64_in _ (by omega)
    have z4 : Int.tdiv 256 8 = 32 := rfl
    go_region_held3 (fun W => Below w.heap.size w W) (first | exact hb0 | assumption) (first | (go_at_call 38; refine (pow_ex w _ 2 8 rfl (by decide) (by assumption)).mono ?_; rintro e w4 ⟨rfl, HB4⟩; have hb4 := HB4.out))
    all_goals (clear z1 z2 z3 z4; go_wp2_with fail; go_meet; exact ⟨rfl, rfl, by assumption⟩)
  case rest =>
  obtain ⟨rfl, rfl, hb1⟩ := hcut
  have HB1 := Sl.mk hb1
  clear hb1 ht2
  go_wp2
  go_loopw [4, 5, 6] (fun x y i wr => BG w r 2 (bytes s) x y i wr) (fun _ _ i _ => 2 - (intOf i).toNat)
  case atStart => exact ⟨1, r, r, Nat.le_refl _, by omega, rfl, rfl, rfl, ⟨rfl⟩, ⟨by simpa using hr2⟩, ⟨by simpa using hr2⟩, ⟨fun j h1 h2 => by omega⟩, HB1.out⟩
  case round =>
    obtain ⟨k, p, q, hk1, hk, rfl, rfl, rfl, HPQ, HPB, HQB, HAL, hrel⟩ := hrel
    have HR := Sl.mk hrel
    clear hrel
    by_cases hlt : k < 2
    · have hp3 := bound3 hk1 (by omega) HPB.out
      have hq3 := bound3 hk1 (by omega) HQB.out
      have HLM := Sl.mk (lm_more r (bytes s) k hk1)
      by_cases hks : k < s.size
      · exfalso; omega
      · have hksI : ¬ (k : Int) < (s.size : Int) := by omega
        have HN1 : Sl ((64 * p, 64 * q + 63) = lm r (bytes s) (k + 1)) := ⟨by
          rw [HLM.out, if_neg (by rw [LB.out]; exact hks), if_neg (by rw [LB.out]; exact hks), ← HPQ.out]; rfl⟩
        go_wp2
        go_roundw
        case rel => exact ⟨k + 1, 64 * p, 64 * q + 63, by omega, by omega, by go_num, by go_num, by go_num, HN1, ⟨by have := bound_more (d := 0) hk1 (by decide) HPB.out; simpa using this⟩, ⟨bound_more hk1 (by decide) HQB.out⟩, ⟨fun j h1 h2 h3 => HAL.out j h1 (by rw [LB.out] at h3; omega) h3⟩, HR.out⟩
        case measure => simp [intOf]; omega
    · have hge : ¬ (k : Int) < 2 := by omega
      have hkn : k = 2 := by omega
      subst hkn
      have hp4 := bound4 hk1 (by decide) HPB.out
      have hq4 := bound4 hk1 (by decide) HQB.out
      have HF : Sl (beg (bytes s) = fits 2 (p, q)) := ⟨by rw [HBE.out, tail_all (bytes s) (fun j h1 h2 => HAL.out j h1 (by rw [LB.out] at h2; omega) h2), if_pos rfl, ← HPQ.out]⟩
      go_upto_region 14 with fail
      go_cut [9, 10] (fun s9 s10 wx => s9 = .int .i64 128 ∧ s10 = .int .i64 2047 ∧ Below w.heap.size w wx)
      case first =>
        go_region
        all_goals (go_wp2_with fail; go_meet; exact ⟨rfl, rfl, by first | exact below_2a HR.out _ _ | exact below_2b HR.out _ _⟩)
      case rest =>
      obtain ⟨rfl, rfl, hb5⟩ := hcut
      have HB5 := Sl.mk hb5
      clear hb5
      clear HPQ HPB HQB HAL HBE
      go_wp2
      all_goals
        go_ret
        refine ⟨?_, HB5.out⟩
        rw [HF.out]
        refine ret_bool ?_
        symm
        rw [Bool.eq_iff_iff, fits_iff]
        simp only [fromOf, toOf]
        first
          | (simp; omega)
          | (simp only [Bool.true_eq, Bool.false_eq, iff_true, iff_false, Bool.false_eq_true, decide_eq_true_eq]; omega)
          | (simp)
end Go.Proofs.YtnogaaalpfjgcaaDoor.Utf
/- begins, where the first byte says 3 bytes. -/
namespace Go.Proofs.YtnogaaalpfjgcaaDoor.Utf
open Go.RowKit UtfPlain

set_option maxHeartbeats 2000000 in
set_option maxRecDepth 100000 in
theorem begins_3 (s : ByteArray) (w : World) (hs : 0 < s.size) (hlg : long ((bytes s).headD 0) = 3) (h : s.size < 3) :
    Calls Tryd.prog 35 #[.string s] w fun e w' => e = .returned (.bool (beg (bytes s))) ∧ Below w.heap.size w w' := by
  obtain ⟨b, hb⟩ : ∃ b, (s[0]'hs).toNat = b := ⟨_, rfl⟩
  have hh := headD_bytes s hs
  rw [hb] at hh
  have HLG : Sl (∀ W, Calls Tryd.prog 37 #[.int .u8 b] W fun e w' => e = .returned (.int .i64 3) ∧ W = w') := ⟨fun W => by
    have e := hlg; rw [hh] at e; have := long_any b W; rw [e] at this; exact this⟩
  have LB : Sl ((bytes s).length = s.size) := ⟨bytes_length s⟩
  obtain ⟨r, hr⟩ : ∃ r, b % 16 = r := ⟨_, rfl⟩
  have HBE : Sl (beg (bytes s) = if (bytes s).tail.all (fun c => decide (128 ≤ c ∧ c ≤ 191)) then fits 3 (lm r (bytes s) 3) else false) := ⟨by
    unfold beg
    simp only [hlg, bytes_length]
    rw [if_neg (by omega), hh, show modOf 3 = 16 from rfl, hr]⟩
  have hb256 : b < 256 := by rw [← hb]; exact UInt8.toNat_lt _
  have hr2 : r < 256 := by omega
  have hr' : (b : Int) % 16 = (r : Int) := by omega
  have ht2 : Int.tmod (b : Int) 16 = (r : Int) := by rw [← hr', Int.tmod_eq_emod_of_nonneg (by omega)]
  have hns : (s.size : Int) < 3 := by omega
  clear hh hlg hr
  go_enter Tryd.func35, Tryd.ntmps35
  go_wp2_with fail
  refine (HLG.out _).mono ?_
  rintro e w' ⟨rfl, rfl⟩
  go_upto_region 4 with fail
  go_cut [4, 5] (fun s4 s5 wx => s4 = .int .i64 r ∧ s5 = .int .i64 r ∧ Below w.heap.size w wx)
  case first =>
    have hb0 : Below w.heap.size w w.drew := (Below.refl _ _).drew
    have z1 : IntKind.i64.wrap (b : Int) = (b : Int) := IntWalk.i64_in _ (by omega)
    have z2 : IntKind.i64.wrap (r : Int) = (r : Int) := IntWalk.i64_in _ (by omega)
    have z3 : IntKind.i64.wrap 16 = 16 := IntWalk.i64_in _ (by omega)
    have z4 : Int.tdiv 256 16 = 16 := rfl
    go_region_held3 (fun W => Below w.heap.size w W) (first | exact hb0 | assumption) (first | (go_at_call 38; refine (pow_ex w _ 3 16 rfl (by decide) (by assumption)).mono ?_; rintro e w4 ⟨rfl, HB4⟩; have hb4 := HB4.out))
    all_goals (clear z1 z2 z3 z4; go_wp2_with fail; go_meet; exact ⟨rfl, rfl, by assumption⟩)
  case rest =>
  obtain ⟨rfl, rfl, hb1⟩ := hcut
  have HB1 := Sl.mk hb1
  clear hb1 ht2
  go_wp2
  go_loopw [4, 5, 6] (fun x y i wr => BG w r 3 (bytes s) x y i wr) (fun _ _ i _ => 3 - (intOf i).toNat)
  case atStart => exact ⟨1, r, r, Nat.le_refl _, by omega, rfl, rfl, rfl, ⟨rfl⟩, ⟨by simpa using hr2⟩, ⟨by simpa using hr2⟩, ⟨fun j h1 h2 => by omega⟩, HB1.out⟩
  case round =>
    obtain ⟨k, p, q, hk1, hk, rfl, rfl, rfl, HPQ, HPB, HQB, HAL, hrel⟩ := hrel
    have HR := Sl.mk hrel
    clear hrel
    by_cases hlt : k < 3
    · have hp3 := bound3 hk1 (by omega) HPB.out
      have hq3 := bound3 hk1 (by omega) HQB.out
      have HLM := Sl.mk (lm_more r (bytes s) k hk1)
      by_cases hks : k < s.size
      · obtain ⟨c, hc⟩ : ∃ c, (s[k]'hks).toNat = c := ⟨_, rfl⟩
        have hc256 : c < 256 := by rw [← hc]; exact UInt8.toNat_lt _
        have HGC : Sl ((bytes s).getD k 0 = c) := ⟨by rw [bytes_getD s k hks, ← hc]; rfl⟩
        have hksI : (k : Int) < (s.size : Int) := by omega
        by_cases hlo : c < 128
        · have HF : Sl (beg (bytes s) = false) := ⟨by rw [HBE.out, tail_bad (bytes s) k hk1 (by rw [LB.out]; exact hks) (by rw [HGC.out]; omega)]; rfl⟩
          have hlo' : (c : Int) < 128 := by omega
          go_wp2
          go_ret
          exact ⟨by rw [HF.out]; rfl, HR.out⟩
        · by_cases hhi : 191 < c
          · have HF : Sl (beg (bytes s) = false) := ⟨by rw [HBE.out, tail_bad (bytes s) k hk1 (by rw [LB.out]; exact hks) (by rw [HGC.out]; omega)]; rfl⟩
            have hhi' : (191 : Int) < (c : Int) := by omega
            go_wp2
            go_ret
            exact ⟨by rw [HF.out]; rfl, HR.out⟩
          · have hlo' : ¬ (c : Int) < 128 := by omega
            have hhi' : ¬ (191 : Int) < (c : Int) := by omega
            obtain ⟨d, hd⟩ : ∃ d, c - 128 = d := ⟨_, rfl⟩
            have hd' : (c : Int) - 128 = (d : Int) := by omega
            have hd64 : d < 64 := by omega
            have HN1 : Sl ((64 * p + d, 64 * q + d) = lm r (bytes s) (k + 1)) := ⟨by
              rw [HLM.out, if_pos (by rw [LB.out]; exact hks), if_pos (by rw [LB.out]; exact hks), ← HPQ.out, HGC.out, hd]⟩
            have HB2 : Sl (64 * p + d < 256 * 64 ^ (k + 1 - 1)) := ⟨bound_more hk1 hd64 HPB.out⟩
            have HB3 : Sl (64 * q + d < 256 * 64 ^ (k + 1 - 1)) := ⟨bound_more hk1 hd64 HQB.out⟩
            have HA2 : Sl (∀ j, 1 ≤ j → j < k + 1 → j < (bytes s).length → 128 ≤ (bytes s).getD j 0 ∧ (bytes s).getD j 0 ≤ 191) := ⟨fun j h1 h2 h3 => by
              by_cases e : j = k
              · subst e; rw [HGC.out]; omega
              · exact HAL.out j h1 (by omega) h3⟩
            clear hd
            go_wp2
            have y1 : IntKind.i64.wrap (c : Int) = (c : Int) := IntWalk.i64_in _ (by omega)
            have y2 : IntKind.i64.wrap (d : Int) = (d : Int) := IntWalk.i64_in _ (by omega)
            go_region
            all_goals
              clear y1 y2
              go_wp2
              go_roundw
              case rel => exact ⟨k + 1, 64 * p + d, 64 * q + d, by omega, by omega, by go_num, by go_num, by go_num, HN1, HB2, HB3, HA2, HR.out.drew⟩
              case measure => simp [intOf]; omega
      · have hksI : ¬ (k : Int) < (s.size : Int) := by omega
        have HN1 : Sl ((64 * p, 64 * q + 63) = lm r (bytes s) (k + 1)) := ⟨by
          rw [HLM.out, if_neg (by rw [LB.out]; exact hks), if_neg (by rw [LB.out]; exact hks), ← HPQ.out]; rfl⟩
        go_wp2
        go_roundw
        case rel => exact ⟨k + 1, 64 * p, 64 * q + 63, by omega, by omega, by go_num, by go_num, by go_num, HN1, ⟨by have := bound_more (d := 0) hk1 (by decide) HPB.out; simpa using this⟩, ⟨bound_more hk1 (by decide) HQB.out⟩, ⟨fun j h1 h2 h3 => HAL.out j h1 (by rw [LB.out] at h3; omega) h3⟩, HR.out⟩
        case measure => simp [intOf]; omega
    · have hge : ¬ (k : Int) < 3 := by omega
      have hkn : k = 3 := by omega
      subst hkn
      have hp4 := bound4 hk1 (by decide) HPB.out
      have hq4 := bound4 hk1 (by decide) HQB.out
      have HF : Sl (beg (bytes s) = fits 3 (p, q)) := ⟨by rw [HBE.out, tail_all (bytes s) (fun j h1 h2 => HAL.out j h1 (by rw [LB.out] at h2; omega) h2), if_pos rfl, ← HPQ.out]⟩
      go_upto_region 14 with fail
      go_cut [9, 10] (fun s9 s10 wx => s9 = .int .i64 2048 ∧ s10 = .int .i64 65535 ∧ Below w.heap.size w wx)
      case first =>
        go_region
        all_goals (go_wp2_with fail; go_meet; exact ⟨rfl, rfl, by first | exact below_2a HR.out _ _ | exact below_2b HR.out _ _⟩)
      case rest =>
      obtain ⟨rfl, rfl, hb5⟩ := hcut
      have HB5 := Sl.mk hb5
      clear hb5
      clear HPQ HPB HQB HAL HBE
      go_wp2
      all_goals
        go_ret
        refine ⟨?_, HB5.out⟩
        rw [HF.out]
        refine ret_bool ?_
        symm
        rw [Bool.eq_iff_iff, fits_iff]
        simp only [fromOf, toOf]
        first
          | (simp; omega)
          | (simp only [Bool.true_eq, Bool.false_eq, iff_true, iff_false, Bool.false_eq_true, decide_eq_true_eq]; omega)
          | (simp)
end Go.Proofs.YtnogaaalpfjgcaaDoor.Utf
/- begins, where the first byte says 4 bytes. -/
namespace Go.Proofs.YtnogaaalpfjgcaaDoor.Utf
open Go.RowKit UtfPlain

set_option maxHeartbeats 2000000 in
set_option maxRecDepth 100000 in
theorem begins_4 (s : ByteArray) (w : World) (hs : 0 < s.size) (hlg : long ((bytes s).headD 0) = 4) (h : s.size < 4) :
    Calls Tryd.prog 35 #[.string s] w fun e w' => e = .returned (.bool (beg (bytes s))) ∧ Below w.heap.size w w' := by
  obtain ⟨b, hb⟩ : ∃ b, (s[0]'hs).toNat = b := ⟨_, rfl⟩
  have hh := headD_bytes s hs
  rw [hb] at hh
  have HLG : Sl (∀ W, Calls Tryd.prog 37 #[.int .u8 b] W fun e w' => e = .returned (.int .i64 4) ∧ W = w') := ⟨fun W => by
    have e := hlg; rw [hh] at e; have := long_any b W; rw [e] at this; exact this⟩
  have LB : Sl ((bytes s).length = s.size) := ⟨bytes_length s⟩
  obtain ⟨r, hr⟩ : ∃ r, b % 8 = r := ⟨_, rfl⟩
  have HBE : Sl (beg (bytes s) = if (bytes s).tail.all (fun c => decide (128 ≤ c ∧ c ≤ 191)) then fits 4 (lm r (bytes s) 4) else false) := ⟨by
    unfold beg
    simp only [hlg, bytes_length]
    rw [if_neg (by omega), hh, show modOf 4 = 8 from rfl, hr]⟩
  have hb256 : b < 256 := by rw [← hb]; exact UInt8.toNat_lt _
  have hr2 : r < 256 := by omega
  have hr' : (b : Int) % 8 = (r : Int) := by omega
  have ht2 : Int.tmod (b : Int) 8 = (r : Int) := by rw [← hr', Int.tmod_eq_emod_of_nonneg (by omega)]
  have hns : (s.size : Int) < 4 := by omega
  clear hh hlg hr
  go_enter Tryd.func35, Tryd.ntmps35
  go_wp2_with fail
  refine (HLG.out _).mono ?_
  rintro e w' ⟨rfl, rfl⟩
  go_upto_region 4 with fail
  go_cut [4, 5] (fun s4 s5 wx => s4 = .int .i64 r ∧ s5 = .int .i64 r ∧ Below w.heap.size w wx)
  case first =>
    have hb0 : Below w.heap.size w w.drew := (Below.refl _ _).drew
    have z1 : IntKind.i64.wrap (b : Int) = (b : Int) := IntWalk.i64_in _ (by omega)
    have z2 : IntKind.i64.wrap (r : Int) = (r : Int) := IntWalk.i64_in _ (by omega)
    have z3 : IntKind.i64.wrap 8 = 8 := IntWalk.i64_in _ (by omega)
    have z4 : Int.tdiv 256 32 = 8 := rfl
    go_region_held3 (fun W => Below w.heap.size w W) (first | exact hb0 | assumption) (first | (go_at_call 38; refine (pow_ex w _ 4 32 rfl (by decide) (by assumption)).mono ?_; rintro e w4 ⟨rfl, HB4⟩; have hb4 := HB4.out))
    all_goals (clear z1 z2 z3 z4; go_wp2_with fail; go_meet; exact ⟨rfl, rfl, by assumption⟩)
  case rest =>
  obtain ⟨rfl, rfl, hb1⟩ := hcut
  have HB1 := Sl.mk hb1
  clear hb1 ht2
  go_wp2
  go_loopw [4, 5, 6] (fun x y i wr => BG w r 4 (bytes s) x y i wr) (fun _ _ i _ => 4 - (intOf i).toNat)
  case atStart => exact ⟨1, r, r, Nat.le_refl _, by omega, rfl, rfl, rfl, ⟨rfl⟩, ⟨by simpa using hr2⟩, ⟨by simpa using hr2⟩, ⟨fun j h1 h2 => by omega⟩, HB1.out⟩
  case round =>
    obtain ⟨k, p, q, hk1, hk, rfl, rfl, rfl, HPQ, HPB, HQB, HAL, hrel⟩ := hrel
    have HR := Sl.mk hrel
    clear hrel
    by_cases hlt : k < 4
    · have hp3 := bound3 hk1 (by omega) HPB.out
      have hq3 := bound3 hk1 (by omega) HQB.out
      have HLM := Sl.mk (lm_more r (bytes s) k hk1)
      by_cases hks : k < s.size
      · obtain ⟨c, hc⟩ : ∃ c, (s[k]'hks).toNat = c := ⟨_, rfl⟩
        have hc256 : c < 256 := by rw [← hc]; exact UInt8.toNat_lt _
        have HGC : Sl ((bytes s).getD k 0 = c) := ⟨by rw [bytes_getD s k hks, ← hc]; rfl⟩
        have hksI : (k : Int) < (s.size : Int) := by omega
        by_cases hlo : c < 128
        · have HF : Sl (beg (bytes s) = false) := ⟨by rw [HBE.out, tail_bad (bytes s) k hk1 (by rw [LB.out]; exact hks) (by rw [HGC.out]; omega)]; rfl⟩
          have hlo' : (c : Int) < 128 := by omega
          go_wp2
          go_ret
          exact ⟨by rw [HF.out]; rfl, HR.out⟩
        · by_cases hhi : 191 < c
          · have HF : Sl (beg (bytes s) = false) := ⟨by rw [HBE.out, tail_bad (bytes s) k hk1 (by rw [LB.out]; exact hks) (by rw [HGC.out]; omega)]; rfl⟩
            have hhi' : (191 : Int) < (c : Int) := by omega
            go_wp2
            go_ret
            exact ⟨by rw [HF.out]; rfl, HR.out⟩
          · have hlo' : ¬ (c : Int) < 128 := by omega
            have hhi' : ¬ (191 : Int) < (c : Int) := by omega
            obtain ⟨d, hd⟩ : ∃ d, c - 128 = d := ⟨_, rfl⟩
            have hd' : (c : Int) - 128 = (d : Int) := by omega
            have hd64 : d < 64 := by omega
            have HN1 : Sl ((64 * p + d, 64 * q + d) = lm r (bytes s) (k + 1)) := ⟨by
              rw [HLM.out, if_pos (by rw [LB.out]; exact hks), if_pos (by rw [LB.out]; exact hks), ← HPQ.out, HGC.out, hd]⟩
            have HB2 : Sl (64 * p + d < 256 * 64 ^ (k + 1 - 1)) := ⟨bound_more hk1 hd64 HPB.out⟩
            have HB3 : Sl (64 * q + d < 256 * 64 ^ (k + 1 - 1)) := ⟨bound_more hk1 hd64 HQB.out⟩
            have HA2 : Sl (∀ j, 1 ≤ j → j < k + 1 → j < (bytes s).length → 128 ≤ (bytes s).getD j 0 ∧ (bytes s).getD j 0 ≤ 191) := ⟨fun j h1 h2 h3 => by
              by_cases e : j = k
              · subst e; rw [HGC.out]; omega
              · exact HAL.out j h1 (by omega) h3⟩
            clear hd
            go_wp2
            have y1 : IntKind.i64.wrap (c : Int) = (c : Int) := IntWalk.i64_in _ (by omega)
            have y2 : IntKind.i64.wrap (d : Int) = (d : Int) := IntWalk.i64_in _ (by omega)
            go_region
            all_goals
              clear y1 y2
              go_wp2
              go_roundw
              case rel => exact ⟨k + 1, 64 * p + d, 64 * q + d, by omega, by omega, by go_num, by go_num, by go_num, HN1, HB2, HB3, HA2, HR.out.drew⟩
              case measure => simp [intOf]; omega
      · have hksI : ¬ (k : Int) < (s.size : Int) := by omega
        have HN1 : Sl ((64 * p, 64 * q + 63) = lm r (bytes s) (k + 1)) := ⟨by
          rw [HLM.out, if_neg (by rw [LB.out]; exact hks), if_neg (by rw [LB.out]; exact hks), ← HPQ.out]; rfl⟩
        go_wp2
        go_roundw
        case rel => exact ⟨k + 1, 64 * p, 64 * q + 63, by omega, by omega, by go_num, by go_num, by go_num, HN1, ⟨by have := bound_more (d := 0) hk1 (by decide) HPB.out; simpa using this⟩, ⟨bound_more hk1 (by decide) HQB.out⟩, ⟨fun j h1 h2 h3 => HAL.out j h1 (by rw [LB.out] at h3; omega) h3⟩, HR.out⟩
        case measure => simp [intOf]; omega
    · have hge : ¬ (k : Int) < 4 := by omega
      have hkn : k = 4 := by omega
      subst hkn
      have hp4 := bound4 hk1 (by decide) HPB.out
      have hq4 := bound4 hk1 (by decide) HQB.out
      have HF : Sl (beg (bytes s) = fits 4 (p, q)) := ⟨by rw [HBE.out, tail_all (bytes s) (fun j h1 h2 => HAL.out j h1 (by rw [LB.out] at h2; omega) h2), if_pos rfl, ← HPQ.out]⟩
      go_upto_region 14 with fail
      go_cut [9, 10] (fun s9 s10 wx => ∃ F T : Nat, s9 = .int .i64 F ∧ s10 = .int .i64 T ∧ Sl (F = 65536 ∧ T = 1114111) ∧ Below w.heap.size w wx)
      case first =>
        go_region
        all_goals (go_wp2_with fail; go_meet; exact ⟨65536, 1114111, rfl, rfl, ⟨rfl, rfl⟩, by first | exact below_2a HR.out _ _ | exact below_2b HR.out _ _⟩)
      case rest =>
      obtain ⟨F, T, rfl, rfl, HFT, hb5⟩ := hcut
      have HB5 := Sl.mk hb5
      clear hb5
      clear HPQ HPB HQB HAL HBE
      have hF7 : F ≤ 100000 := by have := HFT.out; omega
      have hT7 : T ≤ 2000000 := by have := HFT.out; omega
      go_wp2
      all_goals
        go_ret
        refine ⟨?_, HB5.out⟩
        rw [HF.out]
        refine ret_bool ?_
        symm
        rw [Bool.eq_iff_iff, fits_iff]
        simp only [fromOf, toOf]
        obtain ⟨hF, hT⟩ := HFT.out
        first
          | (simp; omega)
          | (simp only [Bool.true_eq, Bool.false_eq, iff_true, iff_false, Bool.false_eq_true, decide_eq_true_eq]; omega)
          | (simp)
end Go.Proofs.YtnogaaalpfjgcaaDoor.Utf
/- The contract of the document's Read: how many bytes are right, how many letters there are, whether they are whole; nothing that was in memory changes. Condition: at most 100000 bytes. -/
namespace Go.Proofs.YtnogaaalpfjgcaaDoor.Utf
open Go.RowKit UtfPlain

theorem refBegins_any (s : ByteArray) (w : World) (hs : 0 < s.size) (hL : s.size ≤ 100000) :
    Calls Tryd.prog 35 #[.string s] w fun e w' => e = .returned (.bool (beg (bytes s))) ∧ Below w.heap.size w w' := by
  by_cases h : long ((bytes s).headD 0) ≤ s.size
  · have e : beg (bytes s) = false := by
      unfold beg
      simp only [bytes_length]
      rw [if_pos h]
    rw [e]
    exact begins_no s w hs hL h
  · have h5 := long_le ((bytes s).headD 0)
    obtain ⟨n, hn⟩ : ∃ n, long ((bytes s).headD 0) = n := ⟨_, rfl⟩
    rw [hn] at h h5
    match n, h5 with
    | 0, _ => omega
    | 1, _ => omega
    | 2, _ => exact begins_2 s w hs hn (by omega)
    | 3, _ => exact begins_3 s w hs hn (by omega)
    | 4, _ => exact begins_4 s w hs hn (by omega)
theorem whole_r (w0 W : World) (s : ByteArray) (n : Nat) (hn : whole' (bytes s) = n) (hs : 0 < s.size) (hL : s.size ≤ 100000) (hB : Below w0.heap.size w0 W) :
    Calls Tryd.prog 34 #[.string s] W fun e w' => e = .returned (.int .i64 n) ∧ Sl (Below w0.heap.size w0 w') :=
  (refWhole_any s W hs hL).mono fun _ _ ⟨he, hb⟩ => ⟨by rw [he, hn], ⟨hB.trans (hb.mono hB.size)⟩⟩
theorem begins_r (w0 W : World) (s : ByteArray) (r : Bool) (hr : beg (bytes s) = r) (hs : 0 < s.size) (hL : s.size ≤ 100000) (hB : Below w0.heap.size w0 W) :
    Calls Tryd.prog 35 #[.string s] W fun e w' => e = .returned (.bool r) ∧ Sl (Below w0.heap.size w0 w') :=
  (refBegins_any s W hs hL).mono fun _ _ ⟨he, hb⟩ => ⟨by rw [he, hr], ⟨hB.trans (hb.mono hB.size)⟩⟩

/-- What the first loop of Read holds to. -/
def RD1 (w : World) (s : ByteArray) (at' le : Value) (wr : World) : Prop :=
  ∃ k c : Nat, k ≤ s.size ∧ c ≤ k ∧ at' = .int .i64 k ∧ le = .int .i64 c ∧ Sl (uend s0 ((bytes s).take k) = some s0) ∧ Sl (ucount s0 ((bytes s).take k) = c) ∧ Below w.heap.size w wr
/-- What the second loop of Read holds to. -/
def RD2 (w : World) (s : ByteArray) (k : Nat) (en' : Value) (wr : World) : Prop :=
  ∃ j : Nat, k + j ≤ s.size ∧ en' = .int .i64 ((k + j : Nat) : Int) ∧ Sl (j ≤ uright s0 ((bytes s).drop k)) ∧ Below w.heap.size w wr

theorem ext_end (s : ByteArray) (k : Nat) : bytes (s.extract k s.size) = (bytes s).drop k := by
  rw [bytes_extract, List.take_of_length_le (by rw [bytes_length]; exact Nat.le_refl _)]
theorem ext_mid (s : ByteArray) (k j : Nat) : bytes (s.extract k (k + j)) = ((bytes s).drop k).take j := by
  rw [bytes_extract, List.drop_take, Nat.add_sub_cancel_left]
theorem more_letter (s : ByteArray) (k c n : Nat) (hk : k ≤ s.size) (h1 : uend s0 ((bytes s).take k) = some s0) (h2 : ucount s0 ((bytes s).take k) = c) (hw : whole' ((bytes s).drop k) = n) (hn : 1 ≤ n) :
    k + n ≤ s.size ∧ uend s0 ((bytes s).take (k + n)) = some s0 ∧ ucount s0 ((bytes s).take (k + n)) = c + 1 := by
  obtain ⟨m, rfl⟩ : ∃ m, n = m + 1 := ⟨n - 1, by omega⟩
  obtain ⟨a, b, d⟩ := whole_yes _ m hw
  rw [List.length_drop, bytes_length] at a
  refine ⟨by omega, ?_, ?_⟩
  · rw [List.take_add, uend_append, h1]; exact b
  · rw [List.take_add, ucount_append, h1, h2]; simp only; rw [d]

theorem read_fin (s : ByteArray) (k c j : Nat) (hk : k ≤ s.size) (h1 : uend s0 ((bytes s).take k) = some s0) (h2 : ucount s0 ((bytes s).take k) = c) (hw : k < s.size → whole' ((bytes s).drop k) = 0) (hj : j = uright s0 ((bytes s).drop k)) :
    uright s0 (bytes s) = k + j ∧ ucount s0 (bytes s) = c ∧ vb (bytes s) = decide (k = s.size) := by
  obtain ⟨a, b, d⟩ := read_done (bytes s) k (by rw [bytes_length]; exact hk) h1 (by rw [bytes_length]; exact hw)
  rw [bytes_length] at d
  exact ⟨by rw [a, hj], by rw [b, h2], decide_eq_decide.2 d⟩
theorem fin3 {s : ByteArray} {k c j : Nat} (h : uright s0 (bytes s) = k + j ∧ ucount s0 (bytes s) = c ∧ vb (bytes s) = decide (k = s.size)) :
    Ending.returned (.tuple #[.int .i64 ((k + j : Nat) : Int), .int .i64 (c : Int), .bool ((k : Int) == (s.size : Int))]) = .returned (.tuple #[.int .i64 (uright s0 (bytes s) : Nat), .int .i64 (ucount s0 (bytes s) : Nat), .bool (vb (bytes s))]) := by
  have e : ((k : Int) == (s.size : Int)) = decide (k = s.size) := by
    rw [Bool.eq_iff_iff]; simp; omega
  rw [h.1, h.2.1, h.2.2, e]

set_option maxHeartbeats 1000000 in
theorem read_any (s : ByteArray) (w : World) (hL : s.size ≤ 100000) :
    Calls Tryd.prog 28 #[.string s] w fun e w' => e = .returned (.tuple #[.int .i64 (uright s0 (bytes s) : Nat), .int .i64 (ucount s0 (bytes s) : Nat), .bool (vb (bytes s))]) ∧ Below w.heap.size w w' := by
  have LB : Sl ((bytes s).length = s.size) := ⟨bytes_length s⟩
  go_enter Tryd.func28, Tryd.ntmps28
  go_wp2
  go_loopw [5, 6] (fun a l wr => RD1 w s a l wr) (fun a _ _ => s.size - (intOf a).toNat)
  case atStart => exact ⟨0, 0, Nat.zero_le _, Nat.le_refl _, rfl, rfl, ⟨rfl⟩, ⟨rfl⟩, Below.refl _ _⟩
  case round =>
    obtain ⟨k, c, hk, hck, rfl, rfl, HU, HC, hrel⟩ := hrel
    have HR := Sl.mk hrel
    clear hrel
    by_cases hlt : k < s.size
    · have hltI : (k : Int) < (s.size : Int) := by omega
      have HEX : Sl (bytes (s.extract k s.size) = (bytes s).drop k) := ⟨ext_end s k⟩
      have ES : (s.extract k s.size).size = s.size - k := by rw [ByteArray.size_extract]; omega
      obtain ⟨n, hn⟩ : ∃ n, whole' ((bytes s).drop k) = n := ⟨_, rfl⟩
      have HN := Sl.mk hn
      by_cases h0 : n = 0
      · subst h0
        clear hn
        go_wp2_with fail
        refine (whole_r w _ (s.extract k s.size) 0 (by rw [HEX.out]; exact HN.out) (by omega) (by omega) HR.out).mono ?_
        rintro e w2 ⟨rfl, HB2⟩
        go_wp2
        have HWK : Sl (k < s.size → whole' ((bytes s).drop k) = 0) := ⟨by exact fun _ => HN.out⟩
        have HDL : Sl (((bytes s).drop k).length = s.size - k) := ⟨by rw [List.length_drop, LB.out]⟩
        go_loopw [8] (fun e wr => RD2 w s k e wr) (fun e _ => s.size - (intOf e).toNat)
        case atStart => exact ⟨0, by omega, rfl, ⟨Nat.zero_le _⟩, HB2.out⟩
        case round =>
          obtain ⟨j, hj, rfl, HJ, hrel⟩ := hrel
          have HR2 := Sl.mk hrel
          have hbnd : k + j ≤ 100000 := by omega
          clear hrel
          by_cases hjs : k + j < s.size
          · have hjI : ((k + j : Nat) : Int) < (s.size : Int) := by omega
            have hk' : k < s.size := by omega
            have EB : Sl (bytes (s.extract k (k + j + 1)) = ((bytes s).drop k).take (j + 1)) := ⟨ext_mid s k (j + 1)⟩
            have ES2 : (s.extract k (k + j + 1)).size = j + 1 := by rw [ByteArray.size_extract]; omega
            have HBI : Sl (beg (((bytes s).drop k).take (j + 1)) = true ↔ j < uright s0 ((bytes s).drop k)) := ⟨beg_iff _ j (by rw [HDL.out]; omega) (HWK.out hk')⟩
            have hsl1 : (0 : Int) ≤ (k : Int) := by omega
            have hsl2 : (k : Int) ≤ ((k + j : Nat) : Int) + 1 := by omega
            have hsl3 : ((k + j : Nat) : Int) + 1 ≤ (s.size : Int) := by omega
            by_cases hju : j < uright s0 ((bytes s).drop k)
            · have HBT : Sl (beg (bytes (s.extract k (k + j + 1))) = true) := ⟨by rw [EB.out]; exact HBI.out.2 hju⟩
              have HJU := Sl.mk hju
              clear hju
              go_wp2_with fail
              refine (begins_r w _ (s.extract k (k + j + 1)) true HBT.out (by omega) (by omega) HR2.out).mono ?_
              rintro e w3 ⟨rfl, HB3⟩
              go_wp2
              go_roundw
              case rel => exact ⟨j + 1, by omega, by go_num, ⟨HJU.out⟩, HB3.out⟩
              case measure => simp [intOf]; omega
            · have HBT : Sl (beg (bytes (s.extract k (k + j + 1))) = false) := ⟨by
                rw [EB.out]
                cases hb : beg (((bytes s).drop k).take (j + 1)) with
                | false => rfl
                | true => exact absurd (HBI.out.1 hb) hju⟩
              have HFIN := Sl.mk (read_fin s k c j hk HU.out HC.out HWK.out (by have := HJ.out; omega))
              clear hju
              go_wp2_with fail
              refine (begins_r w _ (s.extract k (k + j + 1)) false HBT.out (by omega) (by omega) HR2.out).mono ?_
              rintro e w3 ⟨rfl, HB3⟩
              go_wp2
              go_ret3
              exact ⟨fin3 HFIN.out, HB3.out⟩
          · have hjI : ¬ ((k + j : Nat) : Int) < (s.size : Int) := by omega
            have HFIN := Sl.mk (read_fin s k c j hk HU.out HC.out HWK.out (by have h1 := HJ.out; have h2 := uright_le ((bytes s).drop k) s0; rw [HDL.out] at h2; omega))
            go_wp2
            go_ret3
            exact ⟨fin3 HFIN.out, HR2.out⟩
      · obtain ⟨m1, m2, m3⟩ := more_letter s k c n hk HU.out HC.out hn (by omega)
        have M2 := Sl.mk m2
        have M3 := Sl.mk m3
        have hn0 : ((n : Int) == 0) = false := by simp; omega
        have hn1 : 1 ≤ n := by omega
        clear hn m2 m3 h0
        go_wp2_with fail
        refine (whole_r w _ (s.extract k s.size) n (by rw [HEX.out]; exact HN.out) (by omega) (by omega) HR.out).mono ?_
        rintro e w2 ⟨rfl, HB2⟩
        go_wp2
        go_roundw
        case rel => exact ⟨k + n, c + 1, m1, by omega, by go_num, by go_num, M2, M3, HB2.out⟩
        case measure => simp [intOf]; omega
    · have hltI : ¬ (k : Int) < (s.size : Int) := by omega
      go_wp2
      have HWK : Sl (k < s.size → whole' ((bytes s).drop k) = 0) := ⟨by exact fun h => absurd h hlt⟩
      have HDL : Sl (((bytes s).drop k).length = s.size - k) := ⟨by rw [List.length_drop, LB.out]⟩
      go_loopw [8] (fun e wr => RD2 w s k e wr) (fun e _ => s.size - (intOf e).toNat)
      case atStart => exact ⟨0, by omega, rfl, ⟨Nat.zero_le _⟩, HR.out⟩
      case round =>
        obtain ⟨j, hj, rfl, HJ, hrel⟩ := hrel
        have HR2 := Sl.mk hrel
        have hbnd : k + j ≤ 100000 := by omega
        clear hrel
        by_cases hjs : k + j < s.size
        · exfalso; omega
        · have hjI : ¬ ((k + j : Nat) : Int) < (s.size : Int) := by omega
          have HFIN := Sl.mk (read_fin s k c j hk HU.out HC.out HWK.out (by have h1 := HJ.out; have h2 := uright_le ((bytes s).drop k) s0; rw [HDL.out] at h2; omega))
          go_wp2
          go_ret3
          exact ⟨fin3 HFIN.out, HR2.out⟩
end Go.Proofs.YtnogaaalpfjgcaaDoor.Utf
/- utf: the document's Read, for use. -/
namespace Go.Proofs.YtnogaaalpfjgcaaDoor.Utf
open Go.RowKit UtfPlain

theorem read_r (w0 W : World) (s : ByteArray) (R L : Nat) (v : Bool) (h1 : rt (some s0) (bytes s) = R) (h2 : ucount s0 (bytes s) = L) (h3 : vb (bytes s) = v) (hL : s.size ≤ 100000) (hB : Below w0.heap.size w0 W) :
    Calls Tryd.prog 28 #[.string s] W fun e w' => e = .returned (.tuple #[.int .i64 R, .int .i64 L, .bool v]) ∧ Sl (Below W.heap.size W w') ∧ Sl (Below w0.heap.size w0 w') :=
  (read_any s W hL).mono fun _ _ ⟨he, hb⟩ => ⟨by rw [he, h2, h3, show uright s0 (bytes s) = R from h1], ⟨hb⟩, ⟨hB.trans (hb.mono hB.size)⟩⟩

end Go.Proofs.YtnogaaalpfjgcaaDoor.Utf
