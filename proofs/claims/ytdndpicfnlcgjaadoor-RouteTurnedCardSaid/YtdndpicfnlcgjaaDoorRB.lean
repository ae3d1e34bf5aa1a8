/- route: what stands ahead of a path's first question mark; below; bytes that may be seen; which route goes ahead. -/
import Derived.Test.YtdndpicfnlcgjaaDoorRA
import Derived.Test.YtdndpicfnlcgjaaDoorHdB
import Derived.Test.YtdndpicfnlcgjaaDoorLast
import Derived.OwnWalk
set_option maxRecDepth 100000
namespace Go.Proofs.YtdndpicfnlcgjaaDoor.Rou
open Go.RowKit
open HeadPlain (toN)
open RoutePlain (Rt stem stem_cons stem_le stem_take stem_at stem_before below better)

theorem index_list (l : List UInt8) : Lib.indexByte l 63 = if (stem (l.map (·.toNat))).length < l.length then ((stem (l.map (·.toNat))).length : Int) else -1 := by
  induction l with
  | nil => rfl
  | cons x r ih =>
    unfold Lib.indexByte
    rw [List.map_cons, stem_cons]
    by_cases h : x = 63
    · subst h; simp
    · have h2 : (x == 63) = false := by rw [beq_eq_false_iff_ne]; exact h
      have h3 : ¬ x.toNat = 63 := fun e => h (UInt8.toNat_inj.1 e)
      rw [h2, if_neg (by simp), if_neg h3, ih, List.length_cons, List.length_cons]
      by_cases h4 : (stem (r.map (·.toNat))).length < r.length
      · rw [if_pos h4, if_pos (Nat.succ_lt_succ h4)]
        have : (((stem (r.map (·.toNat))).length : Int) == -1) = false := by rw [beq_eq_false_iff_ne]; omega
        rw [this]; simp
      · rw [if_neg h4, if_neg (fun h => h4 (Nat.lt_of_succ_lt_succ h))]; rfl
/-- What stands ahead of a path's first question mark. -/
def plc (s : ByteArray) : ByteArray := s.extract 0 (stem (bytes s)).length
theorem plc_bytes (s : ByteArray) : bytes (plc s) = stem (bytes s) := by unfold plc; rw [bytes_extract, List.drop_zero, ← stem_take]
theorem plc_size (s : ByteArray) : (plc s).size = (stem (bytes s)).length := by rw [← bytes_length, plc_bytes]
theorem plc_le (s : ByteArray) : (plc s).size ≤ s.size := by rw [plc_size, ← bytes_length s]; exact stem_le _
theorem plc_all {s : ByteArray} (h : ¬ (stem (bytes s)).length < s.size) : plc s = s := by
  refine bytes_inj ?_
  have h1 := stem_le (bytes s)
  rw [bytes_length] at h1
  rw [plc_bytes, stem_take, List.take_of_length_le (by rw [bytes_length]; omega)]
def CutR (s : ByteArray) (e : Ending) : Prop := ∃ (r : ByteArray) (b : Bool), e = .returned (.tuple #[.string (plc s), .string r, .bool b])
theorem lcut_any (s : ByteArray) (W : World) (hs : s.size ≤ maxLen) : Calls Tryd.prog 50 #[.string s, .string { data := #[63] }] W fun e w' => CutR s e ∧ Sl (Below W.heap.size W w') := by
  have HI := Sl.mk (Tryd.stringslite_Index_one s 63 W)
  rw [index_list] at HI
  change Sl (Calls _ _ #[_, .string ⟨#[63]⟩] _ (fun e w' => e = .returned (.int .i64 (if (stem (bytes s)).length < s.data.toList.length then ((stem (bytes s)).length : Int) else -1)) ∧ w' = W)) at HI
  have hl : s.data.toList.length = s.size := by rw [Array.length_toList]; rfl
  rw [hl] at HI
  obtain ⟨k, hk⟩ : ∃ k, (stem (bytes s)).length = k := ⟨_, rfl⟩
  have HP : Sl (plc s = s.extract 0 k) := ⟨by rw [← hk]; rfl⟩
  have HN : Sl (¬ k < s.size → plc s = s) := ⟨fun h => plc_all (by rw [hk]; exact h)⟩
  rw [hk] at HI
  have hk2 : k ≤ s.size := by have := stem_le (bytes s); rw [bytes_length, hk] at this; exact this
  clear hk hl
  unfold maxLen at hs
  by_cases hlt : k < s.size
  · rw [if_pos hlt] at HI
    have h1 : ((k : Int) + 1) ≤ (s.size : Int) := by omega
    have c1 : (0 : Int) ≤ (k : Int) := by omega
    have c2 : (k : Int) ≤ (s.size : Int) := by omega
    have c3 : (0 : Int) ≤ (k : Int) + 1 := by omega
    have h2 : IntKind.i64.wrap ((k : Int) + 1) = (k : Int) + 1 := by rw [IntKind.wrap_i64]; omega
    have h3 : wrap64 ((k : Int) + 1) = (k : Int) + 1 := by unfold wrap64; omega
    go_enter Tryd.func50, Tryd.ntmps50
    go_wp2_with fail
    refine HI.out.mono ?_
    rintro e w1 ⟨rfl, rfl⟩
    clear HI
    go_upto_region 3 with fail
    go_still (by kernel_rfl)
    go_wp2
    go_ret3
    exact ⟨⟨_, true, by rw [HP.out]; rfl⟩, ⟨(Below.refl _ _).drew⟩⟩
  · rw [if_neg hlt] at HI
    go_enter Tryd.func50, Tryd.ntmps50
    go_wp2_with fail
    refine HI.out.mono ?_
    rintro e w1 ⟨rfl, rfl⟩
    clear HI
    go_wp2
    go_ret3
    exact ⟨⟨_, false, by rw [HN.out hlt]; rfl⟩, ⟨Below.refl _ _⟩⟩
theorem cut_any (s : ByteArray) (W : World) (hs : s.size ≤ maxLen) : Calls Tryd.prog 40 #[.string s, .string { data := #[63] }] W fun e w' => CutR s e ∧ Sl (Below W.heap.size W w') := by
  have HI := Sl.mk (lcut_any s W hs)
  obtain ⟨p, hp⟩ : ∃ p, plc s = p := ⟨_, rfl⟩
  have HP := Sl.mk hp
  clear hp hs
  go_enter Tryd.func40, Tryd.ntmps40
  go_wp2_with fail
  refine HI.out.mono ?_
  rintro e w1 ⟨⟨r, b, rfl⟩, HB⟩
  rw [HP.out]
  clear HI
  go_wp2
  go_ret3
  exact ⟨⟨r, b, by rw [HP.out]; rfl⟩, HB⟩
theorem place_any (s : ByteArray) (W : World) (hs : s.size ≤ maxLen) : Calls Tryd.prog 29 #[.string s] W fun e w' => e = .returned (.string (plc s)) ∧ Sl (Below W.heap.size W w') := by
  have HI := Sl.mk (cut_any s W hs)
  obtain ⟨p, hp⟩ : ∃ p, plc s = p := ⟨_, rfl⟩
  have HP := Sl.mk hp
  rw [hp]
  clear hp hs
  go_enter Tryd.func29, Tryd.ntmps29
  go_wp2_with fail
  refine HI.out.mono ?_
  rintro e w1 ⟨⟨r, b, rfl⟩, HB⟩
  rw [HP.out]
  clear HI
  go_wp2
  go_ret
  exact ⟨rfl, HB⟩
/-- Is a place a prefix, or below it? -/
def under (a f : List Nat) : Bool := decide (a.take f.length = f) && (decide (a.length = f.length) || decide (a.getD f.length 0 = 47) || decide (f.getLast? = some 47))
theorem below_under (p f : List Nat) : below p f = under (stem p) f := rfl
theorem pre_bytes (s p : ByteArray) : Lib.hasPrefix s.data.toList p.data.toList = decide ((bytes s).take (bytes p).length = bytes p) := by
  unfold Lib.hasPrefix
  rw [Bool.eq_iff_iff, List.isPrefixOf_iff_prefix, decide_eq_true_eq, List.prefix_iff_eq_take]
  rw [bytes_length]
  have hl : p.data.toList.length = p.size := by rw [Array.length_toList]; rfl
  rw [hl]
  constructor
  · intro h; unfold bytes; rw [← List.map_take, ← h]
  · intro h
    unfold bytes at h
    rw [← List.map_take] at h
    exact (toNat_inj_map h).symm
theorem suf_slash (p : ByteArray) : Lib.hasSuffix p.data.toList [47] = decide ((bytes p).getLast? = some 47) := by
  unfold Lib.hasSuffix bytes
  rw [Bool.eq_iff_iff, List.isSuffixOf_iff_suffix, decide_eq_true_eq, List.getLast?_map]
  constructor
  · rintro ⟨r, hr⟩; rw [← hr]; simp
  · intro h
    cases hg : p.data.toList.getLast? with
    | none => rw [hg] at h; cases h
    | some x =>
      rw [hg] at h
      have hx : x = 47 := UInt8.toNat_inj.1 (by simpa using h)
      subst hx
      obtain ⟨r, hr⟩ := List.getLast?_eq_some_iff.1 hg
      exact ⟨r, hr.symm⟩
theorem head_slash (l : List UInt8) : Lib.hasPrefix l [47] = decide ((l.map (·.toNat)).getD 0 0 = 47) := by
  unfold Lib.hasPrefix
  cases l with
  | nil => rfl
  | cons x r =>
    rw [Bool.eq_iff_iff, List.isPrefixOf_iff_prefix, decide_eq_true_eq]
    simp only [List.map_cons, List.getD_cons_zero, List.cons_prefix_cons, List.nil_prefix, and_true]
    exact ⟨fun e => by rw [← e]; rfl, fun e => (UInt8.toNat_inj.1 e).symm⟩
theorem under_any (a p : ByteArray) (W : World) (hp : p.size ≤ maxLen) (r : Bool) (hr : under (bytes a) (bytes p) = r) : Calls Tryd.prog 32 #[.string a, .string p] W fun e w' => e = .returned (.bool r) ∧ W = w' := by
  have HC := Sl.mk (Tryd.strings_CutPrefix a p W)
  have HS := Sl.mk (Tryd.strings_HasSuffix p { data := #[47] } W hp)
  rw [show ({ data := #[47] } : ByteArray).data.toList = [47] from rfl, suf_slash] at HS
  rw [pre_bytes] at HC
  unfold under at hr
  obtain ⟨rest, hrest⟩ : ∃ r, (⟨(Lib.trimPrefix a.data.toList p.data.toList).toArray⟩ : ByteArray) = r := ⟨_, rfl⟩
  rw [hrest] at HC
  by_cases h : (bytes a).take (bytes p).length = bytes p
  · rw [decide_eq_true h] at HC hr
    rw [Bool.true_and] at hr
    have hb : Lib.hasPrefix a.data.toList p.data.toList = true := by rw [pre_bytes]; exact decide_eq_true h
    have hle : (bytes p).length ≤ (bytes a).length := by have := congrArg List.length h; rw [List.length_take] at this; omega
    have hrb : bytes rest = (bytes a).drop (bytes p).length := by
      rw [← hrest]
      unfold Lib.trimPrefix
      rw [hb]
      simp only [if_true]
      show ((a.data.toList.drop p.data.toList.length).toArray.toList).map (·.toNat) = _
      rw [List.map_drop, bytes_length, Array.length_toList]
      rfl
    have hrz : rest.size = (bytes a).length - (bytes p).length := by rw [← bytes_length, hrb, List.length_drop]
    have HH := Sl.mk (Tryd.strings_HasPrefix rest { data := #[47] } W)
    rw [show ({ data := #[47] } : ByteArray).data.toList = [47] from rfl, head_slash] at HH
    change Sl (Calls _ _ _ _ (fun e w' => e = .returned (.bool (decide ((bytes rest).getD 0 0 = 47))) ∧ w' = W)) at HH
    rw [hrb, List.getD_eq_getElem?_getD, List.getElem?_drop, Nat.add_zero, ← List.getD_eq_getElem?_getD] at HH
    by_cases h0 : (bytes a).length = (bytes p).length
    · rw [decide_eq_true h0, Bool.true_or, Bool.true_or] at hr
      have hz : rest = { data := #[] } := by
        refine bytes_inj ?_
        rw [hrb, h0.symm, List.drop_of_length_le (Nat.le_refl _)]; rfl
      rw [hz] at HC
      have HR := Sl.mk hr
      clear hr h hb hle hrb hrz HH HS h0 hz hrest hp
      go_enter Tryd.func32, Tryd.ntmps32
      go_wp2_with fail
      refine HC.out.mono ?_
      rintro e w1 ⟨rfl, rfl⟩
      clear HC
      go_wp2
      go_ret
      exact ⟨ret_bool HR.out, rfl⟩
    · rw [decide_eq_false h0, Bool.false_or] at hr
      have hne : (rest.toList == ([] : List UInt8)) = false := by
        rw [beq_bytes, decide_eq_false]
        intro e
        have h5 : rest.size = 0 := by rw [← bytes_length, e]; rfl
        omega
      obtain ⟨b1, hb1⟩ : ∃ b, decide ((bytes a).getD (bytes p).length 0 = 47) = b := ⟨_, rfl⟩
      obtain ⟨b2, hb2⟩ : ∃ b, decide ((bytes p).getLast? = some 47) = b := ⟨_, rfl⟩
      rw [hb1] at hr HH
      rw [hb2] at hr HS
      clear h hb hle hrb hrz h0 hb1 hb2 hrest hp
      cases b1 with
      | true =>
        rw [Bool.true_or] at hr
        have HR := Sl.mk hr
        clear hr
        go_enter Tryd.func32, Tryd.ntmps32
        go_wp2_with fail
        refine HC.out.mono ?_
        rintro e w1 ⟨rfl, rfl⟩
        clear HC
        go_wp2_with fail
        refine HH.out.mono ?_
        rintro e w2 ⟨rfl, rfl⟩
        clear HH
        go_wp2
        go_ret
        exact ⟨ret_bool HR.out, rfl⟩
      | false =>
        rw [Bool.false_or] at hr
        have HR := Sl.mk hr
        clear hr
        go_enter Tryd.func32, Tryd.ntmps32
        go_wp2_with fail
        refine HC.out.mono ?_
        rintro e w1 ⟨rfl, rfl⟩
        clear HC
        go_wp2_with fail
        refine HH.out.mono ?_
        rintro e w2 ⟨rfl, rfl⟩
        clear HH
        go_wp2_with fail
        refine HS.out.mono ?_
        rintro e w3 ⟨rfl, rfl⟩
        clear HS
        go_wp2
        go_ret
        exact ⟨ret_bool HR.out, rfl⟩
  · rw [decide_eq_false h] at HC hr
    rw [Bool.false_and] at hr
    have HR := Sl.mk hr
    clear hr h hrest hp HS
    go_enter Tryd.func32, Tryd.ntmps32
    go_wp2_with fail
    refine HC.out.mono ?_
    rintro e w1 ⟨rfl, rfl⟩
    clear HC
    go_wp2
    go_ret
    exact ⟨ret_bool HR.out, rfl⟩
theorem below_any (a p : ByteArray) (W : World) (ha : a.size ≤ maxLen) (hp : p.size ≤ maxLen) (r : Bool) (hr : below (bytes a) (bytes p) = r) : Calls Tryd.prog 19 #[.string a, .string p] W fun e w' => e = .returned (.bool r) ∧ Sl (Below W.heap.size W w') := by
  have HP := Sl.mk (place_any a W ha)
  have HU : Sl (∀ V, Calls Tryd.prog 32 #[.string (plc a), .string p] V fun e w' => e = .returned (.bool r) ∧ V = w') := ⟨fun V => under_any _ _ V hp r (by rw [plc_bytes]; exact hr)⟩
  obtain ⟨q, hq⟩ : ∃ q, plc a = q := ⟨_, rfl⟩
  rw [hq] at HP HU
  clear hq hr ha hp
  go_enter Tryd.func19, Tryd.ntmps19
  go_wp2_with fail
  refine HP.out.mono ?_
  rintro e w1 ⟨rfl, HB⟩
  clear HP
  go_wp2_with fail
  refine (HU.out _).mono ?_
  rintro e w2 ⟨rfl, rfl⟩
  clear HU
  go_wp2
  go_ret
  exact ⟨rfl, HB⟩
end Go.Proofs.YtdndpicfnlcgjaaDoor.Rou
