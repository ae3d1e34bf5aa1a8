/- RouteRoot's walk. -/
import Derived.Test.YtdndpicfnlcgjaaDoorRO
import Derived.Test.YtdndpicfnlcgjaaDoorRM
set_option maxRecDepth 100000
namespace Go.Proofs.YtdndpicfnlcgjaaDoor.Rou
open Go.RowKit Nam
open RoutePlain (Rt below better fits pick stem)

theorem root_below {s : ByteArray} (h : 0 < s.size) (hb : (bytes s).getD 0 0 = 47) : below (bytes s) (bytes { data := #[47] }) = true := by
  obtain ⟨l, hl⟩ : ∃ l, bytes s = 47 :: l := by
    cases hc : bytes s with
    | nil => have := bytes_length s; rw [hc] at this; simp at this; omega
    | cons x l => rw [hc] at hb; simp at hb; exact ⟨l, by rw [hb]⟩
  rw [hl]; exact RoutePlain.below_root l
theorem root_key {s : ByteArray} {rs : List Rb} {o u : Option Rb} {x y z x2 y2 z2 : ByteArray} (h : 0 < s.size) (hb : (bytes s).getD 0 0 = 47) (ho : bestB (bytes s) (([] : List ByteArray).map bytes) rs = o)
    (hu : bestB (bytes s) (([] : List ByteArray).map bytes) (rs ++ [⟨{ data := #[47] }, { data := #[] }, { data := #[97, 108, 108] }⟩]) = u) (hr : o.getD Rn = ⟨x, y, z⟩) (hr2 : u.getD Rn = ⟨x2, y2, z2⟩) :
    u.isSome = true ∧ ((∃ (_ : o.isSome = true), same3 x y z x2 y2 z2 = true) ∨ (o.isSome = false ∧ same3 x2 y2 z2 { data := #[47] } { data := #[] } { data := #[97, 108, 108] } = true) ∨ (o.isSome = true ∧ x.size < 1)) := by
  obtain ⟨l, hl⟩ : ∃ l, bytes s = 47 :: l := by
    cases hc : bytes s with
    | nil => have := bytes_length s; rw [hc] at this; simp at this; omega
    | cons x l => rw [hc] at hb; simp at hb; exact ⟨l, by rw [hb]⟩
  have hself : ∀ a b c : ByteArray, same3 a b c a b c = true := fun a b c => by unfold same3; simp
  rw [bestB_snoc, ho] at hu
  have hfit : fits (bytes s) (([] : List ByteArray).map bytes) (Rb.rt ⟨{ data := #[47] }, { data := #[] }, { data := #[97, 108, 108] }⟩) = true := by
    unfold RoutePlain.fits
    rw [show (Rb.rt ⟨{ data := #[47] }, { data := #[] }, { data := #[97, 108, 108] }⟩).pre = [47] from rfl, hl, RoutePlain.below_root]
    rfl
  cases o with
  | none =>
    rw [stepB_first hfit] at hu
    subst hu
    rw [Option.getD_some] at hr2
    injection hr2 with e1 e2 e3
    subst e1 e2 e3
    exact ⟨rfl, .inr (.inl ⟨rfl, hself _ _ _⟩)⟩
  | some a =>
    rw [stepB_some hfit] at hu
    rw [Option.getD_some] at hr
    subst hr
    by_cases hbt : better (Rb.rt ⟨x, y, z⟩) (Rb.rt ⟨{ data := #[47] }, { data := #[] }, { data := #[97, 108, 108] }⟩) = true
    · rw [if_pos hbt] at hu
      subst hu
      refine ⟨rfl, .inr (.inr ⟨rfl, ?_⟩)⟩
      unfold RoutePlain.better at hbt
      have e0 : (Rb.rt ⟨{ data := #[47] }, { data := #[] }, { data := #[97, 108, 108] }⟩).pro = [] := rfl
      have e1 : (Rb.rt ⟨{ data := #[47] }, { data := #[] }, { data := #[97, 108, 108] }⟩).pre.length = 1 := rfl
      rw [e0, e1] at hbt
      simp only [Bool.or_eq_true, Bool.and_eq_true, decide_eq_true_eq] at hbt
      rcases hbt with h1 | ⟨_, _, h3⟩
      · have : (Rb.rt ⟨x, y, z⟩).pre.length = x.size := bytes_length x
        omega
      · exact absurd rfl h3
    · rw [if_neg hbt] at hu
      subst hu
      rw [Option.getD_some] at hr2
      injection hr2 with e1 e2 e3
      subst e1 e2 e3
      exact ⟨rfl, .inl ⟨rfl, hself _ _ _⟩⟩
set_option maxHeartbeats 16000000 in
theorem root_walk (a1 : Option Addr) (n1 c1 : Nat) (a2 : Option Addr) (n2 c2 : Nat) (tb ms fr ct bs ot sh id po cl : Int) (rs : List Rb) (os : List ByteArray) (s : ByteArray) (W : World) (hg : Globs W) (hc : RtsAt W (.slice a1 n1 c1) rs ∧ (∀ r ∈ rs, RbOk r) ∧ rs.length ≤ maxLen) (ho : StrA W (.slice a2 n2 c2) os ∧ os.length ≤ maxLen ∧ ∀ s ∈ os, s.size ≤ maxLen) (hs : s.size ≤ maxLen) : Calls Tryd.prog 9 #[.agg #[.slice a1 n1 c1, .slice a2 n2 c2, .int .i64 tb, .int .i64 ms, .int .i64 fr, .int .i64 ct, .int .i64 bs, .int .i64 ot, .int .i64 sh, .int .i64 id, .int .i64 po, .int .i64 cl], .string s] W fun e w' => e = .returned (.bool true) ∧ Below W.heap.size W w' := by
  have hs9 : s.size ≤ 9223372036854775807 := by unfold maxLen at hs; omega
  obtain ⟨wa, hwa, HBa, hx⟩ := cfg_box W #[.slice a1 n1 c1, .slice a2 n2 c2, .int .i64 tb, .int .i64 ms, .int .i64 fr, .int .i64 ct, .int .i64 bs, .int .i64 ot, .int .i64 sh, .int .i64 id, .int .i64 po, .int .i64 cl]
  have HX := Sl.mk hx
  obtain ⟨g, hgg⟩ : ∃ g, W.heap.size = g := ⟨_, rfl⟩
  have HSZ : Sl (g ≤ wa.heap.size) := ⟨by rw [← hgg]; exact HBa.out.size⟩
  have AW : Sl (∀ V, Below wa.heap.size wa V → Calls Tryd.prog 10 #[] V fun e w' => e = .returned (.bool true) ∧ Sl (Below V.heap.size V w')) := ⟨fun V h => awake_any V ((hg.of HBa.out).of h)⟩
  obtain ⟨fw, hfw⟩ : ∃ f, fewC rs os = f := ⟨_, rfl⟩
  have HFW := Sl.mk hfw
  have FW : Sl (∀ V, Below wa.heap.size wa V → Calls Tryd.prog 11 #[.agg #[.slice a1 n1 c1, .slice a2 n2 c2, .int .i64 tb, .int .i64 ms, .int .i64 fr, .int .i64 ct, .int .i64 bs, .int .i64 ot, .int .i64 sh, .int .i64 id, .int .i64 po, .int .i64 cl]] V fun en w' => en = .returned (.bool fw) ∧ Sl (Below V.heap.size V w')) := ⟨fun V h => rfew_any rs a1 n1 c1 a2 n2 c2 tb ms fr ct bs ot sh id po cl os V ((hc.1.below HBa.out).below h) hc.2.1 hc.2.2 ((ho.1.below HBa.out).below h) ho.2.1 ho.2.2 fw hfw⟩
  have HV0 := Sl.mk (hc.1.below HBa.out)
  have HO0 := Sl.mk (ho.1.below HBa.out)
  have HOKR := Sl.mk hc.2.1
  have HG0 := Sl.mk (hg.of HBa.out)
  rw [hgg] at HX HBa
  have HTOP : Sl (∀ V, Below wa.heap.size wa V → Below W.heap.size W V) := ⟨fun V h => by rw [hgg]; exact HBa.out.trans (h.mono HSZ.out)⟩
  clear hx hg hc ho hfw
  cases fw with
  | false =>
    go_enter Tryd.func9, Tryd.ntmps9
    go_upto_region 1 with fail
    (try rw [hwa])
    (try rw [hgg])
    go_wp2_with fail
    refine (AW.out wa (Below.refl wa.heap.size wa)).mono ?_
    rintro e w1 ⟨rfl, HQw1⟩
    have HBw1 : Sl (Below wa.heap.size wa w1) := ⟨(Below.refl wa.heap.size wa).trans (HQw1.out.mono (Below.refl wa.heap.size wa).size)⟩
    have HX1 := Sl.mk (below_key HX.out HQw1.out)
    have k0 := cell_at HX1.out 0 _ rfl
    have k1 := cell_at HX1.out 1 _ rfl
    have k2 := cell_at HX1.out 2 _ rfl
    have k3 := cell_at HX1.out 3 _ rfl
    have k4 := cell_at HX1.out 4 _ rfl
    have k5 := cell_at HX1.out 5 _ rfl
    have k6 := cell_at HX1.out 6 _ rfl
    have k7 := cell_at HX1.out 7 _ rfl
    have k8 := cell_at HX1.out 8 _ rfl
    have k9 := cell_at HX1.out 9 _ rfl
    have k10 := cell_at HX1.out 10 _ rfl
    have k11 := cell_at HX1.out 11 _ rfl
    go_wp2_with fail
    refine (FW.out _ HBw1.out).mono ?_
    rintro e w2 ⟨rfl, HQw2⟩
    have HBw2 : Sl (Below wa.heap.size wa w2) := ⟨HBw1.out.trans (HQw2.out.mono HBw1.out.size)⟩
    clear k0 k1 k2 k3 k4 k5 k6 k7 k8 k9 k10 k11
    go_wp2_with fail
    refine (AW.out _ HBw2.out).mono ?_
    rintro e w3 ⟨rfl, HQw3⟩
    have HBw3 : Sl (Below wa.heap.size wa w3) := ⟨HBw2.out.trans (HQw3.out.mono HBw2.out.size)⟩
    go_wp2
    go_ret
    exact ⟨rfl, HTOP.out _ HBw3.out⟩
  | true =>
    by_cases h1 : s.size > 300
    · have h1' : ((s.size : Int) > 300) = True := eq_true (by omega)
      go_enter Tryd.func9, Tryd.ntmps9
      go_upto_region 1 with fail
      (try rw [hwa])
      (try rw [hgg])
      go_wp2_with fail
      refine (AW.out wa (Below.refl wa.heap.size wa)).mono ?_
      rintro e w1 ⟨rfl, HQw1⟩
      have HBw1 : Sl (Below wa.heap.size wa w1) := ⟨(Below.refl wa.heap.size wa).trans (HQw1.out.mono (Below.refl wa.heap.size wa).size)⟩
      have HX1 := Sl.mk (below_key HX.out HQw1.out)
      have k0 := cell_at HX1.out 0 _ rfl
      have k1 := cell_at HX1.out 1 _ rfl
      have k2 := cell_at HX1.out 2 _ rfl
      have k3 := cell_at HX1.out 3 _ rfl
      have k4 := cell_at HX1.out 4 _ rfl
      have k5 := cell_at HX1.out 5 _ rfl
      have k6 := cell_at HX1.out 6 _ rfl
      have k7 := cell_at HX1.out 7 _ rfl
      have k8 := cell_at HX1.out 8 _ rfl
      have k9 := cell_at HX1.out 9 _ rfl
      have k10 := cell_at HX1.out 10 _ rfl
      have k11 := cell_at HX1.out 11 _ rfl
      go_wp2_with fail
      refine (FW.out _ HBw1.out).mono ?_
      rintro e w2 ⟨rfl, HQw2⟩
      have HBw2 : Sl (Below wa.heap.size wa w2) := ⟨HBw1.out.trans (HQw2.out.mono HBw1.out.size)⟩
      clear k0 k1 k2 k3 k4 k5 k6 k7 k8 k9 k10 k11
      go_wp2_with fail
      refine (AW.out _ HBw2.out).mono ?_
      rintro e w3 ⟨rfl, HQw3⟩
      have HBw3 : Sl (Below wa.heap.size wa w3) := ⟨HBw2.out.trans (HQw3.out.mono HBw2.out.size)⟩
      go_wp2
      go_ret
      exact ⟨rfl, HTOP.out _ HBw3.out⟩
    have h1' : ((s.size : Int) > 300) = False := eq_false (by omega)
    by_cases h2 : s.size = 0
    · have h2' : ((s.size : Int) == 0) = true := by rw [h2]; rfl
      have h2'' : (s.size == 0) = true := by rw [h2]; rfl
      have H2 := Sl.mk h2
      clear h2
      go_enter Tryd.func9, Tryd.ntmps9
      go_upto_region 1 with fail
      (try rw [hwa])
      (try rw [hgg])
      go_wp2_with fail
      refine (AW.out wa (Below.refl wa.heap.size wa)).mono ?_
      rintro e w1 ⟨rfl, HQw1⟩
      have HBw1 : Sl (Below wa.heap.size wa w1) := ⟨(Below.refl wa.heap.size wa).trans (HQw1.out.mono (Below.refl wa.heap.size wa).size)⟩
      have HX1 := Sl.mk (below_key HX.out HQw1.out)
      have k0 := cell_at HX1.out 0 _ rfl
      have k1 := cell_at HX1.out 1 _ rfl
      have k2 := cell_at HX1.out 2 _ rfl
      have k3 := cell_at HX1.out 3 _ rfl
      have k4 := cell_at HX1.out 4 _ rfl
      have k5 := cell_at HX1.out 5 _ rfl
      have k6 := cell_at HX1.out 6 _ rfl
      have k7 := cell_at HX1.out 7 _ rfl
      have k8 := cell_at HX1.out 8 _ rfl
      have k9 := cell_at HX1.out 9 _ rfl
      have k10 := cell_at HX1.out 10 _ rfl
      have k11 := cell_at HX1.out 11 _ rfl
      go_wp2_with fail
      refine (FW.out _ HBw1.out).mono ?_
      rintro e w2 ⟨rfl, HQw2⟩
      have HBw2 : Sl (Below wa.heap.size wa w2) := ⟨HBw1.out.trans (HQw2.out.mono HBw1.out.size)⟩
      clear k0 k1 k2 k3 k4 k5 k6 k7 k8 k9 k10 k11
      go_wp2_with fail
      refine (AW.out _ HBw2.out).mono ?_
      rintro e w3 ⟨rfl, HQw3⟩
      have HBw3 : Sl (Below wa.heap.size wa w3) := ⟨HBw2.out.trans (HQw3.out.mono HBw2.out.size)⟩
      go_wp2
      go_ret
      exact ⟨rfl, HTOP.out _ HBw3.out⟩
    have h2' : ((s.size : Int) == 0) = false := beq_eq_false_iff_ne.2 (by omega)
    have hs0 : 0 < s.size := by omega
    obtain ⟨c, hcc⟩ : ∃ c, (s[0]'hs0).toNat = c := ⟨_, rfl⟩
    have HC := Sl.mk (byte_at hs0 hcc)
    by_cases h3 : c = 47
    case neg =>
      have h3' : ((c : Int) != 47) = true := bne_iff_ne.2 (by omega)
      clear h3
      go_enter Tryd.func9, Tryd.ntmps9
      go_upto_region 1 with fail
      (try rw [hwa])
      (try rw [hgg])
      go_wp2_with fail
      refine (AW.out wa (Below.refl wa.heap.size wa)).mono ?_
      rintro e w1 ⟨rfl, HQw1⟩
      have HBw1 : Sl (Below wa.heap.size wa w1) := ⟨(Below.refl wa.heap.size wa).trans (HQw1.out.mono (Below.refl wa.heap.size wa).size)⟩
      have HX1 := Sl.mk (below_key HX.out HQw1.out)
      have k0 := cell_at HX1.out 0 _ rfl
      have k1 := cell_at HX1.out 1 _ rfl
      have k2 := cell_at HX1.out 2 _ rfl
      have k3 := cell_at HX1.out 3 _ rfl
      have k4 := cell_at HX1.out 4 _ rfl
      have k5 := cell_at HX1.out 5 _ rfl
      have k6 := cell_at HX1.out 6 _ rfl
      have k7 := cell_at HX1.out 7 _ rfl
      have k8 := cell_at HX1.out 8 _ rfl
      have k9 := cell_at HX1.out 9 _ rfl
      have k10 := cell_at HX1.out 10 _ rfl
      have k11 := cell_at HX1.out 11 _ rfl
      go_wp2_with fail
      refine (FW.out _ HBw1.out).mono ?_
      rintro e w2 ⟨rfl, HQw2⟩
      have HBw2 : Sl (Below wa.heap.size wa w2) := ⟨HBw1.out.trans (HQw2.out.mono HBw1.out.size)⟩
      clear k0 k1 k2 k3 k4 k5 k6 k7 k8 k9 k10 k11
      go_wp2_with fail
      refine (AW.out _ HBw2.out).mono ?_
      rintro e w3 ⟨rfl, HQw3⟩
      have HBw3 : Sl (Below wa.heap.size wa w3) := ⟨HBw2.out.trans (HQw3.out.mono HBw2.out.size)⟩
      go_wp2
      go_ret
      exact ⟨rfl, HTOP.out _ HBw3.out⟩
    subst h3
    obtain ⟨F1, F2, F3⟩ := fewC_yes HFW.out
    have SH : ∀ r ∈ rs, Short r := fun r hr => by
      obtain ⟨q1, q2, q3⟩ := F1 r hr
      exact ⟨by omega, by omega, by omega⟩
    have HSH := Sl.mk SH
    have HL30 := Sl.mk F2
    obtain ⟨o, ho⟩ : ∃ o, bestB (bytes s) (([] : List ByteArray).map bytes) rs = o := ⟨_, rfl⟩
    obtain ⟨u, hu⟩ : ∃ o, bestB (bytes s) (([] : List ByteArray).map bytes) (rs ++ [⟨{ data := #[47] }, { data := #[] }, { data := #[97, 108, 108] }⟩]) = o := ⟨_, rfl⟩
    obtain ⟨⟨x, y, z⟩, hr⟩ : ∃ r, o.getD Rn = r := ⟨_, rfl⟩
    obtain ⟨⟨x2, y2, z2⟩, hr2⟩ : ∃ r, u.getD Rn = r := ⟨_, rfl⟩
    have KEY : Sl (u.isSome = true ∧ ((∃ (h : o.isSome = true), same3 x y z x2 y2 z2 = true) ∨ (o.isSome = false ∧ same3 x2 y2 z2 { data := #[47] } { data := #[] } { data := #[97, 108, 108] } = true) ∨ (o.isSome = true ∧ x.size < 1))) := ⟨root_key hs0 (byte_at hs0 hcc) ho hu hr hr2⟩
    have PK : Sl (∀ V, Below wa.heap.size wa V → Calls Tryd.prog 15 #[.agg #[.slice a1 n1 c1, .slice a2 n2 c2, .int .i64 tb, .int .i64 ms, .int .i64 fr, .int .i64 ct, .int .i64 bs, .int .i64 ot, .int .i64 sh, .int .i64 id, .int .i64 po, .int .i64 cl], .string s, .slice none 0 0] V fun en w' => en = .returned (pickV o) ∧ Sl (Below V.heap.size V w')) := ⟨fun V h => by
      rw [← ho]
      exact pick_any rs a1 n1 c1 a2 n2 c2 tb ms fr ct bs ot sh id po cl s _ [] V (HV0.out.below h) HSH.out (by have := HL30.out; omega) (by unfold maxLen; omega) (str_none V) (by decide) (fun s hs => by cases hs)⟩
    have PD : Sl (∀ V a n c, Below wa.heap.size wa V → RtsAt V (.slice a n c) (rs ++ [⟨{ data := #[47] }, { data := #[] }, { data := #[97, 108, 108] }⟩]) → Calls Tryd.prog 15 #[.agg #[.slice a n c, .slice a2 n2 c2, .int .i64 tb, .int .i64 ms, .int .i64 fr, .int .i64 ct, .int .i64 bs, .int .i64 ot, .int .i64 sh, .int .i64 id, .int .i64 po, .int .i64 cl], .string s, .slice none 0 0] V fun en w' => en = .returned (pickV u) ∧ Sl (Below V.heap.size V w')) := ⟨fun V a n c h hv => by
      rw [← hu]
      exact pick_any _ a n c a2 n2 c2 tb ms fr ct bs ot sh id po cl s _ [] V hv (fun r hr => by
        rcases List.mem_append.1 hr with h | h
        · exact HSH.out r h
        · rw [List.mem_singleton] at h; subst h; exact ⟨by decide, by decide, by decide⟩) (by rw [List.length_append]; have := HL30.out; simp; omega) (by unfold maxLen; omega) (str_none V) (by decide) (fun s hs => by cases hs)⟩
    have RB : Sl (∀ V, Calls Tryd.prog 19 #[.string s, .string { data := #[47] }] V fun e w' => e = .returned (.bool true) ∧ Sl (Below V.heap.size V w')) := ⟨fun V => below_any s _ V (by unfold maxLen; omega) (by decide) true (root_below hs0 (byte_at hs0 hcc))⟩
    obtain ⟨f, hf⟩ : ∃ f, o.isSome = f := ⟨_, rfl⟩
    obtain ⟨f2, hf2⟩ : ∃ f, u.isSome = f := ⟨_, rfl⟩
    have HP1 : Sl (pickV o = .tuple #[.agg #[.string x, .string y, .string z], .bool f]) := ⟨by unfold pickV; rw [hr, hf]; rfl⟩
    have HP2 : Sl (pickV u = .tuple #[.agg #[.string x2, .string y2, .string z2], .bool f2]) := ⟨by unfold pickV; rw [hr2, hf2]; rfl⟩
    rw [hf, hf2] at KEY
    rw [HP1.out] at PK
    rw [HP2.out] at PD
    clear SH F1 F2 F3 ho hu hr hr2 hf hf2 HP1 HP2
    go_enter Tryd.func9, Tryd.ntmps9
    go_upto_region 1 with fail
    (try rw [hwa])
    (try rw [hgg])
    go_wp2_with fail
    refine (AW.out wa (Below.refl wa.heap.size wa)).mono ?_
    rintro e w1 ⟨rfl, HQw1⟩
    have HBw1 : Sl (Below wa.heap.size wa w1) := ⟨(Below.refl wa.heap.size wa).trans (HQw1.out.mono (Below.refl wa.heap.size wa).size)⟩
    have HX1 := Sl.mk (below_key HX.out HQw1.out)
    have k0 := cell_at HX1.out 0 _ rfl
    have k1 := cell_at HX1.out 1 _ rfl
    have k2 := cell_at HX1.out 2 _ rfl
    have k3 := cell_at HX1.out 3 _ rfl
    have k4 := cell_at HX1.out 4 _ rfl
    have k5 := cell_at HX1.out 5 _ rfl
    have k6 := cell_at HX1.out 6 _ rfl
    have k7 := cell_at HX1.out 7 _ rfl
    have k8 := cell_at HX1.out 8 _ rfl
    have k9 := cell_at HX1.out 9 _ rfl
    have k10 := cell_at HX1.out 10 _ rfl
    have k11 := cell_at HX1.out 11 _ rfl
    go_wp2_with fail
    refine (FW.out _ HBw1.out).mono ?_
    rintro e w2 ⟨rfl, HQw2⟩
    have HBw2 : Sl (Below wa.heap.size wa w2) := ⟨HBw1.out.trans (HQw2.out.mono HBw1.out.size)⟩
    clear k0 k1 k2 k3 k4 k5 k6 k7 k8 k9 k10 k11
    clear AW FW
    have HX2 := Sl.mk (below_key HX1.out HQw2.out)
    have k0 := cell_at HX2.out 0 _ rfl
    have k1 := cell_at HX2.out 1 _ rfl
    have k2 := cell_at HX2.out 2 _ rfl
    have k3 := cell_at HX2.out 3 _ rfl
    have k4 := cell_at HX2.out 4 _ rfl
    have k5 := cell_at HX2.out 5 _ rfl
    have k6 := cell_at HX2.out 6 _ rfl
    have k7 := cell_at HX2.out 7 _ rfl
    have k8 := cell_at HX2.out 8 _ rfl
    have k9 := cell_at HX2.out 9 _ rfl
    have k10 := cell_at HX2.out 10 _ rfl
    have k11 := cell_at HX2.out 11 _ rfl
    go_wp2_with fail
    refine (PK.out _ HBw2.out).mono ?_
    rintro e w3 ⟨rfl, HQw3⟩
    have HBw3 : Sl (Below wa.heap.size wa w3) := ⟨HBw2.out.trans (HQw3.out.mono HBw2.out.size)⟩
    have HX3 := Sl.mk (below_key HX2.out HQw3.out)
    clear k0 k1 k2 k3 k4 k5 k6 k7 k8 k9 k10 k11
    obtain ⟨w4, hw4, HQ4, hx4⟩ := box_of w3 x y z
    go_upto_region 4 with fail
    (try rw [hw4])
    have HR4 := Sl.mk hx4
    have HX4 := Sl.mk (below_key HX3.out HQ4.out)
    have HB4 : Sl (Below wa.heap.size wa w4) := ⟨HBw3.out.trans (HQ4.out.mono HBw3.out.size)⟩
    obtain ⟨g5, hg5⟩ : ∃ p, w3.heap.size = p := ⟨_, rfl⟩
    rw [hg5] at HR4
    (try rw [hg5])
    clear hw4 hx4 hg5 HX1 HX2 HX3 HQw1 HQw2 HQw3 HQ4 HBw1 HBw2 HBw3 PK
    have k0 := cell_at HX4.out 0 _ rfl
    have k1 := cell_at HX4.out 1 _ rfl
    have k2 := cell_at HX4.out 2 _ rfl
    have k3 := cell_at HX4.out 3 _ rfl
    have k4 := cell_at HX4.out 4 _ rfl
    have k5 := cell_at HX4.out 5 _ rfl
    have k6 := cell_at HX4.out 6 _ rfl
    have k7 := cell_at HX4.out 7 _ rfl
    have k8 := cell_at HX4.out 8 _ rfl
    have k9 := cell_at HX4.out 9 _ rfl
    have k10 := cell_at HX4.out 10 _ rfl
    have k11 := cell_at HX4.out 11 _ rfl
    obtain ⟨w5, hw5, HQ5, hx5⟩ := cfg_box w4 #[.slice a1 n1 c1, .slice a2 n2 c2, .int .i64 tb, .int .i64 ms, .int .i64 fr, .int .i64 ct, .int .i64 bs, .int .i64 ot, .int .i64 sh, .int .i64 id, .int .i64 po, .int .i64 cl]
    go_upto_region 5 with fail
    (try rw [hw5])
    have HD5 := Sl.mk hx5
    have HX5 := Sl.mk (below_key HX4.out HQ5.out)
    have HR5 := Sl.mk (below_key HR4.out HQ5.out)
    have HB5 : Sl (Below wa.heap.size wa w5) := ⟨HB4.out.trans (HQ5.out.mono HB4.out.size)⟩
    clear k0 k1 k2 k3 k4 k5 k6 k7 k8 k9 k10 k11
    have HWA7 : Sl (wa.heap.size ≤ w4.heap.size) := ⟨HB4.out.size⟩
    have HLT7 : Sl (w4.heap.size < w5.heap.size) := ⟨(Array.getElem?_eq_some_iff.1 hx5).1⟩
    have HR5L : Sl (g5 < w4.heap.size) := ⟨(Array.getElem?_eq_some_iff.1 HR4.out).1⟩
    obtain ⟨g7, hg7⟩ : ∃ p, w4.heap.size = p := ⟨_, rfl⟩
    rw [hg7] at HD5 HLT7 HR5L HWA7
    (try rw [hg7])
    clear hw5 hx5 HR4 HX4 HQ5 HB4 hg7
    have k0 := cell_at HX5.out 0 _ rfl
    obtain ⟨w6, hw6, HQ6⟩ : ∃ V, w5.alloc (.cells #[] 34) = V ∧ Sl (Below w5.heap.size w5 V) := ⟨_, rfl, ⟨(Below.refl _ _).alloc (Nat.le_refl _) _⟩⟩
    have HO6 : Sl (OwnT w6 w5.heap.size (.slice (some ⟨w5.heap.size, 0, none⟩) 0 0) []) := ⟨by rw [← hw6]; exact ownT_made w5 w5.heap.size (Nat.le_refl _)⟩
    have HV6 := Sl.mk ((HV0.out.below HB5.out).below HQ6.out)
    obtain ⟨v7, w7, hr7, HO7, HG7, -⟩ := add_rts HO6.out HV6.out (by have := HL30.out; simp; omega) HQ6.out.size
    have HQ7 : Sl (Below w5.heap.size w5 w7) := ⟨HO6.out.keeps HQ6.out HG7 (Nat.le_refl _) HQ6.out.size⟩
    obtain ⟨w8, hw8, HQ8, hx8⟩ := box_of w7 { data := #[47] } { data := #[] } { data := #[97, 108, 108] }
    have HO8 := Sl.mk (HO7.below HQ8.out)
    have HE8 := rts_one (e := ⟨{ data := #[47] }, { data := #[] }, { data := #[97, 108, 108] }⟩) hx8 rfl
    obtain ⟨v9, w9, hr9, HO9, HG9, -⟩ := add_rts HO8.out HE8 (by have := HL30.out; simp; omega) (Nat.le_trans HQ7.out.size HQ8.out.size)
    rw [List.nil_append] at HO9
    have HQ9 : Sl (Below w5.heap.size w5 w9) := ⟨HO8.out.keeps (HQ7.out.trans (HQ8.out.mono HQ7.out.size)) HG9 (Nat.le_refl _) (Nat.le_trans HQ7.out.size HQ8.out.size)⟩
    have HD9 := Sl.mk (below_key HD5.out HQ9.out)
    have HX9 := Sl.mk (below_key HX5.out HQ9.out)
    have HR9 := Sl.mk (below_key HR5.out HQ9.out)
    have HB9 : Sl (Below wa.heap.size wa w9) := ⟨HB5.out.trans (HQ9.out.mono HB5.out.size)⟩
    obtain ⟨a9, c9, rfl⟩ := HO9.slice
    obtain ⟨n9, hn9⟩ : ∃ n, (rs ++ [(⟨{ data := #[47] }, { data := #[] }, { data := #[97, 108, 108] }⟩ : Rb)]).length = n := ⟨_, rfl⟩
    rw [hn9] at HO9 hr9
    have d0 := cell_at HD9.out 0 _ rfl
    have fz0 : w9.frozen? ⟨g7, 0, none⟩ = false := frozen_of_row _ _ _ _ _ HD9.out
    have hg10 := grown_setCell w9 g7 0 (.slice a9 n9 c9)
    have hd10 : (w9.setCell ⟨g7, 0, none⟩ (.slice a9 n9 c9)).heap[g7]? = some (.cells #[.slice a9 n9 c9, .slice a2 n2 c2, .int .i64 tb, .int .i64 ms, .int .i64 fr, .int .i64 ct, .int .i64 bs, .int .i64 ot, .int .i64 sh, .int .i64 id, .int .i64 po, .int .i64 cl] 25 (0, 0)) := by
      rw [heap_setCell_same _ _ _ _ _ _ HD9.out]; rfl
    obtain ⟨w10, hw10⟩ : ∃ V, w9.setCell ⟨g7, 0, none⟩ (.slice a9 n9 c9) = V := ⟨_, rfl⟩
    rw [hw10] at hg10 hd10
    have HO10 : Sl (OwnT w10 w5.heap.size (.slice a9 n9 c9) (rs ++ [⟨{ data := #[47] }, { data := #[] }, { data := #[97, 108, 108] }⟩])) := ⟨HO9.kept hg10 (fun k hk e => by
      injection hk with hk
      have h1 := (HO9.heap e).1
      have h2 := HLT7.out
      omega)⟩
    have HD10 := Sl.mk hd10
    have hgl : g < wa.heap.size := (Array.getElem?_eq_some_iff.1 HX.out).1
    have HR10 : Sl (w10.heap[g5]? = some (.cells #[.string x, .string y, .string z] 34 (0, 0))) := ⟨by rw [hg10.block _ (Array.getElem?_eq_some_iff.1 HR9.out).1 (fun e => by injection e with e; have := HR5L.out; omega)]; exact HR9.out⟩
    have HB10 : Sl (Below wa.heap.size wa w10) := ⟨HB9.out.grown hg10 HB9.out.size (fun k hk => by injection hk with hk; subst hk; exact HWA7.out)⟩
    have k0w6 : w6.cell? ⟨g, 0, none⟩ = some (.slice a1 n1 c1) := cell_at (below_key HX5.out HQ6.out) 0 _ rfl
    clear hd10 hg10 HD5 HD9 HX5 HR5 HR9 HO9 HQ9 HB9 HO8 HO7 HO6 HQ6 HQ7 HQ8 HG7 HG9 HE8 HV6 hx8 HB5
    go_upto_region 6 with (at_builtin; first
      | (refine wpList_appT rfl (.tmp 40) (.tmp 42) 22 22 rfl rfl _ _ _ w7 rfl rfl hr7 ?_)
      | (refine wpList_appT rfl (.tmp 43) (.tmp 45) 22 22 rfl rfl _ _ _ w9 rfl rfl hr9 ?_))
    (try rw [hw10])
    clear hw6 hr7 hw8 hr9 hw10 d0 fz0 k0 k0w6 hn9
    have k0 := cell_at HD10.out 0 _ rfl
    have k1 := cell_at HD10.out 1 _ rfl
    have k2 := cell_at HD10.out 2 _ rfl
    have k3 := cell_at HD10.out 3 _ rfl
    have k4 := cell_at HD10.out 4 _ rfl
    have k5 := cell_at HD10.out 5 _ rfl
    have k6 := cell_at HD10.out 6 _ rfl
    have k7 := cell_at HD10.out 7 _ rfl
    have k8 := cell_at HD10.out 8 _ rfl
    have k9 := cell_at HD10.out 9 _ rfl
    have k10 := cell_at HD10.out 10 _ rfl
    have k11 := cell_at HD10.out 11 _ rfl
    go_wp2_with fail
    refine (PD.out _ _ _ _ HB10.out HO10.out.rts).mono ?_
    rintro e w11 ⟨rfl, HQw11⟩
    have HBw11 : Sl (Below wa.heap.size wa w11) := ⟨HB10.out.trans (HQw11.out.mono HB10.out.size)⟩
    have HR11 := Sl.mk (below_key HR10.out HQw11.out)
    clear k0 k1 k2 k3 k4 k5 k6 k7 k8 k9 k10 k11
    clear PD HD10 HO10 HR10 HB10 HQw11
    obtain ⟨w12, hw12, HQ12, hx12⟩ := box_of w11 x2 y2 z2
    go_upto_region 7 with fail
    (try rw [hw12])
    have HS12 := Sl.mk hx12
    have HR12 := Sl.mk (below_key HR11.out HQ12.out)
    have HB12 : Sl (Below wa.heap.size wa w12) := ⟨HBw11.out.trans (HQ12.out.mono HBw11.out.size)⟩
    obtain ⟨g8, hg8⟩ : ∃ p, w11.heap.size = p := ⟨_, rfl⟩
    rw [hg8] at HS12
    (try rw [hg8])
    clear hw12 hx12 hg8 HR11 HQ12 HBw11
    obtain ⟨hf2, hk⟩ := KEY.out
    subst hf2
    cases f with
    | true =>
      cases he : same3 x y z x2 y2 z2 with
      | true =>
        have EQ := eq_rt x y z x2 y2 z2
        rw [he] at EQ
        clear he hk KEY
        go_wp2_with fail
        refine (RB.out _).mono ?_
        rintro e w13 ⟨rfl, HQ13⟩
        have HR13 := Sl.mk (below_key HR12.out HQ13.out)
        have HS13 := Sl.mk (below_key HS12.out HQ13.out)
        have HB13 : Sl (Below wa.heap.size wa w13) := ⟨HB12.out.trans (HQ13.out.mono HB12.out.size)⟩
        obtain ⟨r0, r1, r2⟩ := rt_cells HR13.out
        obtain ⟨t0, t1, t2⟩ := rt_cells HS13.out
        go_wp2
        go_ret
        exact ⟨rfl, HTOP.out _ HB13.out⟩
      | false =>
        have EQ := eq_rt x y z x2 y2 z2
        have hx1 : x.size < 1 := by
          rcases hk with ⟨_, h⟩ | ⟨h, _⟩ | ⟨_, h⟩
          · rw [he] at h; cases h
          · cases h
          · exact h
        have hx1' : ((x.size : Int) < 1) = True := eq_true (by omega)
        rw [he] at EQ
        clear he hk KEY hx1
        go_wp2_with fail
        refine (RB.out _).mono ?_
        rintro e w13 ⟨rfl, HQ13⟩
        have HR13 := Sl.mk (below_key HR12.out HQ13.out)
        have HS13 := Sl.mk (below_key HS12.out HQ13.out)
        have HB13 : Sl (Below wa.heap.size wa w13) := ⟨HB12.out.trans (HQ13.out.mono HB12.out.size)⟩
        obtain ⟨r0, r1, r2⟩ := rt_cells HR13.out
        obtain ⟨t0, t1, t2⟩ := rt_cells HS13.out
        go_wp2
        go_ret
        exact ⟨rfl, HTOP.out _ HB13.out⟩
    | false =>
      have EQ := eq_rt x2 y2 z2 { data := #[47] } { data := #[] } { data := #[97, 108, 108] }
      have he : same3 x2 y2 z2 { data := #[47] } { data := #[] } { data := #[97, 108, 108] } = true := by
        rcases hk with ⟨h, _⟩ | ⟨_, h⟩ | ⟨h, _⟩
        · cases h
        · exact h
        · cases h
      rw [he] at EQ
      clear he hk KEY
      go_wp2_with fail
      refine (RB.out _).mono ?_
      rintro e w13 ⟨rfl, HQ13⟩
      have HR13 := Sl.mk (below_key HR12.out HQ13.out)
      have HS13 := Sl.mk (below_key HS12.out HQ13.out)
      have HB13 : Sl (Below wa.heap.size wa w13) := ⟨HB12.out.trans (HQ13.out.mono HB12.out.size)⟩
      obtain ⟨r0, r1, r2⟩ := rt_cells HR13.out
      obtain ⟨t0, t1, t2⟩ := rt_cells HS13.out
      go_wp2
      go_ret
      exact ⟨rfl, HTOP.out _ HB13.out⟩
end Go.Proofs.YtdndpicfnlcgjaaDoor.Rou
