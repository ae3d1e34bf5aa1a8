/- RouteChecks' walk. -/
import Derived.Test.YtdndpicfnlcgjaaDoorRO
import Derived.Test.YtdndpicfnlcgjaaDoorRM
import Derived.Test.YtdndpicfnlcgjaaDoorRL
set_option maxRecDepth 100000
namespace Go.Proofs.YtdndpicfnlcgjaaDoor.Rou
open Go.RowKit Nam
open RoutePlain (Rt below better fits pick stem)

set_option maxHeartbeats 8000000 in
theorem checks_walk (a1 : Option Addr) (n1 c1 : Nat) (a2 : Option Addr) (n2 c2 : Nat) (tb ms fr ct bs ot sh id po cl : Int) (rs : List Rb) (os : List ByteArray) (W : World) (hg : Globs W) (hc : RtsAt W (.slice a1 n1 c1) rs ∧ (∀ r ∈ rs, RbOk r) ∧ rs.length ≤ maxLen) (ho : StrA W (.slice a2 n2 c2) os ∧ os.length ≤ maxLen ∧ ∀ s ∈ os, s.size ≤ maxLen) : Calls Tryd.prog 3 #[.agg #[.slice a1 n1 c1, .slice a2 n2 c2, .int .i64 tb, .int .i64 ms, .int .i64 fr, .int .i64 ct, .int .i64 bs, .int .i64 ot, .int .i64 sh, .int .i64 id, .int .i64 po, .int .i64 cl]] W fun e w' => e = .returned (.bool true) ∧ Below W.heap.size W w' := by
  obtain ⟨wa, hwa, HBa, hx⟩ := cfg_box W #[.slice a1 n1 c1, .slice a2 n2 c2, .int .i64 tb, .int .i64 ms, .int .i64 fr, .int .i64 ct, .int .i64 bs, .int .i64 ot, .int .i64 sh, .int .i64 id, .int .i64 po, .int .i64 cl]
  have HX := Sl.mk hx
  obtain ⟨g, hgg⟩ : ∃ g, W.heap.size = g := ⟨_, rfl⟩
  have HSZ : Sl (g ≤ wa.heap.size) := ⟨by rw [← hgg]; exact HBa.out.size⟩
  have AW : Sl (∀ V, Below wa.heap.size wa V → Calls Tryd.prog 10 #[] V fun e w' => e = .returned (.bool true) ∧ Sl (Below V.heap.size V w')) := ⟨fun V h => awake_any V ((hg.of HBa.out).of h)⟩
  obtain ⟨fw, hfw⟩ : ∃ f, fewC rs os = f := ⟨_, rfl⟩
  have HFW := Sl.mk hfw
  have FW : Sl (∀ V, Below wa.heap.size wa V → Calls Tryd.prog 11 #[.agg #[.slice a1 n1 c1, .slice a2 n2 c2, .int .i64 tb, .int .i64 ms, .int .i64 fr, .int .i64 ct, .int .i64 bs, .int .i64 ot, .int .i64 sh, .int .i64 id, .int .i64 po, .int .i64 cl]] V fun en w' => en = .returned (.bool fw) ∧ Sl (Below V.heap.size V w')) := ⟨fun V h => rfew_any rs a1 n1 c1 a2 n2 c2 tb ms fr ct bs ot sh id po cl os V ((hc.1.below HBa.out).below h) hc.2.1 hc.2.2 ((ho.1.below HBa.out).below h) ho.2.1 ho.2.2 fw hfw⟩
  have HV0 := Sl.mk (hc.1.below HBa.out)
  have HO0 := Sl.mk (ho.1.below HBa.out)
  have HOKR := Sl.mk hc.2.1
  have HG0 := Sl.mk (hg.of HBa.out)
  rw [hgg] at HX HBa
  have HTOP : Sl (∀ V, Below wa.heap.size wa V → Below W.heap.size W V) := ⟨fun V h => by rw [hgg]; exact HBa.out.trans (h.mono HSZ.out)⟩
  clear hx hg hc ho hfw
  cases fw with
  | false =>
    go_enter Tryd.func3, Tryd.ntmps3
    go_upto_region 1 with fail
    (try rw [hwa])
    (try rw [hgg])
    go_wp2_with fail
    refine (AW.out wa (Below.refl wa.heap.size wa)).mono ?_
    rintro e w1 ⟨rfl, HQw1⟩
    have HBw1 : Sl (Below wa.heap.size wa w1) := ⟨(Below.refl wa.heap.size wa).trans (HQw1.out.mono (Below.refl wa.heap.size wa).size)⟩
    have HX1 := Sl.mk (below_key HX.out HQw1.out)
    have k0 := cell_at HX1.out 0 _ rfl
    have k1 := cell_at HX1.out 1 _ rfl
    have k2 := cell_at HX1.out 2 _ rfl
    have k3 := cell_at HX1.out 3 _ rfl
    have k4 := cell_at HX1.out 4 _ rfl
    have k5 := cell_at HX1.out 5 _ rfl
    have k6 := cell_at HX1.out 6 _ rfl
    have k7 := cell_at HX1.out 7 _ rfl
    have k8 := cell_at HX1.out 8 _ rfl
    have k9 := cell_at HX1.out 9 _ rfl
    have k10 := cell_at HX1.out 10 _ rfl
    have k11 := cell_at HX1.out 11 _ rfl
    go_wp2_with fail
    refine (FW.out _ HBw1.out).mono ?_
    rintro e w2 ⟨rfl, HQw2⟩
    have HBw2 : Sl (Below wa.heap.size wa w2) := ⟨HBw1.out.trans (HQw2.out.mono HBw1.out.size)⟩
    clear k0 k1 k2 k3 k4 k5 k6 k7 k8 k9 k10 k11
    go_wp2_with fail
    refine (AW.out _ HBw2.out).mono ?_
    rintro e w3 ⟨rfl, HQw3⟩
    have HBw3 : Sl (Below wa.heap.size wa w3) := ⟨HBw2.out.trans (HQw3.out.mono HBw2.out.size)⟩
    go_wp2
    go_ret
    exact ⟨rfl, HTOP.out _ HBw3.out⟩
  | true =>
    obtain ⟨F1, F2, F3⟩ := fewC_yes HFW.out
    have SH : ∀ r ∈ rs, Short r := fun r hr => by
      obtain ⟨q1, q2, q3⟩ := F1 r hr
      exact ⟨by omega, by omega, by omega⟩
    obtain ⟨b, hb⟩ : ∃ b, checkB rs n2 tb ms fr ct bs ot sh id po cl = b := ⟨_, rfl⟩
    have RC : Sl (∀ V, Below wa.heap.size wa V → Calls Tryd.prog 12 #[.agg #[.slice a1 n1 c1, .slice a2 n2 c2, .int .i64 tb, .int .i64 ms, .int .i64 fr, .int .i64 ct, .int .i64 bs, .int .i64 ot, .int .i64 sh, .int .i64 id, .int .i64 po, .int .i64 cl]] V fun en w' => en = .returned (.bool b) ∧ Sl (Below V.heap.size V w')) := ⟨fun V h => rcheck_any rs a1 n1 c1 a2 n2 c2 tb ms fr ct bs ot sh id po cl V (HV0.out.below h) SH (by omega) b hb⟩
    have CH : Sl (∀ V, Below wa.heap.size wa V → Calls Tryd.prog 13 #[.agg #[.slice a1 n1 c1, .slice a2 n2 c2, .int .i64 tb, .int .i64 ms, .int .i64 fr, .int .i64 ct, .int .i64 bs, .int .i64 ot, .int .i64 sh, .int .i64 id, .int .i64 po, .int .i64 cl]] V fun en w' => en = .returned (.int .i64 (errOf b)) ∧ Sl (Below V.heap.size V w')) := ⟨fun V h => check_any rs a1 n1 c1 a2 n2 c2 tb ms fr ct bs ot sh id po cl V (HG0.out.of h) (HV0.out.below h) HOKR.out (by omega) b hb⟩
    clear SH F1 F2 F3 hb
    go_enter Tryd.func3, Tryd.ntmps3
    go_upto_region 1 with fail
    (try rw [hwa])
    (try rw [hgg])
    go_wp2_with fail
    refine (AW.out wa (Below.refl wa.heap.size wa)).mono ?_
    rintro e w1 ⟨rfl, HQw1⟩
    have HBw1 : Sl (Below wa.heap.size wa w1) := ⟨(Below.refl wa.heap.size wa).trans (HQw1.out.mono (Below.refl wa.heap.size wa).size)⟩
    have HX1 := Sl.mk (below_key HX.out HQw1.out)
    have k0 := cell_at HX1.out 0 _ rfl
    have k1 := cell_at HX1.out 1 _ rfl
    have k2 := cell_at HX1.out 2 _ rfl
    have k3 := cell_at HX1.out 3 _ rfl
    have k4 := cell_at HX1.out 4 _ rfl
    have k5 := cell_at HX1.out 5 _ rfl
    have k6 := cell_at HX1.out 6 _ rfl
    have k7 := cell_at HX1.out 7 _ rfl
    have k8 := cell_at HX1.out 8 _ rfl
    have k9 := cell_at HX1.out 9 _ rfl
    have k10 := cell_at HX1.out 10 _ rfl
    have k11 := cell_at HX1.out 11 _ rfl
    go_wp2_with fail
    refine (FW.out _ HBw1.out).mono ?_
    rintro e w2 ⟨rfl, HQw2⟩
    have HBw2 : Sl (Below wa.heap.size wa w2) := ⟨HBw1.out.trans (HQw2.out.mono HBw1.out.size)⟩
    clear k0 k1 k2 k3 k4 k5 k6 k7 k8 k9 k10 k11
    have HX2 := Sl.mk (below_key HX1.out HQw2.out)
    have k0 := cell_at HX2.out 0 _ rfl
    have k1 := cell_at HX2.out 1 _ rfl
    have k2 := cell_at HX2.out 2 _ rfl
    have k3 := cell_at HX2.out 3 _ rfl
    have k4 := cell_at HX2.out 4 _ rfl
    have k5 := cell_at HX2.out 5 _ rfl
    have k6 := cell_at HX2.out 6 _ rfl
    have k7 := cell_at HX2.out 7 _ rfl
    have k8 := cell_at HX2.out 8 _ rfl
    have k9 := cell_at HX2.out 9 _ rfl
    have k10 := cell_at HX2.out 10 _ rfl
    have k11 := cell_at HX2.out 11 _ rfl
    go_wp2_with fail
    refine (RC.out _ HBw2.out).mono ?_
    rintro e w3 ⟨rfl, HQw3⟩
    have HBw3 : Sl (Below wa.heap.size wa w3) := ⟨HBw2.out.trans (HQw3.out.mono HBw2.out.size)⟩
    have HX3 := Sl.mk (below_key HX2.out HQw3.out)
    clear k0 k1 k2 k3 k4 k5 k6 k7 k8 k9 k10 k11
    have k0 := cell_at HX3.out 0 _ rfl
    have k1 := cell_at HX3.out 1 _ rfl
    have k2 := cell_at HX3.out 2 _ rfl
    have k3 := cell_at HX3.out 3 _ rfl
    have k4 := cell_at HX3.out 4 _ rfl
    have k5 := cell_at HX3.out 5 _ rfl
    have k6 := cell_at HX3.out 6 _ rfl
    have k7 := cell_at HX3.out 7 _ rfl
    have k8 := cell_at HX3.out 8 _ rfl
    have k9 := cell_at HX3.out 9 _ rfl
    have k10 := cell_at HX3.out 10 _ rfl
    have k11 := cell_at HX3.out 11 _ rfl
    cases b with
    | true =>
      have he : errOf true = 0 := rfl
      rw [he] at CH
      go_wp2_with fail
      refine (CH.out _ HBw3.out).mono ?_
      rintro e w4 ⟨rfl, HQw4⟩
      have HBw4 : Sl (Below wa.heap.size wa w4) := ⟨HBw3.out.trans (HQw4.out.mono HBw3.out.size)⟩
      go_wp2
      go_ret
      exact ⟨rfl, HTOP.out _ HBw4.out⟩
    | false =>
      have he : errOf false = 150 := rfl
      rw [he] at CH
      go_wp2_with fail
      refine (CH.out _ HBw3.out).mono ?_
      rintro e w4 ⟨rfl, HQw4⟩
      have HBw4 : Sl (Below wa.heap.size wa w4) := ⟨HBw3.out.trans (HQw4.out.mono HBw3.out.size)⟩
      go_wp2
      go_ret
      exact ⟨rfl, HTOP.out _ HBw4.out⟩
end Go.Proofs.YtdndpicfnlcgjaaDoor.Rou
