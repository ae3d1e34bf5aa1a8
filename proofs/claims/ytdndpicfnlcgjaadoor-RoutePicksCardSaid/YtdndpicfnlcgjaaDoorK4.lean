/- RoutePicks' walk. -/
import Derived.Test.YtdndpicfnlcgjaaDoorRP
import Derived.Test.YtdndpicfnlcgjaaDoorRM
import Derived.Test.YtdndpicfnlcgjaaDoorRK
set_option maxRecDepth 100000
namespace Go.Proofs.YtdndpicfnlcgjaaDoor.Rou
open Go.RowKit Nam
open RoutePlain (Rt below better fits pick stem)

theorem adm_shape (a : Bool) (o : Option Rb) (b : Bool) : ∃ (x y z : ByteArray) (n : Int), admV a o b = .tuple #[.agg #[.string x, .string y, .string z], .int .i64 n] := by
  unfold admV
  cases a with
  | false => exact ⟨_, _, _, _, rfl⟩
  | true =>
    cases o with
    | none => exact ⟨_, _, _, _, rfl⟩
    | some r => cases b <;> exact ⟨_, _, _, _, rfl⟩
theorem rt_self (a b c : ByteArray) (W : World) : (Op.equalIn 10000 34 (.agg #[.string a, .string b, .string c]) (.agg #[.string a, .string b, .string c])).run Tryd.prog W = .ok true W := by
  rw [eq_rt]; unfold same3; simp
set_option maxHeartbeats 16000000 in
theorem picks_walk (a1 : Option Addr) (n1 c1 : Nat) (a2 : Option Addr) (n2 c2 : Nat) (tb ms fr ct bs ot sh id po cl : Int) (rs : List Rb) (os : List ByteArray) (path host key origin : ByteArray) (pa : Option Addr) (pn pc : Nat) (ps : List ByteArray) (n : Int) (W : World) (hg : Globs W) (hc : RtsAt W (.slice a1 n1 c1) rs ∧ (∀ r ∈ rs, RbOk r) ∧ rs.length ≤ maxLen) (ho : StrA W (.slice a2 n2 c2) os ∧ os.length ≤ maxLen ∧ ∀ s ∈ os, s.size ≤ maxLen) (hp : path.size ≤ maxLen ∧ origin.size ≤ maxLen) (hq : StrA W (.slice pa pn pc) ps ∧ ps.length ≤ maxLen ∧ ∀ s ∈ ps, s.size ≤ maxLen) : Calls Tryd.prog 4 #[.agg #[.slice a1 n1 c1, .slice a2 n2 c2, .int .i64 tb, .int .i64 ms, .int .i64 fr, .int .i64 ct, .int .i64 bs, .int .i64 ot, .int .i64 sh, .int .i64 id, .int .i64 po, .int .i64 cl], .agg #[.string path, .string host, .string key, .string origin, .slice pa pn pc], .int .i64 n] W fun e w' => e = .returned (.bool true) ∧ Below W.heap.size W w' := by
  obtain ⟨wz, hwz, HBz, hz⟩ := cfg_box W #[.slice a1 n1 c1, .slice a2 n2 c2, .int .i64 tb, .int .i64 ms, .int .i64 fr, .int .i64 ct, .int .i64 bs, .int .i64 ot, .int .i64 sh, .int .i64 id, .int .i64 po, .int .i64 cl]
  obtain ⟨wa, hwa, HBy, hy⟩ := off_box wz #[.string path, .string host, .string key, .string origin, .slice pa pn pc]
  have HBa : Sl (Below W.heap.size W wa) := ⟨HBz.out.trans (HBy.out.mono HBz.out.size)⟩
  have HX := Sl.mk (below_key hz HBy.out)
  have HOF := Sl.mk hy
  obtain ⟨go, hgo⟩ : ∃ g, wz.heap.size = g := ⟨_, rfl⟩
  have HP9 : Sl (path.size ≤ 9223372036854775807 ∧ origin.size ≤ 9223372036854775807) := ⟨by have := hp.1; have := hp.2; unfold maxLen at *; omega⟩
  have HQ0 := Sl.mk (hq.1.below HBa.out)
  have HQL := Sl.mk hq.2.1
  have HQS := Sl.mk hq.2.2
  have HPN : Sl (pn = ps.length) := ⟨by obtain ⟨_, _, _, _, h, _⟩ := hq.1; injection h⟩
  obtain ⟨f6, hf6⟩ : ∃ f, fewB ps = f := ⟨_, rfl⟩
  have HF6 := Sl.mk hf6
  have F6 : Sl (∀ V, Below wa.heap.size wa V → Calls Tryd.prog 14 #[.slice pa pn pc] V fun e w' => e = .returned (.bool f6) ∧ V = w') := ⟨fun V h => by rw [← hf6]; exact few_any ps _ V ((hq.1.below HBa.out).below h) hq.2.1 hq.2.2⟩
  obtain ⟨g, hgg⟩ : ∃ g, W.heap.size = g := ⟨_, rfl⟩
  have HSZ : Sl (g ≤ wa.heap.size) := ⟨by rw [← hgg]; exact HBa.out.size⟩
  have AW : Sl (∀ V, Below wa.heap.size wa V → Calls Tryd.prog 10 #[] V fun e w' => e = .returned (.bool true) ∧ Sl (Below V.heap.size V w')) := ⟨fun V h => awake_any V ((hg.of HBa.out).of h)⟩
  obtain ⟨fw, hfw⟩ : ∃ f, fewC rs os = f := ⟨_, rfl⟩
  have HFW := Sl.mk hfw
  have FW : Sl (∀ V, Below wa.heap.size wa V → Calls Tryd.prog 11 #[.agg #[.slice a1 n1 c1, .slice a2 n2 c2, .int .i64 tb, .int .i64 ms, .int .i64 fr, .int .i64 ct, .int .i64 bs, .int .i64 ot, .int .i64 sh, .int .i64 id, .int .i64 po, .int .i64 cl]] V fun en w' => en = .returned (.bool fw) ∧ Sl (Below V.heap.size V w')) := ⟨fun V h => rfew_any rs a1 n1 c1 a2 n2 c2 tb ms fr ct bs ot sh id po cl os V ((hc.1.below HBa.out).below h) hc.2.1 hc.2.2 ((ho.1.below HBa.out).below h) ho.2.1 ho.2.2 fw hfw⟩
  have HV0 := Sl.mk (hc.1.below HBa.out)
  have HO0 := Sl.mk (ho.1.below HBa.out)
  have HOKR := Sl.mk hc.2.1
  have HG0 := Sl.mk (hg.of HBa.out)
  rw [hgg] at HX HBa
  rw [hgo] at HOF
  have HTOP : Sl (∀ V, Below wa.heap.size wa V → Below W.heap.size W V) := ⟨fun V h => by rw [hgg]; exact HBa.out.trans (h.mono HSZ.out)⟩
  clear hz hy HBz HBy hg hc ho hfw hf6 hp hq
  cases fw with
  | false =>
    go_enter Tryd.func4, Tryd.ntmps4
    go_upto_region 1 with fail
    (try rw [hwa])
    (try rw [hgg])
    (try rw [hwz, hwa])
    (try rw [hgo])
    (try rw [hgg])
    go_wp2_with fail
    refine (AW.out wa (Below.refl wa.heap.size wa)).mono ?_
    rintro e w1 ⟨rfl, HQw1⟩
    have HBw1 : Sl (Below wa.heap.size wa w1) := ⟨(Below.refl wa.heap.size wa).trans (HQw1.out.mono (Below.refl wa.heap.size wa).size)⟩
    have HX1 := Sl.mk (below_key HX.out HQw1.out)
    have HO1 := Sl.mk (below_key HOF.out HQw1.out)
    have k0 := cell_at HX1.out 0 _ rfl
    have k1 := cell_at HX1.out 1 _ rfl
    have k2 := cell_at HX1.out 2 _ rfl
    have k3 := cell_at HX1.out 3 _ rfl
    have k4 := cell_at HX1.out 4 _ rfl
    have k5 := cell_at HX1.out 5 _ rfl
    have k6 := cell_at HX1.out 6 _ rfl
    have k7 := cell_at HX1.out 7 _ rfl
    have k8 := cell_at HX1.out 8 _ rfl
    have k9 := cell_at HX1.out 9 _ rfl
    have k10 := cell_at HX1.out 10 _ rfl
    have k11 := cell_at HX1.out 11 _ rfl
    go_wp2_with fail
    refine (FW.out _ HBw1.out).mono ?_
    rintro e w2 ⟨rfl, HQw2⟩
    have HBw2 : Sl (Below wa.heap.size wa w2) := ⟨HBw1.out.trans (HQw2.out.mono HBw1.out.size)⟩
    have HX2 := Sl.mk (below_key HX1.out HQw2.out)
    have HO2 := Sl.mk (below_key HO1.out HQw2.out)
    clear k0 k1 k2 k3 k4 k5 k6 k7 k8 k9 k10 k11
    go_wp2_with fail
    refine (AW.out _ HBw2.out).mono ?_
    rintro e wE ⟨rfl, HQwE⟩
    have HBwE : Sl (Below wa.heap.size wa wE) := ⟨HBw2.out.trans (HQwE.out.mono HBw2.out.size)⟩
    go_wp2
    go_ret
    exact ⟨rfl, HTOP.out _ HBwE.out⟩
  | true =>
    have P9 := HP9.out.1
    have O9 := HP9.out.2
    by_cases h1 : path.size > 300
    · have h1' : ((path.size : Int) > 300) = True := eq_true (by omega)
      go_enter Tryd.func4, Tryd.ntmps4
      go_upto_region 1 with fail
      (try rw [hwa])
      (try rw [hgg])
      (try rw [hwz, hwa])
      (try rw [hgo])
      (try rw [hgg])
      go_wp2_with fail
      refine (AW.out wa (Below.refl wa.heap.size wa)).mono ?_
      rintro e w1 ⟨rfl, HQw1⟩
      have HBw1 : Sl (Below wa.heap.size wa w1) := ⟨(Below.refl wa.heap.size wa).trans (HQw1.out.mono (Below.refl wa.heap.size wa).size)⟩
      have HX1 := Sl.mk (below_key HX.out HQw1.out)
      have HO1 := Sl.mk (below_key HOF.out HQw1.out)
      have k0 := cell_at HX1.out 0 _ rfl
      have k1 := cell_at HX1.out 1 _ rfl
      have k2 := cell_at HX1.out 2 _ rfl
      have k3 := cell_at HX1.out 3 _ rfl
      have k4 := cell_at HX1.out 4 _ rfl
      have k5 := cell_at HX1.out 5 _ rfl
      have k6 := cell_at HX1.out 6 _ rfl
      have k7 := cell_at HX1.out 7 _ rfl
      have k8 := cell_at HX1.out 8 _ rfl
      have k9 := cell_at HX1.out 9 _ rfl
      have k10 := cell_at HX1.out 10 _ rfl
      have k11 := cell_at HX1.out 11 _ rfl
      go_wp2_with fail
      refine (FW.out _ HBw1.out).mono ?_
      rintro e w2 ⟨rfl, HQw2⟩
      have HBw2 : Sl (Below wa.heap.size wa w2) := ⟨HBw1.out.trans (HQw2.out.mono HBw1.out.size)⟩
      have HX2 := Sl.mk (below_key HX1.out HQw2.out)
      have HO2 := Sl.mk (below_key HO1.out HQw2.out)
      clear k0 k1 k2 k3 k4 k5 k6 k7 k8 k9 k10 k11
      have o0 := cell_at HO2.out 0 _ rfl
      have o3 := cell_at HO2.out 3 _ rfl
      have o4 := cell_at HO2.out 4 _ rfl
      go_wp2_with fail
      refine (AW.out _ HBw2.out).mono ?_
      rintro e wE ⟨rfl, HQwE⟩
      have HBwE : Sl (Below wa.heap.size wa wE) := ⟨HBw2.out.trans (HQwE.out.mono HBw2.out.size)⟩
      go_wp2
      go_ret
      exact ⟨rfl, HTOP.out _ HBwE.out⟩
    have h1' : ((path.size : Int) > 300) = False := eq_false (by omega)
    by_cases h2 : origin.size > 300
    · have h2' : ((origin.size : Int) > 300) = True := eq_true (by omega)
      go_enter Tryd.func4, Tryd.ntmps4
      go_upto_region 1 with fail
      (try rw [hwa])
      (try rw [hgg])
      (try rw [hwz, hwa])
      (try rw [hgo])
      (try rw [hgg])
      go_wp2_with fail
      refine (AW.out wa (Below.refl wa.heap.size wa)).mono ?_
      rintro e w1 ⟨rfl, HQw1⟩
      have HBw1 : Sl (Below wa.heap.size wa w1) := ⟨(Below.refl wa.heap.size wa).trans (HQw1.out.mono (Below.refl wa.heap.size wa).size)⟩
      have HX1 := Sl.mk (below_key HX.out HQw1.out)
      have HO1 := Sl.mk (below_key HOF.out HQw1.out)
      have k0 := cell_at HX1.out 0 _ rfl
      have k1 := cell_at HX1.out 1 _ rfl
      have k2 := cell_at HX1.out 2 _ rfl
      have k3 := cell_at HX1.out 3 _ rfl
      have k4 := cell_at HX1.out 4 _ rfl
      have k5 := cell_at HX1.out 5 _ rfl
      have k6 := cell_at HX1.out 6 _ rfl
      have k7 := cell_at HX1.out 7 _ rfl
      have k8 := cell_at HX1.out 8 _ rfl
      have k9 := cell_at HX1.out 9 _ rfl
      have k10 := cell_at HX1.out 10 _ rfl
      have k11 := cell_at HX1.out 11 _ rfl
      go_wp2_with fail
      refine (FW.out _ HBw1.out).mono ?_
      rintro e w2 ⟨rfl, HQw2⟩
      have HBw2 : Sl (Below wa.heap.size wa w2) := ⟨HBw1.out.trans (HQw2.out.mono HBw1.out.size)⟩
      have HX2 := Sl.mk (below_key HX1.out HQw2.out)
      have HO2 := Sl.mk (below_key HO1.out HQw2.out)
      clear k0 k1 k2 k3 k4 k5 k6 k7 k8 k9 k10 k11
      have o0 := cell_at HO2.out 0 _ rfl
      have o3 := cell_at HO2.out 3 _ rfl
      have o4 := cell_at HO2.out 4 _ rfl
      go_wp2_with fail
      refine (AW.out _ HBw2.out).mono ?_
      rintro e wE ⟨rfl, HQwE⟩
      have HBwE : Sl (Below wa.heap.size wa wE) := ⟨HBw2.out.trans (HQwE.out.mono HBw2.out.size)⟩
      go_wp2
      go_ret
      exact ⟨rfl, HTOP.out _ HBwE.out⟩
    have h2' : ((origin.size : Int) > 300) = False := eq_false (by omega)
    cases f6 with
    | false =>
      go_enter Tryd.func4, Tryd.ntmps4
      go_upto_region 1 with fail
      (try rw [hwa])
      (try rw [hgg])
      (try rw [hwz, hwa])
      (try rw [hgo])
      (try rw [hgg])
      go_wp2_with fail
      refine (AW.out wa (Below.refl wa.heap.size wa)).mono ?_
      rintro e w1 ⟨rfl, HQw1⟩
      have HBw1 : Sl (Below wa.heap.size wa w1) := ⟨(Below.refl wa.heap.size wa).trans (HQw1.out.mono (Below.refl wa.heap.size wa).size)⟩
      have HX1 := Sl.mk (below_key HX.out HQw1.out)
      have HO1 := Sl.mk (below_key HOF.out HQw1.out)
      have k0 := cell_at HX1.out 0 _ rfl
      have k1 := cell_at HX1.out 1 _ rfl
      have k2 := cell_at HX1.out 2 _ rfl
      have k3 := cell_at HX1.out 3 _ rfl
      have k4 := cell_at HX1.out 4 _ rfl
      have k5 := cell_at HX1.out 5 _ rfl
      have k6 := cell_at HX1.out 6 _ rfl
      have k7 := cell_at HX1.out 7 _ rfl
      have k8 := cell_at HX1.out 8 _ rfl
      have k9 := cell_at HX1.out 9 _ rfl
      have k10 := cell_at HX1.out 10 _ rfl
      have k11 := cell_at HX1.out 11 _ rfl
      go_wp2_with fail
      refine (FW.out _ HBw1.out).mono ?_
      rintro e w2 ⟨rfl, HQw2⟩
      have HBw2 : Sl (Below wa.heap.size wa w2) := ⟨HBw1.out.trans (HQw2.out.mono HBw1.out.size)⟩
      have HX2 := Sl.mk (below_key HX1.out HQw2.out)
      have HO2 := Sl.mk (below_key HO1.out HQw2.out)
      clear k0 k1 k2 k3 k4 k5 k6 k7 k8 k9 k10 k11
      have o0 := cell_at HO2.out 0 _ rfl
      have o3 := cell_at HO2.out 3 _ rfl
      have o4 := cell_at HO2.out 4 _ rfl
      go_wp2_with fail
      refine (F6.out _ HBw2.out).mono ?_
      rintro e w3 ⟨rfl, rfl⟩
      go_wp2_with fail
      refine (AW.out _ HBw2.out).mono ?_
      rintro e wE ⟨rfl, HQwE⟩
      have HBwE : Sl (Below wa.heap.size wa wE) := ⟨HBw2.out.trans (HQwE.out.mono HBw2.out.size)⟩
      go_wp2
      go_ret
      exact ⟨rfl, HTOP.out _ HBwE.out⟩
    | true =>
      obtain ⟨F1, F2, F3⟩ := fewC_yes HFW.out
      obtain ⟨G1, G2⟩ := fewB_yes HF6.out
      obtain ⟨-, F4⟩ := fewB_yes F3
      have HPSL : Sl (ps.length ≤ 30) := ⟨G2⟩
      have HSH : Sl (∀ r ∈ rs, Short r) := ⟨fun r hr => by
        obtain ⟨q1, q2, q3⟩ := F1 r hr
        exact ⟨by omega, by omega, by omega⟩⟩
      have HL30 := Sl.mk F2
      have HOL := Sl.mk F4
      have hpm : path.size ≤ maxLen := by unfold maxLen; omega
      obtain ⟨o, ho⟩ : ∃ o, bestB (bytes path) (ps.map bytes) rs = o := ⟨_, rfl⟩
      obtain ⟨al, hal⟩ : ∃ a, allowB origin os = a := ⟨_, rfl⟩
      obtain ⟨⟨x1, y1, z1⟩, hr⟩ : ∃ r, o.getD Rn = r := ⟨_, rfl⟩
      obtain ⟨f, hf⟩ : ∃ f, o.isSome = f := ⟨_, rfl⟩
      have HP1 : Sl (pickV o = .tuple #[.agg #[.string x1, .string y1, .string z1], .bool f]) := ⟨by unfold pickV; rw [hr, hf]; rfl⟩
      obtain ⟨x2, y2, z2, n2', hav⟩ : ∃ x2 y2 z2 n2', admV al o (decide (tb ≤ n)) = .tuple #[.agg #[.string x2, .string y2, .string z2], .int .i64 n2'] := adm_shape _ _ _
      have PKV : Sl (∀ V v, Below wa.heap.size wa V → StrA V v ps → Calls Tryd.prog 15 #[.agg #[.slice a1 n1 c1, .slice a2 n2 c2, .int .i64 tb, .int .i64 ms, .int .i64 fr, .int .i64 ct, .int .i64 bs, .int .i64 ot, .int .i64 sh, .int .i64 id, .int .i64 po, .int .i64 cl], .string path, v] V fun en w' => en = .returned (.tuple #[.agg #[.string x1, .string y1, .string z1], .bool f]) ∧ Sl (Below V.heap.size V w')) := ⟨fun V v h hv => by
        rw [← HP1.out, ← ho]
        exact pick_any rs a1 n1 c1 a2 n2 c2 tb ms fr ct bs ot sh id po cl path v ps V (HV0.out.below h) HSH.out (by have := HL30.out; omega) hpm hv (by have := HPSL.out; omega) HQS.out⟩
      have RPK : Sl (∀ V, Below wa.heap.size wa V → Calls Tryd.prog 16 #[.agg #[.slice a1 n1 c1, .slice a2 n2 c2, .int .i64 tb, .int .i64 ms, .int .i64 fr, .int .i64 ct, .int .i64 bs, .int .i64 ot, .int .i64 sh, .int .i64 id, .int .i64 po, .int .i64 cl], .string path, .slice pa pn pc] V fun en w' => en = .returned (.tuple #[.agg #[.string x1, .string y1, .string z1], .bool f]) ∧ Sl (Below V.heap.size V w')) := ⟨fun V h => by
        rw [← HP1.out, ← ho]
        exact rpick_any rs a1 n1 c1 a2 n2 c2 tb ms fr ct bs ot sh id po cl path _ ps V (HV0.out.below h) HSH.out (by have := HL30.out; omega) hpm (HQ0.out.below h) (by have := HPSL.out; omega) HQS.out⟩
      have AD : Sl (∀ V, Below wa.heap.size wa V → Calls Tryd.prog 17 #[.agg #[.slice a1 n1 c1, .slice a2 n2 c2, .int .i64 tb, .int .i64 ms, .int .i64 fr, .int .i64 ct, .int .i64 bs, .int .i64 ot, .int .i64 sh, .int .i64 id, .int .i64 po, .int .i64 cl], .agg #[.string path, .string host, .string key, .string origin, .slice pa pn pc], .int .i64 n] V fun en w' => en = .returned (.tuple #[.agg #[.string x2, .string y2, .string z2], .int .i64 n2']) ∧ Sl (Below V.heap.size V w')) := ⟨fun V h => by
        rw [← hav, ← hal, ← ho]
        have h2 := HQ0.out.below h
        rw [HPN.out] at h2 ⊢
        exact admit_any rs a1 n1 c1 a2 n2 c2 tb ms fr ct bs ot sh id po cl path host key origin pa pc ps os n V (HV0.out.below h) (HO0.out.below h) (by have := HOL.out; omega) HSH.out (by have := HL30.out; omega) hpm h2 (by have := HPSL.out; omega) HQS.out⟩
      have RAD : Sl (∀ V, Below wa.heap.size wa V → Calls Tryd.prog 18 #[.agg #[.slice a1 n1 c1, .slice a2 n2 c2, .int .i64 tb, .int .i64 ms, .int .i64 fr, .int .i64 ct, .int .i64 bs, .int .i64 ot, .int .i64 sh, .int .i64 id, .int .i64 po, .int .i64 cl], .agg #[.string path, .string host, .string key, .string origin, .slice pa pn pc], .int .i64 n] V fun en w' => en = .returned (.tuple #[.agg #[.string x2, .string y2, .string z2], .int .i64 n2']) ∧ Sl (Below V.heap.size V w')) := ⟨fun V h => by
        rw [← hav, ← hal, ← ho]
        have h2 := HQ0.out.below h
        rw [HPN.out] at h2 ⊢
        exact radmit_any rs a1 n1 c1 a2 n2 c2 tb ms fr ct bs ot sh id po cl path host key origin pa pc ps os n V (HV0.out.below h) (HO0.out.below h) (by have := HOL.out; omega) HSH.out (by have := HL30.out; omega) hpm h2 (by have := HPSL.out; omega) HQS.out⟩
      have EQ1 := rt_self x1 y1 z1
      have EQ2 := rt_self x2 y2 z2
      clear F1 F2 F3 F4 G1 G2 ho hal hr hf hav hpm HP1
      go_enter Tryd.func4, Tryd.ntmps4
      go_upto_region 1 with fail
      (try rw [hwa])
      (try rw [hgg])
      (try rw [hwz, hwa])
      (try rw [hgo])
      (try rw [hgg])
      go_wp2_with fail
      refine (AW.out wa (Below.refl wa.heap.size wa)).mono ?_
      rintro e w1 ⟨rfl, HQw1⟩
      have HBw1 : Sl (Below wa.heap.size wa w1) := ⟨(Below.refl wa.heap.size wa).trans (HQw1.out.mono (Below.refl wa.heap.size wa).size)⟩
      have HX1 := Sl.mk (below_key HX.out HQw1.out)
      have HO1 := Sl.mk (below_key HOF.out HQw1.out)
      have k0 := cell_at HX1.out 0 _ rfl
      have k1 := cell_at HX1.out 1 _ rfl
      have k2 := cell_at HX1.out 2 _ rfl
      have k3 := cell_at HX1.out 3 _ rfl
      have k4 := cell_at HX1.out 4 _ rfl
      have k5 := cell_at HX1.out 5 _ rfl
      have k6 := cell_at HX1.out 6 _ rfl
      have k7 := cell_at HX1.out 7 _ rfl
      have k8 := cell_at HX1.out 8 _ rfl
      have k9 := cell_at HX1.out 9 _ rfl
      have k10 := cell_at HX1.out 10 _ rfl
      have k11 := cell_at HX1.out 11 _ rfl
      go_wp2_with fail
      refine (FW.out _ HBw1.out).mono ?_
      rintro e w2 ⟨rfl, HQw2⟩
      have HBw2 : Sl (Below wa.heap.size wa w2) := ⟨HBw1.out.trans (HQw2.out.mono HBw1.out.size)⟩
      have HX2 := Sl.mk (below_key HX1.out HQw2.out)
      have HO2 := Sl.mk (below_key HO1.out HQw2.out)
      clear k0 k1 k2 k3 k4 k5 k6 k7 k8 k9 k10 k11
      have o0 := cell_at HO2.out 0 _ rfl
      have o3 := cell_at HO2.out 3 _ rfl
      have o4 := cell_at HO2.out 4 _ rfl
      go_wp2_with fail
      refine (F6.out _ HBw2.out).mono ?_
      rintro e w3 ⟨rfl, rfl⟩
      clear AW FW F6 HX1 HO1 HQw1 HQw2 HBw1 o0 o3 o4
      go_upto_region 3 with fail
      go_cut [7, 8] (fun sa sb wx => ∃ x, sa = .pointer (some ⟨x, 0, none⟩) ∧ sb = .bool f ∧ Sl (Below wa.heap.size wa wx) ∧ Sl (Below w2.heap.size w2 wx) ∧ Sl (wx.heap[x]? = some (.cells #[.string x1, .string y1, .string z1] 34 (0, 0))))
      case first =>
        obtain ⟨Rw, hRw⟩ : ∃ R, w2.drew = R := ⟨_, rfl⟩
        have HBR : Below w2.heap.size w2 Rw := by rw [← hRw]; exact (Below.refl _ _).drew
        refine wp_region_noPanic ?_
        refine wp_region_held (S := fun V => Below w2.heap.size w2 V) (by kernel_rfl) ?_
        change wpAnyH _ _ _ _ _ _ _ _ w2.drew
        rw [hRw]
        clear hRw
        refine heldTake (d := some 42) (op := .load 25 (Operand.tmp 3)) (g := none) 0 ?v0 rfl (by kernel_rfl) (by kernel_rfl) (by kernel_rfl) (by kernel_rfl) ?y0 HBR ?_
        case y0 => intro o' ho W hS; have k0 := cell_at (below_key HX2.out hS) 0 _ rfl; have k1 := cell_at (below_key HX2.out hS) 1 _ rfl; have k2 := cell_at (below_key HX2.out hS) 2 _ rfl; have k3 := cell_at (below_key HX2.out hS) 3 _ rfl; have k4 := cell_at (below_key HX2.out hS) 4 _ rfl; have k5 := cell_at (below_key HX2.out hS) 5 _ rfl; have k6 := cell_at (below_key HX2.out hS) 6 _ rfl; have k7 := cell_at (below_key HX2.out hS) 7 _ rfl; have k8 := cell_at (below_key HX2.out hS) 8 _ rfl; have k9 := cell_at (below_key HX2.out hS) 9 _ rfl; have k10 := cell_at (below_key HX2.out hS) 10 _ rfl; have k11 := cell_at (below_key HX2.out hS) 11 _ rfl; simp only [execOp, ho]; go_simp; try rfl
        simp only [Act.put, List.setIfInBounds_toArray, List.set_cons_zero, List.set_cons_succ]
        refine heldTake (d := some 43) (op := .fieldAddr 31 (Operand.tmp 4) 0) (g := none) 1 ?v1 rfl (by kernel_rfl) (by kernel_rfl) (by kernel_rfl) (by kernel_rfl) ?y1 HBR ?_
        case y1 => intro o' ho W hS; simp only [execOp, ho]; go_simp; try rfl
        simp only [Act.put, List.setIfInBounds_toArray, List.set_cons_zero, List.set_cons_succ]
        refine heldTake (d := some 44) (op := .load 9 (Operand.tmp 43)) (g := none) 2 ?v2 rfl (by kernel_rfl) (by kernel_rfl) (by kernel_rfl) (by kernel_rfl) ?y2 HBR ?_
        case y2 => intro o' ho W hS; have k0 : W.cell? ⟨go, 0, none⟩ = some (.string path) := cell_at (below_key HO2.out hS) 0 _ rfl; simp only [execOp, ho]; go_simp; try rfl
        simp only [Act.put, List.setIfInBounds_toArray, List.set_cons_zero, List.set_cons_succ]
        refine heldTake (d := some 46) (op := .fieldAddr 31 (Operand.tmp 4) 4) (g := none) 4 ?v4 rfl (by kernel_rfl) (by kernel_rfl) (by kernel_rfl) (by kernel_rfl) ?y4 HBR ?_
        case y4 => intro o' ho W hS; simp only [execOp, ho]; go_simp; try rfl
        simp only [Act.put, List.setIfInBounds_toArray, List.set_cons_zero, List.set_cons_succ]
        refine heldTake (d := some 47) (op := .load 23 (Operand.tmp 46)) (g := none) 5 ?v5 rfl (by kernel_rfl) (by kernel_rfl) (by kernel_rfl) (by kernel_rfl) ?y5 HBR ?_
        case y5 => intro o' ho W hS; have k0 : W.cell? ⟨go, 4, none⟩ = some (.slice pa pn pc) := cell_at (below_key HO2.out hS) 4 _ rfl; simp only [execOp, ho]; go_simp; try rfl
        simp only [Act.put, List.setIfInBounds_toArray, List.set_cons_zero, List.set_cons_succ]
        have HSRC : StrA Rw (.slice pa pn pc) ps := (HQ0.out.below HBw2.out).below HBR
        have RWS : w2.heap.size ≤ Rw.heap.size := HBR.size
        have BA : ∀ V, Below Rw.heap.size Rw V → Below w2.heap.size w2 V := fun V h => HBR.trans (h.mono RWS)
        have BW : ∀ V, Below w2.heap.size w2 V → Below wa.heap.size wa V := fun V h => HBw2.out.trans (h.mono HBw2.out.size)
        have EB := (Below.refl Rw.heap.size Rw).alloc (Nat.le_refl _) (.cells #[] 9)
        have EZ := (Below.refl Rw.heap.size Rw).alloc (Nat.le_refl _) (.cells #[.string { data := #[] }, .string { data := #[] }, .string { data := #[] }] 34)
        obtain ⟨va, ua, hra, HSA, HUA⟩ := copy_row HSRC (by have := HPSL.out; omega)
        obtain ⟨vb, ub, hrb, HSB, HUB, HXB⟩ := copy_row2 (o := (.cells #[.string { data := #[] }, .string { data := #[] }, .string { data := #[] }] 34)) HSRC (by have := HPSL.out; omega)
        obtain ⟨vc, uc, hrc, HSC, HUC⟩ := copy_row (HSRC.below EZ) (by have := HPSL.out; omega)
        refine heldTwo (di := some 45) (dj := some 7) (opi := .buildSlice 23 0 #[]) (opj := .alloc 34) (gi := none) (gj := none) (ti := 23) (tj := 0) 3 11 (.slice (some ⟨Rw.heap.size, 0, none⟩) 0 0) (Rw.alloc (.cells #[] 9)) (.pointer (some ⟨Rw.heap.size, 0, none⟩)) (Rw.alloc (.cells #[.string { data := #[] }, .string { data := #[] }, .string { data := #[] }] 34)) rfl rfl (by kernel_rfl) (by kernel_rfl) (by kernel_rfl) ?p1 ?q1 (BA _ EB) (BA _ EZ) ?l1 ?r1
        case p1 => intro o' ho ht; simp only [execOp, ho]; go_simp; try rfl
        case q1 => intro o' ho ht; simp only [execOp, ho]; go_simp; try rfl
        case l1 =>
          simp only [Act.put, List.setIfInBounds_toArray, List.set_cons_zero, List.set_cons_succ]
          refine heldTwo (di := some 48) (dj := some 7) (opi := .call { callee := Callee.builtin Builtin.append, args := #[Operand.tmp 45, Operand.tmp 47], argTypes := #[23, 23] }) (opj := .alloc 34) (gi := none) (gj := none) (ti := 23) (tj := 0) 6 11 (va) (ua) (.pointer (some ⟨Rw.heap.size + 1, 0, none⟩)) ((Rw.alloc (.cells #[] 9)).alloc (.cells #[.string { data := #[] }, .string { data := #[] }, .string { data := #[] }] 34)) rfl rfl (by kernel_rfl) (by kernel_rfl) (by kernel_rfl) ?p2 ?q2 (BA _ HUA) (BA _ (EB.alloc EB.size _)) ?l2 ?r2
          case p2 => intro o' ho ht; exact run_appS ho ht rfl rfl hra
          case q2 => intro o' ho ht; simp only [execOp, ho]; go_simp; first | done | rfl | simp [alloc_size]
          case l2 =>
            simp only [Act.put, List.setIfInBounds_toArray, List.set_cons_zero, List.set_cons_succ]
            refine heldAC (di := some 7) (dj := some 49) (opi := .alloc 34) (opj := .call { callee := Callee.value (Operand.func 15), args := #[Operand.tmp 42, Operand.tmp 44, Operand.tmp 48], argTypes := #[25, 9, 23] }) (ti := 0) (tj := 35) 11 7 (.pointer (some ⟨ua.heap.size, 0, none⟩)) (ua.alloc (.cells #[.string { data := #[] }, .string { data := #[] }, .string { data := #[] }] 34)) 15 #[.agg #[.slice a1 n1 c1, .slice a2 n2 c2, .int .i64 tb, .int .i64 ms, .int .i64 fr, .int .i64 ct, .int .i64 bs, .int .i64 ot, .int .i64 sh, .int .i64 id, .int .i64 po, .int .i64 cl], .string path, va] rfl rfl (by kernel_rfl) ?p3 ?q3 (BA _ (HUA.alloc HUA.size _)) ?l3 ?r3
            case p3 => intro o' ho ht; simp only [execOp, ho]; go_simp; try rfl
            case q3 => intro o' ho ht; simp only [execOp, ho]; go_simp; try rfl
            case l3 =>
              simp only [Act.put, List.setIfInBounds_toArray, List.set_cons_zero, List.set_cons_succ]
              have BZ := (Below.refl ua.heap.size ua).alloc (Nat.le_refl _) (.cells #[.string { data := #[] }, .string { data := #[] }, .string { data := #[] }] 34)
              have SV := HSA.below BZ
              have BU := BA _ (HUA.alloc HUA.size (.cells #[.string { data := #[] }, .string { data := #[] }, .string { data := #[] }] 34))
              refine heldCall (d := some 49) (op := .call { callee := Callee.value (Operand.func 15), args := #[Operand.tmp 42, Operand.tmp 44, Operand.tmp 48], argTypes := #[25, 9, 23] }) (g := none) 7 15 #[.agg #[.slice a1 n1 c1, .slice a2 n2 c2, .int .i64 tb, .int .i64 ms, .int .i64 fr, .int .i64 ct, .int .i64 bs, .int .i64 ot, .int .i64 sh, .int .i64 id, .int .i64 po, .int .i64 cl], .string path, va] rfl (by kernel_rfl) (by kernel_rfl) ?y7c4 ?_
              case y7c4 => intro o' ho; simp only [execOp, ho]; go_simp; try rfl
              refine (PKV.out (ua.alloc (.cells #[.string { data := #[] }, .string { data := #[] }, .string { data := #[] }] 34)) va (BW _ BU) SV).mono ?_
              rintro e u4 ⟨rfl, HQ4⟩
              refine ⟨_, rfl, BU.trans (HQ4.out.mono BU.size), ?_⟩
              simp only [Act.put, List.setIfInBounds_toArray, List.set_cons_zero, List.set_cons_succ]
              have HX4 := below_key (alloc_new ua (.cells #[.string { data := #[] }, .string { data := #[] }, .string { data := #[] }] 34) _ rfl) HQ4.out
              have B4 := BU.trans (HQ4.out.mono BU.size)
              have LE := (BA _ HUA).size
              refine heldTake (d := some 41) (op := .move (Operand.tmp 49)) (g := none) 8 ?v8e4 rfl (by kernel_rfl) (by kernel_rfl) (by kernel_rfl) (by kernel_rfl) ?y8e4 B4 ?_
              case y8e4 => intro o' ho W hS; simp only [execOp, ho]; go_simp; try rfl
              simp only [Act.put, List.setIfInBounds_toArray, List.set_cons_zero, List.set_cons_succ]
              refine heldTake (d := some 50) (op := .extract (Operand.tmp 41) 0) (g := none) 9 ?v9e4 rfl (by kernel_rfl) (by kernel_rfl) (by kernel_rfl) (by kernel_rfl) ?y9e4 B4 ?_
              case y9e4 => intro o' ho W hS; simp only [execOp, ho]; go_simp; try rfl
              simp only [Act.put, List.setIfInBounds_toArray, List.set_cons_zero, List.set_cons_succ]
              refine heldTake (d := some 51) (op := .extract (Operand.tmp 41) 1) (g := none) 10 ?v10e4 rfl (by kernel_rfl) (by kernel_rfl) (by kernel_rfl) (by kernel_rfl) ?y10e4 B4 ?_
              case y10e4 => intro o' ho W hS; simp only [execOp, ho]; go_simp; try rfl
              simp only [Act.put, List.setIfInBounds_toArray, List.set_cons_zero, List.set_cons_succ]
              have HBS := below_setRow B4 LE #[.string x1, .string y1, .string z1] (g := ua.heap.size)
              have HCE := setRow_heap _ _ _ #[.string x1, .string y1, .string z1] _ _ HX4
              refine heldStore (d := none) (op := .store 34 (Operand.tmp 7) (Operand.tmp 50)) (g := none) (t := 0) 12 (u4.setRow ua.heap.size #[.string x1, .string y1, .string z1]) rfl (by kernel_rfl) (by kernel_rfl) ?ys4 HBS ?_
              case ys4 => intro o' ho ht; exact store_rt ho rfl rfl HX4
              simp only [Act.put]
              refine heldTake (d := some 8) (op := .assign (Operand.tmp 51)) (g := none) 13 ?v13e4 rfl (by kernel_rfl) (by kernel_rfl) (by kernel_rfl) (by kernel_rfl) ?y13e4 HBS ?_
              case y13e4 => intro o' ho W hS; simp only [execOp, ho]; go_simp; try rfl
              simp only [Act.put, List.setIfInBounds_toArray, List.set_cons_zero, List.set_cons_succ]
              refine wpAnyH_done (by kernel_rfl) ?_ _
              refine NoPanic.normal ?_
              (try go_wp2_with fail)
              go_meet
              exact ⟨_, rfl, rfl, ⟨BW _ HBS⟩, ⟨HBS⟩, ⟨HCE⟩⟩
            case r3 =>
              refine (PKV.out ua va (BW _ (BA _ HUA)) HSA).mono ?_
              rintro e u5 ⟨rfl, HQ5⟩
              have BU := BA _ HUA
              have B5 := BU.trans (HQ5.out.mono BU.size)
              refine ⟨_, rfl, B5, ?_⟩
              simp only [Act.put, List.setIfInBounds_toArray, List.set_cons_zero, List.set_cons_succ]
              refine heldTake (d := some 41) (op := .move (Operand.tmp 49)) (g := none) 8 ?v8e5 rfl (by kernel_rfl) (by kernel_rfl) (by kernel_rfl) (by kernel_rfl) ?y8e5 B5 ?_
              case y8e5 => intro o' ho W hS; simp only [execOp, ho]; go_simp; try rfl
              simp only [Act.put, List.setIfInBounds_toArray, List.set_cons_zero, List.set_cons_succ]
              refine heldTake (d := some 50) (op := .extract (Operand.tmp 41) 0) (g := none) 9 ?v9e5 rfl (by kernel_rfl) (by kernel_rfl) (by kernel_rfl) (by kernel_rfl) ?y9e5 B5 ?_
              case y9e5 => intro o' ho W hS; simp only [execOp, ho]; go_simp; try rfl
              simp only [Act.put, List.setIfInBounds_toArray, List.set_cons_zero, List.set_cons_succ]
              refine heldTake (d := some 51) (op := .extract (Operand.tmp 41) 1) (g := none) 10 ?v10e5 rfl (by kernel_rfl) (by kernel_rfl) (by kernel_rfl) (by kernel_rfl) ?y10e5 B5 ?_
              case y10e5 => intro o' ho W hS; simp only [execOp, ho]; go_simp; try rfl
              simp only [Act.put, List.setIfInBounds_toArray, List.set_cons_zero, List.set_cons_succ]
              have B6 := B5.alloc B5.size (.cells #[.string { data := #[] }, .string { data := #[] }, .string { data := #[] }] 34)
              have LE := B5.size
              refine heldRunT (d := some 7) (op := .alloc 34) (g := none) (t := 0) 11 (.pointer (some ⟨u5.heap.size, 0, none⟩)) (u5.alloc (.cells #[.string { data := #[] }, .string { data := #[] }, .string { data := #[] }] 34)) rfl (by kernel_rfl) (by kernel_rfl) ?y11a5 B6 ?_
              case y11a5 => intro o' ho _; simp only [execOp, ho]; go_simp; try rfl
              simp only [Act.put, List.setIfInBounds_toArray, List.set_cons_zero, List.set_cons_succ]
              have HX5 := alloc_new u5 (.cells #[.string { data := #[] }, .string { data := #[] }, .string { data := #[] }] 34) u5.heap.size rfl
              have HBS := below_setRow B6 LE #[.string x1, .string y1, .string z1] (g := u5.heap.size)
              have HCE := setRow_heap _ _ _ #[.string x1, .string y1, .string z1] _ _ HX5
              refine heldStore (d := none) (op := .store 34 (Operand.tmp 7) (Operand.tmp 50)) (g := none) (t := 0) 12 ((u5.alloc (.cells #[.string { data := #[] }, .string { data := #[] }, .string { data := #[] }] 34)).setRow u5.heap.size #[.string x1, .string y1, .string z1]) rfl (by kernel_rfl) (by kernel_rfl) ?ys5 HBS ?_
              case ys5 => intro o' ho ht; exact store_rt ho rfl rfl HX5
              simp only [Act.put]
              refine heldTake (d := some 8) (op := .assign (Operand.tmp 51)) (g := none) 13 ?v13e5 rfl (by kernel_rfl) (by kernel_rfl) (by kernel_rfl) (by kernel_rfl) ?y13e5 HBS ?_
              case y13e5 => intro o' ho W hS; simp only [execOp, ho]; go_simp; try rfl
              simp only [Act.put, List.setIfInBounds_toArray, List.set_cons_zero, List.set_cons_succ]
              refine wpAnyH_done (by kernel_rfl) ?_ _
              refine NoPanic.normal ?_
              (try go_wp2_with fail)
              go_meet
              exact ⟨_, rfl, rfl, ⟨BW _ HBS⟩, ⟨HBS⟩, ⟨HCE⟩⟩
          case r2 =>
            simp only [Act.put, List.setIfInBounds_toArray, List.set_cons_zero, List.set_cons_succ]
            have BU := BA _ HUB
            have LE : w2.heap.size ≤ Rw.heap.size + 1 := by omega
            refine heldRunT (d := some 48) (op := .call { callee := Callee.builtin Builtin.append, args := #[Operand.tmp 45, Operand.tmp 47], argTypes := #[23, 23] }) (g := none) (t := 23) 6 (vb) (ub) rfl (by kernel_rfl) (by kernel_rfl) ?yb6 BU ?_
            case yb6 => intro o' ho ht; exact run_appS ho ht rfl rfl hrb
            simp only [Act.put, List.setIfInBounds_toArray, List.set_cons_zero, List.set_cons_succ]
            refine heldCall (d := some 49) (op := .call { callee := Callee.value (Operand.func 15), args := #[Operand.tmp 42, Operand.tmp 44, Operand.tmp 48], argTypes := #[25, 9, 23] }) (g := none) 7 15 #[.agg #[.slice a1 n1 c1, .slice a2 n2 c2, .int .i64 tb, .int .i64 ms, .int .i64 fr, .int .i64 ct, .int .i64 bs, .int .i64 ot, .int .i64 sh, .int .i64 id, .int .i64 po, .int .i64 cl], .string path, vb] rfl (by kernel_rfl) (by kernel_rfl) ?y7c6 ?_
            case y7c6 => intro o' ho; simp only [execOp, ho]; go_simp; try rfl
            refine (PKV.out ub vb (BW _ BU) HSB).mono ?_
            rintro e u6 ⟨rfl, HQ6⟩
            refine ⟨_, rfl, BU.trans (HQ6.out.mono BU.size), ?_⟩
            simp only [Act.put, List.setIfInBounds_toArray, List.set_cons_zero, List.set_cons_succ]
            have HX6 := below_key HXB HQ6.out
            have B7 := BU.trans (HQ6.out.mono BU.size)
            refine heldTake (d := some 41) (op := .move (Operand.tmp 49)) (g := none) 8 ?v8e6 rfl (by kernel_rfl) (by kernel_rfl) (by kernel_rfl) (by kernel_rfl) ?y8e6 B7 ?_
            case y8e6 => intro o' ho W hS; simp only [execOp, ho]; go_simp; try rfl
            simp only [Act.put, List.setIfInBounds_toArray, List.set_cons_zero, List.set_cons_succ]
            refine heldTake (d := some 50) (op := .extract (Operand.tmp 41) 0) (g := none) 9 ?v9e6 rfl (by kernel_rfl) (by kernel_rfl) (by kernel_rfl) (by kernel_rfl) ?y9e6 B7 ?_
            case y9e6 => intro o' ho W hS; simp only [execOp, ho]; go_simp; try rfl
            simp only [Act.put, List.setIfInBounds_toArray, List.set_cons_zero, List.set_cons_succ]
            refine heldTake (d := some 51) (op := .extract (Operand.tmp 41) 1) (g := none) 10 ?v10e6 rfl (by kernel_rfl) (by kernel_rfl) (by kernel_rfl) (by kernel_rfl) ?y10e6 B7 ?_
            case y10e6 => intro o' ho W hS; simp only [execOp, ho]; go_simp; try rfl
            simp only [Act.put, List.setIfInBounds_toArray, List.set_cons_zero, List.set_cons_succ]
            have HBS := below_setRow B7 LE #[.string x1, .string y1, .string z1] (g := (Rw.heap.size + 1))
            have HCE := setRow_heap _ _ _ #[.string x1, .string y1, .string z1] _ _ HX6
            refine heldStore (d := none) (op := .store 34 (Operand.tmp 7) (Operand.tmp 50)) (g := none) (t := 0) 12 (u6.setRow (Rw.heap.size + 1) #[.string x1, .string y1, .string z1]) rfl (by kernel_rfl) (by kernel_rfl) ?ys6 HBS ?_
            case ys6 => intro o' ho ht; exact store_rt ho rfl rfl HX6
            simp only [Act.put]
            refine heldTake (d := some 8) (op := .assign (Operand.tmp 51)) (g := none) 13 ?v13e6 rfl (by kernel_rfl) (by kernel_rfl) (by kernel_rfl) (by kernel_rfl) ?y13e6 HBS ?_
            case y13e6 => intro o' ho W hS; simp only [execOp, ho]; go_simp; try rfl
            simp only [Act.put, List.setIfInBounds_toArray, List.set_cons_zero, List.set_cons_succ]
            refine wpAnyH_done (by kernel_rfl) ?_ _
            refine NoPanic.normal ?_
            (try go_wp2_with fail)
            go_meet
            exact ⟨_, rfl, rfl, ⟨BW _ HBS⟩, ⟨HBS⟩, ⟨HCE⟩⟩
        case r1 =>
          simp only [Act.put, List.setIfInBounds_toArray, List.set_cons_zero, List.set_cons_succ]
          have BZ0 := BA _ EZ
          have LE := RWS
          have EC := EZ.alloc EZ.size (.cells #[] 9)
          refine heldRunT (d := some 45) (op := .buildSlice 23 0 #[]) (g := none) (t := 23) 3 (.slice (some ⟨Rw.heap.size + 1, 0, none⟩) 0 0) ((Rw.alloc (.cells #[.string { data := #[] }, .string { data := #[] }, .string { data := #[] }] 34)).alloc (.cells #[] 9)) rfl (by kernel_rfl) (by kernel_rfl) ?y3b8 (BA _ EC) ?_
          case y3b8 => intro o' ho _; simp only [execOp, ho]; go_simp; first | done | rfl | simp [alloc_size]
          simp only [Act.put, List.setIfInBounds_toArray, List.set_cons_zero, List.set_cons_succ]
          have BU := BA _ (EZ.trans (HUC.mono EZ.size))
          rw [alloc_size] at hrc
          refine heldRunT (d := some 48) (op := .call { callee := Callee.builtin Builtin.append, args := #[Operand.tmp 45, Operand.tmp 47], argTypes := #[23, 23] }) (g := none) (t := 23) 6 (vc) (uc) rfl (by kernel_rfl) (by kernel_rfl) ?yb8 BU ?_
          case yb8 => intro o' ho ht; exact run_appS ho ht rfl rfl hrc
          simp only [Act.put, List.setIfInBounds_toArray, List.set_cons_zero, List.set_cons_succ]
          refine heldCall (d := some 49) (op := .call { callee := Callee.value (Operand.func 15), args := #[Operand.tmp 42, Operand.tmp 44, Operand.tmp 48], argTypes := #[25, 9, 23] }) (g := none) 7 15 #[.agg #[.slice a1 n1 c1, .slice a2 n2 c2, .int .i64 tb, .int .i64 ms, .int .i64 fr, .int .i64 ct, .int .i64 bs, .int .i64 ot, .int .i64 sh, .int .i64 id, .int .i64 po, .int .i64 cl], .string path, vc] rfl (by kernel_rfl) (by kernel_rfl) ?y7c8 ?_
          case y7c8 => intro o' ho; simp only [execOp, ho]; go_simp; try rfl
          refine (PKV.out uc vc (BW _ BU) HSC).mono ?_
          rintro e u8 ⟨rfl, HQ8⟩
          refine ⟨_, rfl, BU.trans (HQ8.out.mono BU.size), ?_⟩
          simp only [Act.put, List.setIfInBounds_toArray, List.set_cons_zero, List.set_cons_succ]
          have HX8 := below_key (below_key (alloc_new Rw (.cells #[.string { data := #[] }, .string { data := #[] }, .string { data := #[] }] 34) Rw.heap.size rfl) HUC) HQ8.out
          have B9 := BU.trans (HQ8.out.mono BU.size)
          refine heldTake (d := some 41) (op := .move (Operand.tmp 49)) (g := none) 8 ?v8e8 rfl (by kernel_rfl) (by kernel_rfl) (by kernel_rfl) (by kernel_rfl) ?y8e8 B9 ?_
          case y8e8 => intro o' ho W hS; simp only [execOp, ho]; go_simp; try rfl
          simp only [Act.put, List.setIfInBounds_toArray, List.set_cons_zero, List.set_cons_succ]
          refine heldTake (d := some 50) (op := .extract (Operand.tmp 41) 0) (g := none) 9 ?v9e8 rfl (by kernel_rfl) (by kernel_rfl) (by kernel_rfl) (by kernel_rfl) ?y9e8 B9 ?_
          case y9e8 => intro o' ho W hS; simp only [execOp, ho]; go_simp; try rfl
          simp only [Act.put, List.setIfInBounds_toArray, List.set_cons_zero, List.set_cons_succ]
          refine heldTake (d := some 51) (op := .extract (Operand.tmp 41) 1) (g := none) 10 ?v10e8 rfl (by kernel_rfl) (by kernel_rfl) (by kernel_rfl) (by kernel_rfl) ?y10e8 B9 ?_
          case y10e8 => intro o' ho W hS; simp only [execOp, ho]; go_simp; try rfl
          simp only [Act.put, List.setIfInBounds_toArray, List.set_cons_zero, List.set_cons_succ]
          have HBS := below_setRow B9 LE #[.string x1, .string y1, .string z1] (g := Rw.heap.size)
          have HCE := setRow_heap _ _ _ #[.string x1, .string y1, .string z1] _ _ HX8
          refine heldStore (d := none) (op := .store 34 (Operand.tmp 7) (Operand.tmp 50)) (g := none) (t := 0) 12 (u8.setRow Rw.heap.size #[.string x1, .string y1, .string z1]) rfl (by kernel_rfl) (by kernel_rfl) ?ys8 HBS ?_
          case ys8 => intro o' ho ht; exact store_rt ho rfl rfl HX8
          simp only [Act.put]
          refine heldTake (d := some 8) (op := .assign (Operand.tmp 51)) (g := none) 13 ?v13e8 rfl (by kernel_rfl) (by kernel_rfl) (by kernel_rfl) (by kernel_rfl) ?y13e8 HBS ?_
          case y13e8 => intro o' ho W hS; simp only [execOp, ho]; go_simp; try rfl
          simp only [Act.put, List.setIfInBounds_toArray, List.set_cons_zero, List.set_cons_succ]
          refine wpAnyH_done (by kernel_rfl) ?_ _
          refine NoPanic.normal ?_
          (try go_wp2_with fail)
          go_meet
          exact ⟨_, rfl, rfl, ⟨BW _ HBS⟩, ⟨HBS⟩, ⟨HCE⟩⟩
      case rest =>
        obtain ⟨pA, rfl, rfl, HBr, HBr2, HRAr⟩ := hcut
        have HXr := Sl.mk (below_key HX2.out HBr2.out)
        have HOr := Sl.mk (below_key HO2.out HBr2.out)
        clear HX2 HO2 HBw2 HBr2 PKV
        obtain ⟨r, hr⟩ : ∃ r, wc = r := ⟨_, rfl⟩
        subst hr
        have k0 := cell_at HXr.out 0 _ rfl
        have k1 := cell_at HXr.out 1 _ rfl
        have k2 := cell_at HXr.out 2 _ rfl
        have k3 := cell_at HXr.out 3 _ rfl
        have k4 := cell_at HXr.out 4 _ rfl
        have k5 := cell_at HXr.out 5 _ rfl
        have k6 := cell_at HXr.out 6 _ rfl
        have k7 := cell_at HXr.out 7 _ rfl
        have k8 := cell_at HXr.out 8 _ rfl
        have k9 := cell_at HXr.out 9 _ rfl
        have k10 := cell_at HXr.out 10 _ rfl
        have k11 := cell_at HXr.out 11 _ rfl
        have q0 := cell_at HOr.out 0 _ rfl
        have q4 := cell_at HOr.out 4 _ rfl
        have q1 := cell_at HOr.out 1 _ rfl
        have q2 := cell_at HOr.out 2 _ rfl
        have q3 := cell_at HOr.out 3 _ rfl
        go_wp2_with fail
        refine (RPK.out _ HBr.out).mono ?_
        rintro e ts1 ⟨rfl, HQts1⟩
        have HBts1 : Sl (Below wa.heap.size wa ts1) := ⟨HBr.out.trans (HQts1.out.mono HBr.out.size)⟩
        have HXts1 := Sl.mk (below_key HXr.out HQts1.out)
        have HOts1 := Sl.mk (below_key HOr.out HQts1.out)
        have HRAts1 := Sl.mk (below_key HRAr.out HQts1.out)
        clear k0 k1 k2 k3 k4 k5 k6 k7 k8 k9 k10 k11
        clear q0 q1 q2 q3 q4
        obtain ⟨s1, hws1, HQs1, hxs1⟩ := box_of ts1 x1 y1 z1
        go_upto_region 5 with fail
        (try rw [hws1])
        have HRBs1 := Sl.mk hxs1
        have HXs1 := Sl.mk (below_key HXts1.out HQs1.out)
        have HOs1 := Sl.mk (below_key HOts1.out HQs1.out)
        have HRAs1 := Sl.mk (below_key HRAts1.out HQs1.out)
        have HBs1 : Sl (Below wa.heap.size wa s1) := ⟨HBts1.out.trans (HQs1.out.mono HBts1.out.size)⟩
        obtain ⟨pB, hps1⟩ : ∃ p, ts1.heap.size = p := ⟨_, rfl⟩
        rw [hps1] at HRBs1
        (try rw [hps1])
        clear hws1 hxs1 hps1 HXts1 HOts1 HQts1 HQs1 HBts1 HXr HOr HBr HRAts1 HRAr
        clear RPK
        have k0 := cell_at HXs1.out 0 _ rfl
        have k1 := cell_at HXs1.out 1 _ rfl
        have k2 := cell_at HXs1.out 2 _ rfl
        have k3 := cell_at HXs1.out 3 _ rfl
        have k4 := cell_at HXs1.out 4 _ rfl
        have k5 := cell_at HXs1.out 5 _ rfl
        have k6 := cell_at HXs1.out 6 _ rfl
        have k7 := cell_at HXs1.out 7 _ rfl
        have k8 := cell_at HXs1.out 8 _ rfl
        have k9 := cell_at HXs1.out 9 _ rfl
        have k10 := cell_at HXs1.out 10 _ rfl
        have k11 := cell_at HXs1.out 11 _ rfl
        have q0 := cell_at HOs1.out 0 _ rfl
        have q4 := cell_at HOs1.out 4 _ rfl
        have q1 := cell_at HOs1.out 1 _ rfl
        have q2 := cell_at HOs1.out 2 _ rfl
        have q3 := cell_at HOs1.out 3 _ rfl
        go_wp2_with fail
        refine (AD.out _ HBs1.out).mono ?_
        rintro e ts2 ⟨rfl, HQts2⟩
        have HBts2 : Sl (Below wa.heap.size wa ts2) := ⟨HBs1.out.trans (HQts2.out.mono HBs1.out.size)⟩
        have HXts2 := Sl.mk (below_key HXs1.out HQts2.out)
        have HOts2 := Sl.mk (below_key HOs1.out HQts2.out)
        have HRAts2 := Sl.mk (below_key HRAs1.out HQts2.out)
        have HRBts2 := Sl.mk (below_key HRBs1.out HQts2.out)
        clear k0 k1 k2 k3 k4 k5 k6 k7 k8 k9 k10 k11
        clear q0 q1 q2 q3 q4
        obtain ⟨s2, hws2, HQs2, hxs2⟩ := box_of ts2 x2 y2 z2
        go_upto_region 6 with fail
        (try rw [hws2])
        have HRCs2 := Sl.mk hxs2
        have HXs2 := Sl.mk (below_key HXts2.out HQs2.out)
        have HOs2 := Sl.mk (below_key HOts2.out HQs2.out)
        have HRAs2 := Sl.mk (below_key HRAts2.out HQs2.out)
        have HRBs2 := Sl.mk (below_key HRBts2.out HQs2.out)
        have HBs2 : Sl (Below wa.heap.size wa s2) := ⟨HBts2.out.trans (HQs2.out.mono HBts2.out.size)⟩
        obtain ⟨pC, hps2⟩ : ∃ p, ts2.heap.size = p := ⟨_, rfl⟩
        rw [hps2] at HRCs2
        (try rw [hps2])
        clear hws2 hxs2 hps2 HXts2 HOts2 HQts2 HQs2 HBts2 HXs1 HOs1 HBs1 HRAts2 HRBts2 HRAs1 HRBs1
        clear AD
        have k0 := cell_at HXs2.out 0 _ rfl
        have k1 := cell_at HXs2.out 1 _ rfl
        have k2 := cell_at HXs2.out 2 _ rfl
        have k3 := cell_at HXs2.out 3 _ rfl
        have k4 := cell_at HXs2.out 4 _ rfl
        have k5 := cell_at HXs2.out 5 _ rfl
        have k6 := cell_at HXs2.out 6 _ rfl
        have k7 := cell_at HXs2.out 7 _ rfl
        have k8 := cell_at HXs2.out 8 _ rfl
        have k9 := cell_at HXs2.out 9 _ rfl
        have k10 := cell_at HXs2.out 10 _ rfl
        have k11 := cell_at HXs2.out 11 _ rfl
        have q0 := cell_at HOs2.out 0 _ rfl
        have q4 := cell_at HOs2.out 4 _ rfl
        have q1 := cell_at HOs2.out 1 _ rfl
        have q2 := cell_at HOs2.out 2 _ rfl
        have q3 := cell_at HOs2.out 3 _ rfl
        go_wp2_with fail
        refine (RAD.out _ HBs2.out).mono ?_
        rintro e ts3 ⟨rfl, HQts3⟩
        have HBts3 : Sl (Below wa.heap.size wa ts3) := ⟨HBs2.out.trans (HQts3.out.mono HBs2.out.size)⟩
        have HXts3 := Sl.mk (below_key HXs2.out HQts3.out)
        have HOts3 := Sl.mk (below_key HOs2.out HQts3.out)
        have HRAts3 := Sl.mk (below_key HRAs2.out HQts3.out)
        have HRBts3 := Sl.mk (below_key HRBs2.out HQts3.out)
        have HRCts3 := Sl.mk (below_key HRCs2.out HQts3.out)
        clear k0 k1 k2 k3 k4 k5 k6 k7 k8 k9 k10 k11
        clear q0 q1 q2 q3 q4
        obtain ⟨s3, hws3, HQs3, hxs3⟩ := box_of ts3 x2 y2 z2
        go_upto_region 7 with fail
        (try rw [hws3])
        have HRDs3 := Sl.mk hxs3
        have HXs3 := Sl.mk (below_key HXts3.out HQs3.out)
        have HOs3 := Sl.mk (below_key HOts3.out HQs3.out)
        have HRAs3 := Sl.mk (below_key HRAts3.out HQs3.out)
        have HRBs3 := Sl.mk (below_key HRBts3.out HQs3.out)
        have HRCs3 := Sl.mk (below_key HRCts3.out HQs3.out)
        have HBs3 : Sl (Below wa.heap.size wa s3) := ⟨HBts3.out.trans (HQs3.out.mono HBts3.out.size)⟩
        obtain ⟨pD, hps3⟩ : ∃ p, ts3.heap.size = p := ⟨_, rfl⟩
        rw [hps3] at HRDs3
        (try rw [hps3])
        clear hws3 hxs3 hps3 HXts3 HOts3 HQts3 HQs3 HBts3 HXs2 HOs2 HBs2 HRAts3 HRBts3 HRCts3 HRAs2 HRBs2 HRCs2
        clear RAD
        obtain ⟨g0, g1, g2⟩ := rt_cells HRAs3.out
        obtain ⟨i0, i1, i2⟩ := rt_cells HRBs3.out
        obtain ⟨j0, j1, j2⟩ := rt_cells HRCs3.out
        obtain ⟨l0, l1, l2⟩ := rt_cells HRDs3.out
        cases f <;> (go_wp2; go_ret; exact ⟨rfl, HTOP.out _ HBs3.out⟩)
end Go.Proofs.YtdndpicfnlcgjaaDoor.Rou
