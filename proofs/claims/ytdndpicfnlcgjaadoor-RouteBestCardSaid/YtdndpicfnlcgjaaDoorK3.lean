/- RouteBest's walk. -/
import Derived.Test.YtdndpicfnlcgjaaDoorRP
import Derived.Test.YtdndpicfnlcgjaaDoorRM
set_option maxRecDepth 100000
namespace Go.Proofs.YtdndpicfnlcgjaaDoor.Rou
open Go.RowKit Nam
open RoutePlain (Rt below better fits pick stem)

theorem below_no {p : List Nat} {ps : List (List Nat)} {r : Rt} (h : below p r.pre = false) : fits p ps r = false := by unfold RoutePlain.fits; rw [h]; rfl
theorem best_none {p : List Nat} {ps : List (List Nat)} {rs : List Rb} (h : bestB p ps rs = none) : ∀ x ∈ rs, fits p ps x.rt = false := by
  have h1 := bestB_pick p ps rs
  rw [h] at h1
  exact fun x hx => RoutePlain.pick_none h1.symm _ (List.mem_map.2 ⟨x, hx, rfl⟩)
theorem best_long {p : List Nat} {ps : List (List Nat)} {rs : List Rb} {r : Rb} (h : bestB p ps rs = some r) : fits p ps r.rt = true ∧ ∀ x ∈ rs, fits p ps x.rt = true → x.pre.size ≤ r.pre.size := by
  have h1 := bestB_pick p ps rs
  rw [h] at h1
  refine ⟨(RoutePlain.pick_some h1.symm).2.1, fun x hx hf => ?_⟩
  have := RoutePlain.pick_long h1.symm (List.mem_map.2 ⟨x, hx, rfl⟩) hf
  change (bytes x.pre).length ≤ (bytes r.pre).length at this
  rwa [bytes_length, bytes_length] at this
/-- Was the picked one met among these? -/
def met (p : List Nat) (ps : List (List Nat)) (rs : List Rb) (o : Option Rb) : Bool := o.isSome && rs.any fun x => fits p ps x.rt && same3 x.pre x.pro x.dst (o.getD Rn).pre (o.getD Rn).pro (o.getD Rn).dst
theorem met_nil (p : List Nat) (ps : List (List Nat)) (o : Option Rb) : met p ps [] o = false := by unfold met; simp
theorem met_snoc (p : List Nat) (ps : List (List Nat)) (rs : List Rb) (x : Rb) (o : Option Rb) : met p ps (rs ++ [x]) o = (met p ps rs o || (o.isSome && (fits p ps x.rt && same3 x.pre x.pro x.dst (o.getD Rn).pre (o.getD Rn).pro (o.getD Rn).dst))) := by
  unfold met
  rw [List.any_append, List.any_cons, List.any_nil, Bool.or_false]
  cases o.isSome <;> simp
theorem met_all {p : List Nat} {ps : List (List Nat)} {rs : List Rb} {o : Option Rb} (h : bestB p ps rs = o) : met p ps rs o = o.isSome := by
  unfold met
  cases o with
  | none => rfl
  | some r =>
    have : (rs.any fun x => fits p ps x.rt && same3 x.pre x.pro x.dst ((some r).getD Rn).pre ((some r).getD Rn).pro ((some r).getD Rn).dst) = true := by
      rw [List.any_eq_true]
      refine ⟨r, bestB_mem h, ?_⟩
      rw [(best_long h).1, Option.getD_some]
      unfold same3; simp
    rw [this]; rfl
set_option maxHeartbeats 16000000 in
theorem best_walk (a1 : Option Addr) (n1 c1 : Nat) (a2 : Option Addr) (n2 c2 : Nat) (tb ms fr ct bs ot sh id po cl : Int) (rs : List Rb) (os : List ByteArray) (path : ByteArray) (pa : Option Addr) (pn pc : Nat) (ps : List ByteArray) (W : World) (hg : Globs W) (hc : RtsAt W (.slice a1 n1 c1) rs ∧ (∀ r ∈ rs, RbOk r) ∧ rs.length ≤ maxLen) (ho : StrA W (.slice a2 n2 c2) os ∧ os.length ≤ maxLen ∧ ∀ s ∈ os, s.size ≤ maxLen) (hp : path.size ≤ maxLen) (hq : StrA W (.slice pa pn pc) ps ∧ ps.length ≤ maxLen ∧ ∀ s ∈ ps, s.size ≤ maxLen) : Calls Tryd.prog 6 #[.agg #[.slice a1 n1 c1, .slice a2 n2 c2, .int .i64 tb, .int .i64 ms, .int .i64 fr, .int .i64 ct, .int .i64 bs, .int .i64 ot, .int .i64 sh, .int .i64 id, .int .i64 po, .int .i64 cl], .string path, .slice pa pn pc] W fun e w' => e = .returned (.bool true) ∧ Below W.heap.size W w' := by
  obtain ⟨wa, hwa, HBa, hx⟩ := cfg_box W #[.slice a1 n1 c1, .slice a2 n2 c2, .int .i64 tb, .int .i64 ms, .int .i64 fr, .int .i64 ct, .int .i64 bs, .int .i64 ot, .int .i64 sh, .int .i64 id, .int .i64 po, .int .i64 cl]
  have HX := Sl.mk hx
  have HP9 : Sl (path.size ≤ 9223372036854775807) := ⟨by unfold maxLen at hp; omega⟩
  have HQ0 := Sl.mk (hq.1.below HBa.out)
  have HQL := Sl.mk hq.2.1
  have HQS := Sl.mk hq.2.2
  have HPN : Sl (pn = ps.length) := ⟨by obtain ⟨_, _, _, _, h, _⟩ := hq.1; injection h⟩
  obtain ⟨f6, hf6⟩ : ∃ f, fewB ps = f := ⟨_, rfl⟩
  have HF6 := Sl.mk hf6
  have F6 : Sl (∀ V, Below wa.heap.size wa V → Calls Tryd.prog 14 #[.slice pa pn pc] V fun e w' => e = .returned (.bool f6) ∧ V = w') := ⟨fun V h => by rw [← hf6]; exact few_any ps _ V ((hq.1.below HBa.out).below h) hq.2.1 hq.2.2⟩
  obtain ⟨g, hgg⟩ : ∃ g, W.heap.size = g := ⟨_, rfl⟩
  have HSZ : Sl (g ≤ wa.heap.size) := ⟨by rw [← hgg]; exact HBa.out.size⟩
  have AW : Sl (∀ V, Below wa.heap.size wa V → Calls Tryd.prog 10 #[] V fun e w' => e = .returned (.bool true) ∧ Sl (Below V.heap.size V w')) := ⟨fun V h => awake_any V ((hg.of HBa.out).of h)⟩
  obtain ⟨fw, hfw⟩ : ∃ f, fewC rs os = f := ⟨_, rfl⟩
  have HFW := Sl.mk hfw
  have FW : Sl (∀ V, Below wa.heap.size wa V → Calls Tryd.prog 11 #[.agg #[.slice a1 n1 c1, .slice a2 n2 c2, .int .i64 tb, .int .i64 ms, .int .i64 fr, .int .i64 ct, .int .i64 bs, .int .i64 ot, .int .i64 sh, .int .i64 id, .int .i64 po, .int .i64 cl]] V fun en w' => en = .returned (.bool fw) ∧ Sl (Below V.heap.size V w')) := ⟨fun V h => rfew_any rs a1 n1 c1 a2 n2 c2 tb ms fr ct bs ot sh id po cl os V ((hc.1.below HBa.out).below h) hc.2.1 hc.2.2 ((ho.1.below HBa.out).below h) ho.2.1 ho.2.2 fw hfw⟩
  have HV0 := Sl.mk (hc.1.below HBa.out)
  have HO0 := Sl.mk (ho.1.below HBa.out)
  have HOKR := Sl.mk hc.2.1
  have HG0 := Sl.mk (hg.of HBa.out)
  rw [hgg] at HX HBa
  have HTOP : Sl (∀ V, Below wa.heap.size wa V → Below W.heap.size W V) := ⟨fun V h => by rw [hgg]; exact HBa.out.trans (h.mono HSZ.out)⟩
  clear hx hg hc ho hfw hf6 hp hq
  cases fw with
  | false =>
    go_enter Tryd.func6, Tryd.ntmps6
    go_upto_region 1 with fail
    (try rw [hwa])
    (try rw [hgg])
    go_wp2_with fail
    refine (AW.out wa (Below.refl wa.heap.size wa)).mono ?_
    rintro e w1 ⟨rfl, HQw1⟩
    have HBw1 : Sl (Below wa.heap.size wa w1) := ⟨(Below.refl wa.heap.size wa).trans (HQw1.out.mono (Below.refl wa.heap.size wa).size)⟩
    have HX1 := Sl.mk (below_key HX.out HQw1.out)
    have k0 := cell_at HX1.out 0 _ rfl
    have k1 := cell_at HX1.out 1 _ rfl
    have k2 := cell_at HX1.out 2 _ rfl
    have k3 := cell_at HX1.out 3 _ rfl
    have k4 := cell_at HX1.out 4 _ rfl
    have k5 := cell_at HX1.out 5 _ rfl
    have k6 := cell_at HX1.out 6 _ rfl
    have k7 := cell_at HX1.out 7 _ rfl
    have k8 := cell_at HX1.out 8 _ rfl
    have k9 := cell_at HX1.out 9 _ rfl
    have k10 := cell_at HX1.out 10 _ rfl
    have k11 := cell_at HX1.out 11 _ rfl
    go_wp2_with fail
    refine (FW.out _ HBw1.out).mono ?_
    rintro e w2 ⟨rfl, HQw2⟩
    have HBw2 : Sl (Below wa.heap.size wa w2) := ⟨HBw1.out.trans (HQw2.out.mono HBw1.out.size)⟩
    have HX2 := Sl.mk (below_key HX1.out HQw2.out)
    clear k0 k1 k2 k3 k4 k5 k6 k7 k8 k9 k10 k11
    go_wp2_with fail
    refine (AW.out _ HBw2.out).mono ?_
    rintro e wE ⟨rfl, HQwE⟩
    have HBwE : Sl (Below wa.heap.size wa wE) := ⟨HBw2.out.trans (HQwE.out.mono HBw2.out.size)⟩
    go_wp2
    go_ret
    exact ⟨rfl, HTOP.out _ HBwE.out⟩
  | true =>
    have P9 := HP9.out
    by_cases h1 : path.size > 300
    · have h1' : ((path.size : Int) > 300) = True := eq_true (by omega)
      go_enter Tryd.func6, Tryd.ntmps6
      go_upto_region 1 with fail
      (try rw [hwa])
      (try rw [hgg])
      go_wp2_with fail
      refine (AW.out wa (Below.refl wa.heap.size wa)).mono ?_
      rintro e w1 ⟨rfl, HQw1⟩
      have HBw1 : Sl (Below wa.heap.size wa w1) := ⟨(Below.refl wa.heap.size wa).trans (HQw1.out.mono (Below.refl wa.heap.size wa).size)⟩
      have HX1 := Sl.mk (below_key HX.out HQw1.out)
      have k0 := cell_at HX1.out 0 _ rfl
      have k1 := cell_at HX1.out 1 _ rfl
      have k2 := cell_at HX1.out 2 _ rfl
      have k3 := cell_at HX1.out 3 _ rfl
      have k4 := cell_at HX1.out 4 _ rfl
      have k5 := cell_at HX1.out 5 _ rfl
      have k6 := cell_at HX1.out 6 _ rfl
      have k7 := cell_at HX1.out 7 _ rfl
      have k8 := cell_at HX1.out 8 _ rfl
      have k9 := cell_at HX1.out 9 _ rfl
      have k10 := cell_at HX1.out 10 _ rfl
      have k11 := cell_at HX1.out 11 _ rfl
      go_wp2_with fail
      refine (FW.out _ HBw1.out).mono ?_
      rintro e w2 ⟨rfl, HQw2⟩
      have HBw2 : Sl (Below wa.heap.size wa w2) := ⟨HBw1.out.trans (HQw2.out.mono HBw1.out.size)⟩
      have HX2 := Sl.mk (below_key HX1.out HQw2.out)
      clear k0 k1 k2 k3 k4 k5 k6 k7 k8 k9 k10 k11
      go_wp2_with fail
      refine (AW.out _ HBw2.out).mono ?_
      rintro e wE ⟨rfl, HQwE⟩
      have HBwE : Sl (Below wa.heap.size wa wE) := ⟨HBw2.out.trans (HQwE.out.mono HBw2.out.size)⟩
      go_wp2
      go_ret
      exact ⟨rfl, HTOP.out _ HBwE.out⟩
    have h1' : ((path.size : Int) > 300) = False := eq_false (by omega)
    cases f6 with
    | false =>
      go_enter Tryd.func6, Tryd.ntmps6
      go_upto_region 1 with fail
      (try rw [hwa])
      (try rw [hgg])
      go_wp2_with fail
      refine (AW.out wa (Below.refl wa.heap.size wa)).mono ?_
      rintro e w1 ⟨rfl, HQw1⟩
      have HBw1 : Sl (Below wa.heap.size wa w1) := ⟨(Below.refl wa.heap.size wa).trans (HQw1.out.mono (Below.refl wa.heap.size wa).size)⟩
      have HX1 := Sl.mk (below_key HX.out HQw1.out)
      have k0 := cell_at HX1.out 0 _ rfl
      have k1 := cell_at HX1.out 1 _ rfl
      have k2 := cell_at HX1.out 2 _ rfl
      have k3 := cell_at HX1.out 3 _ rfl
      have k4 := cell_at HX1.out 4 _ rfl
      have k5 := cell_at HX1.out 5 _ rfl
      have k6 := cell_at HX1.out 6 _ rfl
      have k7 := cell_at HX1.out 7 _ rfl
      have k8 := cell_at HX1.out 8 _ rfl
      have k9 := cell_at HX1.out 9 _ rfl
      have k10 := cell_at HX1.out 10 _ rfl
      have k11 := cell_at HX1.out 11 _ rfl
      go_wp2_with fail
      refine (FW.out _ HBw1.out).mono ?_
      rintro e w2 ⟨rfl, HQw2⟩
      have HBw2 : Sl (Below wa.heap.size wa w2) := ⟨HBw1.out.trans (HQw2.out.mono HBw1.out.size)⟩
      have HX2 := Sl.mk (below_key HX1.out HQw2.out)
      clear k0 k1 k2 k3 k4 k5 k6 k7 k8 k9 k10 k11
      go_wp2_with fail
      refine (F6.out _ HBw2.out).mono ?_
      rintro e w3 ⟨rfl, rfl⟩
      go_wp2_with fail
      refine (AW.out _ HBw2.out).mono ?_
      rintro e wE ⟨rfl, HQwE⟩
      have HBwE : Sl (Below wa.heap.size wa wE) := ⟨HBw2.out.trans (HQwE.out.mono HBw2.out.size)⟩
      go_wp2
      go_ret
      exact ⟨rfl, HTOP.out _ HBwE.out⟩
    | true =>
      obtain ⟨F1, F2, F3⟩ := fewC_yes HFW.out
      obtain ⟨G1, G2⟩ := fewB_yes HF6.out
      have HPSL : Sl (ps.length ≤ 30) := ⟨G2⟩
      have HSH : Sl (∀ r ∈ rs, Short r) := ⟨fun r hr => by
        obtain ⟨q1, q2, q3⟩ := F1 r hr
        exact ⟨by omega, by omega, by omega⟩⟩
      have HL30 := Sl.mk F2
      have hpm : path.size ≤ maxLen := by unfold maxLen; omega
      obtain ⟨o, ho⟩ : ∃ o, bestB (bytes path) (ps.map bytes) rs = o := ⟨_, rfl⟩
      have HBO := Sl.mk ho
      obtain ⟨⟨x1, y1, z1⟩, hr⟩ : ∃ r, o.getD Rn = r := ⟨_, rfl⟩
      have HOR := Sl.mk hr
      obtain ⟨f, hf⟩ : ∃ f, o.isSome = f := ⟨_, rfl⟩
      have HOF := Sl.mk hf
      have HP1 : Sl (pickV o = .tuple #[.agg #[.string x1, .string y1, .string z1], .bool f]) := ⟨by unfold pickV; rw [hr, hf]; rfl⟩
      have PKV : Sl (∀ V v, Below wa.heap.size wa V → StrA V v ps → Calls Tryd.prog 15 #[.agg #[.slice a1 n1 c1, .slice a2 n2 c2, .int .i64 tb, .int .i64 ms, .int .i64 fr, .int .i64 ct, .int .i64 bs, .int .i64 ot, .int .i64 sh, .int .i64 id, .int .i64 po, .int .i64 cl], .string path, v] V fun en w' => en = .returned (.tuple #[.agg #[.string x1, .string y1, .string z1], .bool f]) ∧ Sl (Below V.heap.size V w')) := ⟨fun V v h hv => by
        rw [← HP1.out, ← ho]
        exact pick_any rs a1 n1 c1 a2 n2 c2 tb ms fr ct bs ot sh id po cl path v ps V (HV0.out.below h) HSH.out (by have := HL30.out; omega) hpm hv (by have := HPSL.out; omega) HQS.out⟩
      have BL : Sl (∀ V f r, f.size ≤ maxLen → below (bytes path) (bytes f) = r → Calls Tryd.prog 19 #[.string path, .string f] V fun e w' => e = .returned (.bool r) ∧ Sl (Below V.heap.size V w')) := ⟨fun V f r hf h => below_any path f V hpm hf r h⟩
      have IN : Sl (∀ V b, Below wa.heap.size wa V → Calls Tryd.prog 22 #[.string b, .slice pa pn pc] V fun e w' => e = .returned (.bool (decide (bytes b ∈ ps.map bytes))) ∧ V = w') := ⟨fun V b h => in_any b ps _ V (HQ0.out.below h) (by have := HPSL.out; omega)⟩
      have HN1 : Sl (n1 = rs.length) := ⟨HV0.out.cap.1⟩
      have hn30 : n1 ≤ 30 := by rw [HN1.out]; exact HL30.out
      have hcap : n1 ≤ c1 := HV0.out.cap.2.1
      clear F1 F2 F3 G1 G2 ho hr hf hpm HP1
      go_enter Tryd.func6, Tryd.ntmps6
      go_upto_region 1 with fail
      (try rw [hwa])
      (try rw [hgg])
      go_wp2_with fail
      refine (AW.out wa (Below.refl wa.heap.size wa)).mono ?_
      rintro e w1 ⟨rfl, HQw1⟩
      have HBw1 : Sl (Below wa.heap.size wa w1) := ⟨(Below.refl wa.heap.size wa).trans (HQw1.out.mono (Below.refl wa.heap.size wa).size)⟩
      have HX1 := Sl.mk (below_key HX.out HQw1.out)
      have k0 := cell_at HX1.out 0 _ rfl
      have k1 := cell_at HX1.out 1 _ rfl
      have k2 := cell_at HX1.out 2 _ rfl
      have k3 := cell_at HX1.out 3 _ rfl
      have k4 := cell_at HX1.out 4 _ rfl
      have k5 := cell_at HX1.out 5 _ rfl
      have k6 := cell_at HX1.out 6 _ rfl
      have k7 := cell_at HX1.out 7 _ rfl
      have k8 := cell_at HX1.out 8 _ rfl
      have k9 := cell_at HX1.out 9 _ rfl
      have k10 := cell_at HX1.out 10 _ rfl
      have k11 := cell_at HX1.out 11 _ rfl
      go_wp2_with fail
      refine (FW.out _ HBw1.out).mono ?_
      rintro e w2 ⟨rfl, HQw2⟩
      have HBw2 : Sl (Below wa.heap.size wa w2) := ⟨HBw1.out.trans (HQw2.out.mono HBw1.out.size)⟩
      have HX2 := Sl.mk (below_key HX1.out HQw2.out)
      clear k0 k1 k2 k3 k4 k5 k6 k7 k8 k9 k10 k11
      go_wp2_with fail
      refine (F6.out _ HBw2.out).mono ?_
      rintro e w3 ⟨rfl, rfl⟩
      clear AW FW F6 HX1 HQw1 HQw2 HBw1
      go_upto_region 3 with fail
      go_cut [7, 8] (fun sa sb wx => ∃ x, sa = .pointer (some ⟨x, 0, none⟩) ∧ sb = .bool f ∧ Sl (Below wa.heap.size wa wx) ∧ Sl (Below w2.heap.size w2 wx) ∧ Sl (wx.heap[x]? = some (.cells #[.string x1, .string y1, .string z1] 34 (0, 0))))
      case first =>
        obtain ⟨Rw, hRw⟩ : ∃ R, w2.drew = R := ⟨_, rfl⟩
        have HBR : Below w2.heap.size w2 Rw := by rw [← hRw]; exact (Below.refl _ _).drew
        refine wp_region_noPanic ?_
        refine wp_region_held (S := fun V => Below w2.heap.size w2 V) (by kernel_rfl) ?_
        change wpAnyH _ _ _ _ _ _ _ _ w2.drew
        rw [hRw]
        clear hRw
        refine heldTake (d := some 32) (op := .load 25 (Operand.tmp 3)) (g := none) 0 ?v0 rfl (by kernel_rfl) (by kernel_rfl) (by kernel_rfl) (by kernel_rfl) ?y0 HBR ?_
        case y0 => intro o' ho W hS; have k0 := cell_at (below_key HX2.out hS) 0 _ rfl; have k1 := cell_at (below_key HX2.out hS) 1 _ rfl; have k2 := cell_at (below_key HX2.out hS) 2 _ rfl; have k3 := cell_at (below_key HX2.out hS) 3 _ rfl; have k4 := cell_at (below_key HX2.out hS) 4 _ rfl; have k5 := cell_at (below_key HX2.out hS) 5 _ rfl; have k6 := cell_at (below_key HX2.out hS) 6 _ rfl; have k7 := cell_at (below_key HX2.out hS) 7 _ rfl; have k8 := cell_at (below_key HX2.out hS) 8 _ rfl; have k9 := cell_at (below_key HX2.out hS) 9 _ rfl; have k10 := cell_at (below_key HX2.out hS) 10 _ rfl; have k11 := cell_at (below_key HX2.out hS) 11 _ rfl; simp only [execOp, ho]; go_simp; try rfl
        simp only [Act.put, List.setIfInBounds_toArray, List.set_cons_zero, List.set_cons_succ]
        refine heldTake (d := some 33) (op := .move (Operand.tmp 1)) (g := none) 1 ?v1 rfl (by kernel_rfl) (by kernel_rfl) (by kernel_rfl) (by kernel_rfl) ?y1 HBR ?_
        case y1 => intro o' ho W hS; simp only [execOp, ho]; go_simp; try rfl
        simp only [Act.put, List.setIfInBounds_toArray, List.set_cons_zero, List.set_cons_succ]
        refine heldTake (d := some 35) (op := .move (Operand.tmp 2)) (g := none) 3 ?v3 rfl (by kernel_rfl) (by kernel_rfl) (by kernel_rfl) (by kernel_rfl) ?y3 HBR ?_
        case y3 => intro o' ho W hS; simp only [execOp, ho]; go_simp; try rfl
        simp only [Act.put, List.setIfInBounds_toArray, List.set_cons_zero, List.set_cons_succ]
        have HSRC : StrA Rw (.slice pa pn pc) ps := (HQ0.out.below HBw2.out).below HBR
        have RWS : w2.heap.size ≤ Rw.heap.size := HBR.size
        have BA : ∀ V, Below Rw.heap.size Rw V → Below w2.heap.size w2 V := fun V h => HBR.trans (h.mono RWS)
        have BW : ∀ V, Below w2.heap.size w2 V → Below wa.heap.size wa V := fun V h => HBw2.out.trans (h.mono HBw2.out.size)
        have EB := (Below.refl Rw.heap.size Rw).alloc (Nat.le_refl _) (.cells #[] 9)
        have EZ := (Below.refl Rw.heap.size Rw).alloc (Nat.le_refl _) (.cells #[.string { data := #[] }, .string { data := #[] }, .string { data := #[] }] 34)
        obtain ⟨va, ua, hra, HSA, HUA⟩ := copy_row HSRC (by have := HPSL.out; omega)
        obtain ⟨vb, ub, hrb, HSB, HUB, HXB⟩ := copy_row2 (o := (.cells #[.string { data := #[] }, .string { data := #[] }, .string { data := #[] }] 34)) HSRC (by have := HPSL.out; omega)
        obtain ⟨vc, uc, hrc, HSC, HUC⟩ := copy_row (HSRC.below EZ) (by have := HPSL.out; omega)
        refine heldTwo (di := some 34) (dj := some 7) (opi := .buildSlice 23 0 #[]) (opj := .alloc 34) (gi := none) (gj := none) (ti := 23) (tj := 0) 2 9 (.slice (some ⟨Rw.heap.size, 0, none⟩) 0 0) (Rw.alloc (.cells #[] 9)) (.pointer (some ⟨Rw.heap.size, 0, none⟩)) (Rw.alloc (.cells #[.string { data := #[] }, .string { data := #[] }, .string { data := #[] }] 34)) rfl rfl (by kernel_rfl) (by kernel_rfl) (by kernel_rfl) ?p1 ?q1 (BA _ EB) (BA _ EZ) ?l1 ?r1
        case p1 => intro o' ho ht; simp only [execOp, ho]; go_simp; try rfl
        case q1 => intro o' ho ht; simp only [execOp, ho]; go_simp; try rfl
        case l1 =>
          simp only [Act.put, List.setIfInBounds_toArray, List.set_cons_zero, List.set_cons_succ]
          refine heldTwo (di := some 36) (dj := some 7) (opi := .call { callee := Callee.builtin Builtin.append, args := #[Operand.tmp 34, Operand.tmp 35], argTypes := #[23, 23] }) (opj := .alloc 34) (gi := none) (gj := none) (ti := 23) (tj := 0) 4 9 (va) (ua) (.pointer (some ⟨Rw.heap.size + 1, 0, none⟩)) ((Rw.alloc (.cells #[] 9)).alloc (.cells #[.string { data := #[] }, .string { data := #[] }, .string { data := #[] }] 34)) rfl rfl (by kernel_rfl) (by kernel_rfl) (by kernel_rfl) ?p2 ?q2 (BA _ HUA) (BA _ (EB.alloc EB.size _)) ?l2 ?r2
          case p2 => intro o' ho ht; exact run_appS ho ht rfl rfl hra
          case q2 => intro o' ho ht; simp only [execOp, ho]; go_simp; first | done | rfl | simp [alloc_size]
          case l2 =>
            simp only [Act.put, List.setIfInBounds_toArray, List.set_cons_zero, List.set_cons_succ]
            refine heldAC (di := some 7) (dj := some 37) (opi := .alloc 34) (opj := .call { callee := Callee.value (Operand.func 15), args := #[Operand.tmp 32, Operand.tmp 33, Operand.tmp 36], argTypes := #[25, 9, 23] }) (ti := 0) (tj := 35) 9 5 (.pointer (some ⟨ua.heap.size, 0, none⟩)) (ua.alloc (.cells #[.string { data := #[] }, .string { data := #[] }, .string { data := #[] }] 34)) 15 #[.agg #[.slice a1 n1 c1, .slice a2 n2 c2, .int .i64 tb, .int .i64 ms, .int .i64 fr, .int .i64 ct, .int .i64 bs, .int .i64 ot, .int .i64 sh, .int .i64 id, .int .i64 po, .int .i64 cl], .string path, va] rfl rfl (by kernel_rfl) ?p3 ?q3 (BA _ (HUA.alloc HUA.size _)) ?l3 ?r3
            case p3 => intro o' ho ht; simp only [execOp, ho]; go_simp; try rfl
            case q3 => intro o' ho ht; simp only [execOp, ho]; go_simp; try rfl
            case l3 =>
              simp only [Act.put, List.setIfInBounds_toArray, List.set_cons_zero, List.set_cons_succ]
              have BZ := (Below.refl ua.heap.size ua).alloc (Nat.le_refl _) (.cells #[.string { data := #[] }, .string { data := #[] }, .string { data := #[] }] 34)
              have SV := HSA.below BZ
              have BU := BA _ (HUA.alloc HUA.size (.cells #[.string { data := #[] }, .string { data := #[] }, .string { data := #[] }] 34))
              refine heldCall (d := some 37) (op := .call { callee := Callee.value (Operand.func 15), args := #[Operand.tmp 32, Operand.tmp 33, Operand.tmp 36], argTypes := #[25, 9, 23] }) (g := none) 5 15 #[.agg #[.slice a1 n1 c1, .slice a2 n2 c2, .int .i64 tb, .int .i64 ms, .int .i64 fr, .int .i64 ct, .int .i64 bs, .int .i64 ot, .int .i64 sh, .int .i64 id, .int .i64 po, .int .i64 cl], .string path, va] rfl (by kernel_rfl) (by kernel_rfl) ?y5c4 ?_
              case y5c4 => intro o' ho; simp only [execOp, ho]; go_simp; try rfl
              refine (PKV.out (ua.alloc (.cells #[.string { data := #[] }, .string { data := #[] }, .string { data := #[] }] 34)) va (BW _ BU) SV).mono ?_
              rintro e u4 ⟨rfl, HQ4⟩
              refine ⟨_, rfl, BU.trans (HQ4.out.mono BU.size), ?_⟩
              simp only [Act.put, List.setIfInBounds_toArray, List.set_cons_zero, List.set_cons_succ]
              have HX4 := below_key (alloc_new ua (.cells #[.string { data := #[] }, .string { data := #[] }, .string { data := #[] }] 34) _ rfl) HQ4.out
              have B4 := BU.trans (HQ4.out.mono BU.size)
              have LE := (BA _ HUA).size
              refine heldTake (d := some 31) (op := .move (Operand.tmp 37)) (g := none) 6 ?v6e4 rfl (by kernel_rfl) (by kernel_rfl) (by kernel_rfl) (by kernel_rfl) ?y6e4 B4 ?_
              case y6e4 => intro o' ho W hS; simp only [execOp, ho]; go_simp; try rfl
              simp only [Act.put, List.setIfInBounds_toArray, List.set_cons_zero, List.set_cons_succ]
              refine heldTake (d := some 38) (op := .extract (Operand.tmp 31) 0) (g := none) 7 ?v7e4 rfl (by kernel_rfl) (by kernel_rfl) (by kernel_rfl) (by kernel_rfl) ?y7e4 B4 ?_
              case y7e4 => intro o' ho W hS; simp only [execOp, ho]; go_simp; try rfl
              simp only [Act.put, List.setIfInBounds_toArray, List.set_cons_zero, List.set_cons_succ]
              refine heldTake (d := some 39) (op := .extract (Operand.tmp 31) 1) (g := none) 8 ?v8e4 rfl (by kernel_rfl) (by kernel_rfl) (by kernel_rfl) (by kernel_rfl) ?y8e4 B4 ?_
              case y8e4 => intro o' ho W hS; simp only [execOp, ho]; go_simp; try rfl
              simp only [Act.put, List.setIfInBounds_toArray, List.set_cons_zero, List.set_cons_succ]
              have HBS := below_setRow B4 LE #[.string x1, .string y1, .string z1] (g := ua.heap.size)
              have HCE := setRow_heap _ _ _ #[.string x1, .string y1, .string z1] _ _ HX4
              refine heldStore (d := none) (op := .store 34 (Operand.tmp 7) (Operand.tmp 38)) (g := none) (t := 0) 10 (u4.setRow ua.heap.size #[.string x1, .string y1, .string z1]) rfl (by kernel_rfl) (by kernel_rfl) ?ys4 HBS ?_
              case ys4 => intro o' ho ht; exact store_rt ho rfl rfl HX4
              simp only [Act.put]
              refine heldTake (d := some 8) (op := .assign (Operand.tmp 39)) (g := none) 11 ?v11e4 rfl (by kernel_rfl) (by kernel_rfl) (by kernel_rfl) (by kernel_rfl) ?y11e4 HBS ?_
              case y11e4 => intro o' ho W hS; simp only [execOp, ho]; go_simp; try rfl
              simp only [Act.put, List.setIfInBounds_toArray, List.set_cons_zero, List.set_cons_succ]
              refine wpAnyH_done (by kernel_rfl) ?_ _
              refine NoPanic.normal ?_
              (try go_wp2_with fail)
              go_meet
              exact ⟨_, rfl, rfl, ⟨BW _ HBS⟩, ⟨HBS⟩, ⟨HCE⟩⟩
            case r3 =>
              refine (PKV.out ua va (BW _ (BA _ HUA)) HSA).mono ?_
              rintro e u5 ⟨rfl, HQ5⟩
              have BU := BA _ HUA
              have B5 := BU.trans (HQ5.out.mono BU.size)
              refine ⟨_, rfl, B5, ?_⟩
              simp only [Act.put, List.setIfInBounds_toArray, List.set_cons_zero, List.set_cons_succ]
              refine heldTake (d := some 31) (op := .move (Operand.tmp 37)) (g := none) 6 ?v6e5 rfl (by kernel_rfl) (by kernel_rfl) (by kernel_rfl) (by kernel_rfl) ?y6e5 B5 ?_
              case y6e5 => intro o' ho W hS; simp only [execOp, ho]; go_simp; try rfl
              simp only [Act.put, List.setIfInBounds_toArray, List.set_cons_zero, List.set_cons_succ]
              refine heldTake (d := some 38) (op := .extract (Operand.tmp 31) 0) (g := none) 7 ?v7e5 rfl (by kernel_rfl) (by kernel_rfl) (by kernel_rfl) (by kernel_rfl) ?y7e5 B5 ?_
              case y7e5 => intro o' ho W hS; simp only [execOp, ho]; go_simp; try rfl
              simp only [Act.put, List.setIfInBounds_toArray, List.set_cons_zero, List.set_cons_succ]
              refine heldTake (d := some 39) (op := .extract (Operand.tmp 31) 1) (g := none) 8 ?v8e5 rfl (by kernel_rfl) (by kernel_rfl) (by kernel_rfl) (by kernel_rfl) ?y8e5 B5 ?_
              case y8e5 => intro o' ho W hS; simp only [execOp, ho]; go_simp; try rfl
              simp only [Act.put, List.setIfInBounds_toArray, List.set_cons_zero, List.set_cons_succ]
              have B6 := B5.alloc B5.size (.cells #[.string { data := #[] }, .string { data := #[] }, .string { data := #[] }] 34)
              have LE := B5.size
              refine heldRunT (d := some 7) (op := .alloc 34) (g := none) (t := 0) 9 (.pointer (some ⟨u5.heap.size, 0, none⟩)) (u5.alloc (.cells #[.string { data := #[] }, .string { data := #[] }, .string { data := #[] }] 34)) rfl (by kernel_rfl) (by kernel_rfl) ?y9a5 B6 ?_
              case y9a5 => intro o' ho _; simp only [execOp, ho]; go_simp; try rfl
              simp only [Act.put, List.setIfInBounds_toArray, List.set_cons_zero, List.set_cons_succ]
              have HX5 := alloc_new u5 (.cells #[.string { data := #[] }, .string { data := #[] }, .string { data := #[] }] 34) u5.heap.size rfl
              have HBS := below_setRow B6 LE #[.string x1, .string y1, .string z1] (g := u5.heap.size)
              have HCE := setRow_heap _ _ _ #[.string x1, .string y1, .string z1] _ _ HX5
              refine heldStore (d := none) (op := .store 34 (Operand.tmp 7) (Operand.tmp 38)) (g := none) (t := 0) 10 ((u5.alloc (.cells #[.string { data := #[] }, .string { data := #[] }, .string { data := #[] }] 34)).setRow u5.heap.size #[.string x1, .string y1, .string z1]) rfl (by kernel_rfl) (by kernel_rfl) ?ys5 HBS ?_
              case ys5 => intro o' ho ht; exact store_rt ho rfl rfl HX5
              simp only [Act.put]
              refine heldTake (d := some 8) (op := .assign (Operand.tmp 39)) (g := none) 11 ?v11e5 rfl (by kernel_rfl) (by kernel_rfl) (by kernel_rfl) (by kernel_rfl) ?y11e5 HBS ?_
              case y11e5 => intro o' ho W hS; simp only [execOp, ho]; go_simp; try rfl
              simp only [Act.put, List.setIfInBounds_toArray, List.set_cons_zero, List.set_cons_succ]
              refine wpAnyH_done (by kernel_rfl) ?_ _
              refine NoPanic.normal ?_
              (try go_wp2_with fail)
              go_meet
              exact ⟨_, rfl, rfl, ⟨BW _ HBS⟩, ⟨HBS⟩, ⟨HCE⟩⟩
          case r2 =>
            simp only [Act.put, List.setIfInBounds_toArray, List.set_cons_zero, List.set_cons_succ]
            have BU := BA _ HUB
            have LE : w2.heap.size ≤ Rw.heap.size + 1 := by omega
            refine heldRunT (d := some 36) (op := .call { callee := Callee.builtin Builtin.append, args := #[Operand.tmp 34, Operand.tmp 35], argTypes := #[23, 23] }) (g := none) (t := 23) 4 (vb) (ub) rfl (by kernel_rfl) (by kernel_rfl) ?yb6 BU ?_
            case yb6 => intro o' ho ht; exact run_appS ho ht rfl rfl hrb
            simp only [Act.put, List.setIfInBounds_toArray, List.set_cons_zero, List.set_cons_succ]
            refine heldCall (d := some 37) (op := .call { callee := Callee.value (Operand.func 15), args := #[Operand.tmp 32, Operand.tmp 33, Operand.tmp 36], argTypes := #[25, 9, 23] }) (g := none) 5 15 #[.agg #[.slice a1 n1 c1, .slice a2 n2 c2, .int .i64 tb, .int .i64 ms, .int .i64 fr, .int .i64 ct, .int .i64 bs, .int .i64 ot, .int .i64 sh, .int .i64 id, .int .i64 po, .int .i64 cl], .string path, vb] rfl (by kernel_rfl) (by kernel_rfl) ?y5c6 ?_
            case y5c6 => intro o' ho; simp only [execOp, ho]; go_simp; try rfl
            refine (PKV.out ub vb (BW _ BU) HSB).mono ?_
            rintro e u6 ⟨rfl, HQ6⟩
            refine ⟨_, rfl, BU.trans (HQ6.out.mono BU.size), ?_⟩
            simp only [Act.put, List.setIfInBounds_toArray, List.set_cons_zero, List.set_cons_succ]
            have HX6 := below_key HXB HQ6.out
            have B7 := BU.trans (HQ6.out.mono BU.size)
            refine heldTake (d := some 31) (op := .move (Operand.tmp 37)) (g := none) 6 ?v6e6 rfl (by kernel_rfl) (by kernel_rfl) (by kernel_rfl) (by kernel_rfl) ?y6e6 B7 ?_
            case y6e6 => intro o' ho W hS; simp only [execOp, ho]; go_simp; try rfl
            simp only [Act.put, List.setIfInBounds_toArray, List.set_cons_zero, List.set_cons_succ]
            refine heldTake (d := some 38) (op := .extract (Operand.tmp 31) 0) (g := none) 7 ?v7e6 rfl (by kernel_rfl) (by kernel_rfl) (by kernel_rfl) (by kernel_rfl) ?y7e6 B7 ?_
            case y7e6 => intro o' ho W hS; simp only [execOp, ho]; go_simp; try rfl
            simp only [Act.put, List.setIfInBounds_toArray, List.set_cons_zero, List.set_cons_succ]
            refine heldTake (d := some 39) (op := .extract (Operand.tmp 31) 1) (g := none) 8 ?v8e6 rfl (by kernel_rfl) (by kernel_rfl) (by kernel_rfl) (by kernel_rfl) ?y8e6 B7 ?_
            case y8e6 => intro o' ho W hS; simp only [execOp, ho]; go_simp; try rfl
            simp only [Act.put, List.setIfInBounds_toArray, List.set_cons_zero, List.set_cons_succ]
            have HBS := below_setRow B7 LE #[.string x1, .string y1, .string z1] (g := (Rw.heap.size + 1))
            have HCE := setRow_heap _ _ _ #[.string x1, .string y1, .string z1] _ _ HX6
            refine heldStore (d := none) (op := .store 34 (Operand.tmp 7) (Operand.tmp 38)) (g := none) (t := 0) 10 (u6.setRow (Rw.heap.size + 1) #[.string x1, .string y1, .string z1]) rfl (by kernel_rfl) (by kernel_rfl) ?ys6 HBS ?_
            case ys6 => intro o' ho ht; exact store_rt ho rfl rfl HX6
            simp only [Act.put]
            refine heldTake (d := some 8) (op := .assign (Operand.tmp 39)) (g := none) 11 ?v11e6 rfl (by kernel_rfl) (by kernel_rfl) (by kernel_rfl) (by kernel_rfl) ?y11e6 HBS ?_
            case y11e6 => intro o' ho W hS; simp only [execOp, ho]; go_simp; try rfl
            simp only [Act.put, List.setIfInBounds_toArray, List.set_cons_zero, List.set_cons_succ]
            refine wpAnyH_done (by kernel_rfl) ?_ _
            refine NoPanic.normal ?_
            (try go_wp2_with fail)
            go_meet
            exact ⟨_, rfl, rfl, ⟨BW _ HBS⟩, ⟨HBS⟩, ⟨HCE⟩⟩
        case r1 =>
          simp only [Act.put, List.setIfInBounds_toArray, List.set_cons_zero, List.set_cons_succ]
          have BZ0 := BA _ EZ
          have LE := RWS
          have EC := EZ.alloc EZ.size (.cells #[] 9)
          refine heldRunT (d := some 34) (op := .buildSlice 23 0 #[]) (g := none) (t := 23) 2 (.slice (some ⟨Rw.heap.size + 1, 0, none⟩) 0 0) ((Rw.alloc (.cells #[.string { data := #[] }, .string { data := #[] }, .string { data := #[] }] 34)).alloc (.cells #[] 9)) rfl (by kernel_rfl) (by kernel_rfl) ?y2b8 (BA _ EC) ?_
          case y2b8 => intro o' ho _; simp only [execOp, ho]; go_simp; first | done | rfl | simp [alloc_size]
          simp only [Act.put, List.setIfInBounds_toArray, List.set_cons_zero, List.set_cons_succ]
          have BU := BA _ (EZ.trans (HUC.mono EZ.size))
          rw [alloc_size] at hrc
          refine heldRunT (d := some 36) (op := .call { callee := Callee.builtin Builtin.append, args := #[Operand.tmp 34, Operand.tmp 35], argTypes := #[23, 23] }) (g := none) (t := 23) 4 (vc) (uc) rfl (by kernel_rfl) (by kernel_rfl) ?yb8 BU ?_
          case yb8 => intro o' ho ht; exact run_appS ho ht rfl rfl hrc
          simp only [Act.put, List.setIfInBounds_toArray, List.set_cons_zero, List.set_cons_succ]
          refine heldCall (d := some 37) (op := .call { callee := Callee.value (Operand.func 15), args := #[Operand.tmp 32, Operand.tmp 33, Operand.tmp 36], argTypes := #[25, 9, 23] }) (g := none) 5 15 #[.agg #[.slice a1 n1 c1, .slice a2 n2 c2, .int .i64 tb, .int .i64 ms, .int .i64 fr, .int .i64 ct, .int .i64 bs, .int .i64 ot, .int .i64 sh, .int .i64 id, .int .i64 po, .int .i64 cl], .string path, vc] rfl (by kernel_rfl) (by kernel_rfl) ?y5c8 ?_
          case y5c8 => intro o' ho; simp only [execOp, ho]; go_simp; try rfl
          refine (PKV.out uc vc (BW _ BU) HSC).mono ?_
          rintro e u8 ⟨rfl, HQ8⟩
          refine ⟨_, rfl, BU.trans (HQ8.out.mono BU.size), ?_⟩
          simp only [Act.put, List.setIfInBounds_toArray, List.set_cons_zero, List.set_cons_succ]
          have HX8 := below_key (below_key (alloc_new Rw (.cells #[.string { data := #[] }, .string { data := #[] }, .string { data := #[] }] 34) Rw.heap.size rfl) HUC) HQ8.out
          have B9 := BU.trans (HQ8.out.mono BU.size)
          refine heldTake (d := some 31) (op := .move (Operand.tmp 37)) (g := none) 6 ?v6e8 rfl (by kernel_rfl) (by kernel_rfl) (by kernel_rfl) (by kernel_rfl) ?y6e8 B9 ?_
          case y6e8 => intro o' ho W hS; simp only [execOp, ho]; go_simp; try rfl
          simp only [Act.put, List.setIfInBounds_toArray, List.set_cons_zero, List.set_cons_succ]
          refine heldTake (d := some 38) (op := .extract (Operand.tmp 31) 0) (g := none) 7 ?v7e8 rfl (by kernel_rfl) (by kernel_rfl) (by kernel_rfl) (by kernel_rfl) ?y7e8 B9 ?_
          case y7e8 => intro o' ho W hS; simp only [execOp, ho]; go_simp; try rfl
          simp only [Act.put, List.setIfInBounds_toArray, List.set_cons_zero, List.set_cons_succ]
          refine heldTake (d := some 39) (op := .extract (Operand.tmp 31) 1) (g := none) 8 ?v8e8 rfl (by kernel_rfl) (by kernel_rfl) (by kernel_rfl) (by kernel_rfl) ?y8e8 B9 ?_
          case y8e8 => intro o' ho W hS; simp only [execOp, ho]; go_simp; try rfl
          simp only [Act.put, List.setIfInBounds_toArray, List.set_cons_zero, List.set_cons_succ]
          have HBS := below_setRow B9 LE #[.string x1, .string y1, .string z1] (g := Rw.heap.size)
          have HCE := setRow_heap _ _ _ #[.string x1, .string y1, .string z1] _ _ HX8
          refine heldStore (d := none) (op := .store 34 (Operand.tmp 7) (Operand.tmp 38)) (g := none) (t := 0) 10 (u8.setRow Rw.heap.size #[.string x1, .string y1, .string z1]) rfl (by kernel_rfl) (by kernel_rfl) ?ys8 HBS ?_
          case ys8 => intro o' ho ht; exact store_rt ho rfl rfl HX8
          simp only [Act.put]
          refine heldTake (d := some 8) (op := .assign (Operand.tmp 39)) (g := none) 11 ?v11e8 rfl (by kernel_rfl) (by kernel_rfl) (by kernel_rfl) (by kernel_rfl) ?y11e8 HBS ?_
          case y11e8 => intro o' ho W hS; simp only [execOp, ho]; go_simp; try rfl
          simp only [Act.put, List.setIfInBounds_toArray, List.set_cons_zero, List.set_cons_succ]
          refine wpAnyH_done (by kernel_rfl) ?_ _
          refine NoPanic.normal ?_
          (try go_wp2_with fail)
          go_meet
          exact ⟨_, rfl, rfl, ⟨BW _ HBS⟩, ⟨HBS⟩, ⟨HCE⟩⟩
      case rest =>
        obtain ⟨x, rfl, rfl, HBr, HBr2, HRr⟩ := hcut
        have HXr := Sl.mk (below_key HX2.out HBr2.out)
        obtain ⟨v0, hv0⟩ : ∃ v, wc = v := ⟨_, rfl⟩
        subst hv0
        clear HX2 HBw2 HBr2 PKV
        go_wp2
        go_loopw [10, 9] (fun i fd wr => ∃ k : Nat, k ≤ n1 ∧ i = .int .i64 k ∧ fd = .bool (met (bytes path) (ps.map bytes) (rs.take k) o) ∧ Sl (Below wa.heap.size wa wr) ∧ Sl (wr.heap[g]? = some (.cells #[.slice a1 n1 c1, .slice a2 n2 c2, .int .i64 tb, .int .i64 ms, .int .i64 fr, .int .i64 ct, .int .i64 bs, .int .i64 ot, .int .i64 sh, .int .i64 id, .int .i64 po, .int .i64 cl] 25 (0, 0))) ∧ Sl (wr.heap[x]? = some (.cells #[.string x1, .string y1, .string z1] 34 (0, 0)))) (fun i _ _ => n1 - (intOf i).toNat)
        case atStart => exact ⟨0, Nat.zero_le _, rfl, by rw [List.take_zero, met_nil], HBr, HXr, HRr⟩
        case round =>
          clear HBr HXr HRr
          obtain ⟨k, hk, rfl, rfl, HB, HX, HR⟩ := hrel
          have e0 : wr.cell? ⟨g, 0, none⟩ = some (.slice a1 n1 c1) := cell_at HX.out 0 _ rfl
          by_cases hlt : k < n1
          · have hq : ((k : Int) < (n1 : Int)) = True := eq_true (by omega)
            have hkl : k < rs.length := by rw [← HN1.out]; exact hlt
            obtain ⟨sb, so, rfl⟩ := HV0.out.cap.2.2 (by omega)
            obtain ⟨x2, y2, z2, he⟩ : ∃ x y z, rs.getD k Rb0 = ⟨x, y, z⟩ := ⟨_, _, _, rfl⟩
            have HE := Sl.mk he
            have hmem : (⟨x2, y2, z2⟩ : Rb) ∈ rs := by
              rw [← he, List.getD_eq_getElem?_getD, List.getElem?_eq_getElem hkl]; exact List.getElem_mem _
            have hok : Short ⟨x2, y2, z2⟩ := HSH.out _ hmem
            have HMEM := Sl.mk hmem
            obtain ⟨c0, c1', c2'⟩ := (HV0.out.below HB.out).at3 k hkl he
            obtain ⟨wx, hwx, HBx, hx⟩ := box_rt wr
            obtain ⟨wy, hwy, HBy, HXR⟩ := set_rt hx HBx.out (Nat.le_refl _) #[.string x2, .string y2, .string z2]
            have HI : (Tryd.prog.info? 34).map (·.size) = some (#[Value.string x2, .string y2, .string z2] : Array Value).size := rt_info rfl
            have HXy := Sl.mk (below_key HX.out HBy.out)
            have HRy := Sl.mk (below_key HR.out HBy.out)
            have HBz : Sl (Below wa.heap.size wa wy) := ⟨HB.out.trans (HBy.out.mono HB.out.size)⟩
            have HMS : Sl (met (bytes path) (ps.map bytes) (rs.take (k + 1)) o = (met (bytes path) (ps.map bytes) (rs.take k) o || (f && (fits (bytes path) (ps.map bytes) ⟨bytes x2, bytes y2, bytes z2⟩ && same3 x2 y2 z2 x1 y1 z1)))) := ⟨by rw [takeT hkl, he, met_snoc, HOF.out, HOR.out]; rfl⟩
            obtain ⟨mk, hmk⟩ : ∃ b, met (bytes path) (ps.map bytes) (rs.take k) o = b := ⟨_, rfl⟩
            rw [hmk] at HMS
            rw [hmk]
            obtain ⟨p1, hp1⟩ : ∃ p, below (bytes path) (bytes x2) = p := ⟨_, rfl⟩
            obtain ⟨p2, hp2⟩ : ∃ p, decide (bytes y2 = []) = p := ⟨_, rfl⟩
            obtain ⟨p3, hp3⟩ : ∃ p, decide (bytes y2 ∈ ps.map bytes) = p := ⟨_, rfl⟩
            have HPF : Sl (fits (bytes path) (ps.map bytes) ⟨bytes x2, bytes y2, bytes z2⟩ = (p1 && (p2 || p3))) := ⟨by unfold RoutePlain.fits; simp only; rw [hp1, hp2, hp3]⟩
            have B1 := Sl.mk (BL.out wy x2 p1 (Nat.le_trans hok.1 (by decide)) hp1)
            have B2 : Sl (∀ V, Below wa.heap.size wa V → Calls Tryd.prog 22 #[.string y2, .slice pa pn pc] V fun e w' => e = .returned (.bool p3) ∧ V = w') := ⟨fun V h => by rw [← hp3]; exact IN.out V y2 h⟩
            have HP2 := Sl.mk hp2
            have hx2s : x2.size ≤ 1000000 := hok.1
            have hk4 : (0 : Int) ≤ (k : Int) := by omega
            clear he hok hp1 hp2 hp3 hmk hmem
            go_upto_region 9 with (refine wpList_store_row rfl 34 (.tmp 11) (.tmp 51) rfl wr.heap.size #[.string x2, .string y2, .string z2] rfl rfl 34 #[.string { data := #[] }, .string { data := #[] }, .string { data := #[] }] hx HI rfl (rt_all _ _ _) ?_)
            (try rw [hwy])
            clear hwx hwy hx HBx c0 c1' c2' e0 HX HR
            obtain ⟨gb, hgb⟩ : ∃ p, wr.heap.size = p := ⟨_, rfl⟩
            rw [hgb] at HXR
            (try rw [hgb])
            clear hgb HBy HB
            obtain ⟨F, hF⟩ : ∃ F, (p1 && (p2 || p3)) = F := ⟨_, rfl⟩
            have HFF := Sl.mk hF
            rw [hF] at HPF
            clear hF
            obtain ⟨d0, d1, d2⟩ := rt_cells HXR.out
            simp only [Act.put]
            go_cut [12] (fun s12 wx => s12 = .bool F ∧ Sl (Below wy.heap.size wy wx))
            case first =>
              cases p1 with
              | false =>
                go_wp2_with fail
                refine (B1.out).mono ?_
                rintro e w3 ⟨rfl, HQ3⟩
                go_wp2_with fail
                go_meet
                exact ⟨by rw [← HFF.out]; rfl, HQ3⟩
              | true =>
                go_wp2_with fail
                refine (B1.out).mono ?_
                rintro e w3 ⟨rfl, HQ3⟩
                have HB3 : Sl (Below wa.heap.size wa w3) := ⟨HBz.out.trans (HQ3.out.mono HBz.out.size)⟩
                clear d0 d1 d2
                obtain ⟨d0, d1, d2⟩ := rt_cells (below_key HXR.out HQ3.out)
                cases p2 with
                | true =>
                  obtain ⟨l1, l2, l3⟩ := nil_yes HP2.out
                  go_wp2_with fail
                  go_meet
                  exact ⟨by rw [← HFF.out]; rfl, HQ3⟩
                | false =>
                  obtain ⟨l1, l2, l3⟩ := nil_no HP2.out
                  go_wp2_with fail
                  refine (B2.out _ HB3.out).mono ?_
                  rintro e w4 ⟨rfl, rfl⟩
                  cases p3 <;> (go_wp2_with fail; go_meet; exact ⟨by rw [← HFF.out]; rfl, HQ3⟩)
            case rest =>
              obtain ⟨rfl, HQ⟩ := hcut
              clear B1 B2 d0 d1 d2 HP2
              have HXc := Sl.mk (below_key HXy.out HQ.out)
              have HRc := Sl.mk (below_key HRy.out HQ.out)
              have HRBc := Sl.mk (below_key HXR.out HQ.out)
              have HBc : Sl (Below wa.heap.size wa wc) := ⟨HBz.out.trans (HQ.out.mono HBz.out.size)⟩
              obtain ⟨d0, d1, d2⟩ := rt_cells HRBc.out
              obtain ⟨g0, g1, g2⟩ := rt_cells HRc.out
              have EQ := eq_rt x2 y2 z2 x1 y1 z1
              obtain ⟨q, hq4⟩ : ∃ q, same3 x2 y2 z2 x1 y1 z1 = q := ⟨_, rfl⟩
              rw [hq4] at EQ HMS
              rw [HPF.out] at HMS
              clear hq4 HXy HRy HXR HBz HQ
              cases F with
              | false =>
                cases mk <;> cases f <;> (go_wp2; exact ⟨⟨k + 1, by omega, by go_num, by rw [HMS.out]; rfl, HBc, HXc, HRc⟩, by simp [intOf]; omega⟩)
              | true =>
                cases f with
                | false =>
                  have hno : o = none := by cases o with | none => rfl | some r => exact absurd HOF.out (by simp)
                  have := best_none (HBO.out.trans hno) _ HMEM.out
                  exact absurd (HPF.out.symm.trans this) (by decide)
                | true =>
                  have hle : x2.size ≤ x1.size := by
                    cases o with
                    | none => exact absurd HOF.out (by simp)
                    | some r =>
                      have h1 := (best_long HBO.out).2 _ HMEM.out HPF.out
                      have h2 := HOR.out
                      rw [Option.getD_some] at h2
                      rw [h2] at h1
                      exact h1
                  have hgt : ((x2.size : Int) > (x1.size : Int)) = False := eq_false (by omega)
                  have hgt2 : (x2.size : Int) ≤ (x1.size : Int) := by omega
                  cases mk <;> cases q <;> (go_wp2; exact ⟨⟨k + 1, by omega, by go_num, by rw [HMS.out]; rfl, HBc, HXc, HRc⟩, by simp [intOf]; omega⟩)
          · obtain rfl : k = n1 := by omega
            have hge : ((k : Int) < (k : Int)) = False := eq_false (by omega)
            have hall : rs.take k = rs := List.take_of_length_le (by rw [HN1.out]; exact Nat.le_refl _)
            have hmet := met_all HBO.out
            rw [HOF.out] at hmet
            rw [hall, hmet]
            obtain ⟨g0, g1, g2⟩ := rt_cells HR.out
            cases f with
            | true =>
              clear hmet hall
              go_wp2
              go_ret
              exact ⟨rfl, HTOP.out _ HB.out⟩
            | false =>
              have hno : o = none := by cases o with | none => rfl | some r => exact absurd HOF.out (by simp)
              have hrn := HOR.out
              rw [hno, Option.getD_none] at hrn
              injection hrn with e1 e2 e3
              subst e1 e2 e3
              have EQ := eq_rt { data := #[] } { data := #[] } { data := #[] } { data := #[] } { data := #[] } { data := #[] }
              rw [show same3 { data := #[] } { data := #[] } { data := #[] } { data := #[] } { data := #[] } { data := #[] } = true from by kernel_rfl] at EQ
              clear hmet hall hno
              go_wp2
              go_ret
              exact ⟨rfl, HTOP.out _ HB.out⟩
end Go.Proofs.YtdndpicfnlcgjaaDoor.Rou
