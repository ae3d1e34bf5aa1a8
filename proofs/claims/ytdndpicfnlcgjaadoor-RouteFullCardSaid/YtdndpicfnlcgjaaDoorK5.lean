/- RouteFull's walk. -/
import Derived.Test.YtdndpicfnlcgjaaDoorRP
import Derived.Test.YtdndpicfnlcgjaaDoorRM
set_option maxRecDepth 100000
namespace Go.Proofs.YtdndpicfnlcgjaaDoor.Rou
open Go.RowKit Nam
open RoutePlain (Rt below better fits pick stem)

theorem own_blk {W : World} {base : Nat} {v : Value} {l : List ByteArray} (h : OwnS W base v l) {k : Nat} (hk : v.ownBlock = some k) : base ≤ k := by
  rcases h.2 with ⟨rfl, _⟩ | ⟨j, cap, cur, rfl, hb, _⟩
  · cases hk
  · injection hk with hk; rw [← hk]; exact hb
theorem str_keep {W V : World} {g n c : Nat} {l : List ByteArray} (h : StrA W (.slice (some ⟨g, 0, none⟩) n c) l) (hb : V.heap[g]? = W.heap[g]?) : StrA V (.slice (some ⟨g, 0, none⟩) n c) l := by
  obtain ⟨a, cap, sb, so, he, h1, h2, h3⟩ := h
  refine ⟨a, cap, sb, so, he, h1, h2, fun i hi => ?_⟩
  injection he with e1 e2 e3
  have h4 := h2 (by omega)
  rw [h4] at e1
  injection e1 with e1
  injection e1 with e4 e5
  rw [World.cell?_of_block (w := W) (by rw [← e4]; exact hb)]
  exact h3 i hi
theorem str_grown {W V : World} {v : Value} {l : List ByteArray} {r : Option Nat} (h : StrA W v l) (hg : W.grownBy V r) (hr : ∀ k, v.ownBlock = some k → r ≠ some k) : StrA V v l := by
  obtain ⟨a, cap, sb, so, rfl, h1, h2, h3⟩ := h
  refine ⟨a, cap, sb, so, rfl, h1, h2, fun i hi => ?_⟩
  have g3 := h3 i hi
  have k0 : sb < W.heap.size := block_lt_of_cell g3
  obtain rfl := h2 (by omega)
  rw [World.cell?_of_block (w := W) (hg.block sb k0 (fun e => hr sb rfl e.symm))]
  exact g3
theorem rt_self (a b c : ByteArray) (W : World) : (Op.equalIn 10000 34 (.agg #[.string a, .string b, .string c]) (.agg #[.string a, .string b, .string c])).run Tryd.prog W = .ok true W := by
  rw [eq_rt]; unfold same3; simp
/-- How the answers to fewer and to more sessions go together. -/
theorem full_key (al : Bool) (o : Option Rb) (fa fb : Bool) (h : fa = true → fb = true) : ∃ (xa ya za xb yb zb xk yk zk : ByteArray) (na nb nk : Int),
    admV al o fa = .tuple #[.agg #[.string xa, .string ya, .string za], .int .i64 na] ∧ admV al o fb = .tuple #[.agg #[.string xb, .string yb, .string zb], .int .i64 nb] ∧ admV true o fa = .tuple #[.agg #[.string xk, .string yk, .string zk], .int .i64 nk] ∧
    ((na = 403 ∧ nb = 403) ∨ (na = 404 ∧ nb = 404) ∨ (na = 503 ∧ nb = 503) ∨ (na = 0 ∧ nb = 503) ∨ (na = 0 ∧ nb = 0 ∧ xa = xb ∧ ya = yb ∧ za = zb)) ∧
    ((na = 403 ∧ (nk = 404 ∨ nk = 503 ∨ nk = 0)) ∨ ((na = 404 ∨ na = 503 ∨ na = 0) ∧ nk = na ∧ xk = xa ∧ yk = ya ∧ zk = za)) := by
  cases al with
  | false =>
    cases o with
    | none => exact ⟨_, _, _, _, _, _, _, _, _, _, _, _, rfl, rfl, rfl, .inl ⟨rfl, rfl⟩, .inl ⟨rfl, .inl rfl⟩⟩
    | some r =>
      cases fa with
      | true => exact ⟨_, _, _, _, _, _, _, _, _, _, _, _, rfl, rfl, rfl, .inl ⟨rfl, rfl⟩, .inl ⟨rfl, .inr (.inl rfl)⟩⟩
      | false => exact ⟨_, _, _, _, _, _, _, _, _, _, _, _, rfl, rfl, rfl, .inl ⟨rfl, rfl⟩, .inl ⟨rfl, .inr (.inr rfl)⟩⟩
  | true =>
    cases o with
    | none => exact ⟨_, _, _, _, _, _, _, _, _, _, _, _, rfl, rfl, rfl, .inr (.inl ⟨rfl, rfl⟩), .inr ⟨.inl rfl, rfl, rfl, rfl, rfl⟩⟩
    | some r =>
      cases fa with
      | true =>
        obtain rfl : fb = true := h rfl
        exact ⟨_, _, _, _, _, _, _, _, _, _, _, _, rfl, rfl, rfl, .inr (.inr (.inl ⟨rfl, rfl⟩)), .inr ⟨.inr (.inl rfl), rfl, rfl, rfl, rfl⟩⟩
      | false =>
        cases fb with
        | true => exact ⟨_, _, _, _, _, _, _, _, _, _, _, _, rfl, rfl, rfl, .inr (.inr (.inr (.inl ⟨rfl, rfl⟩))), .inr ⟨.inr (.inr rfl), rfl, rfl, rfl, rfl⟩⟩
        | false => exact ⟨_, _, _, _, _, _, _, _, _, _, _, _, rfl, rfl, rfl, .inr (.inr (.inr (.inr ⟨rfl, rfl, rfl, rfl, rfl⟩))), .inr ⟨.inr (.inr rfl), rfl, rfl, rfl, rfl⟩⟩
set_option maxHeartbeats 16000000 in
theorem full_walk (a1 : Option Addr) (n1 c1 : Nat) (a2 : Option Addr) (n2 c2 : Nat) (tb ms fr ct bs ot sh id po cl : Int) (rs : List Rb) (os : List ByteArray) (path host key origin : ByteArray) (pa : Option Addr) (pn pc : Nat) (ps : List ByteArray) (a b : Int) (W : World) (hg : Globs W) (hc : RtsAt W (.slice a1 n1 c1) rs ∧ (∀ r ∈ rs, RbOk r) ∧ rs.length ≤ maxLen) (ho : StrA W (.slice a2 n2 c2) os ∧ os.length ≤ maxLen ∧ ∀ s ∈ os, s.size ≤ maxLen) (hp : path.size ≤ maxLen ∧ origin.size ≤ maxLen) (hq : StrA W (.slice pa pn pc) ps ∧ ps.length ≤ maxLen ∧ ∀ s ∈ ps, s.size ≤ maxLen) : Calls Tryd.prog 8 #[.agg #[.slice a1 n1 c1, .slice a2 n2 c2, .int .i64 tb, .int .i64 ms, .int .i64 fr, .int .i64 ct, .int .i64 bs, .int .i64 ot, .int .i64 sh, .int .i64 id, .int .i64 po, .int .i64 cl], .agg #[.string path, .string host, .string key, .string origin, .slice pa pn pc], .int .i64 a, .int .i64 b] W fun e w' => e = .returned (.bool true) ∧ Below W.heap.size W w' := by
  obtain ⟨wz, hwz, HBz, hz⟩ := cfg_box W #[.slice a1 n1 c1, .slice a2 n2 c2, .int .i64 tb, .int .i64 ms, .int .i64 fr, .int .i64 ct, .int .i64 bs, .int .i64 ot, .int .i64 sh, .int .i64 id, .int .i64 po, .int .i64 cl]
  obtain ⟨wa, hwa, HBy, hy⟩ := off_box wz #[.string path, .string host, .string key, .string origin, .slice pa pn pc]
  have HBa : Sl (Below W.heap.size W wa) := ⟨HBz.out.trans (HBy.out.mono HBz.out.size)⟩
  have HX := Sl.mk (below_key hz HBy.out)
  have HOF := Sl.mk hy
  obtain ⟨go, hgo⟩ : ∃ g, wz.heap.size = g := ⟨_, rfl⟩
  have HP9 : Sl (path.size ≤ 9223372036854775807 ∧ origin.size ≤ 9223372036854775807) := ⟨by have := hp.1; have := hp.2; unfold maxLen at *; omega⟩
  have HQ0 := Sl.mk (hq.1.below HBa.out)
  have HQL := Sl.mk hq.2.1
  have HQS := Sl.mk hq.2.2
  have HPN : Sl (pn = ps.length) := ⟨by obtain ⟨_, _, _, _, h, _⟩ := hq.1; injection h⟩
  obtain ⟨f6, hf6⟩ : ∃ f, fewB ps = f := ⟨_, rfl⟩
  have HF6 := Sl.mk hf6
  have F6 : Sl (∀ V, Below wa.heap.size wa V → Calls Tryd.prog 14 #[.slice pa pn pc] V fun e w' => e = .returned (.bool f6) ∧ V = w') := ⟨fun V h => by rw [← hf6]; exact few_any ps _ V ((hq.1.below HBa.out).below h) hq.2.1 hq.2.2⟩
  obtain ⟨g, hgg⟩ : ∃ g, W.heap.size = g := ⟨_, rfl⟩
  have HSZ : Sl (g ≤ wa.heap.size) := ⟨by rw [← hgg]; exact HBa.out.size⟩
  have AW : Sl (∀ V, Below wa.heap.size wa V → Calls Tryd.prog 10 #[] V fun e w' => e = .returned (.bool true) ∧ Sl (Below V.heap.size V w')) := ⟨fun V h => awake_any V ((hg.of HBa.out).of h)⟩
  obtain ⟨fw, hfw⟩ : ∃ f, fewC rs os = f := ⟨_, rfl⟩
  have HFW := Sl.mk hfw
  have FW : Sl (∀ V, Below wa.heap.size wa V → Calls Tryd.prog 11 #[.agg #[.slice a1 n1 c1, .slice a2 n2 c2, .int .i64 tb, .int .i64 ms, .int .i64 fr, .int .i64 ct, .int .i64 bs, .int .i64 ot, .int .i64 sh, .int .i64 id, .int .i64 po, .int .i64 cl]] V fun en w' => en = .returned (.bool fw) ∧ Sl (Below V.heap.size V w')) := ⟨fun V h => rfew_any rs a1 n1 c1 a2 n2 c2 tb ms fr ct bs ot sh id po cl os V ((hc.1.below HBa.out).below h) hc.2.1 hc.2.2 ((ho.1.below HBa.out).below h) ho.2.1 ho.2.2 fw hfw⟩
  have HV0 := Sl.mk (hc.1.below HBa.out)
  have HO0 := Sl.mk (ho.1.below HBa.out)
  have HOKR := Sl.mk hc.2.1
  have HG0 := Sl.mk (hg.of HBa.out)
  rw [hgg] at HX HBa
  rw [hgo] at HOF
  have HTOP : Sl (∀ V, Below wa.heap.size wa V → Below W.heap.size W V) := ⟨fun V h => by rw [hgg]; exact HBa.out.trans (h.mono HSZ.out)⟩
  clear hz hy HBz HBy hg hc ho hfw hf6 hp hq
  cases fw with
  | false =>
    go_enter Tryd.func8, Tryd.ntmps8
    go_upto_region 1 with fail
    (try rw [hwa])
    (try rw [hgg])
    (try rw [hwz, hwa])
    (try rw [hgo])
    (try rw [hgg])
    go_wp2_with fail
    refine (AW.out wa (Below.refl wa.heap.size wa)).mono ?_
    rintro e w1 ⟨rfl, HQw1⟩
    have HBw1 : Sl (Below wa.heap.size wa w1) := ⟨(Below.refl wa.heap.size wa).trans (HQw1.out.mono (Below.refl wa.heap.size wa).size)⟩
    have HX1 := Sl.mk (below_key HX.out HQw1.out)
    have HO1 := Sl.mk (below_key HOF.out HQw1.out)
    have k0 := cell_at HX1.out 0 _ rfl
    have k1 := cell_at HX1.out 1 _ rfl
    have k2 := cell_at HX1.out 2 _ rfl
    have k3 := cell_at HX1.out 3 _ rfl
    have k4 := cell_at HX1.out 4 _ rfl
    have k5 := cell_at HX1.out 5 _ rfl
    have k6 := cell_at HX1.out 6 _ rfl
    have k7 := cell_at HX1.out 7 _ rfl
    have k8 := cell_at HX1.out 8 _ rfl
    have k9 := cell_at HX1.out 9 _ rfl
    have k10 := cell_at HX1.out 10 _ rfl
    have k11 := cell_at HX1.out 11 _ rfl
    go_wp2_with fail
    refine (FW.out _ HBw1.out).mono ?_
    rintro e w2 ⟨rfl, HQw2⟩
    have HBw2 : Sl (Below wa.heap.size wa w2) := ⟨HBw1.out.trans (HQw2.out.mono HBw1.out.size)⟩
    have HX2 := Sl.mk (below_key HX1.out HQw2.out)
    have HO2 := Sl.mk (below_key HO1.out HQw2.out)
    clear k0 k1 k2 k3 k4 k5 k6 k7 k8 k9 k10 k11
    go_wp2_with fail
    refine (AW.out _ HBw2.out).mono ?_
    rintro e wE ⟨rfl, HQwE⟩
    have HBwE : Sl (Below wa.heap.size wa wE) := ⟨HBw2.out.trans (HQwE.out.mono HBw2.out.size)⟩
    go_wp2
    go_ret
    exact ⟨rfl, HTOP.out _ HBwE.out⟩
  | true =>
    have P9 := HP9.out.1
    have O9 := HP9.out.2
    by_cases h1 : path.size > 300
    · have h1' : ((path.size : Int) > 300) = True := eq_true (by omega)
      go_enter Tryd.func8, Tryd.ntmps8
      go_upto_region 1 with fail
      (try rw [hwa])
      (try rw [hgg])
      (try rw [hwz, hwa])
      (try rw [hgo])
      (try rw [hgg])
      go_wp2_with fail
      refine (AW.out wa (Below.refl wa.heap.size wa)).mono ?_
      rintro e w1 ⟨rfl, HQw1⟩
      have HBw1 : Sl (Below wa.heap.size wa w1) := ⟨(Below.refl wa.heap.size wa).trans (HQw1.out.mono (Below.refl wa.heap.size wa).size)⟩
      have HX1 := Sl.mk (below_key HX.out HQw1.out)
      have HO1 := Sl.mk (below_key HOF.out HQw1.out)
      have k0 := cell_at HX1.out 0 _ rfl
      have k1 := cell_at HX1.out 1 _ rfl
      have k2 := cell_at HX1.out 2 _ rfl
      have k3 := cell_at HX1.out 3 _ rfl
      have k4 := cell_at HX1.out 4 _ rfl
      have k5 := cell_at HX1.out 5 _ rfl
      have k6 := cell_at HX1.out 6 _ rfl
      have k7 := cell_at HX1.out 7 _ rfl
      have k8 := cell_at HX1.out 8 _ rfl
      have k9 := cell_at HX1.out 9 _ rfl
      have k10 := cell_at HX1.out 10 _ rfl
      have k11 := cell_at HX1.out 11 _ rfl
      go_wp2_with fail
      refine (FW.out _ HBw1.out).mono ?_
      rintro e w2 ⟨rfl, HQw2⟩
      have HBw2 : Sl (Below wa.heap.size wa w2) := ⟨HBw1.out.trans (HQw2.out.mono HBw1.out.size)⟩
      have HX2 := Sl.mk (below_key HX1.out HQw2.out)
      have HO2 := Sl.mk (below_key HO1.out HQw2.out)
      clear k0 k1 k2 k3 k4 k5 k6 k7 k8 k9 k10 k11
      have o0 := cell_at HO2.out 0 _ rfl
      have o3 := cell_at HO2.out 3 _ rfl
      have o4 := cell_at HO2.out 4 _ rfl
      go_wp2_with fail
      refine (AW.out _ HBw2.out).mono ?_
      rintro e wE ⟨rfl, HQwE⟩
      have HBwE : Sl (Below wa.heap.size wa wE) := ⟨HBw2.out.trans (HQwE.out.mono HBw2.out.size)⟩
      go_wp2
      go_ret
      exact ⟨rfl, HTOP.out _ HBwE.out⟩
    have h1' : ((path.size : Int) > 300) = False := eq_false (by omega)
    by_cases h2 : origin.size > 300
    · have h2' : ((origin.size : Int) > 300) = True := eq_true (by omega)
      go_enter Tryd.func8, Tryd.ntmps8
      go_upto_region 1 with fail
      (try rw [hwa])
      (try rw [hgg])
      (try rw [hwz, hwa])
      (try rw [hgo])
      (try rw [hgg])
      go_wp2_with fail
      refine (AW.out wa (Below.refl wa.heap.size wa)).mono ?_
      rintro e w1 ⟨rfl, HQw1⟩
      have HBw1 : Sl (Below wa.heap.size wa w1) := ⟨(Below.refl wa.heap.size wa).trans (HQw1.out.mono (Below.refl wa.heap.size wa).size)⟩
      have HX1 := Sl.mk (below_key HX.out HQw1.out)
      have HO1 := Sl.mk (below_key HOF.out HQw1.out)
      have k0 := cell_at HX1.out 0 _ rfl
      have k1 := cell_at HX1.out 1 _ rfl
      have k2 := cell_at HX1.out 2 _ rfl
      have k3 := cell_at HX1.out 3 _ rfl
      have k4 := cell_at HX1.out 4 _ rfl
      have k5 := cell_at HX1.out 5 _ rfl
      have k6 := cell_at HX1.out 6 _ rfl
      have k7 := cell_at HX1.out 7 _ rfl
      have k8 := cell_at HX1.out 8 _ rfl
      have k9 := cell_at HX1.out 9 _ rfl
      have k10 := cell_at HX1.out 10 _ rfl
      have k11 := cell_at HX1.out 11 _ rfl
      go_wp2_with fail
      refine (FW.out _ HBw1.out).mono ?_
      rintro e w2 ⟨rfl, HQw2⟩
      have HBw2 : Sl (Below wa.heap.size wa w2) := ⟨HBw1.out.trans (HQw2.out.mono HBw1.out.size)⟩
      have HX2 := Sl.mk (below_key HX1.out HQw2.out)
      have HO2 := Sl.mk (below_key HO1.out HQw2.out)
      clear k0 k1 k2 k3 k4 k5 k6 k7 k8 k9 k10 k11
      have o0 := cell_at HO2.out 0 _ rfl
      have o3 := cell_at HO2.out 3 _ rfl
      have o4 := cell_at HO2.out 4 _ rfl
      go_wp2_with fail
      refine (AW.out _ HBw2.out).mono ?_
      rintro e wE ⟨rfl, HQwE⟩
      have HBwE : Sl (Below wa.heap.size wa wE) := ⟨HBw2.out.trans (HQwE.out.mono HBw2.out.size)⟩
      go_wp2
      go_ret
      exact ⟨rfl, HTOP.out _ HBwE.out⟩
    have h2' : ((origin.size : Int) > 300) = False := eq_false (by omega)
    cases f6 with
    | false =>
      go_enter Tryd.func8, Tryd.ntmps8
      go_upto_region 1 with fail
      (try rw [hwa])
      (try rw [hgg])
      (try rw [hwz, hwa])
      (try rw [hgo])
      (try rw [hgg])
      go_wp2_with fail
      refine (AW.out wa (Below.refl wa.heap.size wa)).mono ?_
      rintro e w1 ⟨rfl, HQw1⟩
      have HBw1 : Sl (Below wa.heap.size wa w1) := ⟨(Below.refl wa.heap.size wa).trans (HQw1.out.mono (Below.refl wa.heap.size wa).size)⟩
      have HX1 := Sl.mk (below_key HX.out HQw1.out)
      have HO1 := Sl.mk (below_key HOF.out HQw1.out)
      have k0 := cell_at HX1.out 0 _ rfl
      have k1 := cell_at HX1.out 1 _ rfl
      have k2 := cell_at HX1.out 2 _ rfl
      have k3 := cell_at HX1.out 3 _ rfl
      have k4 := cell_at HX1.out 4 _ rfl
      have k5 := cell_at HX1.out 5 _ rfl
      have k6 := cell_at HX1.out 6 _ rfl
      have k7 := cell_at HX1.out 7 _ rfl
      have k8 := cell_at HX1.out 8 _ rfl
      have k9 := cell_at HX1.out 9 _ rfl
      have k10 := cell_at HX1.out 10 _ rfl
      have k11 := cell_at HX1.out 11 _ rfl
      go_wp2_with fail
      refine (FW.out _ HBw1.out).mono ?_
      rintro e w2 ⟨rfl, HQw2⟩
      have HBw2 : Sl (Below wa.heap.size wa w2) := ⟨HBw1.out.trans (HQw2.out.mono HBw1.out.size)⟩
      have HX2 := Sl.mk (below_key HX1.out HQw2.out)
      have HO2 := Sl.mk (below_key HO1.out HQw2.out)
      clear k0 k1 k2 k3 k4 k5 k6 k7 k8 k9 k10 k11
      have o0 := cell_at HO2.out 0 _ rfl
      have o3 := cell_at HO2.out 3 _ rfl
      have o4 := cell_at HO2.out 4 _ rfl
      go_wp2_with fail
      refine (F6.out _ HBw2.out).mono ?_
      rintro e w3 ⟨rfl, rfl⟩
      go_wp2_with fail
      refine (AW.out _ HBw2.out).mono ?_
      rintro e wE ⟨rfl, HQwE⟩
      have HBwE : Sl (Below wa.heap.size wa wE) := ⟨HBw2.out.trans (HQwE.out.mono HBw2.out.size)⟩
      go_wp2
      go_ret
      exact ⟨rfl, HTOP.out _ HBwE.out⟩
    | true =>
      by_cases h3 : a > b
      · have h3' : (a > b) = True := eq_true h3
        go_enter Tryd.func8, Tryd.ntmps8
        go_upto_region 1 with fail
        (try rw [hwa])
        (try rw [hgg])
        (try rw [hwz, hwa])
        (try rw [hgo])
        (try rw [hgg])
        go_wp2_with fail
        refine (AW.out wa (Below.refl wa.heap.size wa)).mono ?_
        rintro e w1 ⟨rfl, HQw1⟩
        have HBw1 : Sl (Below wa.heap.size wa w1) := ⟨(Below.refl wa.heap.size wa).trans (HQw1.out.mono (Below.refl wa.heap.size wa).size)⟩
        have HX1 := Sl.mk (below_key HX.out HQw1.out)
        have HO1 := Sl.mk (below_key HOF.out HQw1.out)
        have k0 := cell_at HX1.out 0 _ rfl
        have k1 := cell_at HX1.out 1 _ rfl
        have k2 := cell_at HX1.out 2 _ rfl
        have k3 := cell_at HX1.out 3 _ rfl
        have k4 := cell_at HX1.out 4 _ rfl
        have k5 := cell_at HX1.out 5 _ rfl
        have k6 := cell_at HX1.out 6 _ rfl
        have k7 := cell_at HX1.out 7 _ rfl
        have k8 := cell_at HX1.out 8 _ rfl
        have k9 := cell_at HX1.out 9 _ rfl
        have k10 := cell_at HX1.out 10 _ rfl
        have k11 := cell_at HX1.out 11 _ rfl
        go_wp2_with fail
        refine (FW.out _ HBw1.out).mono ?_
        rintro e w2 ⟨rfl, HQw2⟩
        have HBw2 : Sl (Below wa.heap.size wa w2) := ⟨HBw1.out.trans (HQw2.out.mono HBw1.out.size)⟩
        have HX2 := Sl.mk (below_key HX1.out HQw2.out)
        have HO2 := Sl.mk (below_key HO1.out HQw2.out)
        clear k0 k1 k2 k3 k4 k5 k6 k7 k8 k9 k10 k11
        have o0 := cell_at HO2.out 0 _ rfl
        have o3 := cell_at HO2.out 3 _ rfl
        have o4 := cell_at HO2.out 4 _ rfl
        go_wp2_with fail
        refine (F6.out _ HBw2.out).mono ?_
        rintro e w3 ⟨rfl, rfl⟩
        go_wp2_with fail
        refine (AW.out _ HBw2.out).mono ?_
        rintro e wE ⟨rfl, HQwE⟩
        have HBwE : Sl (Below wa.heap.size wa wE) := ⟨HBw2.out.trans (HQwE.out.mono HBw2.out.size)⟩
        go_wp2
        go_ret
        exact ⟨rfl, HTOP.out _ HBwE.out⟩
      have h3' : (a > b) = False := eq_false h3
      have h3a : a ≤ b := by omega
      obtain ⟨F1, F2, F3⟩ := fewC_yes HFW.out
      obtain ⟨G1, G2⟩ := fewB_yes HF6.out
      obtain ⟨-, F4⟩ := fewB_yes F3
      have HPSL : Sl (ps.length ≤ 30) := ⟨G2⟩
      have HSH : Sl (∀ r ∈ rs, Short r) := ⟨fun r hr => by
        obtain ⟨q1, q2, q3⟩ := F1 r hr
        exact ⟨by omega, by omega, by omega⟩⟩
      have HL30 := Sl.mk F2
      have HOL := Sl.mk F4
      have hpm : path.size ≤ maxLen := by unfold maxLen; omega
      obtain ⟨o, ho⟩ : ∃ o, bestB (bytes path) (ps.map bytes) rs = o := ⟨_, rfl⟩
      obtain ⟨al, hal⟩ : ∃ x, allowB origin os = x := ⟨_, rfl⟩
      obtain ⟨xa, ya, za, xb, yb, zb, xk, yk, zk, na, nb, nk, v1, v2, v3, KA, KB⟩ := full_key al o (decide (tb ≤ a)) (decide (tb ≤ b)) (fun h => decide_eq_true (by have := of_decide_eq_true h; omega))
      have AD : Sl (∀ V n v, Below wa.heap.size wa V → admV al o (decide (tb ≤ n)) = v → Calls Tryd.prog 17 #[.agg #[.slice a1 n1 c1, .slice a2 n2 c2, .int .i64 tb, .int .i64 ms, .int .i64 fr, .int .i64 ct, .int .i64 bs, .int .i64 ot, .int .i64 sh, .int .i64 id, .int .i64 po, .int .i64 cl], .agg #[.string path, .string host, .string key, .string origin, .slice pa pn pc], .int .i64 n] V fun en w' => en = .returned v ∧ Sl (Below V.heap.size V w')) := ⟨fun V n v h hv => by
        rw [← hv, ← hal, ← ho]
        have h2 := HQ0.out.below h
        rw [HPN.out] at h2 ⊢
        exact admit_any rs a1 n1 c1 a2 n2 c2 tb ms fr ct bs ot sh id po cl path host key origin pa pc ps os n V (HV0.out.below h) (HO0.out.below h) (by have := HOL.out; omega) HSH.out (by have := HL30.out; omega) hpm h2 (by have := HPSL.out; omega) HQS.out⟩
      have ADA : Sl (∀ V, Below wa.heap.size wa V → Calls Tryd.prog 17 #[.agg #[.slice a1 n1 c1, .slice a2 n2 c2, .int .i64 tb, .int .i64 ms, .int .i64 fr, .int .i64 ct, .int .i64 bs, .int .i64 ot, .int .i64 sh, .int .i64 id, .int .i64 po, .int .i64 cl], .agg #[.string path, .string host, .string key, .string origin, .slice pa pn pc], .int .i64 a] V fun en w' => en = .returned (.tuple #[.agg #[.string xa, .string ya, .string za], .int .i64 na]) ∧ Sl (Below V.heap.size V w')) := ⟨fun V h => AD.out V a _ h v1⟩
      have ADB : Sl (∀ V, Below wa.heap.size wa V → Calls Tryd.prog 17 #[.agg #[.slice a1 n1 c1, .slice a2 n2 c2, .int .i64 tb, .int .i64 ms, .int .i64 fr, .int .i64 ct, .int .i64 bs, .int .i64 ot, .int .i64 sh, .int .i64 id, .int .i64 po, .int .i64 cl], .agg #[.string path, .string host, .string key, .string origin, .slice pa pn pc], .int .i64 b] V fun en w' => en = .returned (.tuple #[.agg #[.string xb, .string yb, .string zb], .int .i64 nb]) ∧ Sl (Below V.heap.size V w')) := ⟨fun V h => AD.out V b _ h v2⟩
      have hal2 : allowB origin (os ++ [origin]) = true := by rw [allow_eq]; simp
      have ADK : Sl (∀ V a9 n9 c9, Below wa.heap.size wa V → StrA V (.slice a9 n9 c9) (os ++ [origin]) → Calls Tryd.prog 17 #[.agg #[.slice a1 n1 c1, .slice a9 n9 c9, .int .i64 tb, .int .i64 ms, .int .i64 fr, .int .i64 ct, .int .i64 bs, .int .i64 ot, .int .i64 sh, .int .i64 id, .int .i64 po, .int .i64 cl], .agg #[.string path, .string host, .string key, .string origin, .slice pa pn pc], .int .i64 a] V fun en w' => en = .returned (.tuple #[.agg #[.string xk, .string yk, .string zk], .int .i64 nk]) ∧ Sl (Below V.heap.size V w')) := ⟨fun V a9 n9 c9 h hs => by
        rw [← v3, ← hal2, ← ho]
        have h2 := HQ0.out.below h
        rw [HPN.out] at h2 ⊢
        exact admit_any rs a1 n1 c1 a9 n9 c9 tb ms fr ct bs ot sh id po cl path host key origin pa pc ps _ a V (HV0.out.below h) hs (by have := HOL.out; simp; omega) HSH.out (by have := HL30.out; omega) hpm h2 (by have := HPSL.out; omega) HQS.out⟩
      have HKA := Sl.mk KA
      have HKB := Sl.mk KB
      clear F1 F2 F3 F4 G1 G2 ho hal hal2 hpm v1 v2 v3 KA KB AD
      go_enter Tryd.func8, Tryd.ntmps8
      go_upto_region 1 with fail
      (try rw [hwa])
      (try rw [hgg])
      (try rw [hwz, hwa])
      (try rw [hgo])
      (try rw [hgg])
      go_wp2_with fail
      refine (AW.out wa (Below.refl wa.heap.size wa)).mono ?_
      rintro e w1 ⟨rfl, HQw1⟩
      have HBw1 : Sl (Below wa.heap.size wa w1) := ⟨(Below.refl wa.heap.size wa).trans (HQw1.out.mono (Below.refl wa.heap.size wa).size)⟩
      have HX1 := Sl.mk (below_key HX.out HQw1.out)
      have HO1 := Sl.mk (below_key HOF.out HQw1.out)
      have k0 := cell_at HX1.out 0 _ rfl
      have k1 := cell_at HX1.out 1 _ rfl
      have k2 := cell_at HX1.out 2 _ rfl
      have k3 := cell_at HX1.out 3 _ rfl
      have k4 := cell_at HX1.out 4 _ rfl
      have k5 := cell_at HX1.out 5 _ rfl
      have k6 := cell_at HX1.out 6 _ rfl
      have k7 := cell_at HX1.out 7 _ rfl
      have k8 := cell_at HX1.out 8 _ rfl
      have k9 := cell_at HX1.out 9 _ rfl
      have k10 := cell_at HX1.out 10 _ rfl
      have k11 := cell_at HX1.out 11 _ rfl
      go_wp2_with fail
      refine (FW.out _ HBw1.out).mono ?_
      rintro e w2 ⟨rfl, HQw2⟩
      have HBw2 : Sl (Below wa.heap.size wa w2) := ⟨HBw1.out.trans (HQw2.out.mono HBw1.out.size)⟩
      have HX2 := Sl.mk (below_key HX1.out HQw2.out)
      have HO2 := Sl.mk (below_key HO1.out HQw2.out)
      clear k0 k1 k2 k3 k4 k5 k6 k7 k8 k9 k10 k11
      have o0 := cell_at HO2.out 0 _ rfl
      have o3 := cell_at HO2.out 3 _ rfl
      have o4 := cell_at HO2.out 4 _ rfl
      go_wp2_with fail
      refine (F6.out _ HBw2.out).mono ?_
      rintro e w3 ⟨rfl, rfl⟩
      clear AW FW F6 HX1 HO1 HQw1 HQw2 HBw1 o0 o3 o4
      go_upto_region 3 with fail
      have k0 := cell_at HX2.out 0 _ rfl
      have k1 := cell_at HX2.out 1 _ rfl
      have k2 := cell_at HX2.out 2 _ rfl
      have k3 := cell_at HX2.out 3 _ rfl
      have k4 := cell_at HX2.out 4 _ rfl
      have k5 := cell_at HX2.out 5 _ rfl
      have k6 := cell_at HX2.out 6 _ rfl
      have k7 := cell_at HX2.out 7 _ rfl
      have k8 := cell_at HX2.out 8 _ rfl
      have k9 := cell_at HX2.out 9 _ rfl
      have k10 := cell_at HX2.out 10 _ rfl
      have k11 := cell_at HX2.out 11 _ rfl
      have q0 := cell_at HO2.out 0 _ rfl
      have q4 := cell_at HO2.out 4 _ rfl
      have q1 := cell_at HO2.out 1 _ rfl
      have q2 := cell_at HO2.out 2 _ rfl
      have q3 := cell_at HO2.out 3 _ rfl
      go_wp2_with fail
      refine (ADA.out _ HBw2.out).mono ?_
      rintro e ts1 ⟨rfl, HQts1⟩
      have HBts1 : Sl (Below wa.heap.size wa ts1) := ⟨HBw2.out.trans (HQts1.out.mono HBw2.out.size)⟩
      have HXts1 := Sl.mk (below_key HX2.out HQts1.out)
      have HOts1 := Sl.mk (below_key HO2.out HQts1.out)
      clear k0 k1 k2 k3 k4 k5 k6 k7 k8 k9 k10 k11
      clear q0 q1 q2 q3 q4
      obtain ⟨s1, hws1, HQs1, hxs1⟩ := box_of ts1 xa ya za
      go_upto_region 4 with fail
      (try rw [hws1])
      have HRAs1 := Sl.mk hxs1
      have HXs1 := Sl.mk (below_key HXts1.out HQs1.out)
      have HOs1 := Sl.mk (below_key HOts1.out HQs1.out)
      have HBs1 : Sl (Below wa.heap.size wa s1) := ⟨HBts1.out.trans (HQs1.out.mono HBts1.out.size)⟩
      obtain ⟨pHRA, hps1⟩ : ∃ p, ts1.heap.size = p := ⟨_, rfl⟩
      rw [hps1] at HRAs1
      (try rw [hps1])
      clear hws1 hxs1 hps1 HXts1 HOts1 HQts1 HQs1 HBts1 
      clear ADA 
      have k0 := cell_at HXs1.out 0 _ rfl
      have k1 := cell_at HXs1.out 1 _ rfl
      have k2 := cell_at HXs1.out 2 _ rfl
      have k3 := cell_at HXs1.out 3 _ rfl
      have k4 := cell_at HXs1.out 4 _ rfl
      have k5 := cell_at HXs1.out 5 _ rfl
      have k6 := cell_at HXs1.out 6 _ rfl
      have k7 := cell_at HXs1.out 7 _ rfl
      have k8 := cell_at HXs1.out 8 _ rfl
      have k9 := cell_at HXs1.out 9 _ rfl
      have k10 := cell_at HXs1.out 10 _ rfl
      have k11 := cell_at HXs1.out 11 _ rfl
      have q0 := cell_at HOs1.out 0 _ rfl
      have q4 := cell_at HOs1.out 4 _ rfl
      have q1 := cell_at HOs1.out 1 _ rfl
      have q2 := cell_at HOs1.out 2 _ rfl
      have q3 := cell_at HOs1.out 3 _ rfl
      go_wp2_with fail
      refine (ADB.out _ HBs1.out).mono ?_
      rintro e ts2 ⟨rfl, HQts2⟩
      have HBts2 : Sl (Below wa.heap.size wa ts2) := ⟨HBs1.out.trans (HQts2.out.mono HBs1.out.size)⟩
      have HXts2 := Sl.mk (below_key HXs1.out HQts2.out)
      have HOts2 := Sl.mk (below_key HOs1.out HQts2.out)
      have HRAts2 := Sl.mk (below_key HRAs1.out HQts2.out)
      clear k0 k1 k2 k3 k4 k5 k6 k7 k8 k9 k10 k11
      clear q0 q1 q2 q3 q4
      obtain ⟨s2, hws2, HQs2, hxs2⟩ := box_of ts2 xb yb zb
      go_upto_region 5 with fail
      (try rw [hws2])
      have HRBs2 := Sl.mk hxs2
      have HXs2 := Sl.mk (below_key HXts2.out HQs2.out)
      have HOs2 := Sl.mk (below_key HOts2.out HQs2.out)
      have HRAs2 := Sl.mk (below_key HRAts2.out HQs2.out)
      have HBs2 : Sl (Below wa.heap.size wa s2) := ⟨HBts2.out.trans (HQs2.out.mono HBts2.out.size)⟩
      obtain ⟨pHRB, hps2⟩ : ∃ p, ts2.heap.size = p := ⟨_, rfl⟩
      rw [hps2] at HRBs2
      (try rw [hps2])
      clear hws2 hxs2 hps2 HXts2 HOts2 HQts2 HQs2 HBts2 HRAts2
      clear ADB
      go_cut [95] (fun s95 wx => s95 = .bool false ∧ s2 = wx)
      case first =>
        obtain ⟨g0, g1, g2⟩ := rt_cells HRAs2.out
        obtain ⟨i0, i1, i2⟩ := rt_cells HRBs2.out
        have EQ := rt_self xa ya za
        rcases HKA.out with ⟨e1, e2⟩ | ⟨e1, e2⟩ | ⟨e1, e2⟩ | ⟨e1, e2⟩ | ⟨e1, e2, e3, e4, e5⟩
        · subst e1 e2
          go_wp2_with fail
          go_meet
          exact ⟨rfl, rfl⟩
        · subst e1 e2
          go_wp2_with fail
          go_meet
          exact ⟨rfl, rfl⟩
        · subst e1 e2
          go_wp2_with fail
          go_meet
          exact ⟨rfl, rfl⟩
        · subst e1 e2
          go_wp2_with fail
          go_meet
          exact ⟨rfl, rfl⟩
        · subst e1 e2 e3 e4 e5
          go_wp2_with fail
          go_meet
          exact ⟨rfl, rfl⟩
      case rest =>
        obtain ⟨rfl, rfl⟩ := hcut
        clear HKA
        have k0 := cell_at HXs2.out 0 _ rfl
        have k1 := cell_at HXs2.out 1 _ rfl
        have k2 := cell_at HXs2.out 2 _ rfl
        have k3 := cell_at HXs2.out 3 _ rfl
        have k4 := cell_at HXs2.out 4 _ rfl
        have k5 := cell_at HXs2.out 5 _ rfl
        have k6 := cell_at HXs2.out 6 _ rfl
        have k7 := cell_at HXs2.out 7 _ rfl
        have k8 := cell_at HXs2.out 8 _ rfl
        have k9 := cell_at HXs2.out 9 _ rfl
        have k10 := cell_at HXs2.out 10 _ rfl
        have k11 := cell_at HXs2.out 11 _ rfl
        obtain ⟨w5, hw5, HQ5, hx5⟩ := cfg_box s2 #[.slice a1 n1 c1, .slice a2 n2 c2, .int .i64 tb, .int .i64 ms, .int .i64 fr, .int .i64 ct, .int .i64 bs, .int .i64 ot, .int .i64 sh, .int .i64 id, .int .i64 po, .int .i64 cl]
        go_upto_region 8 with fail
        (try rw [hw5])
        have HD5 := Sl.mk hx5
        have HX5 := Sl.mk (below_key HXs2.out HQ5.out)
        have HO5 := Sl.mk (below_key HOs2.out HQ5.out)
        have HRA5 := Sl.mk (below_key HRAs2.out HQ5.out)
        have HB5 : Sl (Below wa.heap.size wa w5) := ⟨HBs2.out.trans (HQ5.out.mono HBs2.out.size)⟩
        have HLT : Sl (s2.heap.size < w5.heap.size ∧ wa.heap.size ≤ s2.heap.size ∧ pHRA < s2.heap.size) := ⟨(Array.getElem?_eq_some_iff.1 hx5).1, HBs2.out.size, (Array.getElem?_eq_some_iff.1 HRAs2.out).1⟩
        obtain ⟨g7, hg7⟩ : ∃ p, s2.heap.size = p := ⟨_, rfl⟩
        rw [hg7] at HD5 HLT
        (try rw [hg7])
        clear k0 k1 k2 k3 k4 k5 k6 k7 k8 k9 k10 k11
        clear hw5 hx5 hg7 HXs2 HOs2 HRAs2 HRBs2 HQ5 HBs2 HXs1 HOs1 HRAs1 HBs1 HX2 HO2 HBw2
        have HGL : Sl (g < wa.heap.size ∧ go < wa.heap.size) := ⟨(Array.getElem?_eq_some_iff.1 HX.out).1, (Array.getElem?_eq_some_iff.1 HOF.out).1⟩
        have HOS := Sl.mk (HO0.out.below HB5.out)
        go_cut [8] (fun s8 wx => ∃ a9 n9 c9, s8 = .bool false ∧ Sl (Below wa.heap.size wa wx) ∧ Sl (StrA wx (.slice a9 n9 c9) (os ++ [origin])) ∧ Sl (wx.heap[g7]? = some (.cells #[.slice a1 n1 c1, .slice a9 n9 c9, .int .i64 tb, .int .i64 ms, .int .i64 fr, .int .i64 ct, .int .i64 bs, .int .i64 ot, .int .i64 sh, .int .i64 id, .int .i64 po, .int .i64 cl] 25 (0, 0))) ∧ Sl (wx.heap[go]? = some (.cells #[.string path, .string host, .string key, .string origin, .slice pa pn pc] 31 (0, 0))) ∧ Sl (wx.heap[pHRA]? = some (.cells #[.string xa, .string ya, .string za] 34 (0, 0))))
        case first =>
          obtain ⟨Rw, hRw⟩ : ∃ R, w5.drew = R := ⟨_, rfl⟩
          have HBR : Below w5.heap.size w5 Rw := by rw [← hRw]; exact (Below.refl _ _).drew
          refine wp_region_noPanic ?_
          refine wp_region_held (S := fun V => V.heap[g]? = some (.cells #[.slice a1 n1 c1, .slice a2 n2 c2, .int .i64 tb, .int .i64 ms, .int .i64 fr, .int .i64 ct, .int .i64 bs, .int .i64 ot, .int .i64 sh, .int .i64 id, .int .i64 po, .int .i64 cl] 25 (0, 0)) ∧ V.heap[go]? = some (.cells #[.string path, .string host, .string key, .string origin, .slice pa pn pc] 31 (0, 0))) (by kernel_rfl) ?_
          change wpAnyH _ _ _ _ _ _ _ _ w5.drew
          rw [hRw]
          clear hRw
          have HS0 : Rw.heap[g]? = some (.cells #[.slice a1 n1 c1, .slice a2 n2 c2, .int .i64 tb, .int .i64 ms, .int .i64 fr, .int .i64 ct, .int .i64 bs, .int .i64 ot, .int .i64 sh, .int .i64 id, .int .i64 po, .int .i64 cl] 25 (0, 0)) ∧ Rw.heap[go]? = some (.cells #[.string path, .string host, .string key, .string origin, .slice pa pn pc] 31 (0, 0)) := ⟨below_key HX5.out HBR, below_key HO5.out HBR⟩
          have KS : ∀ V, Below Rw.heap.size Rw V → V.heap[g]? = some (.cells #[.slice a1 n1 c1, .slice a2 n2 c2, .int .i64 tb, .int .i64 ms, .int .i64 fr, .int .i64 ct, .int .i64 bs, .int .i64 ot, .int .i64 sh, .int .i64 id, .int .i64 po, .int .i64 cl] 25 (0, 0)) ∧ V.heap[go]? = some (.cells #[.string path, .string host, .string key, .string origin, .slice pa pn pc] 31 (0, 0)) := fun V h => ⟨below_key HS0.1 h, below_key HS0.2 h⟩
          have HSO := HOS.out.below HBR
          refine heldTake (d := some 98) (op := .fieldAddr 25 (Operand.tmp 4) 1) (g := none) 1 ?v1 rfl (by kernel_rfl) (by kernel_rfl) (by kernel_rfl) (by kernel_rfl) ?y1 HS0 ?_
          case y1 => intro o' ho W hS; simp only [execOp, ho]; go_simp; try rfl
          simp only [Act.put, List.setIfInBounds_toArray, List.set_cons_zero, List.set_cons_succ]
          refine heldTake (d := some 99) (op := .load 23 (Operand.tmp 98)) (g := none) 2 ?v2 rfl (by kernel_rfl) (by kernel_rfl) (by kernel_rfl) (by kernel_rfl) ?y2 HS0 ?_
          case y2 => intro o' ho W hS; have f0 : W.cell? ⟨g, 1, none⟩ = some (.slice a2 n2 c2) := cell_at hS.1 1 _ rfl; simp only [execOp, ho]; go_simp; try rfl
          simp only [Act.put, List.setIfInBounds_toArray, List.set_cons_zero, List.set_cons_succ]
          refine heldTake (d := some 101) (op := .fieldAddr 31 (Operand.tmp 5) 3) (g := none) 4 ?v4 rfl (by kernel_rfl) (by kernel_rfl) (by kernel_rfl) (by kernel_rfl) ?y4 HS0 ?_
          case y4 => intro o' ho W hS; simp only [execOp, ho]; go_simp; try rfl
          simp only [Act.put, List.setIfInBounds_toArray, List.set_cons_zero, List.set_cons_succ]
          refine heldTake (d := some 102) (op := .load 9 (Operand.tmp 101)) (g := none) 5 ?v5 rfl (by kernel_rfl) (by kernel_rfl) (by kernel_rfl) (by kernel_rfl) ?y5 HS0 ?_
          case y5 => intro o' ho W hS; have f0 : W.cell? ⟨go, 3, none⟩ = some (.string origin) := cell_at hS.2 3 _ rfl; simp only [execOp, ho]; go_simp; try rfl
          simp only [Act.put, List.setIfInBounds_toArray, List.set_cons_zero, List.set_cons_succ]
          have EB := (Below.refl Rw.heap.size Rw).alloc (Nat.le_refl _) (.cells #[] 9)
          have EO := (Below.refl Rw.heap.size Rw).alloc (Nat.le_refl _) (.cells #[.string origin] 9)
          have EBO := EB.alloc EB.size (.cells #[.string origin] 9)
          have EOB := EO.alloc EO.size (.cells #[] 9)
          have h0 : OwnS (Rw.alloc (.cells #[] 9)) Rw.heap.size (.slice (some ⟨Rw.heap.size, 0, none⟩) 0 0) [] := World.ownsRow_made Rw #[] 0 (Nat.le_refl _) (by unfold maxLen; omega) rfl
          have hb0 : OwnS ((Rw.alloc (.cells #[.string origin] 9)).alloc (.cells #[] 9)) Rw.heap.size (.slice (some ⟨(Rw.alloc (.cells #[.string origin] 9)).heap.size, 0, none⟩) 0 0) [] := World.ownsRow_made _ #[] 0 (by rw [alloc_size]; omega) (by unfold maxLen; omega) rfl
          rw [alloc_size] at hb0
          have OL : os.length ≤ 30 := HOL.out
          -- the three orders
          obtain ⟨va, ua, hra, HOA, HGA⟩ := add_strsA h0 (HSO.below EB) (by simp; omega) EB.size
          have HUA : Below Rw.heap.size Rw ua := EB.grown HGA EB.size (fun k hk => by
            have : some Rw.heap.size = some k := hk
            injection this with this; omega)
          obtain ⟨va2, ua2, hra2, HOA2, HGA2⟩ := add_strsA (HOA.below ((Below.refl _ _).alloc (Nat.le_refl _) (.cells #[.string origin] 9))) (str_one ua origin) (by simp; omega) (Nat.le_trans HUA.size (by rw [alloc_size]; omega))
          have HUAO := HUA.alloc HUA.size (.cells #[.string origin] 9)
          have HUA2 : Below Rw.heap.size Rw ua2 := HUAO.grown HGA2 HUAO.size (fun k hk => (own_blk HOA hk))
          obtain ⟨vb, ub, hrb, HOBb, HGB⟩ := add_strsA (h0.below ((Below.refl _ _).alloc (Nat.le_refl _) (.cells #[.string origin] 9))) (HSO.below EBO) (by simp; omega) EBO.size
          have HUB : Below Rw.heap.size Rw ub := EBO.grown HGB EBO.size (fun k hk => by
            have : some Rw.heap.size = some k := hk
            injection this with this; omega)
          have HSB1 : StrA ub (.slice (some ⟨Rw.heap.size + 1, 0, none⟩) 1 1) [origin] := by
            have h1 := str_one (Rw.alloc (.cells #[] 9)) origin
            rw [alloc_size] at h1
            refine str_keep h1 (HGB.block _ (by simp only [alloc_size]; omega) (fun e => ?_))
            have : some (Rw.heap.size + 1) = some Rw.heap.size := e
            injection this with this; omega
          obtain ⟨vb2, ub2, hrb2, HOB2, HGB2⟩ := add_strsA HOBb HSB1 (by simp; omega) HUB.size
          have HUB2 : Below Rw.heap.size Rw ub2 := HUB.grown HGB2 HUB.size (fun k hk => (own_blk HOBb hk))
          obtain ⟨vc, uc, hrc, HOC, HGC⟩ := add_strsA hb0 (HSO.below EOB) (by simp; omega) EOB.size
          have HUC : Below Rw.heap.size Rw uc := EOB.grown HGC EOB.size (fun k hk => by
            have : some (Rw.heap.size + 1) = some k := hk
            injection this with this; omega)
          have HSC1 : StrA uc (.slice (some ⟨Rw.heap.size, 0, none⟩) 1 1) [origin] := by
            have h1 := (str_one Rw origin).below ((Below.refl _ _).alloc (Nat.le_refl _) (.cells #[] 9))
            refine str_keep h1 (HGC.block _ (by simp only [alloc_size]; omega) (fun e => ?_))
            have : some Rw.heap.size = some (Rw.heap.size + 1) := e
            injection this with this; omega
          obtain ⟨vc2, uc2, hrc2, HOC2, HGC2⟩ := add_strsA HOC HSC1 (by simp; omega) HUC.size
          have HUC2 : Below Rw.heap.size Rw uc2 := HUC.grown HGC2 HUC.size (fun k hk => (own_blk HOC hk))
          rw [List.nil_append] at HOA2 HOB2 HOC2
          refine heldTwo (di := some 97) (dj := some 103) (opi := .buildSlice 23 0 #[]) (opj := .buildSlice 23 1 #[(0, Operand.tmp 102)]) (gi := none) (gj := none) (ti := 23) (tj := 23) 0 6 (.slice (some ⟨Rw.heap.size, 0, none⟩) 0 0) (Rw.alloc (.cells #[] 9)) (.slice (some ⟨Rw.heap.size, 0, none⟩) 1 1) (Rw.alloc (.cells #[.string origin] 9)) rfl rfl (by kernel_rfl) (by kernel_rfl) (by kernel_rfl) ?p1 ?q1 (KS _ EB) (KS _ EO) ?l1 ?r1
          case p1 => intro o' ho ht; simp only [execOp, ho]; go_simp; try rfl
          case q1 => intro o' ho ht; simp only [execOp, ho]; go_simp; try rfl
          case l1 =>
            simp only [Act.put, List.setIfInBounds_toArray, List.set_cons_zero, List.set_cons_succ]
            refine heldTwo (di := some 100) (dj := some 103) (opi := .call { callee := Callee.builtin Builtin.append, args := #[Operand.tmp 97, Operand.tmp 99], argTypes := #[23, 23] }) (opj := .buildSlice 23 1 #[(0, Operand.tmp 102)]) (gi := none) (gj := none) (ti := 23) (tj := 23) 3 6 (va) (ua) (.slice (some ⟨Rw.heap.size + 1, 0, none⟩) 1 1) ((Rw.alloc (.cells #[] 9)).alloc (.cells #[.string origin] 9)) rfl rfl (by kernel_rfl) (by kernel_rfl) (by kernel_rfl) ?p2 ?q2 (KS _ HUA) (KS _ EBO) ?l2 ?r2
            case p2 => intro o' ho ht; exact run_appS ho ht rfl rfl hra
            case q2 => intro o' ho ht; simp only [execOp, ho]; go_simp; first | done | rfl | simp [alloc_size]
            case l2 =>
              simp only [Act.put, List.setIfInBounds_toArray, List.set_cons_zero, List.set_cons_succ]
              refine heldRunT (d := some 103) (op := .buildSlice 23 1 #[(0, Operand.tmp 102)]) (g := none) (t := 23) 6 (.slice (some ⟨ua.heap.size, 0, none⟩) 1 1) (ua.alloc (.cells #[.string origin] 9)) rfl (by kernel_rfl) (by kernel_rfl) ?y6x3 (KS _ HUAO) ?_
              case y6x3 => intro o' ho _; simp only [execOp, ho]; go_simp; try rfl
              simp only [Act.put, List.setIfInBounds_toArray, List.set_cons_zero, List.set_cons_succ]
              refine heldRunT (d := some 104) (op := .call { callee := Callee.builtin Builtin.append, args := #[Operand.tmp 100, Operand.tmp 103], argTypes := #[23, 23] }) (g := none) (t := 23) 7 va2 ua2 rfl (by kernel_rfl) (by kernel_rfl) ?y4 (KS _ HUA2) ?_
              case y4 => intro o' ho ht; exact run_appS ho ht rfl rfl hra2
              simp only [Act.put, List.setIfInBounds_toArray, List.set_cons_zero, List.set_cons_succ]
              obtain ⟨a9, c9, rfl⟩ := HOA2.slice
              obtain ⟨n9, hn9⟩ : ∃ n, (os ++ [origin]).length = n := ⟨_, rfl⟩
              have HSF := HOA2.strA
              rw [hn9] at HSF
              rw [hn9]
              have HDB := below_key (below_key HD5.out HBR) HUA2
              have fz0 : ua2.frozen? ⟨g7, 1, none⟩ = false := frozen_of_row _ _ _ _ _ HDB
              have d0 : ua2.cell? ⟨g7, 1, none⟩ = some (.slice a2 n2 c2) := cell_at HDB 1 _ rfl
              have hg10 := grown_setCell ua2 g7 1 (.slice a9 n9 c9)
              have hd10 : (ua2.setCell ⟨g7, 1, none⟩ (.slice a9 n9 c9)).heap[g7]? = some (.cells #[.slice a1 n1 c1, .slice a9 n9 c9, .int .i64 tb, .int .i64 ms, .int .i64 fr, .int .i64 ct, .int .i64 bs, .int .i64 ot, .int .i64 sh, .int .i64 id, .int .i64 po, .int .i64 cl] 25 (0, 0)) := by
                rw [heap_setCell_same _ _ _ _ _ _ HDB]; rfl
              have hoth : ∀ k, k ≠ g7 → (ua2.setCell ⟨g7, 1, none⟩ (.slice a9 n9 c9)).heap[k]? = ua2.heap[k]? := fun k hk => heap_setCell_other _ _ _ _ hk
              have LT := HLT.out
              have GL := HGL.out
              have hs10 : (ua2.setCell ⟨g7, 1, none⟩ (.slice a9 n9 c9)).heap[g]? = some (.cells #[.slice a1 n1 c1, .slice a2 n2 c2, .int .i64 tb, .int .i64 ms, .int .i64 fr, .int .i64 ct, .int .i64 bs, .int .i64 ot, .int .i64 sh, .int .i64 id, .int .i64 po, .int .i64 cl] 25 (0, 0)) ∧ (ua2.setCell ⟨g7, 1, none⟩ (.slice a9 n9 c9)).heap[go]? = some (.cells #[.string path, .string host, .string key, .string origin, .slice pa pn pc] 31 (0, 0)) := ⟨(hoth g (by omega)).trans (KS _ HUA2).1, (hoth go (by omega)).trans (KS _ HUA2).2⟩
              refine heldTake (d := some 105) (op := .fieldAddr 25 (Operand.tmp 13) 1) (g := none) 8 ?v8e5 rfl (by kernel_rfl) (by kernel_rfl) (by kernel_rfl) (by kernel_rfl) ?y8e5 (KS _ HUA2) ?_
              case y8e5 => intro o' ho W hS; simp only [execOp, ho]; go_simp; try rfl
              simp only [Act.put, List.setIfInBounds_toArray, List.set_cons_zero, List.set_cons_succ]
              refine heldStore (d := none) (op := .store 23 (Operand.tmp 105) (Operand.tmp 104)) (g := none) (t := 0) 9 (ua2.setCell ⟨g7, 1, none⟩ (.slice a9 n9 c9)) rfl (by kernel_rfl) (by kernel_rfl) ?y9s5 hs10 ?_
              case y9s5 => intro o' ho ht; simp only [execOp, ho]; go_simp; try rfl
              simp only [Act.put]
              refine wpAnyH_done (by kernel_rfl) ?_ _
              refine NoPanic.normal ?_
              obtain ⟨w10, hw10⟩ : ∃ V, ua2.setCell ⟨g7, 1, none⟩ (.slice a9 n9 c9) = V := ⟨_, rfl⟩
              rw [hw10] at hg10 hd10 hs10 hoth
              (try rw [hw10])
              have HRF : w10.heap[pHRA]? = some (.cells #[.string xa, .string ya, .string za] 34 (0, 0)) := (hoth pHRA (by omega)).trans (below_key (below_key HRA5.out HBR) HUA2)
              have HSG : StrA w10 (.slice a9 n9 c9) (os ++ [origin]) := by
                refine str_grown HSF hg10 (fun k e hc => ?_)
                injection hc with hc
                have h1 : Rw.heap.size ≤ k := own_blk HOA2 (by rw [hn9]; exact e)
                have h2 := HBR.size
                omega
              have HB10 : Below wa.heap.size wa w10 := (((HB5.out.trans (HBR.mono HB5.out.size))).trans (HUA2.mono (Nat.le_trans HB5.out.size HBR.size))).grown hg10 (Nat.le_trans (Nat.le_trans HB5.out.size HBR.size) HUA2.size) (fun k hk => by injection hk with hk; rw [← hk]; exact LT.2.1)
              (try go_wp2_with fail)
              go_meet
              exact ⟨_, _, _, rfl, ⟨HB10⟩, ⟨HSG⟩, ⟨hd10⟩, ⟨hs10.2⟩, ⟨HRF⟩⟩
            case r2 =>
              simp only [Act.put, List.setIfInBounds_toArray, List.set_cons_zero, List.set_cons_succ]
              refine heldRunT (d := some 100) (op := .call { callee := Callee.builtin Builtin.append, args := #[Operand.tmp 97, Operand.tmp 99], argTypes := #[23, 23] }) (g := none) (t := 23) 3 vb ub rfl (by kernel_rfl) (by kernel_rfl) ?y6 (KS _ HUB) ?_
              case y6 => intro o' ho ht; exact run_appS ho ht rfl rfl hrb
              simp only [Act.put, List.setIfInBounds_toArray, List.set_cons_zero, List.set_cons_succ]
              refine heldRunT (d := some 104) (op := .call { callee := Callee.builtin Builtin.append, args := #[Operand.tmp 100, Operand.tmp 103], argTypes := #[23, 23] }) (g := none) (t := 23) 7 vb2 ub2 rfl (by kernel_rfl) (by kernel_rfl) ?y7 (KS _ HUB2) ?_
              case y7 => intro o' ho ht; exact run_appS ho ht rfl rfl hrb2
              simp only [Act.put, List.setIfInBounds_toArray, List.set_cons_zero, List.set_cons_succ]
              obtain ⟨a9, c9, rfl⟩ := HOB2.slice
              obtain ⟨n9, hn9⟩ : ∃ n, (os ++ [origin]).length = n := ⟨_, rfl⟩
              have HSF := HOB2.strA
              rw [hn9] at HSF
              rw [hn9]
              have HDB := below_key (below_key HD5.out HBR) HUB2
              have fz0 : ub2.frozen? ⟨g7, 1, none⟩ = false := frozen_of_row _ _ _ _ _ HDB
              have d0 : ub2.cell? ⟨g7, 1, none⟩ = some (.slice a2 n2 c2) := cell_at HDB 1 _ rfl
              have hg10 := grown_setCell ub2 g7 1 (.slice a9 n9 c9)
              have hd10 : (ub2.setCell ⟨g7, 1, none⟩ (.slice a9 n9 c9)).heap[g7]? = some (.cells #[.slice a1 n1 c1, .slice a9 n9 c9, .int .i64 tb, .int .i64 ms, .int .i64 fr, .int .i64 ct, .int .i64 bs, .int .i64 ot, .int .i64 sh, .int .i64 id, .int .i64 po, .int .i64 cl] 25 (0, 0)) := by
                rw [heap_setCell_same _ _ _ _ _ _ HDB]; rfl
              have hoth : ∀ k, k ≠ g7 → (ub2.setCell ⟨g7, 1, none⟩ (.slice a9 n9 c9)).heap[k]? = ub2.heap[k]? := fun k hk => heap_setCell_other _ _ _ _ hk
              have LT := HLT.out
              have GL := HGL.out
              have hs10 : (ub2.setCell ⟨g7, 1, none⟩ (.slice a9 n9 c9)).heap[g]? = some (.cells #[.slice a1 n1 c1, .slice a2 n2 c2, .int .i64 tb, .int .i64 ms, .int .i64 fr, .int .i64 ct, .int .i64 bs, .int .i64 ot, .int .i64 sh, .int .i64 id, .int .i64 po, .int .i64 cl] 25 (0, 0)) ∧ (ub2.setCell ⟨g7, 1, none⟩ (.slice a9 n9 c9)).heap[go]? = some (.cells #[.string path, .string host, .string key, .string origin, .slice pa pn pc] 31 (0, 0)) := ⟨(hoth g (by omega)).trans (KS _ HUB2).1, (hoth go (by omega)).trans (KS _ HUB2).2⟩
              refine heldTake (d := some 105) (op := .fieldAddr 25 (Operand.tmp 13) 1) (g := none) 8 ?v8e8 rfl (by kernel_rfl) (by kernel_rfl) (by kernel_rfl) (by kernel_rfl) ?y8e8 (KS _ HUB2) ?_
              case y8e8 => intro o' ho W hS; simp only [execOp, ho]; go_simp; try rfl
              simp only [Act.put, List.setIfInBounds_toArray, List.set_cons_zero, List.set_cons_succ]
              refine heldStore (d := none) (op := .store 23 (Operand.tmp 105) (Operand.tmp 104)) (g := none) (t := 0) 9 (ub2.setCell ⟨g7, 1, none⟩ (.slice a9 n9 c9)) rfl (by kernel_rfl) (by kernel_rfl) ?y9s8 hs10 ?_
              case y9s8 => intro o' ho ht; simp only [execOp, ho]; go_simp; try rfl
              simp only [Act.put]
              refine wpAnyH_done (by kernel_rfl) ?_ _
              refine NoPanic.normal ?_
              obtain ⟨w10, hw10⟩ : ∃ V, ub2.setCell ⟨g7, 1, none⟩ (.slice a9 n9 c9) = V := ⟨_, rfl⟩
              rw [hw10] at hg10 hd10 hs10 hoth
              (try rw [hw10])
              have HRF : w10.heap[pHRA]? = some (.cells #[.string xa, .string ya, .string za] 34 (0, 0)) := (hoth pHRA (by omega)).trans (below_key (below_key HRA5.out HBR) HUB2)
              have HSG : StrA w10 (.slice a9 n9 c9) (os ++ [origin]) := by
                refine str_grown HSF hg10 (fun k e hc => ?_)
                injection hc with hc
                have h1 : Rw.heap.size ≤ k := own_blk HOB2 (by rw [hn9]; exact e)
                have h2 := HBR.size
                omega
              have HB10 : Below wa.heap.size wa w10 := (((HB5.out.trans (HBR.mono HB5.out.size))).trans (HUB2.mono (Nat.le_trans HB5.out.size HBR.size))).grown hg10 (Nat.le_trans (Nat.le_trans HB5.out.size HBR.size) HUB2.size) (fun k hk => by injection hk with hk; rw [← hk]; exact LT.2.1)
              (try go_wp2_with fail)
              go_meet
              exact ⟨_, _, _, rfl, ⟨HB10⟩, ⟨HSG⟩, ⟨hd10⟩, ⟨hs10.2⟩, ⟨HRF⟩⟩
          case r1 =>
            simp only [Act.put, List.setIfInBounds_toArray, List.set_cons_zero, List.set_cons_succ]
            refine heldRunT (d := some 97) (op := .buildSlice 23 0 #[]) (g := none) (t := 23) 0 (.slice (some ⟨Rw.heap.size + 1, 0, none⟩) 0 0) ((Rw.alloc (.cells #[.string origin] 9)).alloc (.cells #[] 9)) rfl (by kernel_rfl) (by kernel_rfl) ?y0x9 (KS _ EOB) ?_
            case y0x9 => intro o' ho _; simp only [execOp, ho]; go_simp; first | done | rfl | simp [alloc_size]
            simp only [Act.put, List.setIfInBounds_toArray, List.set_cons_zero, List.set_cons_succ]
            refine heldRunT (d := some 100) (op := .call { callee := Callee.builtin Builtin.append, args := #[Operand.tmp 97, Operand.tmp 99], argTypes := #[23, 23] }) (g := none) (t := 23) 3 vc uc rfl (by kernel_rfl) (by kernel_rfl) ?y10 (KS _ HUC) ?_
            case y10 => intro o' ho ht; exact run_appS ho ht rfl rfl hrc
            simp only [Act.put, List.setIfInBounds_toArray, List.set_cons_zero, List.set_cons_succ]
            refine heldRunT (d := some 104) (op := .call { callee := Callee.builtin Builtin.append, args := #[Operand.tmp 100, Operand.tmp 103], argTypes := #[23, 23] }) (g := none) (t := 23) 7 vc2 uc2 rfl (by kernel_rfl) (by kernel_rfl) ?y11 (KS _ HUC2) ?_
            case y11 => intro o' ho ht; exact run_appS ho ht rfl rfl hrc2
            simp only [Act.put, List.setIfInBounds_toArray, List.set_cons_zero, List.set_cons_succ]
            obtain ⟨a9, c9, rfl⟩ := HOC2.slice
            obtain ⟨n9, hn9⟩ : ∃ n, (os ++ [origin]).length = n := ⟨_, rfl⟩
            have HSF := HOC2.strA
            rw [hn9] at HSF
            rw [hn9]
            have HDB := below_key (below_key HD5.out HBR) HUC2
            have fz0 : uc2.frozen? ⟨g7, 1, none⟩ = false := frozen_of_row _ _ _ _ _ HDB
            have d0 : uc2.cell? ⟨g7, 1, none⟩ = some (.slice a2 n2 c2) := cell_at HDB 1 _ rfl
            have hg10 := grown_setCell uc2 g7 1 (.slice a9 n9 c9)
            have hd10 : (uc2.setCell ⟨g7, 1, none⟩ (.slice a9 n9 c9)).heap[g7]? = some (.cells #[.slice a1 n1 c1, .slice a9 n9 c9, .int .i64 tb, .int .i64 ms, .int .i64 fr, .int .i64 ct, .int .i64 bs, .int .i64 ot, .int .i64 sh, .int .i64 id, .int .i64 po, .int .i64 cl] 25 (0, 0)) := by
              rw [heap_setCell_same _ _ _ _ _ _ HDB]; rfl
            have hoth : ∀ k, k ≠ g7 → (uc2.setCell ⟨g7, 1, none⟩ (.slice a9 n9 c9)).heap[k]? = uc2.heap[k]? := fun k hk => heap_setCell_other _ _ _ _ hk
            have LT := HLT.out
            have GL := HGL.out
            have hs10 : (uc2.setCell ⟨g7, 1, none⟩ (.slice a9 n9 c9)).heap[g]? = some (.cells #[.slice a1 n1 c1, .slice a2 n2 c2, .int .i64 tb, .int .i64 ms, .int .i64 fr, .int .i64 ct, .int .i64 bs, .int .i64 ot, .int .i64 sh, .int .i64 id, .int .i64 po, .int .i64 cl] 25 (0, 0)) ∧ (uc2.setCell ⟨g7, 1, none⟩ (.slice a9 n9 c9)).heap[go]? = some (.cells #[.string path, .string host, .string key, .string origin, .slice pa pn pc] 31 (0, 0)) := ⟨(hoth g (by omega)).trans (KS _ HUC2).1, (hoth go (by omega)).trans (KS _ HUC2).2⟩
            refine heldTake (d := some 105) (op := .fieldAddr 25 (Operand.tmp 13) 1) (g := none) 8 ?v8e12 rfl (by kernel_rfl) (by kernel_rfl) (by kernel_rfl) (by kernel_rfl) ?y8e12 (KS _ HUC2) ?_
            case y8e12 => intro o' ho W hS; simp only [execOp, ho]; go_simp; try rfl
            simp only [Act.put, List.setIfInBounds_toArray, List.set_cons_zero, List.set_cons_succ]
            refine heldStore (d := none) (op := .store 23 (Operand.tmp 105) (Operand.tmp 104)) (g := none) (t := 0) 9 (uc2.setCell ⟨g7, 1, none⟩ (.slice a9 n9 c9)) rfl (by kernel_rfl) (by kernel_rfl) ?y9s12 hs10 ?_
            case y9s12 => intro o' ho ht; simp only [execOp, ho]; go_simp; try rfl
            simp only [Act.put]
            refine wpAnyH_done (by kernel_rfl) ?_ _
            refine NoPanic.normal ?_
            obtain ⟨w10, hw10⟩ : ∃ V, uc2.setCell ⟨g7, 1, none⟩ (.slice a9 n9 c9) = V := ⟨_, rfl⟩
            rw [hw10] at hg10 hd10 hs10 hoth
            (try rw [hw10])
            have HRF : w10.heap[pHRA]? = some (.cells #[.string xa, .string ya, .string za] 34 (0, 0)) := (hoth pHRA (by omega)).trans (below_key (below_key HRA5.out HBR) HUC2)
            have HSG : StrA w10 (.slice a9 n9 c9) (os ++ [origin]) := by
              refine str_grown HSF hg10 (fun k e hc => ?_)
              injection hc with hc
              have h1 : Rw.heap.size ≤ k := own_blk HOC2 (by rw [hn9]; exact e)
              have h2 := HBR.size
              omega
            have HB10 : Below wa.heap.size wa w10 := (((HB5.out.trans (HBR.mono HB5.out.size))).trans (HUC2.mono (Nat.le_trans HB5.out.size HBR.size))).grown hg10 (Nat.le_trans (Nat.le_trans HB5.out.size HBR.size) HUC2.size) (fun k hk => by injection hk with hk; rw [← hk]; exact LT.2.1)
            (try go_wp2_with fail)
            go_meet
            exact ⟨_, _, _, rfl, ⟨HB10⟩, ⟨HSG⟩, ⟨hd10⟩, ⟨hs10.2⟩, ⟨HRF⟩⟩
        case rest =>
          obtain ⟨a9, n9, c9, rfl, HBv, HSv, HDv, HOv, HRAv⟩ := hcut
          obtain ⟨v, hv⟩ : ∃ v, wc = v := ⟨_, rfl⟩
          subst hv
          clear HD5 HX5 HO5 HRA5 HB5 HLT HOS
          have HXv := HDv
          have k0 := cell_at HDv.out 0 _ rfl
          have k1 := cell_at HDv.out 1 _ rfl
          have k2 := cell_at HDv.out 2 _ rfl
          have k3 := cell_at HDv.out 3 _ rfl
          have k4 := cell_at HDv.out 4 _ rfl
          have k5 := cell_at HDv.out 5 _ rfl
          have k6 := cell_at HDv.out 6 _ rfl
          have k7 := cell_at HDv.out 7 _ rfl
          have k8 := cell_at HDv.out 8 _ rfl
          have k9 := cell_at HDv.out 9 _ rfl
          have k10 := cell_at HDv.out 10 _ rfl
          have k11 := cell_at HDv.out 11 _ rfl
          have q0 := cell_at HOv.out 0 _ rfl
          have q4 := cell_at HOv.out 4 _ rfl
          have q1 := cell_at HOv.out 1 _ rfl
          have q2 := cell_at HOv.out 2 _ rfl
          have q3 := cell_at HOv.out 3 _ rfl
          go_wp2_with fail
          refine (ADK.out _ _ _ _ HBv.out HSv.out).mono ?_
          rintro e ts9 ⟨rfl, HQts9⟩
          have HBts9 : Sl (Below wa.heap.size wa ts9) := ⟨HBv.out.trans (HQts9.out.mono HBv.out.size)⟩
          have HDts9 := Sl.mk (below_key HDv.out HQts9.out)
          have HOts9 := Sl.mk (below_key HOv.out HQts9.out)
          have HRAts9 := Sl.mk (below_key HRAv.out HQts9.out)
          clear k0 k1 k2 k3 k4 k5 k6 k7 k8 k9 k10 k11
          clear q0 q1 q2 q3 q4
          obtain ⟨s9, hws9, HQs9, hxs9⟩ := box_of ts9 xk yk zk
          go_upto_region 10 with fail
          (try rw [hws9])
          have HRKs9 := Sl.mk hxs9
          have HDs9 := Sl.mk (below_key HDts9.out HQs9.out)
          have HOs9 := Sl.mk (below_key HOts9.out HQs9.out)
          have HRAs9 := Sl.mk (below_key HRAts9.out HQs9.out)
          have HBs9 : Sl (Below wa.heap.size wa s9) := ⟨HBts9.out.trans (HQs9.out.mono HBts9.out.size)⟩
          obtain ⟨pHRK, hps9⟩ : ∃ p, ts9.heap.size = p := ⟨_, rfl⟩
          rw [hps9] at HRKs9
          (try rw [hps9])
          clear hws9 hxs9 hps9 HDts9 HOts9 HQts9 HQs9 HBts9 HRAts9
          clear ADK
          obtain ⟨g0, g1, g2⟩ := rt_cells HRAs9.out
          obtain ⟨i0, i1, i2⟩ := rt_cells HRKs9.out
          rcases HKB.out with ⟨e1, e2⟩ | ⟨e1, e2, e3, e4, e5⟩
          · subst e1
            rcases e2 with e2 | e2 | e2 <;> subst e2
            · go_wp2
              go_ret
              exact ⟨rfl, by first | exact HTOP.out _ HBs9.out | (rw [← hgg]; exact HTOP.out _ HBs9.out)⟩
            · go_wp2
              go_ret
              exact ⟨rfl, by first | exact HTOP.out _ HBs9.out | (rw [← hgg]; exact HTOP.out _ HBs9.out)⟩
            · go_wp2
              go_ret
              exact ⟨rfl, by first | exact HTOP.out _ HBs9.out | (rw [← hgg]; exact HTOP.out _ HBs9.out)⟩
          · subst e2 e3 e4 e5
            have EQ := rt_self xk yk zk
            rcases e1 with e1 | e1 | e1 <;> subst e1
            · go_wp2
              go_ret
              exact ⟨rfl, by first | exact HTOP.out _ HBs9.out | (rw [← hgg]; exact HTOP.out _ HBs9.out)⟩
            · go_wp2
              go_ret
              exact ⟨rfl, by first | exact HTOP.out _ HBs9.out | (rw [← hgg]; exact HTOP.out _ HBs9.out)⟩
            · go_wp2
              go_ret
              exact ⟨rfl, by first | exact HTOP.out _ HBs9.out | (rw [← hgg]; exact HTOP.out _ HBs9.out)⟩
end Go.Proofs.YtdndpicfnlcgjaaDoor.Rou
