/- RouteTurned's walk. -/
import Derived.Test.YtdndpicfnlcgjaaDoorRP
import Derived.Test.YtdndpicfnlcgjaaDoorRM
set_option maxRecDepth 100000
namespace Go.Proofs.YtdndpicfnlcgjaaDoor.Rou
open Go.RowKit Nam
open RoutePlain (Rt below better fits pick stem)

/-- Do two of them have one prefix and one protocol? -/
def twin (rs : List Rb) (j i : Nat) : Prop := bytes (rs.getD j Rb0).pre = bytes (rs.getD i Rb0).pre ∧ bytes (rs.getD j Rb0).pro = bytes (rs.getD i Rb0).pro
theorem rt_at {rs : List Rb} {x : Rt} (h : x ∈ rs.map Rb.rt) : ∃ i, i < rs.length ∧ x = (rs.getD i Rb0).rt := by
  obtain ⟨r, hr, rfl⟩ := List.mem_map.1 h
  obtain ⟨i, hi, rfl⟩ := List.getElem_of_mem hr
  exact ⟨i, hi, by rw [List.getD_eq_getElem?_getD, List.getElem?_eq_getElem hi]; rfl⟩
theorem turned_key {p q : List Nat} {rs : List Rb} (n : Nat) (h : ∀ i, i < rs.length → ∀ j, j < i → ¬ twin rs j i) : bestB p [q] rs = bestB p [q] (rs.drop n ++ rs.take n) := by
  have hu : ∀ x ∈ rs.map Rb.rt, ∀ y ∈ rs.map Rb.rt, x.pre = y.pre → x.pro = y.pro → x = y := by
    intro x hx y hy h1 h2
    obtain ⟨i, hi, rfl⟩ := rt_at hx
    obtain ⟨j, hj, rfl⟩ := rt_at hy
    rcases Nat.lt_trichotomy i j with hl | rfl | hl
    · exact absurd ⟨h1, h2⟩ (h j hj i hl)
    · rfl
    · exact absurd ⟨h1.symm, h2.symm⟩ (h i hi j hl)
  have hm : ∀ x, x ∈ rs.map Rb.rt ↔ x ∈ (rs.drop n ++ rs.take n).map Rb.rt := by
    intro x
    have : rs.map Rb.rt = (rs.take n).map Rb.rt ++ (rs.drop n).map Rb.rt := by rw [← List.map_append, List.take_append_drop]
    rw [this, List.map_append]
    simp only [List.mem_append]
    exact Or.comm
  have hk := RoutePlain.pick_turned (p := p) (q := q) hm hu
  rw [← bestB_pick, ← bestB_pick] at hk
  cases h1 : bestB p [q] rs with
  | none =>
    cases h2 : bestB p [q] (rs.drop n ++ rs.take n) with
    | none => rfl
    | some b => rw [h1, h2] at hk; cases hk
  | some a =>
    cases h2 : bestB p [q] (rs.drop n ++ rs.take n) with
    | none => rw [h1, h2] at hk; cases hk
    | some b => rw [h1, h2] at hk; injection hk with hk; rw [Rb.rt_inj hk]
theorem mod_facts (at_ k : Nat) (hk : 0 < k) : at_ % k < k ∧ (at_ : Int) % (k : Int) = ((at_ % k : Nat) : Int) ∧ Int.tmod (at_ : Int) (k : Int) = ((at_ % k : Nat) : Int) := by
  have h1 : (at_ : Int) % (k : Int) = ((at_ % k : Nat) : Int) := (Int.natCast_emod at_ k).symm
  exact ⟨Nat.mod_lt _ hk, h1, (Int.tmod_eq_emod_of_nonneg (Int.natCast_nonneg _)).trans h1⟩
theorem turned_pack {rs : List Rb} {path prot : ByteArray} {n : Nat} (hun : ∀ i, i < rs.length → ∀ j, j < i → ¬ twin rs j i) (hl : rs.length ≤ 30) (hsh : ∀ r ∈ rs, Short r) (hpm : path.size ≤ maxLen) (hqm : prot.size ≤ maxLen) : ∃ x1 y1 z1 : ByteArray, ∃ f : Bool,
    (∀ (V : World) (v : Value) a1 k c1 a2 n2 c2 tb ms fr ct bs ot sh id po cl, RtsAt V (.slice a1 k c1) rs → StrA V v [prot] → Calls Tryd.prog 15 #[.agg #[.slice a1 k c1, .slice a2 n2 c2, .int .i64 tb, .int .i64 ms, .int .i64 fr, .int .i64 ct, .int .i64 bs, .int .i64 ot, .int .i64 sh, .int .i64 id, .int .i64 po, .int .i64 cl], .string path, v] V fun en w' => en = .returned (.tuple #[.agg #[.string x1, .string y1, .string z1], .bool f]) ∧ Sl (Below V.heap.size V w')) ∧
    (∀ (V : World) (v : Value) a1 k c1 a2 n2 c2 tb ms fr ct bs ot sh id po cl, RtsAt V (.slice a1 k c1) (rs.drop n ++ rs.take n) → StrA V v [prot] → Calls Tryd.prog 15 #[.agg #[.slice a1 k c1, .slice a2 n2 c2, .int .i64 tb, .int .i64 ms, .int .i64 fr, .int .i64 ct, .int .i64 bs, .int .i64 ot, .int .i64 sh, .int .i64 id, .int .i64 po, .int .i64 cl], .string path, v] V fun en w' => en = .returned (.tuple #[.agg #[.string x1, .string y1, .string z1], .bool f]) ∧ Sl (Below V.heap.size V w')) := by
  obtain ⟨o, ho⟩ : ∃ o, bestB (bytes path) ([prot].map bytes) rs = o := ⟨_, rfl⟩
  have ho2 : bestB (bytes path) ([prot].map bytes) (rs.drop n ++ rs.take n) = o := by rw [← ho]; exact (turned_key n hun).symm
  obtain ⟨r, hr⟩ : ∃ r, o.getD Rn = r := ⟨_, rfl⟩
  obtain ⟨x1, y1, z1⟩ := r
  obtain ⟨f, hf⟩ : ∃ f, o.isSome = f := ⟨_, rfl⟩
  have HP1 : pickV o = .tuple #[.agg #[.string x1, .string y1, .string z1], .bool f] := by unfold pickV; rw [hr, hf]; rfl
  refine ⟨x1, y1, z1, f, ?_, ?_⟩
  · intro V v a1 k c1 a2 n2 c2 tb ms fr ct bs ot sh id po cl hx hv
    rw [← HP1, ← ho]
    exact pick_any rs a1 k c1 a2 n2 c2 tb ms fr ct bs ot sh id po cl path v [prot] V hx hsh (by omega) hpm hv (by simp) (fun s hs => by rw [List.mem_singleton] at hs; subst hs; exact hqm)
  · intro V v a1 k c1 a2 n2 c2 tb ms fr ct bs ot sh id po cl hx hv
    rw [← HP1, ← ho2]
    exact pick_any _ a1 k c1 a2 n2 c2 tb ms fr ct bs ot sh id po cl path v [prot] V hx (fun r hr => by
      rcases List.mem_append.1 hr with h | h
      · exact hsh r (List.mem_of_mem_drop h)
      · exact hsh r (List.mem_of_mem_take h)) (by simp; omega) hpm hv (by simp) (fun s hs => by rw [List.mem_singleton] at hs; subst hs; exact hqm)
theorem len_a {rs : List Rb} (n : Nat) (h : rs.length ≤ 30) : ([] : List Rb).length + (rs.drop n).length ≤ 1000000 := by simp; omega
theorem len_b {rs : List Rb} (n : Nat) (h : rs.length ≤ 30) : (([] : List Rb) ++ rs.drop n).length + (rs.take n).length ≤ 1000000 := by simp; omega
theorem len_t {rs : List Rb} (n : Nat) (h : n ≤ rs.length) : (rs.drop n ++ rs.take n).length = rs.length := by simp; omega
theorem tslice_to_run {W : World} {ev : Operand → Value} {o : Oper} {x y : Operand} {a : Option Addr} {n cap k : Nat} (ho : o.op = .slice 22 x none (some y) none) (hx : ev x = .slice a n cap) (hy : ev y = .int .i64 (k : Int)) (hk : k ≤ cap) : (execOp ev o).run Tryd.prog W = .ok (.value (.slice a k cap)) W := by
  unfold execOp
  simp only [ho, hx, hy, Option.map_none, Option.map_some, Sem.run_bind]
  rw [run_sliceAt_slice (h := Tryd.underlying22), rslice_to W a n cap k hk]
  rfl
theorem tslice_from_run {W : World} {ev : Operand → Value} {o : Oper} {x y : Operand} {a : Option Addr} {n cap k : Nat} (ho : o.op = .slice 22 x (some y) none none) (hx : ev x = .slice a n cap) (hy : ev y = .int .i64 (k : Int)) (hk : k ≤ n) : (execOp ev o).run Tryd.prog W = .ok (.value (.slice (fromT a k cap) (n - k) (cap - k))) W := by
  unfold execOp
  simp only [ho, hx, hy, Option.map_none, Option.map_some, Sem.run_bind]
  rw [run_sliceAt_slice (h := Tryd.underlying22), rslice_from W a n cap k hk]
  rfl
theorem rt_self (a b c : ByteArray) (W : World) : (Op.equalIn 10000 34 (.agg #[.string a, .string b, .string c]) (.agg #[.string a, .string b, .string c])).run Tryd.prog W = .ok true W := by
  rw [eq_rt]; unfold same3; simp
set_option maxHeartbeats 16000000 in
theorem turned_walk (a1 : Option Addr) (n1 c1 : Nat) (a2 : Option Addr) (n2 c2 : Nat) (tb ms fr ct bs ot sh id po cl : Int) (rs : List Rb) (os : List ByteArray) (path prot : ByteArray) (at_ : Nat) (W : World) (hg : Globs W) (hc : RtsAt W (.slice a1 n1 c1) rs ∧ (∀ r ∈ rs, RbOk r) ∧ rs.length ≤ maxLen) (ho : StrA W (.slice a2 n2 c2) os ∧ os.length ≤ maxLen ∧ ∀ s ∈ os, s.size ≤ maxLen) (hp : path.size ≤ maxLen) (hpr : prot.size ≤ maxLen) (hat : at_ < 256) : Calls Tryd.prog 7 #[.agg #[.slice a1 n1 c1, .slice a2 n2 c2, .int .i64 tb, .int .i64 ms, .int .i64 fr, .int .i64 ct, .int .i64 bs, .int .i64 ot, .int .i64 sh, .int .i64 id, .int .i64 po, .int .i64 cl], .string path, .string prot, .int .u8 ((at_ : Nat) : Int)] W fun e w' => e = .returned (.bool true) ∧ Below W.heap.size W w' := by
  obtain ⟨wa, hwa, HBa, hx⟩ := cfg_box W #[.slice a1 n1 c1, .slice a2 n2 c2, .int .i64 tb, .int .i64 ms, .int .i64 fr, .int .i64 ct, .int .i64 bs, .int .i64 ot, .int .i64 sh, .int .i64 id, .int .i64 po, .int .i64 cl]
  have HX := Sl.mk hx
  have HPM := Sl.mk hp
  have HQM := Sl.mk hpr
  have P9 : path.size ≤ 9223372036854775807 := by unfold maxLen at hp; omega
  have Q9 : prot.size ≤ 9223372036854775807 := by unfold maxLen at hpr; omega
  have HN1 : Sl (n1 = rs.length) := ⟨hc.1.cap.1⟩
  have hcap : n1 ≤ c1 := hc.1.cap.2.1
  have hn9 : n1 ≤ 9223372036854775807 := by rw [HN1.out]; have := hc.2.2; unfold maxLen at this; omega
  obtain ⟨g, hgg⟩ : ∃ g, W.heap.size = g := ⟨_, rfl⟩
  have HSZ : Sl (g ≤ wa.heap.size) := ⟨by rw [← hgg]; exact HBa.out.size⟩
  have AW : Sl (∀ V, Below wa.heap.size wa V → Calls Tryd.prog 10 #[] V fun e w' => e = .returned (.bool true) ∧ Sl (Below V.heap.size V w')) := ⟨fun V h => awake_any V ((hg.of HBa.out).of h)⟩
  obtain ⟨fw, hfw⟩ : ∃ f, fewC rs os = f := ⟨_, rfl⟩
  have HFW := Sl.mk hfw
  have FW : Sl (∀ V, Below wa.heap.size wa V → Calls Tryd.prog 11 #[.agg #[.slice a1 n1 c1, .slice a2 n2 c2, .int .i64 tb, .int .i64 ms, .int .i64 fr, .int .i64 ct, .int .i64 bs, .int .i64 ot, .int .i64 sh, .int .i64 id, .int .i64 po, .int .i64 cl]] V fun en w' => en = .returned (.bool fw) ∧ Sl (Below V.heap.size V w')) := ⟨fun V h => rfew_any rs a1 n1 c1 a2 n2 c2 tb ms fr ct bs ot sh id po cl os V ((hc.1.below HBa.out).below h) hc.2.1 hc.2.2 ((ho.1.below HBa.out).below h) ho.2.1 ho.2.2 fw hfw⟩
  have HV0 := Sl.mk (hc.1.below HBa.out)
  have HO0 := Sl.mk (ho.1.below HBa.out)
  have HOKR := Sl.mk hc.2.1
  have HG0 := Sl.mk (hg.of HBa.out)
  rw [hgg] at HX HBa
  have HTOP : Sl (∀ V, Below wa.heap.size wa V → Below W.heap.size W V) := ⟨fun V h => by rw [hgg]; exact HBa.out.trans (h.mono HSZ.out)⟩
  clear hx hg hc ho hfw hp hpr
  cases fw with
  | false =>
    go_enter Tryd.func7, Tryd.ntmps7
    go_upto_region 1 with fail
    (try rw [hwa])
    (try rw [hgg])
    go_wp2_with fail
    refine (AW.out wa (Below.refl wa.heap.size wa)).mono ?_
    rintro e w1 ⟨rfl, HQw1⟩
    have HBw1 : Sl (Below wa.heap.size wa w1) := ⟨(Below.refl wa.heap.size wa).trans (HQw1.out.mono (Below.refl wa.heap.size wa).size)⟩
    have HX1 := Sl.mk (below_key HX.out HQw1.out)
    have k0 := cell_at HX1.out 0 _ rfl
    have k1 := cell_at HX1.out 1 _ rfl
    have k2 := cell_at HX1.out 2 _ rfl
    have k3 := cell_at HX1.out 3 _ rfl
    have k4 := cell_at HX1.out 4 _ rfl
    have k5 := cell_at HX1.out 5 _ rfl
    have k6 := cell_at HX1.out 6 _ rfl
    have k7 := cell_at HX1.out 7 _ rfl
    have k8 := cell_at HX1.out 8 _ rfl
    have k9 := cell_at HX1.out 9 _ rfl
    have k10 := cell_at HX1.out 10 _ rfl
    have k11 := cell_at HX1.out 11 _ rfl
    go_wp2_with fail
    refine (FW.out _ HBw1.out).mono ?_
    rintro e w2 ⟨rfl, HQw2⟩
    have HBw2 : Sl (Below wa.heap.size wa w2) := ⟨HBw1.out.trans (HQw2.out.mono HBw1.out.size)⟩
    have HX2 := Sl.mk (below_key HX1.out HQw2.out)
    clear k0 k1 k2 k3 k4 k5 k6 k7 k8 k9 k10 k11
    have k0 := cell_at HX2.out 0 _ rfl
    go_wp2_with fail
    refine (AW.out _ HBw2.out).mono ?_
    rintro e wE ⟨rfl, HQwE⟩
    have HBwE : Sl (Below wa.heap.size wa wE) := ⟨HBw2.out.trans (HQwE.out.mono HBw2.out.size)⟩
    go_wp2
    go_ret
    exact ⟨rfl, HTOP.out _ HBwE.out⟩
  | true =>
    by_cases h0 : n1 = 0
    · have h0' : ((n1 : Int) == 0) = true := by rw [h0]; rfl
      have H0 := Sl.mk h0
      clear h0
      go_enter Tryd.func7, Tryd.ntmps7
      go_upto_region 1 with fail
      (try rw [hwa])
      (try rw [hgg])
      go_wp2_with fail
      refine (AW.out wa (Below.refl wa.heap.size wa)).mono ?_
      rintro e w1 ⟨rfl, HQw1⟩
      have HBw1 : Sl (Below wa.heap.size wa w1) := ⟨(Below.refl wa.heap.size wa).trans (HQw1.out.mono (Below.refl wa.heap.size wa).size)⟩
      have HX1 := Sl.mk (below_key HX.out HQw1.out)
      have k0 := cell_at HX1.out 0 _ rfl
      have k1 := cell_at HX1.out 1 _ rfl
      have k2 := cell_at HX1.out 2 _ rfl
      have k3 := cell_at HX1.out 3 _ rfl
      have k4 := cell_at HX1.out 4 _ rfl
      have k5 := cell_at HX1.out 5 _ rfl
      have k6 := cell_at HX1.out 6 _ rfl
      have k7 := cell_at HX1.out 7 _ rfl
      have k8 := cell_at HX1.out 8 _ rfl
      have k9 := cell_at HX1.out 9 _ rfl
      have k10 := cell_at HX1.out 10 _ rfl
      have k11 := cell_at HX1.out 11 _ rfl
      go_wp2_with fail
      refine (FW.out _ HBw1.out).mono ?_
      rintro e w2 ⟨rfl, HQw2⟩
      have HBw2 : Sl (Below wa.heap.size wa w2) := ⟨HBw1.out.trans (HQw2.out.mono HBw1.out.size)⟩
      have HX2 := Sl.mk (below_key HX1.out HQw2.out)
      clear k0 k1 k2 k3 k4 k5 k6 k7 k8 k9 k10 k11
      have k0 := cell_at HX2.out 0 _ rfl
      go_wp2_with fail
      refine (AW.out _ HBw2.out).mono ?_
      rintro e wE ⟨rfl, HQwE⟩
      have HBwE : Sl (Below wa.heap.size wa wE) := ⟨HBw2.out.trans (HQwE.out.mono HBw2.out.size)⟩
      go_wp2
      go_ret
      exact ⟨rfl, HTOP.out _ HBwE.out⟩
    have h0' : ((n1 : Int) == 0) = false := beq_eq_false_iff_ne.2 (by omega)
    by_cases h1 : path.size > 300
    · have h1' : ((path.size : Int) > 300) = True := eq_true (by omega)
      go_enter Tryd.func7, Tryd.ntmps7
      go_upto_region 1 with fail
      (try rw [hwa])
      (try rw [hgg])
      go_wp2_with fail
      refine (AW.out wa (Below.refl wa.heap.size wa)).mono ?_
      rintro e w1 ⟨rfl, HQw1⟩
      have HBw1 : Sl (Below wa.heap.size wa w1) := ⟨(Below.refl wa.heap.size wa).trans (HQw1.out.mono (Below.refl wa.heap.size wa).size)⟩
      have HX1 := Sl.mk (below_key HX.out HQw1.out)
      have k0 := cell_at HX1.out 0 _ rfl
      have k1 := cell_at HX1.out 1 _ rfl
      have k2 := cell_at HX1.out 2 _ rfl
      have k3 := cell_at HX1.out 3 _ rfl
      have k4 := cell_at HX1.out 4 _ rfl
      have k5 := cell_at HX1.out 5 _ rfl
      have k6 := cell_at HX1.out 6 _ rfl
      have k7 := cell_at HX1.out 7 _ rfl
      have k8 := cell_at HX1.out 8 _ rfl
      have k9 := cell_at HX1.out 9 _ rfl
      have k10 := cell_at HX1.out 10 _ rfl
      have k11 := cell_at HX1.out 11 _ rfl
      go_wp2_with fail
      refine (FW.out _ HBw1.out).mono ?_
      rintro e w2 ⟨rfl, HQw2⟩
      have HBw2 : Sl (Below wa.heap.size wa w2) := ⟨HBw1.out.trans (HQw2.out.mono HBw1.out.size)⟩
      have HX2 := Sl.mk (below_key HX1.out HQw2.out)
      clear k0 k1 k2 k3 k4 k5 k6 k7 k8 k9 k10 k11
      have k0 := cell_at HX2.out 0 _ rfl
      go_wp2_with fail
      refine (AW.out _ HBw2.out).mono ?_
      rintro e wE ⟨rfl, HQwE⟩
      have HBwE : Sl (Below wa.heap.size wa wE) := ⟨HBw2.out.trans (HQwE.out.mono HBw2.out.size)⟩
      go_wp2
      go_ret
      exact ⟨rfl, HTOP.out _ HBwE.out⟩
    have h1' : ((path.size : Int) > 300) = False := eq_false (by omega)
    by_cases h2 : prot.size > 300
    · have h2' : ((prot.size : Int) > 300) = True := eq_true (by omega)
      go_enter Tryd.func7, Tryd.ntmps7
      go_upto_region 1 with fail
      (try rw [hwa])
      (try rw [hgg])
      go_wp2_with fail
      refine (AW.out wa (Below.refl wa.heap.size wa)).mono ?_
      rintro e w1 ⟨rfl, HQw1⟩
      have HBw1 : Sl (Below wa.heap.size wa w1) := ⟨(Below.refl wa.heap.size wa).trans (HQw1.out.mono (Below.refl wa.heap.size wa).size)⟩
      have HX1 := Sl.mk (below_key HX.out HQw1.out)
      have k0 := cell_at HX1.out 0 _ rfl
      have k1 := cell_at HX1.out 1 _ rfl
      have k2 := cell_at HX1.out 2 _ rfl
      have k3 := cell_at HX1.out 3 _ rfl
      have k4 := cell_at HX1.out 4 _ rfl
      have k5 := cell_at HX1.out 5 _ rfl
      have k6 := cell_at HX1.out 6 _ rfl
      have k7 := cell_at HX1.out 7 _ rfl
      have k8 := cell_at HX1.out 8 _ rfl
      have k9 := cell_at HX1.out 9 _ rfl
      have k10 := cell_at HX1.out 10 _ rfl
      have k11 := cell_at HX1.out 11 _ rfl
      go_wp2_with fail
      refine (FW.out _ HBw1.out).mono ?_
      rintro e w2 ⟨rfl, HQw2⟩
      have HBw2 : Sl (Below wa.heap.size wa w2) := ⟨HBw1.out.trans (HQw2.out.mono HBw1.out.size)⟩
      have HX2 := Sl.mk (below_key HX1.out HQw2.out)
      clear k0 k1 k2 k3 k4 k5 k6 k7 k8 k9 k10 k11
      have k0 := cell_at HX2.out 0 _ rfl
      go_wp2_with fail
      refine (AW.out _ HBw2.out).mono ?_
      rintro e wE ⟨rfl, HQwE⟩
      have HBwE : Sl (Below wa.heap.size wa wE) := ⟨HBw2.out.trans (HQwE.out.mono HBw2.out.size)⟩
      go_wp2
      go_ret
      exact ⟨rfl, HTOP.out _ HBwE.out⟩
    have h2' : ((prot.size : Int) > 300) = False := eq_false (by omega)
    obtain ⟨F1, F2, F3⟩ := fewC_yes HFW.out
    have HSH : Sl (∀ r ∈ rs, Short r) := ⟨fun r hr => by
      obtain ⟨q1, q2, q3⟩ := F1 r hr
      exact ⟨by omega, by omega, by omega⟩⟩
    have HL30 := Sl.mk F2
    have hn30 : n1 ≤ 30 := by rw [HN1.out]; exact F2
    have HXA := HX
    clear F1 F2 F3
    go_enter Tryd.func7, Tryd.ntmps7
    go_upto_region 1 with fail
    (try rw [hwa])
    (try rw [hgg])
    go_wp2_with fail
    refine (AW.out wa (Below.refl wa.heap.size wa)).mono ?_
    rintro e w1 ⟨rfl, HQw1⟩
    have HBw1 : Sl (Below wa.heap.size wa w1) := ⟨(Below.refl wa.heap.size wa).trans (HQw1.out.mono (Below.refl wa.heap.size wa).size)⟩
    have HX1 := Sl.mk (below_key HX.out HQw1.out)
    have k0 := cell_at HX1.out 0 _ rfl
    have k1 := cell_at HX1.out 1 _ rfl
    have k2 := cell_at HX1.out 2 _ rfl
    have k3 := cell_at HX1.out 3 _ rfl
    have k4 := cell_at HX1.out 4 _ rfl
    have k5 := cell_at HX1.out 5 _ rfl
    have k6 := cell_at HX1.out 6 _ rfl
    have k7 := cell_at HX1.out 7 _ rfl
    have k8 := cell_at HX1.out 8 _ rfl
    have k9 := cell_at HX1.out 9 _ rfl
    have k10 := cell_at HX1.out 10 _ rfl
    have k11 := cell_at HX1.out 11 _ rfl
    go_wp2_with fail
    refine (FW.out _ HBw1.out).mono ?_
    rintro e w2 ⟨rfl, HQw2⟩
    have HBw2 : Sl (Below wa.heap.size wa w2) := ⟨HBw1.out.trans (HQw2.out.mono HBw1.out.size)⟩
    have HX2 := Sl.mk (below_key HX1.out HQw2.out)
    clear k0 k1 k2 k3 k4 k5 k6 k7 k8 k9 k10 k11
    have k0 := cell_at HX2.out 0 _ rfl
    clear AW FW HX1 HQw1 HQw2 HBw1
    go_wp2
    go_loopw [9] (fun i wr => ∃ k : Nat, k ≤ n1 ∧ i = .int .i64 k ∧ Sl (Below wa.heap.size wa wr) ∧ Sl (wr.heap[g]? = some (.cells #[.slice a1 n1 c1, .slice a2 n2 c2, .int .i64 tb, .int .i64 ms, .int .i64 fr, .int .i64 ct, .int .i64 bs, .int .i64 ot, .int .i64 sh, .int .i64 id, .int .i64 po, .int .i64 cl] 25 (0, 0))) ∧ Sl (∀ i, i < k → ∀ j, j < i → ¬ twin rs j i)) (fun i _ => n1 - (intOf i).toNat)
    case atStart => exact ⟨0, Nat.zero_le _, rfl, HBw2, HX2, ⟨fun i hi => by omega⟩⟩
    case round =>
      clear HBw2 HX2
      obtain ⟨k, hk, rfl, HB, HX, HA⟩ := hrel
      have e0 : wr.cell? ⟨g, 0, none⟩ = some (.slice a1 n1 c1) := cell_at HX.out 0 _ rfl
      by_cases hlt : k < n1
      · have hq : ((k : Int) < (n1 : Int)) = True := eq_true (by omega)
        have hkl : k < rs.length := by rw [← HN1.out]; exact hlt
        obtain ⟨sb, so, rfl⟩ := HV0.out.cap.2.2 (by omega)
        have hk4 : (0 : Int) ≤ (k : Int) := by omega
        have hk5 : (k : Int) < (n1 : Int) := by omega
        go_wp2
        clear e0
        go_loopw [10] (fun i wr => ∃ m : Nat, m ≤ k ∧ i = .int .i64 m ∧ Sl (Below wa.heap.size wa wr) ∧ Sl (wr.heap[g]? = some (.cells #[.slice (some ⟨sb, so, none⟩) n1 c1, .slice a2 n2 c2, .int .i64 tb, .int .i64 ms, .int .i64 fr, .int .i64 ct, .int .i64 bs, .int .i64 ot, .int .i64 sh, .int .i64 id, .int .i64 po, .int .i64 cl] 25 (0, 0))) ∧ Sl (∀ j, j < m → ¬ twin rs j k)) (fun i _ => k - (intOf i).toNat)
        case atStart => exact ⟨0, Nat.zero_le _, rfl, HB, HX, ⟨fun j hj => by omega⟩⟩
        case round =>
          clear HB HX
          obtain ⟨m, hm, rfl, HB, HX, HM⟩ := hrel
          by_cases hmk : m < k
          · have hq2 : ((m : Int) < (k : Int)) = True := eq_true (by omega)
            have hml : m < rs.length := by omega
            have hm4 : (0 : Int) ≤ (m : Int) := by omega
            have hm5 : (m : Int) < (n1 : Int) := by omega
            obtain ⟨x, y, z, he⟩ : ∃ x y z, rs.getD m Rb0 = ⟨x, y, z⟩ := ⟨_, _, _, rfl⟩
            obtain ⟨x2, y2, z2, he2⟩ : ∃ x y z, rs.getD k Rb0 = ⟨x, y, z⟩ := ⟨_, _, _, rfl⟩
            have HE := Sl.mk he
            have HE2 := Sl.mk he2
            have HTW : Sl (twin rs m k ↔ (bytes x = bytes x2 ∧ bytes y = bytes y2)) := ⟨by unfold twin; rw [he, he2]⟩
            have HVr := Sl.mk (HV0.out.below HB.out)
            clear he he2
            go_upto_region 9 with fail
            by_cases hx1 : bytes x = bytes x2
            · have n1' : (x.toList == x2.toList) = true := by rw [beq_bytes2]; exact decide_eq_true hx1
              by_cases hy1 : bytes y = bytes y2
              · have n2' : (y.toList == y2.toList) = true := by rw [beq_bytes2]; exact decide_eq_true hy1
                clear hx1 hy1
                obtain ⟨Rw, hRw⟩ : ∃ R, wr.drew = R := ⟨_, rfl⟩
                have HBR : Below wr.heap.size wr Rw := by rw [← hRw]; exact (Below.refl _ _).drew
                refine wp_region_noPanic ?_
                refine wp_region_held (S := fun V => Below wr.heap.size wr V) (by kernel_rfl) ?_
                change wpAnyH _ _ _ _ _ _ _ _ wr.drew
                rw [hRw]
                clear hRw
                refine heldTake (d := some 53) (op := .fieldAddr 25 (Operand.tmp 4) 0) (g := none) 0 ?v0z1 rfl (by kernel_rfl) (by kernel_rfl) (by kernel_rfl) (by kernel_rfl) ?y0z1 HBR ?_
                case y0z1 => intro o' ho W hS; simp only [execOp, ho]; go_simp; try rfl
                simp only [Act.put, List.setIfInBounds_toArray, List.set_cons_zero, List.set_cons_succ]
                refine heldTake (d := some 54) (op := .load 22 (Operand.tmp 53)) (g := none) 1 ?v1z1 rfl (by kernel_rfl) (by kernel_rfl) (by kernel_rfl) (by kernel_rfl) ?y1z1 HBR ?_
                case y1z1 => intro o' ho W hS; have f0 : W.cell? ⟨g, 0, none⟩ = some (.slice (some ⟨sb, so, none⟩) n1 c1) := cell_at (below_key HX.out hS) 0 _ rfl; simp only [execOp, ho]; go_simp; try rfl
                simp only [Act.put, List.setIfInBounds_toArray, List.set_cons_zero, List.set_cons_succ]
                refine heldTake (d := some 55) (op := .move (Operand.tmp 10)) (g := none) 2 ?v2z1 rfl (by kernel_rfl) (by kernel_rfl) (by kernel_rfl) (by kernel_rfl) ?y2z1 HBR ?_
                case y2z1 => intro o' ho W hS; simp only [execOp, ho]; go_simp; try rfl
                simp only [Act.put, List.setIfInBounds_toArray, List.set_cons_zero, List.set_cons_succ]
                refine heldTake (d := some 56) (op := .indexAddr 22 (Operand.tmp 54) (Operand.tmp 55)) (g := none) 3 ?v3z1 rfl (by kernel_rfl) (by kernel_rfl) (by kernel_rfl) (by kernel_rfl) ?y3z1 HBR ?_
                case y3z1 => intro o' ho W hS; simp only [execOp, ho]; go_simp; try rfl
                simp only [Act.put, List.setIfInBounds_toArray, List.set_cons_zero, List.set_cons_succ]
                refine heldTake (d := some 57) (op := .fieldAddr 34 (Operand.tmp 56) 0) (g := none) 4 ?v4z1 rfl (by kernel_rfl) (by kernel_rfl) (by kernel_rfl) (by kernel_rfl) ?y4z1 HBR ?_
                case y4z1 => intro o' ho W hS; simp only [execOp, ho]; go_simp; try rfl
                simp only [Act.put, List.setIfInBounds_toArray, List.set_cons_zero, List.set_cons_succ]
                refine heldTake (d := some 58) (op := .load 9 (Operand.tmp 57)) (g := none) 5 ?v5z1 rfl (by kernel_rfl) (by kernel_rfl) (by kernel_rfl) (by kernel_rfl) ?y5z1 HBR ?_
                case y5z1 => intro o' ho W hS; obtain ⟨f0, f1, f2⟩ := (HVr.out.below hS).at3 m hml HE.out; simp only [execOp, ho]; go_simp; try rfl
                simp only [Act.put, List.setIfInBounds_toArray, List.set_cons_zero, List.set_cons_succ]
                refine heldTake (d := some 59) (op := .fieldAddr 25 (Operand.tmp 4) 0) (g := none) 6 ?v6z1 rfl (by kernel_rfl) (by kernel_rfl) (by kernel_rfl) (by kernel_rfl) ?y6z1 HBR ?_
                case y6z1 => intro o' ho W hS; simp only [execOp, ho]; go_simp; try rfl
                simp only [Act.put, List.setIfInBounds_toArray, List.set_cons_zero, List.set_cons_succ]
                refine heldTake (d := some 60) (op := .load 22 (Operand.tmp 59)) (g := none) 7 ?v7z1 rfl (by kernel_rfl) (by kernel_rfl) (by kernel_rfl) (by kernel_rfl) ?y7z1 HBR ?_
                case y7z1 => intro o' ho W hS; have f0 : W.cell? ⟨g, 0, none⟩ = some (.slice (some ⟨sb, so, none⟩) n1 c1) := cell_at (below_key HX.out hS) 0 _ rfl; simp only [execOp, ho]; go_simp; try rfl
                simp only [Act.put, List.setIfInBounds_toArray, List.set_cons_zero, List.set_cons_succ]
                refine heldTake (d := some 61) (op := .move (Operand.tmp 9)) (g := none) 8 ?v8z1 rfl (by kernel_rfl) (by kernel_rfl) (by kernel_rfl) (by kernel_rfl) ?y8z1 HBR ?_
                case y8z1 => intro o' ho W hS; simp only [execOp, ho]; go_simp; try rfl
                simp only [Act.put, List.setIfInBounds_toArray, List.set_cons_zero, List.set_cons_succ]
                refine heldTake (d := some 62) (op := .indexAddr 22 (Operand.tmp 60) (Operand.tmp 61)) (g := none) 9 ?v9z1 rfl (by kernel_rfl) (by kernel_rfl) (by kernel_rfl) (by kernel_rfl) ?y9z1 HBR ?_
                case y9z1 => intro o' ho W hS; simp only [execOp, ho]; go_simp; try rfl
                simp only [Act.put, List.setIfInBounds_toArray, List.set_cons_zero, List.set_cons_succ]
                refine heldTake (d := some 63) (op := .fieldAddr 34 (Operand.tmp 62) 0) (g := none) 10 ?v10z1 rfl (by kernel_rfl) (by kernel_rfl) (by kernel_rfl) (by kernel_rfl) ?y10z1 HBR ?_
                case y10z1 => intro o' ho W hS; simp only [execOp, ho]; go_simp; try rfl
                simp only [Act.put, List.setIfInBounds_toArray, List.set_cons_zero, List.set_cons_succ]
                refine heldTake (d := some 64) (op := .load 9 (Operand.tmp 63)) (g := none) 11 ?v11z1 rfl (by kernel_rfl) (by kernel_rfl) (by kernel_rfl) (by kernel_rfl) ?y11z1 HBR ?_
                case y11z1 => intro o' ho W hS; obtain ⟨f0, f1, f2⟩ := (HVr.out.below hS).at3 k hkl HE2.out; simp only [execOp, ho]; go_simp; try rfl
                simp only [Act.put, List.setIfInBounds_toArray, List.set_cons_zero, List.set_cons_succ]
                refine heldTake (d := some 65) (op := .binOp BinOp.eql 9 (Operand.tmp 58) (Operand.tmp 64) 9) (g := none) 12 (.bool true) rfl (by kernel_rfl) (by kernel_rfl) (by kernel_rfl) (by kernel_rfl) ?y12z1 HBR ?_
                case y12z1 => intro o' ho W hS; exact by simp only [execOp, ho]; go_simp; try rfl
                simp only [Act.put, List.setIfInBounds_toArray, List.set_cons_zero, List.set_cons_succ]
                refine heldTake (d := some 66) (op := .move (Operand.tmp 65)) (g := none) 13 (.bool true) rfl (by kernel_rfl) (by kernel_rfl) (by kernel_rfl) (by kernel_rfl) ?y13z1 HBR ?_
                case y13z1 => intro o' ho W hS; exact by simp only [execOp, ho]; go_simp; try rfl
                simp only [Act.put, List.setIfInBounds_toArray, List.set_cons_zero, List.set_cons_succ]
                refine heldTake (d := some 67) (op := .fieldAddr 25 (Operand.tmp 4) 0) (g := some (13, true)) 14 ?v14z1 rfl (by kernel_rfl) (by kernel_rfl) (by kernel_rfl) (by kernel_rfl) ?y14z1 HBR ?_
                case y14z1 => intro o' ho W hS; simp only [execOp, ho]; go_simp; try rfl
                simp only [Act.put, List.setIfInBounds_toArray, List.set_cons_zero, List.set_cons_succ]
                refine heldTake (d := some 68) (op := .load 22 (Operand.tmp 67)) (g := some (13, true)) 15 ?v15z1 rfl (by kernel_rfl) (by kernel_rfl) (by kernel_rfl) (by kernel_rfl) ?y15z1 HBR ?_
                case y15z1 => intro o' ho W hS; have f0 : W.cell? ⟨g, 0, none⟩ = some (.slice (some ⟨sb, so, none⟩) n1 c1) := cell_at (below_key HX.out hS) 0 _ rfl; simp only [execOp, ho]; go_simp; try rfl
                simp only [Act.put, List.setIfInBounds_toArray, List.set_cons_zero, List.set_cons_succ]
                refine heldTake (d := some 69) (op := .move (Operand.tmp 10)) (g := some (13, true)) 16 ?v16z1 rfl (by kernel_rfl) (by kernel_rfl) (by kernel_rfl) (by kernel_rfl) ?y16z1 HBR ?_
                case y16z1 => intro o' ho W hS; simp only [execOp, ho]; go_simp; try rfl
                simp only [Act.put, List.setIfInBounds_toArray, List.set_cons_zero, List.set_cons_succ]
                refine heldTake (d := some 70) (op := .indexAddr 22 (Operand.tmp 68) (Operand.tmp 69)) (g := some (13, true)) 17 ?v17z1 rfl (by kernel_rfl) (by kernel_rfl) (by kernel_rfl) (by kernel_rfl) ?y17z1 HBR ?_
                case y17z1 => intro o' ho W hS; simp only [execOp, ho]; go_simp; try rfl
                simp only [Act.put, List.setIfInBounds_toArray, List.set_cons_zero, List.set_cons_succ]
                refine heldTake (d := some 71) (op := .fieldAddr 34 (Operand.tmp 70) 1) (g := some (13, true)) 18 ?v18z1 rfl (by kernel_rfl) (by kernel_rfl) (by kernel_rfl) (by kernel_rfl) ?y18z1 HBR ?_
                case y18z1 => intro o' ho W hS; simp only [execOp, ho]; go_simp; try rfl
                simp only [Act.put, List.setIfInBounds_toArray, List.set_cons_zero, List.set_cons_succ]
                refine heldTake (d := some 72) (op := .load 9 (Operand.tmp 71)) (g := some (13, true)) 19 ?v19z1 rfl (by kernel_rfl) (by kernel_rfl) (by kernel_rfl) (by kernel_rfl) ?y19z1 HBR ?_
                case y19z1 => intro o' ho W hS; obtain ⟨f0, f1, f2⟩ := (HVr.out.below hS).at3 m hml HE.out; simp only [execOp, ho]; go_simp; try rfl
                simp only [Act.put, List.setIfInBounds_toArray, List.set_cons_zero, List.set_cons_succ]
                refine heldTake (d := some 73) (op := .fieldAddr 25 (Operand.tmp 4) 0) (g := some (13, true)) 20 ?v20z1 rfl (by kernel_rfl) (by kernel_rfl) (by kernel_rfl) (by kernel_rfl) ?y20z1 HBR ?_
                case y20z1 => intro o' ho W hS; simp only [execOp, ho]; go_simp; try rfl
                simp only [Act.put, List.setIfInBounds_toArray, List.set_cons_zero, List.set_cons_succ]
                refine heldTake (d := some 74) (op := .load 22 (Operand.tmp 73)) (g := some (13, true)) 21 ?v21z1 rfl (by kernel_rfl) (by kernel_rfl) (by kernel_rfl) (by kernel_rfl) ?y21z1 HBR ?_
                case y21z1 => intro o' ho W hS; have f0 : W.cell? ⟨g, 0, none⟩ = some (.slice (some ⟨sb, so, none⟩) n1 c1) := cell_at (below_key HX.out hS) 0 _ rfl; simp only [execOp, ho]; go_simp; try rfl
                simp only [Act.put, List.setIfInBounds_toArray, List.set_cons_zero, List.set_cons_succ]
                refine heldTake (d := some 75) (op := .move (Operand.tmp 9)) (g := some (13, true)) 22 ?v22z1 rfl (by kernel_rfl) (by kernel_rfl) (by kernel_rfl) (by kernel_rfl) ?y22z1 HBR ?_
                case y22z1 => intro o' ho W hS; simp only [execOp, ho]; go_simp; try rfl
                simp only [Act.put, List.setIfInBounds_toArray, List.set_cons_zero, List.set_cons_succ]
                refine heldTake (d := some 76) (op := .indexAddr 22 (Operand.tmp 74) (Operand.tmp 75)) (g := some (13, true)) 23 ?v23z1 rfl (by kernel_rfl) (by kernel_rfl) (by kernel_rfl) (by kernel_rfl) ?y23z1 HBR ?_
                case y23z1 => intro o' ho W hS; simp only [execOp, ho]; go_simp; try rfl
                simp only [Act.put, List.setIfInBounds_toArray, List.set_cons_zero, List.set_cons_succ]
                refine heldTake (d := some 77) (op := .fieldAddr 34 (Operand.tmp 76) 1) (g := some (13, true)) 24 ?v24z1 rfl (by kernel_rfl) (by kernel_rfl) (by kernel_rfl) (by kernel_rfl) ?y24z1 HBR ?_
                case y24z1 => intro o' ho W hS; simp only [execOp, ho]; go_simp; try rfl
                simp only [Act.put, List.setIfInBounds_toArray, List.set_cons_zero, List.set_cons_succ]
                refine heldTake (d := some 78) (op := .load 9 (Operand.tmp 77)) (g := some (13, true)) 25 ?v25z1 rfl (by kernel_rfl) (by kernel_rfl) (by kernel_rfl) (by kernel_rfl) ?y25z1 HBR ?_
                case y25z1 => intro o' ho W hS; obtain ⟨f0, f1, f2⟩ := (HVr.out.below hS).at3 k hkl HE2.out; simp only [execOp, ho]; go_simp; try rfl
                simp only [Act.put, List.setIfInBounds_toArray, List.set_cons_zero, List.set_cons_succ]
                refine heldTake (d := some 79) (op := .binOp BinOp.eql 9 (Operand.tmp 72) (Operand.tmp 78) 9) (g := some (13, true)) 26 (.bool true) rfl (by kernel_rfl) (by kernel_rfl) (by kernel_rfl) (by kernel_rfl) ?y26z1 HBR ?_
                case y26z1 => intro o' ho W hS; exact by simp only [execOp, ho]; go_simp; try rfl
                simp only [Act.put, List.setIfInBounds_toArray, List.set_cons_zero, List.set_cons_succ]
                refine heldTake (d := some 80) (op := .pick (Operand.tmp 66) (Operand.tmp 79) (Operand.const (Value.bool false))) (g := none) 27 (.bool true) rfl (by kernel_rfl) (by kernel_rfl) (by kernel_rfl) (by kernel_rfl) ?y27z1 HBR ?_
                case y27z1 => intro o' ho W hS; exact by simp only [execOp, ho]; go_simp; try rfl
                simp only [Act.put, List.setIfInBounds_toArray, List.set_cons_zero, List.set_cons_succ]
                refine wpAnyH_done (by kernel_rfl) ?_ _
                refine NoPanic.normal ?_
                have HBq : Sl (Below wa.heap.size wa Rw) := ⟨HB.out.trans (HBR.mono HB.out.size)⟩
                have HXq := Sl.mk (below_key HX.out HBR)
                go_wp2
                go_ret
                exact ⟨rfl, HTOP.out _ HBq.out⟩
              · have n2' : (y.toList == y2.toList) = false := by rw [beq_bytes2]; exact decide_eq_false hy1
                have HNT : Sl (¬ (bytes x = bytes x2 ∧ bytes y = bytes y2)) := ⟨fun h => hy1 h.2⟩
                clear hx1 hy1
                obtain ⟨Rw, hRw⟩ : ∃ R, wr.drew = R := ⟨_, rfl⟩
                have HBR : Below wr.heap.size wr Rw := by rw [← hRw]; exact (Below.refl _ _).drew
                refine wp_region_noPanic ?_
                refine wp_region_held (S := fun V => Below wr.heap.size wr V) (by kernel_rfl) ?_
                change wpAnyH _ _ _ _ _ _ _ _ wr.drew
                rw [hRw]
                clear hRw
                refine heldTake (d := some 53) (op := .fieldAddr 25 (Operand.tmp 4) 0) (g := none) 0 ?v0z2 rfl (by kernel_rfl) (by kernel_rfl) (by kernel_rfl) (by kernel_rfl) ?y0z2 HBR ?_
                case y0z2 => intro o' ho W hS; simp only [execOp, ho]; go_simp; try rfl
                simp only [Act.put, List.setIfInBounds_toArray, List.set_cons_zero, List.set_cons_succ]
                refine heldTake (d := some 54) (op := .load 22 (Operand.tmp 53)) (g := none) 1 ?v1z2 rfl (by kernel_rfl) (by kernel_rfl) (by kernel_rfl) (by kernel_rfl) ?y1z2 HBR ?_
                case y1z2 => intro o' ho W hS; have f0 : W.cell? ⟨g, 0, none⟩ = some (.slice (some ⟨sb, so, none⟩) n1 c1) := cell_at (below_key HX.out hS) 0 _ rfl; simp only [execOp, ho]; go_simp; try rfl
                simp only [Act.put, List.setIfInBounds_toArray, List.set_cons_zero, List.set_cons_succ]
                refine heldTake (d := some 55) (op := .move (Operand.tmp 10)) (g := none) 2 ?v2z2 rfl (by kernel_rfl) (by kernel_rfl) (by kernel_rfl) (by kernel_rfl) ?y2z2 HBR ?_
                case y2z2 => intro o' ho W hS; simp only [execOp, ho]; go_simp; try rfl
                simp only [Act.put, List.setIfInBounds_toArray, List.set_cons_zero, List.set_cons_succ]
                refine heldTake (d := some 56) (op := .indexAddr 22 (Operand.tmp 54) (Operand.tmp 55)) (g := none) 3 ?v3z2 rfl (by kernel_rfl) (by kernel_rfl) (by kernel_rfl) (by kernel_rfl) ?y3z2 HBR ?_
                case y3z2 => intro o' ho W hS; simp only [execOp, ho]; go_simp; try rfl
                simp only [Act.put, List.setIfInBounds_toArray, List.set_cons_zero, List.set_cons_succ]
                refine heldTake (d := some 57) (op := .fieldAddr 34 (Operand.tmp 56) 0) (g := none) 4 ?v4z2 rfl (by kernel_rfl) (by kernel_rfl) (by kernel_rfl) (by kernel_rfl) ?y4z2 HBR ?_
                case y4z2 => intro o' ho W hS; simp only [execOp, ho]; go_simp; try rfl
                simp only [Act.put, List.setIfInBounds_toArray, List.set_cons_zero, List.set_cons_succ]
                refine heldTake (d := some 58) (op := .load 9 (Operand.tmp 57)) (g := none) 5 ?v5z2 rfl (by kernel_rfl) (by kernel_rfl) (by kernel_rfl) (by kernel_rfl) ?y5z2 HBR ?_
                case y5z2 => intro o' ho W hS; obtain ⟨f0, f1, f2⟩ := (HVr.out.below hS).at3 m hml HE.out; simp only [execOp, ho]; go_simp; try rfl
                simp only [Act.put, List.setIfInBounds_toArray, List.set_cons_zero, List.set_cons_succ]
                refine heldTake (d := some 59) (op := .fieldAddr 25 (Operand.tmp 4) 0) (g := none) 6 ?v6z2 rfl (by kernel_rfl) (by kernel_rfl) (by kernel_rfl) (by kernel_rfl) ?y6z2 HBR ?_
                case y6z2 => intro o' ho W hS; simp only [execOp, ho]; go_simp; try rfl
                simp only [Act.put, List.setIfInBounds_toArray, List.set_cons_zero, List.set_cons_succ]
                refine heldTake (d := some 60) (op := .load 22 (Operand.tmp 59)) (g := none) 7 ?v7z2 rfl (by kernel_rfl) (by kernel_rfl) (by kernel_rfl) (by kernel_rfl) ?y7z2 HBR ?_
                case y7z2 => intro o' ho W hS; have f0 : W.cell? ⟨g, 0, none⟩ = some (.slice (some ⟨sb, so, none⟩) n1 c1) := cell_at (below_key HX.out hS) 0 _ rfl; simp only [execOp, ho]; go_simp; try rfl
                simp only [Act.put, List.setIfInBounds_toArray, List.set_cons_zero, List.set_cons_succ]
                refine heldTake (d := some 61) (op := .move (Operand.tmp 9)) (g := none) 8 ?v8z2 rfl (by kernel_rfl) (by kernel_rfl) (by kernel_rfl) (by kernel_rfl) ?y8z2 HBR ?_
                case y8z2 => intro o' ho W hS; simp only [execOp, ho]; go_simp; try rfl
                simp only [Act.put, List.setIfInBounds_toArray, List.set_cons_zero, List.set_cons_succ]
                refine heldTake (d := some 62) (op := .indexAddr 22 (Operand.tmp 60) (Operand.tmp 61)) (g := none) 9 ?v9z2 rfl (by kernel_rfl) (by kernel_rfl) (by kernel_rfl) (by kernel_rfl) ?y9z2 HBR ?_
                case y9z2 => intro o' ho W hS; simp only [execOp, ho]; go_simp; try rfl
                simp only [Act.put, List.setIfInBounds_toArray, List.set_cons_zero, List.set_cons_succ]
                refine heldTake (d := some 63) (op := .fieldAddr 34 (Operand.tmp 62) 0) (g := none) 10 ?v10z2 rfl (by kernel_rfl) (by kernel_rfl) (by kernel_rfl) (by kernel_rfl) ?y10z2 HBR ?_
                case y10z2 => intro o' ho W hS; simp only [execOp, ho]; go_simp; try rfl
                simp only [Act.put, List.setIfInBounds_toArray, List.set_cons_zero, List.set_cons_succ]
                refine heldTake (d := some 64) (op := .load 9 (Operand.tmp 63)) (g := none) 11 ?v11z2 rfl (by kernel_rfl) (by kernel_rfl) (by kernel_rfl) (by kernel_rfl) ?y11z2 HBR ?_
                case y11z2 => intro o' ho W hS; obtain ⟨f0, f1, f2⟩ := (HVr.out.below hS).at3 k hkl HE2.out; simp only [execOp, ho]; go_simp; try rfl
                simp only [Act.put, List.setIfInBounds_toArray, List.set_cons_zero, List.set_cons_succ]
                refine heldTake (d := some 65) (op := .binOp BinOp.eql 9 (Operand.tmp 58) (Operand.tmp 64) 9) (g := none) 12 (.bool true) rfl (by kernel_rfl) (by kernel_rfl) (by kernel_rfl) (by kernel_rfl) ?y12z2 HBR ?_
                case y12z2 => intro o' ho W hS; exact by simp only [execOp, ho]; go_simp; try rfl
                simp only [Act.put, List.setIfInBounds_toArray, List.set_cons_zero, List.set_cons_succ]
                refine heldTake (d := some 66) (op := .move (Operand.tmp 65)) (g := none) 13 (.bool true) rfl (by kernel_rfl) (by kernel_rfl) (by kernel_rfl) (by kernel_rfl) ?y13z2 HBR ?_
                case y13z2 => intro o' ho W hS; exact by simp only [execOp, ho]; go_simp; try rfl
                simp only [Act.put, List.setIfInBounds_toArray, List.set_cons_zero, List.set_cons_succ]
                refine heldTake (d := some 67) (op := .fieldAddr 25 (Operand.tmp 4) 0) (g := some (13, true)) 14 ?v14z2 rfl (by kernel_rfl) (by kernel_rfl) (by kernel_rfl) (by kernel_rfl) ?y14z2 HBR ?_
                case y14z2 => intro o' ho W hS; simp only [execOp, ho]; go_simp; try rfl
                simp only [Act.put, List.setIfInBounds_toArray, List.set_cons_zero, List.set_cons_succ]
                refine heldTake (d := some 68) (op := .load 22 (Operand.tmp 67)) (g := some (13, true)) 15 ?v15z2 rfl (by kernel_rfl) (by kernel_rfl) (by kernel_rfl) (by kernel_rfl) ?y15z2 HBR ?_
                case y15z2 => intro o' ho W hS; have f0 : W.cell? ⟨g, 0, none⟩ = some (.slice (some ⟨sb, so, none⟩) n1 c1) := cell_at (below_key HX.out hS) 0 _ rfl; simp only [execOp, ho]; go_simp; try rfl
                simp only [Act.put, List.setIfInBounds_toArray, List.set_cons_zero, List.set_cons_succ]
                refine heldTake (d := some 69) (op := .move (Operand.tmp 10)) (g := some (13, true)) 16 ?v16z2 rfl (by kernel_rfl) (by kernel_rfl) (by kernel_rfl) (by kernel_rfl) ?y16z2 HBR ?_
                case y16z2 => intro o' ho W hS; simp only [execOp, ho]; go_simp; try rfl
                simp only [Act.put, List.setIfInBounds_toArray, List.set_cons_zero, List.set_cons_succ]
                refine heldTake (d := some 70) (op := .indexAddr 22 (Operand.tmp 68) (Operand.tmp 69)) (g := some (13, true)) 17 ?v17z2 rfl (by kernel_rfl) (by kernel_rfl) (by kernel_rfl) (by kernel_rfl) ?y17z2 HBR ?_
                case y17z2 => intro o' ho W hS; simp only [execOp, ho]; go_simp; try rfl
                simp only [Act.put, List.setIfInBounds_toArray, List.set_cons_zero, List.set_cons_succ]
                refine heldTake (d := some 71) (op := .fieldAddr 34 (Operand.tmp 70) 1) (g := some (13, true)) 18 ?v18z2 rfl (by kernel_rfl) (by kernel_rfl) (by kernel_rfl) (by kernel_rfl) ?y18z2 HBR ?_
                case y18z2 => intro o' ho W hS; simp only [execOp, ho]; go_simp; try rfl
                simp only [Act.put, List.setIfInBounds_toArray, List.set_cons_zero, List.set_cons_succ]
                refine heldTake (d := some 72) (op := .load 9 (Operand.tmp 71)) (g := some (13, true)) 19 ?v19z2 rfl (by kernel_rfl) (by kernel_rfl) (by kernel_rfl) (by kernel_rfl) ?y19z2 HBR ?_
                case y19z2 => intro o' ho W hS; obtain ⟨f0, f1, f2⟩ := (HVr.out.below hS).at3 m hml HE.out; simp only [execOp, ho]; go_simp; try rfl
                simp only [Act.put, List.setIfInBounds_toArray, List.set_cons_zero, List.set_cons_succ]
                refine heldTake (d := some 73) (op := .fieldAddr 25 (Operand.tmp 4) 0) (g := some (13, true)) 20 ?v20z2 rfl (by kernel_rfl) (by kernel_rfl) (by kernel_rfl) (by kernel_rfl) ?y20z2 HBR ?_
                case y20z2 => intro o' ho W hS; simp only [execOp, ho]; go_simp; try rfl
                simp only [Act.put, List.setIfInBounds_toArray, List.set_cons_zero, List.set_cons_succ]
                refine heldTake (d := some 74) (op := .load 22 (Operand.tmp 73)) (g := some (13, true)) 21 ?v21z2 rfl (by kernel_rfl) (by kernel_rfl) (by kernel_rfl) (by kernel_rfl) ?y21z2 HBR ?_
                case y21z2 => intro o' ho W hS; have f0 : W.cell? ⟨g, 0, none⟩ = some (.slice (some ⟨sb, so, none⟩) n1 c1) := cell_at (below_key HX.out hS) 0 _ rfl; simp only [execOp, ho]; go_simp; try rfl
                simp only [Act.put, List.setIfInBounds_toArray, List.set_cons_zero, List.set_cons_succ]
                refine heldTake (d := some 75) (op := .move (Operand.tmp 9)) (g := some (13, true)) 22 ?v22z2 rfl (by kernel_rfl) (by kernel_rfl) (by kernel_rfl) (by kernel_rfl) ?y22z2 HBR ?_
                case y22z2 => intro o' ho W hS; simp only [execOp, ho]; go_simp; try rfl
                simp only [Act.put, List.setIfInBounds_toArray, List.set_cons_zero, List.set_cons_succ]
                refine heldTake (d := some 76) (op := .indexAddr 22 (Operand.tmp 74) (Operand.tmp 75)) (g := some (13, true)) 23 ?v23z2 rfl (by kernel_rfl) (by kernel_rfl) (by kernel_rfl) (by kernel_rfl) ?y23z2 HBR ?_
                case y23z2 => intro o' ho W hS; simp only [execOp, ho]; go_simp; try rfl
                simp only [Act.put, List.setIfInBounds_toArray, List.set_cons_zero, List.set_cons_succ]
                refine heldTake (d := some 77) (op := .fieldAddr 34 (Operand.tmp 76) 1) (g := some (13, true)) 24 ?v24z2 rfl (by kernel_rfl) (by kernel_rfl) (by kernel_rfl) (by kernel_rfl) ?y24z2 HBR ?_
                case y24z2 => intro o' ho W hS; simp only [execOp, ho]; go_simp; try rfl
                simp only [Act.put, List.setIfInBounds_toArray, List.set_cons_zero, List.set_cons_succ]
                refine heldTake (d := some 78) (op := .load 9 (Operand.tmp 77)) (g := some (13, true)) 25 ?v25z2 rfl (by kernel_rfl) (by kernel_rfl) (by kernel_rfl) (by kernel_rfl) ?y25z2 HBR ?_
                case y25z2 => intro o' ho W hS; obtain ⟨f0, f1, f2⟩ := (HVr.out.below hS).at3 k hkl HE2.out; simp only [execOp, ho]; go_simp; try rfl
                simp only [Act.put, List.setIfInBounds_toArray, List.set_cons_zero, List.set_cons_succ]
                refine heldTake (d := some 79) (op := .binOp BinOp.eql 9 (Operand.tmp 72) (Operand.tmp 78) 9) (g := some (13, true)) 26 (.bool false) rfl (by kernel_rfl) (by kernel_rfl) (by kernel_rfl) (by kernel_rfl) ?y26z2 HBR ?_
                case y26z2 => intro o' ho W hS; exact by simp only [execOp, ho]; go_simp; try rfl
                simp only [Act.put, List.setIfInBounds_toArray, List.set_cons_zero, List.set_cons_succ]
                refine heldTake (d := some 80) (op := .pick (Operand.tmp 66) (Operand.tmp 79) (Operand.const (Value.bool false))) (g := none) 27 (.bool false) rfl (by kernel_rfl) (by kernel_rfl) (by kernel_rfl) (by kernel_rfl) ?y27z2 HBR ?_
                case y27z2 => intro o' ho W hS; exact by simp only [execOp, ho]; go_simp; try rfl
                simp only [Act.put, List.setIfInBounds_toArray, List.set_cons_zero, List.set_cons_succ]
                refine wpAnyH_done (by kernel_rfl) ?_ _
                refine NoPanic.normal ?_
                have HBq : Sl (Below wa.heap.size wa Rw) := ⟨HB.out.trans (HBR.mono HB.out.size)⟩
                have HXq := Sl.mk (below_key HX.out HBR)
                go_wp2
                refine ⟨⟨m + 1, by omega, by go_num, HBq, HXq, ⟨fun j hj => ?_⟩⟩, by simp [intOf]; omega⟩
                by_cases e : j = m
                · subst e; rw [HTW.out]; exact HNT.out
                · exact HM.out j (by omega)
            · have n1' : (x.toList == x2.toList) = false := by rw [beq_bytes2]; exact decide_eq_false hx1
              have HNT : Sl (¬ (bytes x = bytes x2 ∧ bytes y = bytes y2)) := ⟨fun h => hx1 h.1⟩
              clear hx1
              obtain ⟨Rw, hRw⟩ : ∃ R, wr.drew = R := ⟨_, rfl⟩
              have HBR : Below wr.heap.size wr Rw := by rw [← hRw]; exact (Below.refl _ _).drew
              refine wp_region_noPanic ?_
              refine wp_region_held (S := fun V => Below wr.heap.size wr V) (by kernel_rfl) ?_
              change wpAnyH _ _ _ _ _ _ _ _ wr.drew
              rw [hRw]
              clear hRw
              refine heldTake (d := some 53) (op := .fieldAddr 25 (Operand.tmp 4) 0) (g := none) 0 ?v0z3 rfl (by kernel_rfl) (by kernel_rfl) (by kernel_rfl) (by kernel_rfl) ?y0z3 HBR ?_
              case y0z3 => intro o' ho W hS; simp only [execOp, ho]; go_simp; try rfl
              simp only [Act.put, List.setIfInBounds_toArray, List.set_cons_zero, List.set_cons_succ]
              refine heldTake (d := some 54) (op := .load 22 (Operand.tmp 53)) (g := none) 1 ?v1z3 rfl (by kernel_rfl) (by kernel_rfl) (by kernel_rfl) (by kernel_rfl) ?y1z3 HBR ?_
              case y1z3 => intro o' ho W hS; have f0 : W.cell? ⟨g, 0, none⟩ = some (.slice (some ⟨sb, so, none⟩) n1 c1) := cell_at (below_key HX.out hS) 0 _ rfl; simp only [execOp, ho]; go_simp; try rfl
              simp only [Act.put, List.setIfInBounds_toArray, List.set_cons_zero, List.set_cons_succ]
              refine heldTake (d := some 55) (op := .move (Operand.tmp 10)) (g := none) 2 ?v2z3 rfl (by kernel_rfl) (by kernel_rfl) (by kernel_rfl) (by kernel_rfl) ?y2z3 HBR ?_
              case y2z3 => intro o' ho W hS; simp only [execOp, ho]; go_simp; try rfl
              simp only [Act.put, List.setIfInBounds_toArray, List.set_cons_zero, List.set_cons_succ]
              refine heldTake (d := some 56) (op := .indexAddr 22 (Operand.tmp 54) (Operand.tmp 55)) (g := none) 3 ?v3z3 rfl (by kernel_rfl) (by kernel_rfl) (by kernel_rfl) (by kernel_rfl) ?y3z3 HBR ?_
              case y3z3 => intro o' ho W hS; simp only [execOp, ho]; go_simp; try rfl
              simp only [Act.put, List.setIfInBounds_toArray, List.set_cons_zero, List.set_cons_succ]
              refine heldTake (d := some 57) (op := .fieldAddr 34 (Operand.tmp 56) 0) (g := none) 4 ?v4z3 rfl (by kernel_rfl) (by kernel_rfl) (by kernel_rfl) (by kernel_rfl) ?y4z3 HBR ?_
              case y4z3 => intro o' ho W hS; simp only [execOp, ho]; go_simp; try rfl
              simp only [Act.put, List.setIfInBounds_toArray, List.set_cons_zero, List.set_cons_succ]
              refine heldTake (d := some 58) (op := .load 9 (Operand.tmp 57)) (g := none) 5 ?v5z3 rfl (by kernel_rfl) (by kernel_rfl) (by kernel_rfl) (by kernel_rfl) ?y5z3 HBR ?_
              case y5z3 => intro o' ho W hS; obtain ⟨f0, f1, f2⟩ := (HVr.out.below hS).at3 m hml HE.out; simp only [execOp, ho]; go_simp; try rfl
              simp only [Act.put, List.setIfInBounds_toArray, List.set_cons_zero, List.set_cons_succ]
              refine heldTake (d := some 59) (op := .fieldAddr 25 (Operand.tmp 4) 0) (g := none) 6 ?v6z3 rfl (by kernel_rfl) (by kernel_rfl) (by kernel_rfl) (by kernel_rfl) ?y6z3 HBR ?_
              case y6z3 => intro o' ho W hS; simp only [execOp, ho]; go_simp; try rfl
              simp only [Act.put, List.setIfInBounds_toArray, List.set_cons_zero, List.set_cons_succ]
              refine heldTake (d := some 60) (op := .load 22 (Operand.tmp 59)) (g := none) 7 ?v7z3 rfl (by kernel_rfl) (by kernel_rfl) (by kernel_rfl) (by kernel_rfl) ?y7z3 HBR ?_
              case y7z3 => intro o' ho W hS; have f0 : W.cell? ⟨g, 0, none⟩ = some (.slice (some ⟨sb, so, none⟩) n1 c1) := cell_at (below_key HX.out hS) 0 _ rfl; simp only [execOp, ho]; go_simp; try rfl
              simp only [Act.put, List.setIfInBounds_toArray, List.set_cons_zero, List.set_cons_succ]
              refine heldTake (d := some 61) (op := .move (Operand.tmp 9)) (g := none) 8 ?v8z3 rfl (by kernel_rfl) (by kernel_rfl) (by kernel_rfl) (by kernel_rfl) ?y8z3 HBR ?_
              case y8z3 => intro o' ho W hS; simp only [execOp, ho]; go_simp; try rfl
              simp only [Act.put, List.setIfInBounds_toArray, List.set_cons_zero, List.set_cons_succ]
              refine heldTake (d := some 62) (op := .indexAddr 22 (Operand.tmp 60) (Operand.tmp 61)) (g := none) 9 ?v9z3 rfl (by kernel_rfl) (by kernel_rfl) (by kernel_rfl) (by kernel_rfl) ?y9z3 HBR ?_
              case y9z3 => intro o' ho W hS; simp only [execOp, ho]; go_simp; try rfl
              simp only [Act.put, List.setIfInBounds_toArray, List.set_cons_zero, List.set_cons_succ]
              refine heldTake (d := some 63) (op := .fieldAddr 34 (Operand.tmp 62) 0) (g := none) 10 ?v10z3 rfl (by kernel_rfl) (by kernel_rfl) (by kernel_rfl) (by kernel_rfl) ?y10z3 HBR ?_
              case y10z3 => intro o' ho W hS; simp only [execOp, ho]; go_simp; try rfl
              simp only [Act.put, List.setIfInBounds_toArray, List.set_cons_zero, List.set_cons_succ]
              refine heldTake (d := some 64) (op := .load 9 (Operand.tmp 63)) (g := none) 11 ?v11z3 rfl (by kernel_rfl) (by kernel_rfl) (by kernel_rfl) (by kernel_rfl) ?y11z3 HBR ?_
              case y11z3 => intro o' ho W hS; obtain ⟨f0, f1, f2⟩ := (HVr.out.below hS).at3 k hkl HE2.out; simp only [execOp, ho]; go_simp; try rfl
              simp only [Act.put, List.setIfInBounds_toArray, List.set_cons_zero, List.set_cons_succ]
              refine heldTake (d := some 65) (op := .binOp BinOp.eql 9 (Operand.tmp 58) (Operand.tmp 64) 9) (g := none) 12 (.bool false) rfl (by kernel_rfl) (by kernel_rfl) (by kernel_rfl) (by kernel_rfl) ?y12z3 HBR ?_
              case y12z3 => intro o' ho W hS; exact by simp only [execOp, ho]; go_simp; try rfl
              simp only [Act.put, List.setIfInBounds_toArray, List.set_cons_zero, List.set_cons_succ]
              refine heldTake (d := some 66) (op := .move (Operand.tmp 65)) (g := none) 13 (.bool false) rfl (by kernel_rfl) (by kernel_rfl) (by kernel_rfl) (by kernel_rfl) ?y13z3 HBR ?_
              case y13z3 => intro o' ho W hS; exact by simp only [execOp, ho]; go_simp; try rfl
              simp only [Act.put, List.setIfInBounds_toArray, List.set_cons_zero, List.set_cons_succ]
              refine heldSkip (d := some 67) (op := .fieldAddr 25 (Operand.tmp 4) 0) (g := some (13, true)) 14 rfl (by kernel_rfl) (by kernel_rfl) (by kernel_rfl) (by kernel_rfl) HBR ?_
              simp only [Act.put, List.setIfInBounds_toArray, List.set_cons_zero, List.set_cons_succ]
              refine heldSkip (d := some 68) (op := .load 22 (Operand.tmp 67)) (g := some (13, true)) 15 rfl (by kernel_rfl) (by kernel_rfl) (by kernel_rfl) (by kernel_rfl) HBR ?_
              simp only [Act.put, List.setIfInBounds_toArray, List.set_cons_zero, List.set_cons_succ]
              refine heldSkip (d := some 69) (op := .move (Operand.tmp 10)) (g := some (13, true)) 16 rfl (by kernel_rfl) (by kernel_rfl) (by kernel_rfl) (by kernel_rfl) HBR ?_
              simp only [Act.put, List.setIfInBounds_toArray, List.set_cons_zero, List.set_cons_succ]
              refine heldSkip (d := some 70) (op := .indexAddr 22 (Operand.tmp 68) (Operand.tmp 69)) (g := some (13, true)) 17 rfl (by kernel_rfl) (by kernel_rfl) (by kernel_rfl) (by kernel_rfl) HBR ?_
              simp only [Act.put, List.setIfInBounds_toArray, List.set_cons_zero, List.set_cons_succ]
              refine heldSkip (d := some 71) (op := .fieldAddr 34 (Operand.tmp 70) 1) (g := some (13, true)) 18 rfl (by kernel_rfl) (by kernel_rfl) (by kernel_rfl) (by kernel_rfl) HBR ?_
              simp only [Act.put, List.setIfInBounds_toArray, List.set_cons_zero, List.set_cons_succ]
              refine heldSkip (d := some 72) (op := .load 9 (Operand.tmp 71)) (g := some (13, true)) 19 rfl (by kernel_rfl) (by kernel_rfl) (by kernel_rfl) (by kernel_rfl) HBR ?_
              simp only [Act.put, List.setIfInBounds_toArray, List.set_cons_zero, List.set_cons_succ]
              refine heldSkip (d := some 73) (op := .fieldAddr 25 (Operand.tmp 4) 0) (g := some (13, true)) 20 rfl (by kernel_rfl) (by kernel_rfl) (by kernel_rfl) (by kernel_rfl) HBR ?_
              simp only [Act.put, List.setIfInBounds_toArray, List.set_cons_zero, List.set_cons_succ]
              refine heldSkip (d := some 74) (op := .load 22 (Operand.tmp 73)) (g := some (13, true)) 21 rfl (by kernel_rfl) (by kernel_rfl) (by kernel_rfl) (by kernel_rfl) HBR ?_
              simp only [Act.put, List.setIfInBounds_toArray, List.set_cons_zero, List.set_cons_succ]
              refine heldSkip (d := some 75) (op := .move (Operand.tmp 9)) (g := some (13, true)) 22 rfl (by kernel_rfl) (by kernel_rfl) (by kernel_rfl) (by kernel_rfl) HBR ?_
              simp only [Act.put, List.setIfInBounds_toArray, List.set_cons_zero, List.set_cons_succ]
              refine heldSkip (d := some 76) (op := .indexAddr 22 (Operand.tmp 74) (Operand.tmp 75)) (g := some (13, true)) 23 rfl (by kernel_rfl) (by kernel_rfl) (by kernel_rfl) (by kernel_rfl) HBR ?_
              simp only [Act.put, List.setIfInBounds_toArray, List.set_cons_zero, List.set_cons_succ]
              refine heldSkip (d := some 77) (op := .fieldAddr 34 (Operand.tmp 76) 1) (g := some (13, true)) 24 rfl (by kernel_rfl) (by kernel_rfl) (by kernel_rfl) (by kernel_rfl) HBR ?_
              simp only [Act.put, List.setIfInBounds_toArray, List.set_cons_zero, List.set_cons_succ]
              refine heldSkip (d := some 78) (op := .load 9 (Operand.tmp 77)) (g := some (13, true)) 25 rfl (by kernel_rfl) (by kernel_rfl) (by kernel_rfl) (by kernel_rfl) HBR ?_
              simp only [Act.put, List.setIfInBounds_toArray, List.set_cons_zero, List.set_cons_succ]
              refine heldSkip (d := some 79) (op := .binOp BinOp.eql 9 (Operand.tmp 72) (Operand.tmp 78) 9) (g := some (13, true)) 26 rfl (by kernel_rfl) (by kernel_rfl) (by kernel_rfl) (by kernel_rfl) HBR ?_
              simp only [Act.put, List.setIfInBounds_toArray, List.set_cons_zero, List.set_cons_succ]
              refine heldTake (d := some 80) (op := .pick (Operand.tmp 66) (Operand.tmp 79) (Operand.const (Value.bool false))) (g := none) 27 (.bool false) rfl (by kernel_rfl) (by kernel_rfl) (by kernel_rfl) (by kernel_rfl) ?y27z3 HBR ?_
              case y27z3 => intro o' ho W hS; exact by simp only [execOp, ho]; go_simp; try rfl
              simp only [Act.put, List.setIfInBounds_toArray, List.set_cons_zero, List.set_cons_succ]
              refine wpAnyH_done (by kernel_rfl) ?_ _
              refine NoPanic.normal ?_
              have HBq : Sl (Below wa.heap.size wa Rw) := ⟨HB.out.trans (HBR.mono HB.out.size)⟩
              have HXq := Sl.mk (below_key HX.out HBR)
              go_wp2
              refine ⟨⟨m + 1, by omega, by go_num, HBq, HXq, ⟨fun j hj => ?_⟩⟩, by simp [intOf]; omega⟩
              by_cases e : j = m
              · subst e; rw [HTW.out]; exact HNT.out
              · exact HM.out j (by omega)
          · obtain rfl : m = k := by omega
            have hge2 : ((m : Int) < (m : Int)) = False := eq_false (by omega)
            go_wp2
            refine ⟨⟨m + 1, by omega, by go_num, HB, HX, ⟨fun i hi => ?_⟩⟩, by simp [intOf]; omega⟩
            by_cases e : i = m
            · subst e; exact HM.out
            · exact HA.out i (by omega)
      · obtain rfl : k = n1 := by omega
        have hge : ((k : Int) < (k : Int)) = False := eq_false (by omega)
        have HUN : Sl (∀ i, i < rs.length → ∀ j, j < i → ¬ twin rs j i) := ⟨by rw [← HN1.out]; exact HA.out⟩
        have hkp : 0 < k := by omega
        have hw1 : IntKind.i64.wrap (at_ : Int) = (at_ : Int) := by rw [IntKind.wrap_i64]; omega
        have hk1 : ((k : Int) = 0) = False := eq_false (by omega)
        have MF := mod_facts at_ k hkp
        obtain ⟨n, hn⟩ : ∃ n, at_ % k = n := ⟨_, rfl⟩
        rw [hn] at MF
        clear hn
        have hnk : n < k := MF.1
        have hw2 : IntKind.i64.wrap (n : Int) = (n : Int) := by rw [IntKind.wrap_i64]; clear MF; omega
        have hw3 : wrap64 (n : Int) = (n : Int) := by unfold wrap64; clear MF; omega
        obtain ⟨-, hm2, hmod⟩ := MF
        go_upto_region 12 with fail
        clear hm2 hmod
        have HX2 := Sl.mk HX.out
        obtain ⟨x1, y1, z1, f, PK1, PD1⟩ := turned_pack (n := n) HUN.out HL30.out HSH.out HPM.out HQM.out
        have PK := Sl.mk PK1
        have PD := Sl.mk PD1
        clear PK1 PD1
        have EQ := rt_self x1 y1 z1
        have HLK : Sl (k = rs.length) := HN1
        clear HUN HA
        have q0 := cell_at HX2.out 0 _ rfl
        have q1 := cell_at HX2.out 1 _ rfl
        have q2 := cell_at HX2.out 2 _ rfl
        have q3 := cell_at HX2.out 3 _ rfl
        have q4 := cell_at HX2.out 4 _ rfl
        have q5 := cell_at HX2.out 5 _ rfl
        have q6 := cell_at HX2.out 6 _ rfl
        have q7 := cell_at HX2.out 7 _ rfl
        have q8 := cell_at HX2.out 8 _ rfl
        have q9 := cell_at HX2.out 9 _ rfl
        have q10 := cell_at HX2.out 10 _ rfl
        have q11 := cell_at HX2.out 11 _ rfl
        obtain ⟨w5, hw5, HQ5, hx5⟩ := cfg_box wr #[.slice a1 k c1, .slice a2 n2 c2, .int .i64 tb, .int .i64 ms, .int .i64 fr, .int .i64 ct, .int .i64 bs, .int .i64 ot, .int .i64 sh, .int .i64 id, .int .i64 po, .int .i64 cl]
        go_upto_region 13 with fail
        (try rw [hw5])
        have HD5 := Sl.mk hx5
        have HX5 := Sl.mk (below_key HX2.out HQ5.out)
        have HB5 : Sl (Below wa.heap.size wa w5) := ⟨HB.out.trans (HQ5.out.mono HB.out.size)⟩
        obtain ⟨g7, hg7⟩ : ∃ p, wr.heap.size = p := ⟨_, rfl⟩
        have HLT7 : Sl (g7 < w5.heap.size ∧ wa.heap.size ≤ g7) := ⟨by rw [← hg7]; exact ⟨(Array.getElem?_eq_some_iff.1 hx5).1, HB.out.size⟩⟩
        rw [hg7] at HD5
        (try rw [hg7])
        have hgl : g < wa.heap.size := (Array.getElem?_eq_some_iff.1 HXA.out).1
        clear hw5 hx5 hg7 HX2 HX HQ5 HB q0 q1 q2 q3 q4 q5 q6 q7 q8 q9 q10 q11
        obtain ⟨Rw, hRw⟩ : ∃ R, w5.drew = R := ⟨_, rfl⟩
        have HBR : Below w5.heap.size w5 Rw := by rw [← hRw]; exact (Below.refl _ _).drew
        refine wp_region_noPanic ?_
        refine wp_region_held (S := fun V => V.heap[g]? = some (.cells #[.slice a1 k c1, .slice a2 n2 c2, .int .i64 tb, .int .i64 ms, .int .i64 fr, .int .i64 ct, .int .i64 bs, .int .i64 ot, .int .i64 sh, .int .i64 id, .int .i64 po, .int .i64 cl] 25 (0, 0))) (by kernel_rfl) ?_
        change wpAnyH _ _ _ _ _ _ _ _ w5.drew
        rw [hRw]
        clear hRw
        have HS0 : Rw.heap[g]? = some (.cells #[.slice a1 k c1, .slice a2 n2 c2, .int .i64 tb, .int .i64 ms, .int .i64 fr, .int .i64 ct, .int .i64 bs, .int .i64 ot, .int .i64 sh, .int .i64 id, .int .i64 po, .int .i64 cl] 25 (0, 0)) := below_key HX5.out HBR
        have hcapk : k ≤ c1 := hcap
        refine heldTake (d := some 89) (op := .fieldAddr 25 (Operand.tmp 4) 0) (g := none) 1 ?v1 rfl (by kernel_rfl) (by kernel_rfl) (by kernel_rfl) (by kernel_rfl) ?y1 HS0 ?_
        case y1 => intro o' ho W hS; simp only [execOp, ho]; go_simp; try rfl
        simp only [Act.put, List.setIfInBounds_toArray, List.set_cons_zero, List.set_cons_succ]
        refine heldTake (d := some 90) (op := .load 22 (Operand.tmp 89)) (g := none) 2 ?v2 rfl (by kernel_rfl) (by kernel_rfl) (by kernel_rfl) (by kernel_rfl) ?y2 HS0 ?_
        case y2 => intro o' ho W hS; have f0 : W.cell? ⟨g, 0, none⟩ = some (.slice a1 k c1) := cell_at hS 0 _ rfl; simp only [execOp, ho]; go_simp; try rfl
        simp only [Act.put, List.setIfInBounds_toArray, List.set_cons_zero, List.set_cons_succ]
        refine heldTake (d := some 91) (op := .move (Operand.tmp 11)) (g := none) 3 ?v3 rfl (by kernel_rfl) (by kernel_rfl) (by kernel_rfl) (by kernel_rfl) ?y3 HS0 ?_
        case y3 => intro o' ho W hS; simp only [execOp, ho]; go_simp; try rfl
        simp only [Act.put, List.setIfInBounds_toArray, List.set_cons_zero, List.set_cons_succ]
        refine heldTake (d := some 92) (op := .slice 22 (Operand.tmp 90) (some (Operand.tmp 91)) none none) (g := none) 4 (.slice (fromT a1 n c1) (k - n) (c1 - n)) rfl (by kernel_rfl) (by kernel_rfl) (by kernel_rfl) (by kernel_rfl) ?y4 HS0 ?_
        case y4 => intro o' ho W hS; exact tslice_from_run ho (by rfl) (by rfl) (Nat.le_of_lt hnk)
        simp only [Act.put, List.setIfInBounds_toArray, List.set_cons_zero, List.set_cons_succ]
        refine heldTake (d := some 94) (op := .fieldAddr 25 (Operand.tmp 4) 0) (g := none) 6 ?v6 rfl (by kernel_rfl) (by kernel_rfl) (by kernel_rfl) (by kernel_rfl) ?y6 HS0 ?_
        case y6 => intro o' ho W hS; simp only [execOp, ho]; go_simp; try rfl
        simp only [Act.put, List.setIfInBounds_toArray, List.set_cons_zero, List.set_cons_succ]
        refine heldTake (d := some 95) (op := .load 22 (Operand.tmp 94)) (g := none) 7 ?v7 rfl (by kernel_rfl) (by kernel_rfl) (by kernel_rfl) (by kernel_rfl) ?y7 HS0 ?_
        case y7 => intro o' ho W hS; have f0 : W.cell? ⟨g, 0, none⟩ = some (.slice a1 k c1) := cell_at hS 0 _ rfl; simp only [execOp, ho]; go_simp; try rfl
        simp only [Act.put, List.setIfInBounds_toArray, List.set_cons_zero, List.set_cons_succ]
        refine heldTake (d := some 96) (op := .move (Operand.tmp 11)) (g := none) 8 ?v8 rfl (by kernel_rfl) (by kernel_rfl) (by kernel_rfl) (by kernel_rfl) ?y8 HS0 ?_
        case y8 => intro o' ho W hS; simp only [execOp, ho]; go_simp; try rfl
        simp only [Act.put, List.setIfInBounds_toArray, List.set_cons_zero, List.set_cons_succ]
        refine heldTake (d := some 97) (op := .slice 22 (Operand.tmp 95) none (some (Operand.tmp 96)) none) (g := none) 9 (.slice a1 n c1) rfl (by kernel_rfl) (by kernel_rfl) (by kernel_rfl) (by kernel_rfl) ?y9 HS0 ?_
        case y9 => intro o' ho W hS; exact tslice_to_run ho (by rfl) (by rfl) (Nat.le_trans (Nat.le_of_lt hnk) hcapk)
        simp only [Act.put, List.setIfInBounds_toArray, List.set_cons_zero, List.set_cons_succ]
        have EB := (Below.refl Rw.heap.size Rw).alloc (Nat.le_refl _) (.cells #[] 34)
        have BW5 : Below w5.heap.size w5 Rw := HBR
        have HVR := (HV0.out.below HB5.out).below BW5
        have HOE := ownT_made Rw Rw.heap.size (Nat.le_refl _)
        obtain ⟨va, ua, hra, HOA, HGA, -⟩ := add_rts HOE ((HVR.from (Nat.le_of_lt hnk)).below EB) (len_a n HL30.out) EB.size
        have HUA : Below Rw.heap.size Rw ua := HOE.keeps EB HGA (Nat.le_refl _) EB.size
        obtain ⟨vb, ub, hrb, HOB, HGB, -⟩ := add_rts HOA ((HVR.to (k := n) (c := c1) (Nat.le_of_lt hnk) (Nat.le_trans (Nat.le_of_lt hnk) hcapk)).below HUA) (len_b n HL30.out) HUA.size
        have HUB : Below Rw.heap.size Rw ub := HOA.keeps HUA HGB (Nat.le_refl _) HUA.size
        rw [List.nil_append] at HOB
        refine heldRunT (d := some 88) (op := .buildSlice 22 0 #[]) (g := none) (t := 22) 0 (.slice (some ⟨Rw.heap.size, 0, none⟩) 0 0) (Rw.alloc (.cells #[] 34)) rfl (by kernel_rfl) (by kernel_rfl) ?y0 (below_key HS0 EB) ?_
        case y0 => intro o' ho _; simp only [execOp, ho]; go_simp; try rfl
        simp only [Act.put, List.setIfInBounds_toArray, List.set_cons_zero, List.set_cons_succ]
        refine heldRunT (d := some 93) (op := .call { callee := Callee.builtin Builtin.append, args := #[Operand.tmp 88, Operand.tmp 92], argTypes := #[22, 22] }) (g := none) (t := 22) 5 va ua rfl (by kernel_rfl) (by kernel_rfl) ?ya5 (below_key HS0 HUA) ?_
        case ya5 => intro o' ho ht; exact run_appS ho ht rfl rfl hra
        simp only [Act.put, List.setIfInBounds_toArray, List.set_cons_zero, List.set_cons_succ]
        refine heldRunT (d := some 98) (op := .call { callee := Callee.builtin Builtin.append, args := #[Operand.tmp 93, Operand.tmp 97], argTypes := #[22, 22] }) (g := none) (t := 22) 10 vb ub rfl (by kernel_rfl) (by kernel_rfl) ?ya10 (below_key HS0 HUB) ?_
        case ya10 => intro o' ho ht; exact run_appS ho ht rfl rfl hrb
        simp only [Act.put, List.setIfInBounds_toArray, List.set_cons_zero, List.set_cons_succ]
        obtain ⟨a9, c9, rfl⟩ := HOB.slice
        have hlen : (rs.drop n ++ rs.take n).length = k := (len_t n (Nat.le_of_lt (Nat.lt_of_lt_of_eq hnk HLK.out))).trans HLK.out.symm
        rw [hlen] at HOB
        have HSB := below_key HS0 HUB
        have HDB := below_key (below_key HD5.out HBR) HUB
        have fz0 : ub.frozen? ⟨g7, 0, none⟩ = false := frozen_of_row _ _ _ _ _ HDB
        have d0 := cell_at HDB 0 _ rfl
        have hg10 := grown_setCell ub g7 0 (.slice a9 k c9)
        have hd10 : (ub.setCell ⟨g7, 0, none⟩ (.slice a9 k c9)).heap[g7]? = some (.cells #[.slice a9 k c9, .slice a2 n2 c2, .int .i64 tb, .int .i64 ms, .int .i64 fr, .int .i64 ct, .int .i64 bs, .int .i64 ot, .int .i64 sh, .int .i64 id, .int .i64 po, .int .i64 cl] 25 (0, 0)) := by
          rw [heap_setCell_same _ _ _ _ _ _ HDB]; rfl
        have hs10 : (ub.setCell ⟨g7, 0, none⟩ (.slice a9 k c9)).heap[g]? = some (.cells #[.slice a1 k c1, .slice a2 n2 c2, .int .i64 tb, .int .i64 ms, .int .i64 fr, .int .i64 ct, .int .i64 bs, .int .i64 ot, .int .i64 sh, .int .i64 id, .int .i64 po, .int .i64 cl] 25 (0, 0)) := by
          rw [heap_setCell_other _ _ _ _ (Nat.ne_of_lt (Nat.lt_of_lt_of_le hgl HLT7.out.2))]; exact HSB
        rw [hlen]
        refine heldTake (d := some 99) (op := .fieldAddr 25 (Operand.tmp 12) 0) (g := none) 11 ?v11 rfl (by kernel_rfl) (by kernel_rfl) (by kernel_rfl) (by kernel_rfl) ?y11 HSB ?_
        case y11 => intro o' ho W hS; simp only [execOp, ho]; go_simp; try rfl
        simp only [Act.put, List.setIfInBounds_toArray, List.set_cons_zero, List.set_cons_succ]
        refine heldStore (d := none) (op := .store 22 (Operand.tmp 99) (Operand.tmp 98)) (g := none) (t := 0) 12 (ub.setCell ⟨g7, 0, none⟩ (.slice a9 k c9)) rfl (by kernel_rfl) (by kernel_rfl) ?y12 hs10 ?_
        case y12 => intro o' ho ht; simp only [execOp, ho]; go_simp; try rfl
        simp only [Act.put]
        refine wpAnyH_done (by kernel_rfl) ?_ _
        refine NoPanic.normal ?_
        obtain ⟨w10, hw10⟩ : ∃ V, ub.setCell ⟨g7, 0, none⟩ (.slice a9 k c9) = V := ⟨_, rfl⟩
        rw [hw10] at hg10 hd10 hs10
        (try rw [hw10])
        have HO10 : Sl (OwnT w10 Rw.heap.size (.slice a9 k c9) (rs.drop n ++ rs.take n)) := ⟨by
          refine OwnT.kept ?_ hg10 (fun k hk e => ?_)
          · exact HOB
          · injection hk with hk
            have h1 : Rw.heap.size ≤ k := by
              rcases HOB.2 with ⟨h, _⟩ | ⟨j, cap, cur, h, hb, _⟩
              · rw [h] at e; cases e
              · rw [h] at e; injection e with e; rw [← e]; exact hb
            have h2 := HLT7.out.1
            have h3 := HBR.size
            exact absurd (Nat.lt_of_lt_of_le h2 (Nat.le_trans h3 h1)) (by rw [hk]; exact Nat.lt_irrefl _)⟩
        have HB10 : Sl (Below wa.heap.size wa w10) := ⟨(((HB5.out.trans (HBR.mono HB5.out.size))).trans (HUB.mono (Nat.le_trans HB5.out.size HBR.size))).grown hg10 (Nat.le_trans (Nat.le_trans HB5.out.size HBR.size) HUB.size) (fun k hk => by injection hk with hk; rw [← hk]; exact HLT7.out.2)⟩
        have HX10 := Sl.mk hs10
        have HD10 := Sl.mk hd10
        clear hw10 hg10 hd10 hs10 d0 fz0 HDB HSB HOB HOA HGA HGB HUA HUB EB HOE HVR hra hrb HS0 HBR BW5 HD5 HX5 HB5 hlen
        have HRT10 := Sl.mk HO10.out.rts
        have HRTL : Sl (∀ V, Below w10.heap.size w10 V → RtsAt V (.slice a9 k c9) (rs.drop n ++ rs.take n)) := ⟨fun V h => by
          have := HRT10.out.below h
          exact this⟩
        clear HO10 HRT10
        have HC10 : Sl (Below w10.heap.size w10 w10) := ⟨Below.refl _ _⟩
        obtain ⟨vs11, hvs11, HQvs11⟩ : ∃ V, w10.alloc (.cells #[.string prot] 9) = V ∧ Sl (Below w10.heap.size w10 V) := ⟨_, rfl, ⟨(Below.refl _ _).alloc (Nat.le_refl _) _⟩⟩
        have HSs11 : Sl (StrA vs11 (.slice (some ⟨w10.heap.size, 0, none⟩) 1 1) [prot]) := ⟨by rw [← hvs11]; exact str_one _ _⟩
        have HBvs11 : Sl (Below wa.heap.size wa vs11) := ⟨HB10.out.trans (HQvs11.out.mono HB10.out.size)⟩
        have HCvs11 : Sl (Below w10.heap.size w10 vs11) := ⟨HC10.out.trans (HQvs11.out.mono HC10.out.size)⟩
        have HXvs11 := Sl.mk (below_key HX10.out HQvs11.out)
        have HDvs11 := Sl.mk (below_key HD10.out HQvs11.out)
        have q0 := cell_at HX10.out 0 _ rfl
        have q1 := cell_at HX10.out 1 _ rfl
        have q2 := cell_at HX10.out 2 _ rfl
        have q3 := cell_at HX10.out 3 _ rfl
        have q4 := cell_at HX10.out 4 _ rfl
        have q5 := cell_at HX10.out 5 _ rfl
        have q6 := cell_at HX10.out 6 _ rfl
        have q7 := cell_at HX10.out 7 _ rfl
        have q8 := cell_at HX10.out 8 _ rfl
        have q9 := cell_at HX10.out 9 _ rfl
        have q10 := cell_at HX10.out 10 _ rfl
        have q11 := cell_at HX10.out 11 _ rfl
        go_wp2_with fail
        (try rw [hvs11])
        refine (PK.out _ _ _ _ _ _ _ _ _ _ _ _ _ _ _ _ _ _ (HV0.out.below HBvs11.out) HSs11.out).mono ?_
        rintro e ts11 ⟨rfl, HQts11⟩
        clear q0 q1 q2 q3 q4 q5 q6 q7 q8 q9 q10 q11
        have HBts11 : Sl (Below wa.heap.size wa ts11) := ⟨HBvs11.out.trans (HQts11.out.mono HBvs11.out.size)⟩
        have HXts11 := Sl.mk (below_key HXvs11.out HQts11.out)
        have HDts11 := Sl.mk (below_key HDvs11.out HQts11.out)
        obtain ⟨s11, hws11, HQs11, hxs11⟩ := box_of ts11 x1 y1 z1
        go_upto_region 15 with fail
        (try rw [hws11])
        have HB11 : Sl (Below wa.heap.size wa s11) := ⟨HBts11.out.trans (HQs11.out.mono HBts11.out.size)⟩
        have HC11 : Sl (Below w10.heap.size w10 s11) := ⟨(HCvs11.out.trans (HQts11.out.mono HCvs11.out.size)).trans (HQs11.out.mono (Nat.le_trans HCvs11.out.size HQts11.out.size))⟩
        have HRA11 := Sl.mk hxs11
        have HX11 := Sl.mk (below_key HXts11.out HQs11.out)
        have HD11 := Sl.mk (below_key HDts11.out HQs11.out)
        obtain ⟨pHRA, hps11⟩ : ∃ p, ts11.heap.size = p := ⟨_, rfl⟩
        rw [hps11] at HRA11
        (try rw [hps11])
        clear hws11 hxs11 hps11 hvs11 HQvs11 HQts11 HQs11 HBts11 HBvs11 HB10 HXvs11 HDvs11 HXts11 HDts11 HX10 HD10
        obtain ⟨vs12, hvs12, HQvs12⟩ : ∃ V, s11.alloc (.cells #[.string prot] 9) = V ∧ Sl (Below s11.heap.size s11 V) := ⟨_, rfl, ⟨(Below.refl _ _).alloc (Nat.le_refl _) _⟩⟩
        have HSs12 : Sl (StrA vs12 (.slice (some ⟨s11.heap.size, 0, none⟩) 1 1) [prot]) := ⟨by rw [← hvs12]; exact str_one _ _⟩
        have HBvs12 : Sl (Below wa.heap.size wa vs12) := ⟨HB11.out.trans (HQvs12.out.mono HB11.out.size)⟩
        have HCvs12 : Sl (Below w10.heap.size w10 vs12) := ⟨HC11.out.trans (HQvs12.out.mono HC11.out.size)⟩
        have HXvs12 := Sl.mk (below_key HX11.out HQvs12.out)
        have HDvs12 := Sl.mk (below_key HD11.out HQvs12.out)
        have HRAvs12 := Sl.mk (below_key HRA11.out HQvs12.out)
        have q0 := cell_at HD11.out 0 _ rfl
        have q1 := cell_at HD11.out 1 _ rfl
        have q2 := cell_at HD11.out 2 _ rfl
        have q3 := cell_at HD11.out 3 _ rfl
        have q4 := cell_at HD11.out 4 _ rfl
        have q5 := cell_at HD11.out 5 _ rfl
        have q6 := cell_at HD11.out 6 _ rfl
        have q7 := cell_at HD11.out 7 _ rfl
        have q8 := cell_at HD11.out 8 _ rfl
        have q9 := cell_at HD11.out 9 _ rfl
        have q10 := cell_at HD11.out 10 _ rfl
        have q11 := cell_at HD11.out 11 _ rfl
        go_wp2_with fail
        (try rw [hvs12])
        refine (PD.out _ _ _ _ _ _ _ _ _ _ _ _ _ _ _ _ _ _ (HRTL.out _ HCvs12.out) HSs12.out).mono ?_
        rintro e ts12 ⟨rfl, HQts12⟩
        clear q0 q1 q2 q3 q4 q5 q6 q7 q8 q9 q10 q11
        have HBts12 : Sl (Below wa.heap.size wa ts12) := ⟨HBvs12.out.trans (HQts12.out.mono HBvs12.out.size)⟩
        have HXts12 := Sl.mk (below_key HXvs12.out HQts12.out)
        have HDts12 := Sl.mk (below_key HDvs12.out HQts12.out)
        have HRAts12 := Sl.mk (below_key HRAvs12.out HQts12.out)
        obtain ⟨s12, hws12, HQs12, hxs12⟩ := box_of ts12 x1 y1 z1
        go_upto_region 16 with fail
        (try rw [hws12])
        have HB12 : Sl (Below wa.heap.size wa s12) := ⟨HBts12.out.trans (HQs12.out.mono HBts12.out.size)⟩
        have HC12 : Sl (Below w10.heap.size w10 s12) := ⟨(HCvs12.out.trans (HQts12.out.mono HCvs12.out.size)).trans (HQs12.out.mono (Nat.le_trans HCvs12.out.size HQts12.out.size))⟩
        have HRB12 := Sl.mk hxs12
        have HX12 := Sl.mk (below_key HXts12.out HQs12.out)
        have HD12 := Sl.mk (below_key HDts12.out HQs12.out)
        have HRA12 := Sl.mk (below_key HRAts12.out HQs12.out)
        obtain ⟨pHRB, hps12⟩ : ∃ p, ts12.heap.size = p := ⟨_, rfl⟩
        rw [hps12] at HRB12
        (try rw [hps12])
        clear hws12 hxs12 hps12 hvs12 HQvs12 HQts12 HQs12 HBts12 HBvs12 HB11 HXvs12 HDvs12 HRAvs12 HXts12 HDts12 HRAts12 HX11 HD11 HRA11
        obtain ⟨g0, g1, g2⟩ := rt_cells HRA12.out
        obtain ⟨i0, i1, i2⟩ := rt_cells HRB12.out
        cases f <;> (go_wp2; go_ret; exact ⟨rfl, HTOP.out _ HB12.out⟩)
end Go.Proofs.YtdndpicfnlcgjaaDoor.Rou
