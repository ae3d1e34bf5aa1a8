/- leg: LegReads' walk. -/
import Derived.Test.YtlahonjmfecikaaGreatDoorZl
set_option maxRecDepth 100000
set_option linter.unusedVariables false
set_option linter.unusedSimpArgs false
namespace Go.Proofs.YtlahonjmfecikaaGreatDoor.Leg
open Go.RowKit Stm
open FramePlain (Fr Fr0)
open LegPlain (Cf Lg)
open Msg (Kept MacS Mine)
open LegPlain (Inv Few CfOk Good came evs errs react bound feed fail L0 takeN pend Pc)
open MsgPlain (Ev Ms M0)
open Evt

theorem strs_below {w w' : World} {v : Value} {l : List ByteArray} (h : StrsAt w v l) (k : Below w.heap.size w w') : StrsAt w' v l := by
  obtain ⟨a, cap, sb, so, h1, h2, h3, h4, h5⟩ := h
  refine ⟨a, cap, sb, so, h1, h2, h3, fun i hi => ?_, h5⟩
  have h6 := h4 i hi
  rw [k.cell (p := ⟨sb, so + i, none⟩) (block_lt_of_cell h6)]
  exact h6
/-- Two sides, of which only the first is fed, what was told, the pieces. -/
structure RU (w wr : World) (La Lb : Nat) (Sa Sb : Nat → Prop) (c : Cf) (la lb : Lg) (B : Nat) (LV : Value) (ll : List ByteArray) (u : Value) (es : List Ev) : Prop where
  A : LegH w wr La Sa c la 0
  T : LegH w wr Lb Sb c lb 0
  ab : ∀ j, Sa j → ¬ Sb j
  O : OwnE wr w.heap.size u es
  hB : w.heap.size ≤ B
  R : OwnS wr B LV ll
  ou : ∀ j, u.ownBlock = some j → ¬ Sa j ∧ ¬ Sb j
  rv : ∀ j, LV.ownBlock = some j → ¬ Sa j ∧ ¬ Sb j
section
variable {w wr w' : World} {La Lb : Nat} {Sa Sb Sa' Sb' : Nat → Prop} {c : Cf} {la la' lb lb' : Lg} {B : Nat} {LV LV' u u' : Value} {ll ll' : List ByteArray} {es es' : List Ev}
theorem strs_lt {W : World} {base : Nat} {v : Value} {l : List ByteArray} (h : OwnS W base v l) {g : Nat} (hg : v.ownBlock = some g) : base ≤ g ∧ g < W.heap.size ∧ ∃ cs, W.heap[g]? = some (.cells cs 9 (0, 0)) := by
  rcases h.2 with ⟨rfl, _⟩ | ⟨k, cap, cur, rfl, hb, hh, _⟩
  · cases hg
  · obtain rfl : k = g := by simpa [Value.ownBlock] using hg
    exact ⟨hb, (Array.getElem?_eq_some_iff.1 hh).1, _, hh⟩
theorem RU.below (h : RU w wr La Lb Sa Sb c la lb B LV ll u es) (k : Below wr.heap.size wr w') : RU w w' La Lb Sa Sb c la lb B LV ll u es :=
  ⟨h.A.below k, h.T.below k, h.ab, h.O.below k, h.hB, h.R.below k, h.ou, h.rv⟩
theorem RU.fed (h : RU w wr La Lb Sa Sb c la lb B LV ll u es) (hA : LegH w w' La Sa' c la' 0) (g : FGoes wr w' Sa Sa') : RU w w' La Lb Sa' Sb c la' lb B LV ll u es :=
  ⟨hA, h.T.stay g.kept (fun j e e2 => h.ab j e2 e) hA.low, g.apart h.ab (fun j e => (h.T.own e).2), Cut.own_kept h.O g.kept (fun j e => (h.ou j e).1), h.hB, Cut.own_kept h.R g.kept (fun j e => (h.rv j e).1),
    fun j e => ⟨fun e2 => g.apart (T := fun j => u.ownBlock = some j) (fun j e3 e4 => (h.ou j e4).1 e3) (fun j e => evs_lt h.O e) j e2 e, (h.ou j e).2⟩,
    fun j e => ⟨fun e2 => g.apart (T := fun j => LV.ownBlock = some j) (fun j e3 e4 => (h.rv j e4).1 e3) (fun j e => (strs_lt h.R e).2.1) j e2 e, (h.rv j e).2⟩⟩
theorem RU.told (h : RU w wr La Lb Sa Sb c la lb B LV ll u es) (hO : OwnE w' w.heap.size u' es') (g : wr.grownBy w' u.ownBlock) (hu : u'.ownBlock = u.ownBlock ∨ u'.ownBlock = some wr.heap.size) : RU w w' La Lb Sa Sb c la lb B LV ll u' es' := by
  have hk : Kept (fun j => u.ownBlock = some j) wr w' := Kept.grown g (fun j e => e)
  have hL : Below w.heap.size w w' := hk.up h.A.low (fun j e => (h.O.heap e).1) h.A.low.size
  refine ⟨h.A.stay hk (fun j e e2 => (h.ou j e2).1 e) hL, h.T.stay hk (fun j e e2 => (h.ou j e2).2 e) hL, h.ab, hO, h.hB, Stm.own_told h.R h.O (by decide) g, fun j e => ?_, h.rv⟩
  rcases hu with h1 | h1
  · exact h.ou j (h1 ▸ e)
  · rw [h1] at e; injection e with e; subst e
    exact ⟨fun e2 => Nat.lt_irrefl _ (h.A.own e2).2, fun e2 => Nat.lt_irrefl _ (h.T.own e2).2⟩
theorem RU.strs (h : RU w wr La Lb Sa Sb c la lb B LV ll u es) (hR : OwnS w' B LV' ll') (g : wr.grownBy w' LV.ownBlock) (hu : ∀ j, (Sa j → j < B) ∧ (Sb j → j < B)) : RU w w' La Lb Sa Sb c la lb B LV' ll' u es := by
  have hk : Kept (fun j => LV.ownBlock = some j) wr w' := Kept.grown g (fun j e => e)
  have hL : Below w.heap.size w w' := hk.up h.A.low (fun j e => Nat.le_trans h.hB (strs_lt h.R e).1) h.A.low.size
  refine ⟨h.A.stay hk (fun j e e2 => (h.rv j e2).1 e) hL, h.T.stay hk (fun j e e2 => (h.rv j e2).2 e) hL, h.ab, Stm.own_told h.O h.R (by decide) g, h.hB, hR, h.ou, fun j e => ?_⟩
  have h1 := (strs_lt hR e).1
  exact ⟨fun e2 => by have := (hu j).1 e2; omega, fun e2 => by have := (hu j).2 e2; omega⟩
end
theorem lens_app {a b : List ByteArray} (ha : (∀ i, (a.getD i ByteArray.empty).size ≤ 300) ∧ a.length ≤ 40) (hb : (∀ i, (b.getD i ByteArray.empty).size ≤ 300) ∧ b.length ≤ 40) : (∀ i, ((a ++ b).getD i ByteArray.empty).size ≤ 300) ∧ (a ++ b).length ≤ 80 := by
  refine ⟨fun i => ?_, by rw [List.length_append]; omega⟩
  by_cases hi : i < a.length
  · have := ha.1 i
    rw [List.getD_eq_getElem?_getD] at this ⊢
    rw [List.getElem?_append_left hi]; exact this
  · have := hb.1 (i - a.length)
    rw [List.getD_eq_getElem?_getD] at this ⊢
    rw [List.getElem?_append_right (by omega)]; exact this
theorem str_cell {W : World} {a : Option Addr} {n c : Nat} {l : List ByteArray} (h : StrA W (.slice a n c) l) (k : Nat) (hk : k < l.length) : ∃ sb so, a = some ⟨sb, so, none⟩ ∧ W.cell? ⟨sb, so + k, none⟩ = some (.string (l.getD k ByteArray.empty)) := by
  obtain ⟨a', c', sb, so, he, _, h3, h4⟩ := h
  injection he with e1 e2 e3
  exact ⟨sb, so, by rw [e1]; exact h3 (by omega), h4 k hk⟩
theorem few_lens {l : List ByteArray} (h : Stm.few l = true) : (∀ i, (l.getD i ByteArray.empty).size ≤ 300) ∧ l.length ≤ 40 := by
  unfold Stm.few at h
  rw [Bool.and_eq_true, List.all_eq_true] at h
  refine ⟨fun i => ?_, of_decide_eq_true h.2⟩
  by_cases hi : i < l.length
  · rw [List.getD_eq_getElem?_getD, List.getElem?_eq_getElem hi]
    exact of_decide_eq_true (h.1 _ (List.getElem_mem hi))
  · rw [List.getD_eq_getElem?_getD, List.getElem?_eq_none (by omega)]; exact Nat.zero_le _
/-- How many are told at once. -/
theorem feed_len {c : Cf} {l : Lg} {k : Nat} (h : LegPlain.Good c l k) {b : List Nat} (hb : ∀ y ∈ b, y < 256) (hm : c.msg ≤ 65536) (hl : b.length ≤ 30000) : (feed c l b).2.length ≤ 100000 := by
  rcases h.cases with hst | ⟨_, _, hrd⟩
  · rw [LegPlain.feed_stop b hst]; exact Nat.zero_le _
  · obtain ⟨_, _, _, _, _, f6, _, _⟩ := LegPlain.feed_in hrd b hb
    rw [f6]
    refine Nat.le_trans (List.length_filter_le _ _) ?_
    have h1 : (evs c l b).length ≤ (StreamPlain.all (l.buf ++ b) c.masked (bound c : Int)).1.length := run_len _ _ _
    have hs : Small 256 (l.buf ++ b) := Small.append (show Small 256 l.buf from hrd.small) hb
    have h2 := (StreamPlain.all_frs c.masked (bound c : Int) _ (l.buf ++ b) (Nat.le_refl _) hs).2.2
    have h3 := (LegPlain.Reads.kept hrd).buf
    rw [List.length_append] at h2
    have : bound c ≤ 65536 := by unfold LegPlain.bound; omega
    omega
set_option maxHeartbeats 16000000 in
theorem reads_walk (masked : Bool) (va : Value) (xa : List ByteArray) (vb : Value) (xb : List ByteArray) (w : World) (hg : G3 w) (hva : StrsAt w va xa) (hvb : StrsAt w vb xb) : Calls Tryz.prog 6 #[.bool masked, va, vb] w fun e w' => e = .returned (.bool true) ∧ Below w.heap.size w w' := by
  obtain ⟨i1, h1⟩ : ∃ i : Int, ((1 + 250 : Nat) : Int) = i := ⟨_, rfl⟩
  obtain ⟨i2, h2⟩ : ∃ i : Int, ((1 + 50 : Nat) : Int) = i := ⟨_, rfl⟩
  have CF := cfg_L (a := 250) (b := 50) (o := 250) (by decide) (by decide) (by decide) h1 h2 h1 (x1 := 250) (x2 := 50) (x3 := 250) rfl rfl rfl w
  have NW : Sl (∀ V g, Below w.heap.size w V → Rou.RtsAt V (.slice (some ⟨g, 0, none⟩) 1 1) [rb1] → Calls Tryz.prog 13 #[.agg #[.slice (some ⟨g, 0, none⟩) 1 1, .slice none 0 0, .int .i64 4, .int .i64 i1, .int .i64 i2, .int .i64 3, .int .i64 300, .int .i64 i1, .int .i64 5, .int .i64 9, .int .i64 3, .int .i64 4], .bool masked, .int .u32 1] V fun e w' => ∃ L S, e = .returned (.tuple #[.pointer (some ⟨L, 0, none⟩), .int .i64 0]) ∧ Sl (LegH w w' L S (cfL 250 50 250 masked) (L0 1) 0) ∧ Sl (Below V.heap.size V w') ∧ Sl (∀ j, S j → V.heap.size ≤ j)) := ⟨fun V g hV hv => new_L (a := 250) (b := 50) (o := 250) (by decide) (by decide) (by decide) h1 h2 h1 masked 1 (by decide) rfl hg hV hv⟩
  have HG := Sl.mk hg
  have HVA := Sl.mk hva
  have HVB := Sl.mk hvb
  have hq1 : ((0 : Int) != 0) = false := rfl
  obtain ⟨fa, hfa⟩ : ∃ b, Stm.few xa = b := ⟨_, rfl⟩
  obtain ⟨fb, hfb⟩ : ∃ b, Stm.few xb = b := ⟨_, rfl⟩
  clear hg hva hvb h1 h2
  cases fa with
  | false =>
    go_enter Tryz.func6, Tryz.ntmps6
    go_wp2_with fail
    refine CF.mono ?_
    rintro e w1 ⟨g, rfl, HV, HB1⟩
    obtain ⟨X1, hX1⟩ : ∃ V, w1.alloc (.cells #[.slice (some ⟨g, 0, none⟩) 1 1, .slice none 0 0, .int .i64 4, .int .i64 i1, .int .i64 i2, .int .i64 3, .int .i64 300, .int .i64 i1, .int .i64 5, .int .i64 9, .int .i64 3, .int .i64 4] 25) = V := ⟨_, rfl⟩
    have hXB : Below w1.heap.size w1 X1 := by rw [← hX1]; exact (Below.refl _ _).alloc (Nat.le_refl _) _
    have hXC : X1.heap[w1.heap.size]? = some (.cells #[.slice (some ⟨g, 0, none⟩) 1 1, .slice none 0 0, .int .i64 4, .int .i64 i1, .int .i64 i2, .int .i64 3, .int .i64 300, .int .i64 i1, .int .i64 5, .int .i64 9, .int .i64 3, .int .i64 4] 25 (0, 0)) := by rw [← hX1]; exact alloc_new _ _ _ rfl
    obtain ⟨cb, hcb⟩ : ∃ b, w1.heap.size = b := ⟨_, rfl⟩
    have HRT : Sl (Rou.RtsAt X1 (.slice (some ⟨g, 0, none⟩) 1 1) [rb1]) := ⟨rts_one (below_key HV.out.1 hXB)⟩
    have HB2 : Sl (Below w.heap.size w X1) := ⟨HB1.out.trans (hXB.mono HB1.out.size)⟩
    have HXC := Sl.mk hXC
    have NW1 := NW.out X1 g HB2.out HRT.out
    clear CF HV HB1 hXB
    rw [hcb] at HXC hXC
    have k0 := Rou.cell_at hXC 0 _ rfl
    have k1 := Rou.cell_at hXC 1 _ rfl
    have k2 := Rou.cell_at hXC 2 _ rfl
    have k3 := Rou.cell_at hXC 3 _ rfl
    have k4 := Rou.cell_at hXC 4 _ rfl
    have k5 := Rou.cell_at hXC 5 _ rfl
    have k6 := Rou.cell_at hXC 6 _ rfl
    have k7 := Rou.cell_at hXC 7 _ rfl
    have k8 := Rou.cell_at hXC 8 _ rfl
    have k9 := Rou.cell_at hXC 9 _ rfl
    have k10 := Rou.cell_at hXC 10 _ rfl
    have k11 := Rou.cell_at hXC 11 _ rfl
    go_upto_region 2 with fail
    (try rw [hX1])
    (try rw [hcb])
    clear hX1 hcb hXC
    go_wp2_with fail
    refine NW1.mono ?_
    rintro e w2 ⟨La, Sa, rfl, HA2, HB3, HSa⟩
    clear NW1
    clear k0 k1 k2 k3 k4 k5 k6 k7 k8 k9 k10 k11
    have HXC2 := Sl.mk (below_key HXC.out HB3.out)
    have HB4 : Sl (Below w.heap.size w w2) := ⟨HB2.out.trans (HB3.out.mono HB2.out.size)⟩
    have NW2 := NW.out w2 g HB4.out (HRT.out.below HB3.out)
    have k0 := Rou.cell_at HXC2.out 0 _ rfl
    have k1 := Rou.cell_at HXC2.out 1 _ rfl
    have k2 := Rou.cell_at HXC2.out 2 _ rfl
    have k3 := Rou.cell_at HXC2.out 3 _ rfl
    have k4 := Rou.cell_at HXC2.out 4 _ rfl
    have k5 := Rou.cell_at HXC2.out 5 _ rfl
    have k6 := Rou.cell_at HXC2.out 6 _ rfl
    have k7 := Rou.cell_at HXC2.out 7 _ rfl
    have k8 := Rou.cell_at HXC2.out 8 _ rfl
    have k9 := Rou.cell_at HXC2.out 9 _ rfl
    have k10 := Rou.cell_at HXC2.out 10 _ rfl
    have k11 := Rou.cell_at HXC2.out 11 _ rfl
    clear HXC HB2 HB3 HRT NW
    go_wp2_with fail
    refine NW2.mono ?_
    rintro e w3 ⟨Lb, Sb, rfl, HT3, HB5, HSb⟩
    clear NW2 HXC2 HB4 HSa
    clear k0 k1 k2 k3 k4 k5 k6 k7 k8 k9 k10 k11
    have HA3 := Sl.mk (HA2.out.below HB5.out)
    have HAB : Sl (∀ j, Sa j → ¬ Sb j) := ⟨fun j e e2 => by have := (HA2.out.own e).2; have := HSb.out j e2; omega⟩
    clear HA2 HB5 HSb
    have AW1 := awake_any w3 HG.out HA3.out.low
    go_wp2_with fail
    refine AW1.mono ?_
    rintro e w4 ⟨rfl, HB6⟩
    clear AW1
    have HA4 := Sl.mk (HA3.out.below HB6.out)
    have HT4 := Sl.mk (HT3.out.below HB6.out)
    clear HA3 HT3 HB6
    have HFa := Stm.few_any xa _ w4 (strs_below HVA.out HA4.out.low)
    have HFb := Stm.few_any xb _ w4 (strs_below HVB.out HA4.out.low)
    rw [hfa] at HFa
    go_wp2_with fail
    refine HFa.mono ?_
    rintro e w5 ⟨rfl, rfl⟩
    clear HFa
    have AW1 := awake_any w4 HG.out HA4.out.low
    go_wp2_with fail
    refine AW1.mono ?_
    rintro e w5 ⟨rfl, HX5⟩
    go_wp2
    go_ret
    exact ⟨rfl, (HA4.out.below HX5.out).low⟩
  | true =>
    cases fb with
    | false =>
      go_enter Tryz.func6, Tryz.ntmps6
      go_wp2_with fail
      refine CF.mono ?_
      rintro e w1 ⟨g, rfl, HV, HB1⟩
      obtain ⟨X1, hX1⟩ : ∃ V, w1.alloc (.cells #[.slice (some ⟨g, 0, none⟩) 1 1, .slice none 0 0, .int .i64 4, .int .i64 i1, .int .i64 i2, .int .i64 3, .int .i64 300, .int .i64 i1, .int .i64 5, .int .i64 9, .int .i64 3, .int .i64 4] 25) = V := ⟨_, rfl⟩
      have hXB : Below w1.heap.size w1 X1 := by rw [← hX1]; exact (Below.refl _ _).alloc (Nat.le_refl _) _
      have hXC : X1.heap[w1.heap.size]? = some (.cells #[.slice (some ⟨g, 0, none⟩) 1 1, .slice none 0 0, .int .i64 4, .int .i64 i1, .int .i64 i2, .int .i64 3, .int .i64 300, .int .i64 i1, .int .i64 5, .int .i64 9, .int .i64 3, .int .i64 4] 25 (0, 0)) := by rw [← hX1]; exact alloc_new _ _ _ rfl
      obtain ⟨cb, hcb⟩ : ∃ b, w1.heap.size = b := ⟨_, rfl⟩
      have HRT : Sl (Rou.RtsAt X1 (.slice (some ⟨g, 0, none⟩) 1 1) [rb1]) := ⟨rts_one (below_key HV.out.1 hXB)⟩
      have HB2 : Sl (Below w.heap.size w X1) := ⟨HB1.out.trans (hXB.mono HB1.out.size)⟩
      have HXC := Sl.mk hXC
      have NW1 := NW.out X1 g HB2.out HRT.out
      clear CF HV HB1 hXB
      rw [hcb] at HXC hXC
      have k0 := Rou.cell_at hXC 0 _ rfl
      have k1 := Rou.cell_at hXC 1 _ rfl
      have k2 := Rou.cell_at hXC 2 _ rfl
      have k3 := Rou.cell_at hXC 3 _ rfl
      have k4 := Rou.cell_at hXC 4 _ rfl
      have k5 := Rou.cell_at hXC 5 _ rfl
      have k6 := Rou.cell_at hXC 6 _ rfl
      have k7 := Rou.cell_at hXC 7 _ rfl
      have k8 := Rou.cell_at hXC 8 _ rfl
      have k9 := Rou.cell_at hXC 9 _ rfl
      have k10 := Rou.cell_at hXC 10 _ rfl
      have k11 := Rou.cell_at hXC 11 _ rfl
      go_upto_region 2 with fail
      (try rw [hX1])
      (try rw [hcb])
      clear hX1 hcb hXC
      go_wp2_with fail
      refine NW1.mono ?_
      rintro e w2 ⟨La, Sa, rfl, HA2, HB3, HSa⟩
      clear NW1
      clear k0 k1 k2 k3 k4 k5 k6 k7 k8 k9 k10 k11
      have HXC2 := Sl.mk (below_key HXC.out HB3.out)
      have HB4 : Sl (Below w.heap.size w w2) := ⟨HB2.out.trans (HB3.out.mono HB2.out.size)⟩
      have NW2 := NW.out w2 g HB4.out (HRT.out.below HB3.out)
      have k0 := Rou.cell_at HXC2.out 0 _ rfl
      have k1 := Rou.cell_at HXC2.out 1 _ rfl
      have k2 := Rou.cell_at HXC2.out 2 _ rfl
      have k3 := Rou.cell_at HXC2.out 3 _ rfl
      have k4 := Rou.cell_at HXC2.out 4 _ rfl
      have k5 := Rou.cell_at HXC2.out 5 _ rfl
      have k6 := Rou.cell_at HXC2.out 6 _ rfl
      have k7 := Rou.cell_at HXC2.out 7 _ rfl
      have k8 := Rou.cell_at HXC2.out 8 _ rfl
      have k9 := Rou.cell_at HXC2.out 9 _ rfl
      have k10 := Rou.cell_at HXC2.out 10 _ rfl
      have k11 := Rou.cell_at HXC2.out 11 _ rfl
      clear HXC HB2 HB3 HRT NW
      go_wp2_with fail
      refine NW2.mono ?_
      rintro e w3 ⟨Lb, Sb, rfl, HT3, HB5, HSb⟩
      clear NW2 HXC2 HB4 HSa
      clear k0 k1 k2 k3 k4 k5 k6 k7 k8 k9 k10 k11
      have HA3 := Sl.mk (HA2.out.below HB5.out)
      have HAB : Sl (∀ j, Sa j → ¬ Sb j) := ⟨fun j e e2 => by have := (HA2.out.own e).2; have := HSb.out j e2; omega⟩
      clear HA2 HB5 HSb
      have AW1 := awake_any w3 HG.out HA3.out.low
      go_wp2_with fail
      refine AW1.mono ?_
      rintro e w4 ⟨rfl, HB6⟩
      clear AW1
      have HA4 := Sl.mk (HA3.out.below HB6.out)
      have HT4 := Sl.mk (HT3.out.below HB6.out)
      clear HA3 HT3 HB6
      have HFa := Stm.few_any xa _ w4 (strs_below HVA.out HA4.out.low)
      have HFb := Stm.few_any xb _ w4 (strs_below HVB.out HA4.out.low)
      rw [hfa] at HFa
      go_wp2_with fail
      refine HFa.mono ?_
      rintro e w5 ⟨rfl, rfl⟩
      clear HFa
      rw [hfb] at HFb
      go_wp2_with fail
      refine HFb.mono ?_
      rintro e w5 ⟨rfl, rfl⟩
      clear HFb
      have AW1 := awake_any w4 HG.out HA4.out.low
      go_wp2_with fail
      refine AW1.mono ?_
      rintro e w5 ⟨rfl, HX5⟩
      go_wp2
      go_ret
      exact ⟨rfl, (HA4.out.below HX5.out).low⟩
    | true =>
      have HLA := Sl.mk (few_lens hfa)
      have HLB := Sl.mk (few_lens hfb)
      go_enter Tryz.func6, Tryz.ntmps6
      go_wp2_with fail
      refine CF.mono ?_
      rintro e w1 ⟨g, rfl, HV, HB1⟩
      obtain ⟨X1, hX1⟩ : ∃ V, w1.alloc (.cells #[.slice (some ⟨g, 0, none⟩) 1 1, .slice none 0 0, .int .i64 4, .int .i64 i1, .int .i64 i2, .int .i64 3, .int .i64 300, .int .i64 i1, .int .i64 5, .int .i64 9, .int .i64 3, .int .i64 4] 25) = V := ⟨_, rfl⟩
      have hXB : Below w1.heap.size w1 X1 := by rw [← hX1]; exact (Below.refl _ _).alloc (Nat.le_refl _) _
      have hXC : X1.heap[w1.heap.size]? = some (.cells #[.slice (some ⟨g, 0, none⟩) 1 1, .slice none 0 0, .int .i64 4, .int .i64 i1, .int .i64 i2, .int .i64 3, .int .i64 300, .int .i64 i1, .int .i64 5, .int .i64 9, .int .i64 3, .int .i64 4] 25 (0, 0)) := by rw [← hX1]; exact alloc_new _ _ _ rfl
      obtain ⟨cb, hcb⟩ : ∃ b, w1.heap.size = b := ⟨_, rfl⟩
      have HRT : Sl (Rou.RtsAt X1 (.slice (some ⟨g, 0, none⟩) 1 1) [rb1]) := ⟨rts_one (below_key HV.out.1 hXB)⟩
      have HB2 : Sl (Below w.heap.size w X1) := ⟨HB1.out.trans (hXB.mono HB1.out.size)⟩
      have HXC := Sl.mk hXC
      have NW1 := NW.out X1 g HB2.out HRT.out
      clear CF HV HB1 hXB
      rw [hcb] at HXC hXC
      have k0 := Rou.cell_at hXC 0 _ rfl
      have k1 := Rou.cell_at hXC 1 _ rfl
      have k2 := Rou.cell_at hXC 2 _ rfl
      have k3 := Rou.cell_at hXC 3 _ rfl
      have k4 := Rou.cell_at hXC 4 _ rfl
      have k5 := Rou.cell_at hXC 5 _ rfl
      have k6 := Rou.cell_at hXC 6 _ rfl
      have k7 := Rou.cell_at hXC 7 _ rfl
      have k8 := Rou.cell_at hXC 8 _ rfl
      have k9 := Rou.cell_at hXC 9 _ rfl
      have k10 := Rou.cell_at hXC 10 _ rfl
      have k11 := Rou.cell_at hXC 11 _ rfl
      go_upto_region 2 with fail
      (try rw [hX1])
      (try rw [hcb])
      clear hX1 hcb hXC
      go_wp2_with fail
      refine NW1.mono ?_
      rintro e w2 ⟨La, Sa, rfl, HA2, HB3, HSa⟩
      clear NW1
      clear k0 k1 k2 k3 k4 k5 k6 k7 k8 k9 k10 k11
      have HXC2 := Sl.mk (below_key HXC.out HB3.out)
      have HB4 : Sl (Below w.heap.size w w2) := ⟨HB2.out.trans (HB3.out.mono HB2.out.size)⟩
      have NW2 := NW.out w2 g HB4.out (HRT.out.below HB3.out)
      have k0 := Rou.cell_at HXC2.out 0 _ rfl
      have k1 := Rou.cell_at HXC2.out 1 _ rfl
      have k2 := Rou.cell_at HXC2.out 2 _ rfl
      have k3 := Rou.cell_at HXC2.out 3 _ rfl
      have k4 := Rou.cell_at HXC2.out 4 _ rfl
      have k5 := Rou.cell_at HXC2.out 5 _ rfl
      have k6 := Rou.cell_at HXC2.out 6 _ rfl
      have k7 := Rou.cell_at HXC2.out 7 _ rfl
      have k8 := Rou.cell_at HXC2.out 8 _ rfl
      have k9 := Rou.cell_at HXC2.out 9 _ rfl
      have k10 := Rou.cell_at HXC2.out 10 _ rfl
      have k11 := Rou.cell_at HXC2.out 11 _ rfl
      clear HXC HB2 HB3 HRT NW
      go_wp2_with fail
      refine NW2.mono ?_
      rintro e w3 ⟨Lb, Sb, rfl, HT3, HB5, HSb⟩
      clear NW2 HXC2 HB4 HSa
      clear k0 k1 k2 k3 k4 k5 k6 k7 k8 k9 k10 k11
      have HA3 := Sl.mk (HA2.out.below HB5.out)
      have HAB : Sl (∀ j, Sa j → ¬ Sb j) := ⟨fun j e e2 => by have := (HA2.out.own e).2; have := HSb.out j e2; omega⟩
      clear HA2 HB5 HSb
      have AW1 := awake_any w3 HG.out HA3.out.low
      go_wp2_with fail
      refine AW1.mono ?_
      rintro e w4 ⟨rfl, HB6⟩
      clear AW1
      have HA4 := Sl.mk (HA3.out.below HB6.out)
      have HT4 := Sl.mk (HT3.out.below HB6.out)
      clear HA3 HT3 HB6
      have HFa := Stm.few_any xa _ w4 (strs_below HVA.out HA4.out.low)
      have HFb := Stm.few_any xb _ w4 (strs_below HVB.out HA4.out.low)
      rw [hfa] at HFa
      go_wp2_with fail
      refine HFa.mono ?_
      rintro e w5 ⟨rfl, rfl⟩
      clear HFa
      rw [hfb] at HFb
      go_wp2_with fail
      refine HFb.mono ?_
      rintro e w5 ⟨rfl, rfl⟩
      clear HFb
      clear hfa hfb
      have B4 : Below w4.heap.size w4 (w4.alloc (.cells #[] 52)) := (Below.refl _ _).alloc (Nat.le_refl _) _
      obtain ⟨w5, hw5⟩ : ∃ V, w4.alloc (.cells #[] 52) = V := ⟨_, rfl⟩
      rw [hw5] at B4
      have B5 : Below w5.heap.size w5 (w5.alloc (.cells #[] 9)) := (Below.refl _ _).alloc (Nat.le_refl _) _
      have HB5 : Below w4.heap.size w4 (w5.alloc (.cells #[] 9)) := B4.trans (B5.mono B4.size)
      have hw4 := HA4.out.low.size
      have O4 : OwnE w5 w.heap.size (.slice (some ⟨w4.heap.size, 0, none⟩) 0 0) [] := by
        rw [← hw5]; exact ownE_made w4 _ hw4
      obtain ⟨B, hB⟩ : ∃ b, w5.heap.size = b := ⟨_, rfl⟩
      have HBS : Sl (∀ j, (Sa j → j < B) ∧ (Sb j → j < B)) := ⟨fun j => ⟨fun e => by have := (HA4.out.own e).2; have := B4.size; omega, fun e => by have := (HT4.out.own e).2; have := B4.size; omega⟩⟩
      have HC5 : Sl (RU w (w5.alloc (.cells #[] 9)) La Lb Sa Sb (cfL 250 50 250 masked) (L0 1) (L0 1) B (.slice (some ⟨B, 0, none⟩) 0 0) [] (.slice (some ⟨w4.heap.size, 0, none⟩) 0 0) []) := ⟨⟨HA4.out.below HB5, HT4.out.below HB5, HAB.out, O4.below B5, by have := B4.size; omega, (by rw [← hB]; exact World.ownsRow_lit w5 #[] 0 (Nat.le_refl _) (by decide) rfl), fun j e => (by
        obtain rfl : w4.heap.size = j := by simpa [Value.ownBlock] using e
        exact ⟨fun e2 => Nat.lt_irrefl _ (HA4.out.own e2).2, fun e2 => Nat.lt_irrefl _ (HT4.out.own e2).2⟩), fun j e => (by
        obtain rfl : B = j := by simpa [Value.ownBlock] using e
        exact ⟨fun e2 => Nat.lt_irrefl _ ((HBS.out B).1 e2), fun e2 => Nat.lt_irrefl _ ((HBS.out B).2 e2)⟩)⟩⟩
      have hL1 : ([] : List ByteArray).length + xa.length ≤ 1000000 := by have := HLA.out.2; simp; omega
      have hL2 : ([] ++ xa : List ByteArray).length + xb.length ≤ 1000000 := by have := HLA.out.2; have := HLB.out.2; simp; omega
      have HA5 := Sl.mk (strs_below HVA.out HC5.out.A.low)
      have hz5 : B ≤ (w5.alloc (.cells #[] 9)).heap.size := by rw [← hB]; exact B5.size
      clear B4 B5 HB5 hw4 O4 HA4 HT4 HAB
      go_upto_region 7 with fail
      (try rw [hw5])
      go_wp2_with (at_builtin; refine Stm.app_strs rfl (.tmp 59) (.tmp 60) rfl rfl B (.slice (some ⟨B, 0, none⟩) 0 0) _ [] xa (by rw [← hB]; rfl) HC5.out.R rfl HA5.out hL1 hz5 ?_)
      intro v6 w6 HO6 HG6
      have HC6 := Sl.mk (HC5.out.strs HO6.out HG6.out HBS.out)
      have HB6 := Sl.mk (strs_below HVB.out HC6.out.A.low)
      have hz6 : B ≤ w6.heap.size := Nat.le_trans hz5 HG6.out.size
      clear HC5 HA5 HO6 HG6 hz5 hw5 hB
      obtain ⟨a6, c6, rfl⟩ := HC6.out.R.slice
      go_wp2_with (at_builtin; refine Stm.app_strs rfl (.tmp 61) (.tmp 62) rfl rfl B (.slice a6 ([] ++ xa : List ByteArray).length c6) _ ([] ++ xa) xb rfl HC6.out.R rfl HB6.out hL2 hz6 ?_)
      intro v7 w7 HO7 HG7
      have HC7 := Sl.mk (HC6.out.strs HO7.out HG7.out HBS.out)
      clear HC6 HB6 HO7 HG7 hz6 hL1 hL2 HBS
      obtain ⟨ll, hll⟩ : ∃ ll, (xa ++ xb : List ByteArray) = ll := ⟨_, rfl⟩
      have HLL : Sl ((∀ i, (ll.getD i ByteArray.empty).size ≤ 300) ∧ ll.length ≤ 80) := ⟨by rw [← hll]; exact lens_app HLA.out HLB.out⟩
      rw [hll] at HC7
      obtain ⟨a7, c7, rfl⟩ := HC7.out.R.slice
      obtain ⟨n, hn⟩ : ∃ n, ll.length = n := ⟨_, rfl⟩
      have hn80 : n ≤ 80 := by rw [← hn]; exact HLL.out.2
      have HN := Sl.mk hn
      rw [hn] at HC7 ⊢
      clear hn hll
      go_wp2
      go_loopw [12, 13, 15] (fun y u0 i wr => ∃ (k : Nat) (S0 : ByteArray) (ua : Option Addr) (un uc : Nat) (es : List Ev) (l : Lg) (S1 : Nat → Prop), y = .string S0 ∧ u0 = .slice ua un uc ∧ i = .int .i64 (k : Int) ∧ k ≤ n ∧ S0.size ≤ 300 * k ∧ Sl (Pc (cfL 250 50 250 masked) 1 l (bytes S0) es) ∧ Sl (RU w wr La Lb S1 Sb (cfL 250 50 250 masked) l (L0 1) B (.slice a7 n c7) ll (.slice ua un uc) es)) (fun _ _ i _ => n - (intOf i).toNat)
      case atStart => exact ⟨0, { data := #[] }, _, _, _, [], _, _, rfl, rfl, rfl, Nat.zero_le _, Nat.zero_le _, ⟨LegPlain.pc_zero _ 1⟩, HC7⟩
      case round =>
        obtain ⟨k, S0, ua, un, uc, es, l, S1, rfl, rfl, rfl, hk, hsz, HP, HC⟩ := hrel
        clear HC7
        by_cases hkn : k < n
        · have hlt : ((k : Int) < (n : Int)) = True := eq_true (by omega)
          obtain ⟨s, hs⟩ : ∃ s, ll.getD k ByteArray.empty = s := ⟨_, rfl⟩
          have hs300 : s.size ≤ 300 := by rw [← hs]; exact HLL.out.1 k
          obtain ⟨sb, so, ha7, hcl0⟩ := str_cell HC.out.R.strA k (by rw [HN.out]; exact hkn)
          rw [hs] at hcl0
          subst ha7
          have hcat : S0.size + s.size ≤ 1000000 := by omega
          obtain ⟨c8, w8, hconv, HS8, HX8⟩ := conv_str s wr
          have HC8 := Sl.mk (HC.out.below HX8.out)
          obtain ⟨l', es', hr⟩ : ∃ l' es', feed (cfL 250 50 250 masked) l (bytes s) = (l', es') := ⟨_, _, rfl⟩
          have F9 := feed_ex HC8.out.A _ _ HS8.out (bytes_small s) (by rw [bytes_length]; omega) l' es' hr
          have HP2 : Sl (Pc (cfL 250 50 250 masked) 1 l' (bytes (S0 ++ s)) (es ++ es')) := ⟨by
            have := LegPlain.pc_step HP.out (bytes_small S0) (bytes s) (bytes_small s)
            rw [hr] at this; rw [bytes_append]; exact this⟩
          have HSZ : Sl ((S0 ++ s).size ≤ 300 * (k + 1)) := ⟨by rw [ByteArray.size_append]; omega⟩
          have HEM : Sl (es.length + es'.length ≤ 1000000) := ⟨by
            have h1 := feed_len (LegPlain.good_zero (cfL 250 50 250 masked) 1) (bytes_small (S0 ++ s)) (show 1 + 250 ≤ 65536 by decide) (by rw [bytes_length]; have := HSZ.out; omega)
            rw [HP2.out.E, List.length_append] at h1; omega⟩
          clear hs HP HC HX8 HS8 hs300 hr
          go_wp2_with fail
          refine F9.mono ?_
          rintro e w9 ⟨S2, rv, rfl, HO9, HA9, HG9, HN9⟩
          clear F9 hconv hcl0
          have HC9 := Sl.mk (HC8.out.fed HA9.out HG9.out)
          clear HC8 HA9 HG9 HN9
          have HE9 : Sl (EvsAt w9 rv es') := ⟨HO9.out.evs⟩
          obtain ⟨ra, rn, rc, rfl⟩ : ∃ a n c, rv = .slice a n c := by obtain ⟨a, c, e⟩ := HO9.out.slice; exact ⟨a, _, c, e⟩
          obtain ⟨v10, w10, hap, hO10, hG10, hu10⟩ := add_evs HC9.out.O HE9.out HEM.out HC9.out.A.low.size
          have HC10 := Sl.mk (HC9.out.told hO10 hG10 hu10)
          obtain ⟨ta, tn, tc, rfl⟩ : ∃ a n c, v10 = .slice a n c := by obtain ⟨a, c, e⟩ := hO10.slice; exact ⟨a, _, c, e⟩
          clear HC9 HE9 HO9 hO10 hG10 hu10 HEM
          go_wp2_with (at_builtin; refine Cut.wpList_appV rfl (.tmp 76) (.tmp 83) 47 47 rfl rfl _ _ (.slice ta tn tc) w10 rfl rfl hap ?_)
          go_wp2
          exact ⟨⟨k + 1, S0 ++ s, _, _, _, es ++ es', l', S2, rfl, rfl, by go_num, by omega, HSZ.out, HP2, HC10⟩, by simp [intOf]; omega⟩
        · obtain rfl : k = n := by omega
          have hlt : ((k : Int) < (k : Int)) = False := eq_false (by omega)
          obtain ⟨c8, w8, hconv, HS8, HX8⟩ := conv_str S0 wr
          have HC8 := Sl.mk (HC.out.below HX8.out)
          obtain ⟨l', es', hr⟩ : ∃ l' es', feed (cfL 250 50 250 masked) (L0 1) (bytes S0) = (l', es') := ⟨_, _, rfl⟩
          have F9 := feed_ex HC8.out.T _ _ HS8.out (bytes_small S0) (by rw [bytes_length]; omega) l' es' hr
          have HEQ : Sl (es' = es ∧ l'.wrong = l.wrong ∧ l'.got = l.got ∧ l'.sent = l.sent) := ⟨by
            have h1 := HP.out.E
            have h2 := HP.out.wrong
            have h3 := HP.out.got
            have h4 := LegPlain.one_sent (c := cfL 250 50 250 masked) 1 (bytes_small S0)
            have h5 := HP.out.sent
            rw [hr] at h1 h2 h3 h4
            refine ⟨h1, h2, h3, ?_⟩
            have h4 : l'.sent = (l'.got || decide (l'.wrong ≠ 0)) := h4
            have h2 : l'.wrong = l.wrong := h2
            have h3 : l'.got = l.got := h3
            rw [h4, h5, h2, h3]⟩
          have HEL : Sl (es.length ≤ 1000000) := ⟨by
            have h1 := feed_len (LegPlain.good_zero (cfL 250 50 250 masked) 1) (bytes_small S0) (show 1 + 250 ≤ 65536 by decide) (by rw [bytes_length]; omega)
            rw [HP.out.E] at h1; omega⟩
          clear HP HC HX8 HS8 hr
          go_wp2_with fail
          refine F9.mono ?_
          rintro e w9 ⟨S2, rv, rfl, HO9, HT9, HG9, HN9⟩
          clear F9 hconv
          have HA9 := Sl.mk (HC8.out.A.stay HG9.out.kept (fun j e e2 => HC8.out.ab j e e2) HT9.out.low)
          have HO8 : Sl (OwnE w9 w.heap.size (.slice ua un uc) es) := Sl.mk (Cut.own_kept HC8.out.O HG9.out.kept (fun j e => (HC8.out.ou j e).2))
          have S10 := esame_any es (.slice ua un uc) rv w9 HO8.out.evs (by have := HO9.out.evs; rw [HEQ.out.1] at this; exact this) HEL.out
          obtain ⟨ra, rn, rc, rfl⟩ : ∃ a n c, rv = .slice a n c := by obtain ⟨a, c, e⟩ := HO9.out.slice; exact ⟨a, _, c, e⟩
          clear HC8 HG9 HN9 HO9 HO8
          go_wp2_with fail
          refine S10.mono ?_
          rintro e w10 ⟨rfl, HX10⟩
          have HA10 := Sl.mk (HA9.out.below HX10.out)
          have HT10 := Sl.mk (HT9.out.below HX10.out)
          clear S10 HA9 HT9 HX10
          obtain ⟨wn, hwn⟩ : ∃ z : Int, (l.wrong : Int) = z := ⟨_, rfl⟩
          obtain ⟨gt, hgt⟩ : ∃ z, l.got = z := ⟨_, rfl⟩
          obtain ⟨st, hst⟩ : ∃ z, l.sent = z := ⟨_, rfl⟩
          have C1 := wrong_ex HA10.out wn hwn
          have C2 := wrong_ex HT10.out wn (by rw [HEQ.out.2.1]; exact hwn)
          have C3 := got_ex HA10.out gt hgt
          have C4 := got_ex HT10.out gt (by rw [HEQ.out.2.2.1]; exact hgt)
          have C5 := sent_ex HA10.out st hst
          have C6 := sent_ex HT10.out st (by rw [HEQ.out.2.2.2]; exact hst)
          have hb1 : (wn == wn) = true := by simp
          have hb2 : (gt == gt) = true := by simp
          have hb3 : (st == st) = true := by simp
          clear hwn hgt hst HEQ
          go_wp2_with fail
          refine C1.mono ?_
          rintro e w11 ⟨rfl, rfl⟩
          clear C1
          go_wp2_with fail
          refine C2.mono ?_
          rintro e w11 ⟨rfl, rfl⟩
          clear C2
          go_wp2_with fail
          refine C3.mono ?_
          rintro e w11 ⟨rfl, rfl⟩
          clear C3
          go_wp2_with fail
          refine C4.mono ?_
          rintro e w11 ⟨rfl, rfl⟩
          clear C4
          go_wp2_with fail
          refine C5.mono ?_
          rintro e w11 ⟨rfl, rfl⟩
          clear C5
          go_wp2_with fail
          refine C6.mono ?_
          rintro e w11 ⟨rfl, rfl⟩
          clear C6
          go_wp2
          go_ret
          exact ⟨rfl, HA10.out.low⟩
end Go.Proofs.YtlahonjmfecikaaGreatDoor.Leg
