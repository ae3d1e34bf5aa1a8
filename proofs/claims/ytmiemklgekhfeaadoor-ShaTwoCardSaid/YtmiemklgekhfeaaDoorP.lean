/- ShaParts, the walk: whatever strings are handed over, the law's Go text returns true, and nothing that was in memory changes. Conditions: the two tables of package sha are as its text lays them; the strings fit in memory. -/
import Derived.Test.YtmiemklgekhfeaaDoorM
import Derived.SliceStrings
import Derived.ProofKit
namespace Go.Proofs.YtmiemklgekhfeaaDoor
open Go.RowKit Go.WideShapes Go.ChangeShapes

/-- The strings l are the elements of the slice v. -/
def StrsAt (W : World) (v : Value) (l : List ByteArray) : Prop :=
  ∃ (a : Option Addr) (cap sb so : Nat), v = .slice a l.length cap ∧ l.length ≤ maxLen ∧ (0 < l.length → a = some ⟨sb, so, none⟩) ∧ (∀ i, i < l.length → W.cell? ⟨sb, so + i, none⟩ = some (.string (l.getD i ByteArray.empty))) ∧
    ∀ i, (l.getD i ByteArray.empty).size ≤ maxLen
theorem strsAt_of_trod {H : Type} {enc : TypeId × Value → H} {W : World} {ad : Option Addr} {len cap : Nat} {d : DataW H} {p : List MemPlace} (h : DataW.Trod enc Tryd.prog W 0 (fun _ => true) true 29 (.slice ad len cap) d p) :
    ∃ l, StrsAt W (.slice ad len cap) l := by
  obtain ⟨fuel, hf⟩ := h
  rcases open_strings Tryd.underlying29 Tryd.underlying9 (by kernel_rfl) hf with ⟨hcs, _⟩ | ⟨a, len', cap', ss, hcs, _, hl, hm, hz, _, hcell, hws⟩
  · simp [Value.cells] at hcs
    obtain ⟨rfl, rfl, rfl⟩ := hcs
    exact ⟨[], none, 0, 0, 0, rfl, by simp, fun h => by simp at h, fun i hi => by simp at hi, fun i => by simp [List.getD]⟩
  · simp [Value.cells] at hcs
    obtain ⟨rfl, rfl, rfl⟩ := hcs
    have hlen : (ss.take len).length = len := by simp at hz; simp; omega
    have hg : ∀ i, i < len → (ss.take len).getD i ByteArray.empty = ss.getD i ByteArray.empty := fun i hi => by simp [List.getD, hi]
    refine ⟨ss.take len, some a, cap, a.block, a.off, by rw [hlen], by rw [hlen]; omega, fun hp => ?_, fun i hi => ?_, fun i => ?_⟩
    · rw [hlen] at hp
      have hc := hcell 0 (by simp at hz; omega)
      obtain ⟨b, off, spot⟩ := a
      have hspot : spot = none := by simpa [Addr.add] using World.cell?_spot hc
      rw [hspot]
    · rw [hlen] at hi
      have hc := hcell i (by simp at hz; omega)
      obtain ⟨b, off, spot⟩ := a
      have hspot : spot = none := by simpa [Addr.add] using World.cell?_spot (hcell 0 (by simp at hz; omega))
      subst hspot
      rw [Addr.add_mid] at hc
      rw [hg i hi, hc]
    · by_cases hi : i < len
      · rw [hg i hi]
        have hi' : i < ss.length := by simp at hz; omega
        have := hws ss[i] (List.getElem_mem hi')
        simpa [List.getD, List.getElem?_eq_getElem hi'] using this
      · rw [List.getD, List.getElem?_eq_none (by rw [hlen]; omega)]
        exact Nat.zero_le _
theorem bytes_nil : bytes (ByteArray.mk #[]) = [] := rfl

set_option maxHeartbeats 1000000 in
theorem parts_long (v : Value) (l : List ByteArray) (w : World) (hg : Globs w) (hv : StrsAt w v l) (h1 : 20 < l.length) :
    Calls Tryd.prog 4 #[v] w fun e w' => e = .returned (.bool true) ∧ Below w.heap.size w w' := by
  obtain ⟨a, cap, sb, so, rfl, hm, _, _, _⟩ := hv
  unfold maxLen at hm
  have HG := Sl.mk hg
  clear hg
  go_enter Tryd.func4, Tryd.ntmps4
  go_wp2_with fail
  refine (new_ex _ HG.out).mono ?_
  rintro e w1 ⟨rfl, HS1, HB1⟩
  go_wp2_with fail
  refine (awake_ex w _ HB1.out HG.out).mono ?_
  rintro e w2 ⟨rfl, HX2, HB2⟩
  go_wp2_with fail
  refine (awake_ex w _ HB2.out HG.out).mono ?_
  rintro e w3 ⟨rfl, HX3, HB3⟩
  go_wp2
  go_ret
  exact ⟨rfl, HB3.out⟩

/-- What the loop of ShaParts holds to. -/
def PR (w : World) (k : Nat) (al : ByteArray) (wr : World) : Prop := al.size ≤ 200 * k ∧ SumAt wr w.heap.size (feed st0 (bytes al)) ∧ Below w.heap.size w wr

set_option maxHeartbeats 1000000 in
theorem parts_short (v : Value) (l : List ByteArray) (w : World) (hg : Globs w) (hv : StrsAt w v l) (h1 : l.length ≤ 20) :
    Calls Tryd.prog 4 #[v] w fun e w' => e = .returned (.bool true) ∧ Below w.heap.size w w' := by
  obtain ⟨a, cap, sb, so, rfl, hm, ha, hcell, hsz⟩ := hv
  have HG := Sl.mk hg
  have HA := Sl.mk ha
  have HC := Sl.mk hcell
  have HZ := Sl.mk hsz
  clear hg hm ha hcell hsz
  go_enter Tryd.func4, Tryd.ntmps4
  go_wp2_with fail
  refine (new_ex _ HG.out).mono ?_
  rintro e w1 ⟨rfl, HS1, HB1⟩
  go_wp2_with fail
  refine (awake_ex w _ HB1.out HG.out).mono ?_
  rintro e w2 ⟨rfl, HX2, HB2⟩
  have HS2 : Sl (SumAt w2 w.heap.size st0) := ⟨sumAt_below HS1.out HX2.out⟩
  clear HS1 HB1 HX2
  go_wp2_with fail
  go_loopw [4, 5] (fun x i wr => ∃ (k : Nat) (al : ByteArray), k ≤ l.length ∧ x = .string al ∧ i = .int .i64 k ∧ PR w k al wr) (fun _ i _ => l.length - (intOf i).toNat)
  case atStart => exact ⟨0, _, by omega, rfl, rfl, Nat.zero_le _, HS2.out, HB2.out⟩
  case round =>
    clear HS2 HB2
    obtain ⟨k, al, hk, rfl, rfl, hrel⟩ := hrel
    have hal := hrel.1
    have HS := Sl.mk hrel.2.1
    have HB := Sl.mk hrel.2.2
    clear hrel
    by_cases hlt : k < l.length
    · obtain rfl := HA.out (by omega)
      have hc0 := HC.out k hlt
      have hsb : sb < w.heap.size := block_lt_of_cell hc0
      have hxs : (l.getD k ByteArray.empty).size ≤ 9223372036854775807 := HZ.out k
      have hcr : wr.cell? ⟨sb, so + k, none⟩ = some (.string (l.getD k ByteArray.empty)) := by rw [HB.out.cell (p := ⟨sb, so + k, none⟩) hsb]; exact hc0
      have HC0 := Sl.mk hc0
      clear hc0
      generalize l.getD k ByteArray.empty = x at *
      by_cases hx : 200 < x.size
      · go_wp2
        go_ret
        exact ⟨rfl, HB.out⟩
      · have hx' : x.size ≤ 200 := by omega
        obtain ⟨c5, w5, hc5, HV5, HB5⟩ := conv_str x wr
        have HB05 : Sl (Below w.heap.size w w5) := ⟨HB.out.trans (HB5.out.mono HB.out.size)⟩
        have HS5 : Sl (SumAt w5 w.heap.size (feed st0 (bytes al))) := ⟨sumAt_below HS.out HB5.out⟩
        have HN : Sl (w.heap.size ≠ wr.heap.size) := ⟨by have := sumAt_lt HS.out; omega⟩
        go_wp2_with fail
        refine (add_ex w _ w.heap.size _ (bytes x) _ (Nat.le_refl _) HB05.out HG.out HS5.out (okSt0.feed (bytes_small al).mem) (HV5.out _ HN.out) (bytes_small x) (by rw [feed_L, bytes_length, bytes_length]; show 0 + _ + _ < _; omega)).mono ?_
        rintro e w6 ⟨rfl, HS6, HB6, HX6⟩
        have hcr6 : w6.cell? ⟨sb, so + k, none⟩ = some (.string x) := by rw [HB6.out.cell (p := ⟨sb, so + k, none⟩) hsb]; exact HC0.out
        have OK1 : Sl (OkSt (feed st0 (bytes (al ++ x)))) := ⟨okSt0.feed (bytes_small _).mem⟩
        have HL1 : Sl ((feed st0 (bytes (al ++ x))).L = (al ++ x).size) := ⟨by rw [feed_L, bytes_length]; show 0 + _ = _; omega⟩
        replace HS6 : Sl (SumAt w6 w.heap.size (feed st0 (bytes (al ++ x)))) := ⟨by rw [bytes_append, feed_append]; exact HS6.out⟩
        have hsum : (al ++ x).size = al.size + x.size := by simp
        have HSUM := Sl.mk hsum
        clear HX6 hc5 HV5 HB5 HB05 HS5 HN HS HB hcr
        obtain ⟨s1, hs1⟩ : ∃ s1, s1 = feed st0 (bytes (al ++ x)) := ⟨_, rfl⟩
        have HE1 := Sl.mk hs1
        rw [← hs1] at HS6 OK1 HL1
        clear hs1 hsum
        go_wp2_with fail
        refine (told_ex w.heap.size s1 _ HS6.out OK1.out (HG.out.below HB6.out HG.out.size) (by rw [HL1.out, HSUM.out]; omega)).mono ?_
        rintro e w7 ⟨bt, HBT, HBL, rfl, HB7⟩
        have HS7 : Sl (SumAt w7 w.heap.size s1) := ⟨sumAt_below HS6.out HB7.out⟩
        have HB07 : Sl (Below w.heap.size w w7) := ⟨HB6.out.trans (HB7.out.mono HB6.out.size)⟩
        have HI24 : Sl ((Tryd.prog.info? 24).map (·.size) = some (u8s bt).toArray.size) := ⟨by
          have : (Tryd.prog.info? 24).map (·.size) = some 20 := by kernel_rfl
          simpa [HBL.out] using this⟩
        have HO20 : Sl ((u8s z20).toArray.size = (u8s bt).toArray.size) := ⟨by simp [HBL.out, z20]⟩
        clear HS6 HB6 HB7 hcr6
        go_upto_region 13 with (refine wpList_store_row rfl 24 (.tmp 6) (.tmp 46) rfl w7.heap.size _ rfl rfl 24 _ (alloc_new _ _ _ rfl) HI24.out HO20.out (all_oneCell_toArray (u8s_one _)) ?_)
        generalize hw8 : World.setRow _ _ _ = wz
        have HRT : Sl (wz.rangeAt w7.heap.size 0 (u8s bt)) := ⟨by rw [← hw8]; exact range_setRow _ _ (alloc_new _ _ _ rfl)⟩
        have HB78 : Sl (Below w7.heap.size w7 wz) := ⟨by rw [← hw8]; exact below_setRow ((Below.refl _ _).alloc (Nat.le_refl _) _) (Nat.le_refl _) _⟩
        have HZ8 : Sl (wz.heap.size = w7.heap.size + 1) := ⟨by rw [← hw8, setRow_size, alloc_size]⟩
        clear hw8
        have HSZ : Sl (SumAt wz w.heap.size s1) := ⟨sumAt_below HS7.out HB78.out⟩
        have HBZ : Sl (Below w.heap.size w wz) := ⟨HB07.out.trans (HB78.out.mono HB07.out.size)⟩
        have hTA : w7.heap.size < wz.heap.size := by rw [HZ8.out]; omega
        clear HS7 HB07 HB78 HZ8 HI24 HO20
        generalize w7.heap.size = T6 at *
        clear w7
        have HGZ : Sl (Globs wz) := ⟨HG.out.below HBZ.out HG.out.size⟩
        have HSM : Sl (Small 256 bt) := ⟨by rw [HBT.out]; exact told_small _⟩
        have q1 := eqlIn_u8s bt HBL.out HSM.out
        have HT1 : Sl (bt = told (feed st0 (bytes (al ++ x)))) := ⟨by rw [HBT.out, HE1.out]⟩
        have HI24 : Sl ((Tryd.prog.info? 24).map (·.size) = some (u8s bt).length) := ⟨by
          have : (Tryd.prog.info? 24).map (·.size) = some 20 := by kernel_rfl
          simpa [HBL.out] using this⟩
        have HK : Sl (∀ W, Below wz.heap.size wz W → W.rangeAt T6 0 (u8s bt) ∧ Below wz.heap.size wz W) := ⟨fun W h =>
          ⟨fun j u hu => by rw [h.cell (p := ⟨T6, 0 + j, none⟩) hTA]; exact HRT.out j u hu, h⟩⟩
        have HWZ : Below wz.heap.size wz wz.drew := (Below.refl _ _).drew
        generalize hax : al ++ x = ax at *
        have HAX := Sl.mk hax
        clear hax
        have hax4 : ax.size ≤ 4000 := by have := HSUM.out; omega
        refine wp_region_noPanic ?_
        refine wp_region_held (S := fun W => W.rangeAt T6 0 (u8s bt) ∧ Below wz.heap.size wz W) (by kernel_rfl) ?_
        change wpAnyH _ _ _ _ _ _ _ _ wz.drew
        have HS0 := HK.out _ HWZ
        refine heldTake (d := (some 47)) (op := .load 24 (.tmp 6)) (g := none) 0 (.agg (u8s bt).toArray) rfl (by kernel_rfl) (by kernel_rfl) (by kernel_rfl) (by kernel_rfl) ?y0 HS0 ?_
        case y0 => intro o ho w hS; refine load_yields 24 (.tmp 6) T6 0 ?_ (u8s bt) (.array 20 5) (hS.1) Tryd.underlying24 rfl HI24.out o ho; kernel_rfl
        refine heldTake (d := (some 48)) (op := .move (.tmp 4)) (g := none) 1 (.string ax) rfl (by kernel_rfl) (by kernel_rfl) (by kernel_rfl) (by kernel_rfl) ?y1 HS0 ?_
        case y1 => intro o ho w _; simp only [execOp, ho]; go_simp; try rfl
        obtain ⟨c13, w13, hc13, HV13, HB13⟩ := conv_str ax wz.drew
        have HS13 := HK.out _ (below_step HWZ HB13.out)
        refine heldRun (d := (some 49)) (op := .convert 9 26 (.tmp 48)) (g := none) 2 (.slice (some ⟨wz.heap.size, 0, none⟩) ax.size c13) (w13) rfl (by kernel_rfl) (by kernel_rfl) ?y2 HS13 ?_
        case y2 => intro o ho; simp only [execOp, ho]; go_simp
        refine heldCall (d := (some 50)) (op := .call { callee := .value (.func 11), args := #[.tmp 49], argTypes := #[26] }) (g := none) 3 11 #[.slice (some ⟨wz.heap.size, 0, none⟩) ax.size c13] rfl (by kernel_rfl) (by kernel_rfl) ?y3 ?_
        case y3 => intro o ho; simp only [execOp, ho]; go_simp
        refine (ofW _ (HGZ.out.below HS13.2 HGZ.out.size) _ (bytes ax) bt ⟨⟨_, HV13.out (wz.heap.size + 1) (by show _ ≠ wz.heap.size; omega)⟩⟩ (bytes_small ax) (by rw [bytes_length]; omega) HT1).mono ?_
        rintro e w14 ⟨rfl, hb14⟩
        have HS14 := HK.out _ (below_step HS13.2 hb14)
        refine ⟨_, rfl, HS14, ?_⟩
        clear hc13
        refine heldTake (d := (some 51)) (op := .binOp .neq 24 (.tmp 47) (.tmp 50) 24) (g := none) 4 (.bool false) rfl (by kernel_rfl) (by kernel_rfl) (by kernel_rfl) (by kernel_rfl) ?y4 HS14 ?_
        case y4 => intro o ho w _; simp only [execOp, ho]; go_simp; try rfl
        refine heldTake (d := (some 52)) (op := .move (.tmp 51)) (g := none) 5 (.bool false) rfl (by kernel_rfl) (by kernel_rfl) (by kernel_rfl) (by kernel_rfl) ?y5 HS14 ?_
        case y5 => intro o ho w _; simp only [execOp, ho]; go_simp; try rfl
        refine heldTake (d := (some 53)) (op := .move (.tmp 3)) (g := (some (5, false))) 6 (.pointer (some ⟨w.heap.size, 0, none⟩)) rfl (by kernel_rfl) (by kernel_rfl) (by kernel_rfl) (by kernel_rfl) ?y6 HS14 ?_
        case y6 => intro o ho w _; simp only [execOp, ho]; go_simp; try rfl
        refine heldTake (d := (some 55)) (op := .load 24 (.tmp 6)) (g := (some (5, false))) 8 (.agg (u8s bt).toArray) rfl (by kernel_rfl) (by kernel_rfl) (by kernel_rfl) (by kernel_rfl) ?y8 HS14 ?_
        case y8 => intro o ho w hS; refine load_yields 24 (.tmp 6) T6 0 ?_ (u8s bt) (.array 20 5) (hS.1) Tryd.underlying24 rfl HI24.out o ho; kernel_rfl
        refine heldCall (d := (some 54)) (op := .call { callee := .value (.func 15), args := #[.tmp 53], argTypes := #[30] }) (g := (some (5, false))) 7 15 #[.pointer (some ⟨w.heap.size, 0, none⟩)] rfl (by kernel_rfl) (by kernel_rfl) ?y7 ?_
        case y7 => intro o ho; simp only [execOp, ho]; go_simp
        refine (toldW _ (HGZ.out.below HS14.2 HGZ.out.size) w.heap.size s1 bt (sumAt_below HSZ.out HS14.2) OK1.out (by rw [HL1.out]; omega) HBT).mono ?_
        rintro e w15 ⟨rfl, hb15⟩
        have HS15 := HK.out _ (below_step HS14.2 hb15)
        refine ⟨_, rfl, HS15, ?_⟩
        refine heldTake (d := (some 56)) (op := .binOp .neq 24 (.tmp 54) (.tmp 55) 24) (g := (some (5, false))) 9 (.bool false) rfl (by kernel_rfl) (by kernel_rfl) (by kernel_rfl) (by kernel_rfl) ?y9 HS15 ?_
        case y9 => intro o ho w _; simp only [execOp, ho]; go_simp; try rfl
        refine heldTake (d := (some 57)) (op := .pick (.tmp 52) (.const (.bool true)) (.tmp 56)) (g := none) 10 (.bool false) rfl (by kernel_rfl) (by kernel_rfl) (by kernel_rfl) (by kernel_rfl) ?y10 HS15 ?_
        case y10 => intro o ho w _; simp only [execOp, ho]; go_simp; try rfl
        refine heldTake (d := (some 58)) (op := .move (.tmp 57)) (g := none) 11 (.bool false) rfl (by kernel_rfl) (by kernel_rfl) (by kernel_rfl) (by kernel_rfl) ?y11 HS15 ?_
        case y11 => intro o ho w _; simp only [execOp, ho]; go_simp; try rfl
        refine heldTake (d := (some 59)) (op := .move (.tmp 3)) (g := (some (11, false))) 12 (.pointer (some ⟨w.heap.size, 0, none⟩)) rfl (by kernel_rfl) (by kernel_rfl) (by kernel_rfl) (by kernel_rfl) ?y12 HS15 ?_
        case y12 => intro o ho w _; simp only [execOp, ho]; go_simp; try rfl
        refine heldTake (d := (some 61)) (op := .move (.tmp 4)) (g := (some (11, false))) 14 (.string ax) rfl (by kernel_rfl) (by kernel_rfl) (by kernel_rfl) (by kernel_rfl) ?y14 HS15 ?_
        case y14 => intro o ho w _; simp only [execOp, ho]; go_simp; try rfl
        refine heldTake (d := (some 62)) (op := .call { callee := .builtin .len, args := #[.tmp 61], argTypes := #[9] }) (g := (some (11, false))) 15 (.int .i64 (ax.size : Int)) rfl (by kernel_rfl) (by kernel_rfl) (by kernel_rfl) (by kernel_rfl) ?y15 HS15 ?_
        case y15 => intro o ho w _; simp only [execOp, ho]; go_simp; try rfl
        have e16 : IntKind.u64.wrap (ax.size : Int) = (ax.size : Int) := IntWalk.u64_in _ (by omega)
        refine heldTake (d := (some 63)) (op := .convert 3 34 (.tmp 62)) (g := (some (11, false))) 16 (.int .u64 (ax.size : Int)) rfl (by kernel_rfl) (by kernel_rfl) (by kernel_rfl) (by kernel_rfl) ?y16 HS15 ?_
        case y16 => intro o ho w _; simp only [execOp, ho]; go_simp; try rfl
        refine heldCall (d := (some 60)) (op := .call { callee := .value (.func 16), args := #[.tmp 59], argTypes := #[30] }) (g := (some (11, false))) 13 16 #[.pointer (some ⟨w.heap.size, 0, none⟩)] rfl (by kernel_rfl) (by kernel_rfl) ?y13 ?_
        case y13 => intro o ho; simp only [execOp, ho]; go_simp
        refine (len_any w.heap.size s1 _ (sumAt_below HSZ.out HS15.2) OK1.out).mono ?_
        rintro e w16 ⟨rfl, rfl⟩
        refine ⟨_, rfl, HS15, ?_⟩
        have hl2 : ((s1.L : Int) != (ax.size : Int)) = false := by rw [HL1.out]; simp
        have hl3 : ((s1.L : Int) == (ax.size : Int)) = true := by rw [HL1.out]; simp
        refine heldTake (d := (some 64)) (op := .binOp .neq 34 (.tmp 60) (.tmp 63) 34) (g := (some (11, false))) 17 (.bool false) rfl (by kernel_rfl) (by kernel_rfl) (by kernel_rfl) (by kernel_rfl) ?y17 HS15 ?_
        case y17 => intro o ho w _; simp only [execOp, ho]; go_simp; try rfl
        refine heldTake (d := (some 65)) (op := .pick (.tmp 58) (.const (.bool true)) (.tmp 64)) (g := none) 18 (.bool false) rfl (by kernel_rfl) (by kernel_rfl) (by kernel_rfl) (by kernel_rfl) ?y18 HS15 ?_
        case y18 => intro o ho w _; simp only [execOp, ho]; go_simp; try rfl
        refine wpAnyH_done (by kernel_rfl) ?_ _
        refine NoPanic.normal ?_
        clear hl2 hl3 e16 q1
        simp only [Act.put, List.setIfInBounds_toArray, List.set_cons_succ, List.set_cons_zero]
        go_wp2
        go_roundw
        case rel => exact ⟨k + 1, ax, by omega, rfl, by go_num, by have := HSUM.out; omega, by rw [← HE1.out]; exact sumAt_below HSZ.out HS15.2, HBZ.out.trans (HS15.2.mono HBZ.out.size)⟩
        case measure => simp [intOf]; omega
    · have hge : l.length ≤ k := by omega
      have hal4 : al.size ≤ 4000 := by omega
      have OK1 : Sl (OkSt (feed st0 (bytes al))) := ⟨okSt0.feed (bytes_small al).mem⟩
      have HL1 : Sl ((feed st0 (bytes al)).L = al.size) := ⟨by rw [feed_L, bytes_length]; show 0 + _ = _; omega⟩
      obtain ⟨s1, hs1⟩ : ∃ s1, s1 = feed st0 (bytes al) := ⟨_, rfl⟩
      have HE1 := Sl.mk hs1
      rw [← hs1] at HS OK1 HL1
      clear hs1
      obtain ⟨bt, hbt⟩ : ∃ bt, bt = told s1 := ⟨_, rfl⟩
      have HBT := Sl.mk hbt
      have HBL : Sl (bt.length = 20) := ⟨by rw [hbt]; exact told_length _⟩
      have HSM : Sl (Small 256 bt) := ⟨by rw [hbt]; exact told_small _⟩
      clear hbt
      have q1 := eql_u8s bt HBL.out HSM.out
      have q2 := eqlIn_u8s bt HBL.out HSM.out
      have HT1 : Sl (bt = told (feed st0 (bytes al))) := ⟨by rw [HBT.out, HE1.out]⟩
      go_wp2_with fail
      refine (toldW _ (HG.out.below HB.out HG.out.size) w.heap.size s1 bt HS.out OK1.out (by rw [HL1.out]; omega) HBT).mono ?_
      rintro e w9 ⟨rfl, hb9⟩
      have HB9 : Sl (Below w.heap.size w w9) := ⟨HB.out.trans (hb9.mono HB.out.size)⟩
      clear hb9
      obtain ⟨c5, w5, hc5, HV5, HB5⟩ := conv_str al w9
      have HB05 : Sl (Below w.heap.size w w5) := ⟨HB9.out.trans (HB5.out.mono HB9.out.size)⟩
      go_wp2_with fail
      refine (ofW _ (HG.out.below HB05.out HG.out.size) _ (bytes al) bt ⟨⟨_, HV5.out (w9.heap.size + 1) (by omega)⟩⟩ (bytes_small al) (by rw [bytes_length]; omega) HT1).mono ?_
      rintro e w10 ⟨rfl, hb10⟩
      have HB10 : Sl (Below w.heap.size w w10) := ⟨HB05.out.trans (hb10.mono HB05.out.size)⟩
      clear hb10 hc5
      go_wp2
      go_ret
      exact ⟨rfl, HB10.out⟩

theorem parts_walk (v : Value) (l : List ByteArray) (w : World) (hg : Globs w) (hv : StrsAt w v l) :
    Calls Tryd.prog 4 #[v] w fun e w' => e = .returned (.bool true) ∧ Below w.heap.size w w' := by
  by_cases h : 20 < l.length
  · exact parts_long v l w hg hv h
  · exact parts_short v l w hg hv (by omega)
end Go.Proofs.YtmiemklgekhfeaaDoor
