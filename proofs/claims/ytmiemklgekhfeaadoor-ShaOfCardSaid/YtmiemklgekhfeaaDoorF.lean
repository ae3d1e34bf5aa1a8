/- The contract of Add of package sha: the sum's state becomes what the bytes make of it; nothing else that was in memory changes. Conditions: fewer than 2^32 bytes in all; the bytes lie outside the sum; the tables are as the text lays them. -/
import Derived.Test.YtmiemklgekhfeaaDoorF0
namespace Go.Proofs.YtmiemklgekhfeaaDoor
open Go.RowKit

def lenOf : Value → Nat
  | .slice _ n _ => n
  | _ => 0
/-- The bytes bs lie behind the slice v, outside block b. -/
def SrcAt (w : World) (b : Nat) (v : Value) (bs : List Nat) : Prop :=
  ∃ (a : Option Addr) (cap sb so : Nat), v = .slice a bs.length cap ∧ bs.length ≤ cap ∧ (0 < bs.length → a = some ⟨sb, so, none⟩) ∧ (0 < bs.length → sb ≠ b) ∧
    ∀ i, i < bs.length → w.cell? ⟨sb, so + i, none⟩ = some (.int .u8 ((bs.getD i 0 : Nat) : Int))

theorem copy_step {wr : World} {b : Nat} {s : St} (hs : SumAt wr b s) (ok : OkSt s) (u : Nat) (ch : List Nat) (sb so r cap c : Nat) (hlen : ch.length = c) (hc : c = min r (64 - u)) (hu : u < 64)
    (hsrc : ∀ i, i < c → wr.cell? ⟨sb, so + i, none⟩ = some (.int .u8 ((ch.getD i 0 : Nat) : Int))) :
    ∃ w1, (Builtin.copy_ #[26, 26] 3 #[.slice (some ⟨b, 5 + u, none⟩) (64 - u) (64 - u), .slice (some ⟨sb, so, none⟩) r cap]).run Tryd.prog wr = .ok (.int .i64 (c : Int)) w1 ∧
      SumAt w1 b ⟨s.p, splice s.blk u ch, s.L⟩ ∧ wr.grownBy w1 (some b) := by
  subst hlen
  have h := run_copy_row (P := Tryd.prog) wr 26 26 3 5 b (5 + u) (64 - u) (64 - u) ⟨sb, so, none⟩ r cap (sumCells s).toArray 53 (u8s ch) Tryd.underlying26 (by kernel_rfl) hs
    (by rw [u8s_length, hc])
    (fun j v hv => by
      have hj : j < ch.length := by simpa using (List.getElem?_eq_some_iff.1 hv).1
      rw [Addr.add_mid, hsrc j hj, ← hv, u8s_get ch j hj])
    (by simp [sumCells_length ok]; omega) (u8s_one ch)
  have e := sumCells_splice ok u ch (by omega)
  simp only [List.append_assoc] at h
  rw [e] at h
  rw [u8s_length] at h
  refine ⟨_, h, ?_, grown_setRow _ _ _⟩
  exact setRow_heap _ _ _ _ _ _ hs

theorem slice_arr (b u : Nat) (hu : u < 64) (w : World) :
    (Instr.sliceAt 51 (.pointer (some ⟨b, 5, none⟩)) (some (.int .i64 (u : Int))) none none).run Tryd.prog w = .ok (.slice (some ⟨b, 5 + u, none⟩) (64 - u) (64 - u)) w := by
  have hl : Tryd.prog.arrayLen 51 = 64 := by kernel_rfl
  have hz : (sizeOf (Tryd.prog.elem 51)).run Tryd.prog w = .ok 1 w := by kernel_rfl
  rw [run_sliceAt_array_l w 51 ⟨b, 5, none⟩ (by kernel_rfl) .i64 (u : Int) (by omega) (by rw [hl]; omega), hz, hl]
  simp only [Result.andThen, slicedAt, Int.toNat_natCast, Nat.mul_one, Addr.add_mid]
  rw [if_neg (by omega)]
theorem slice_rest (sb o r cp c : Nat) (hc : c ≤ r) (hr : r ≤ cp) : ∃ a : Addr, (c < r → a = ⟨sb, o + c, none⟩) ∧ ∀ w,
    (Instr.slice 26 (.slice (some ⟨sb, o, none⟩) r cp) (some (.int .i64 (c : Int))) none none).run Tryd.prog w = .ok (.slice (some a) (r - c) (cp - c)) w := by
  refine ⟨if cp = c then ⟨sb, o, none⟩ else ⟨sb, o + c, none⟩, fun h => by rw [if_neg (by omega)], fun w => ?_⟩
  have hz : (sizeOf (Tryd.prog.elem 26)).run Tryd.prog w = .ok 1 w := by kernel_rfl
  rw [run_slice_l w 26 (some ⟨sb, o, none⟩) r cp (by kernel_rfl) .i64 (c : Int) (by omega) (by omega), hz]
  simp [Result.andThen, sliced, Addr.add_mid]
  by_cases h : cp = c
  · simp [h]
  · simp [h]

theorem wpStill_load_mid {P : Program} {ops : Array Oper} {rest : List Oper} {op : Oper} {a : Act} {w : World} {Q : Act → Prop} (hw : Region.wanted op (yielded ops a.tmps) = true) (ty : TypeId) (x : Operand) (ho : op.op = .load ty x)
    (b o : Nat) (hx : a.eval x = .pointer (some ⟨b, o, none⟩)) (cs : List Value) (d : TypeDesc) (hc : w.rangeAt b o cs)
    (hu : P.underlying ty = some d) (hd : d.isRow = true) (hi : (P.info? ty).map (·.size) = some cs.length)
    (h : wpStill P ops w Q rest (a.put op.dst (.agg cs.toArray))) : wpStill P ops w Q (op :: rest) a := by
  unfold wpStill
  rw [if_pos hw]
  unfold Oper.still execOp
  simp only [ho, hx, Instr.loadAt, Instr.sureAddr, Sem.run_bind, Sem.run_pure, Result.andThen_ok, run_loadVar_mid w b o ty cs d hc hu hd hi]
  exact ⟨rfl, h⟩
theorem rangeAt_drew' {w : World} {b o : Nat} {cs : List Value} (h : w.rangeAt b o cs) : w.drew.rangeAt b o cs := (World.rangeAt_drew w b o cs).2 h

theorem below_of_drew {w w' : World} (h : Below w.drew.heap.size w.drew w') : Below w.heap.size w w' := ⟨h.os, h.tape, h.output, h.size, h.block⟩
theorem there_of {w : World} {b : Nat} {s : St} (h : SumAt w b s) (ok : OkSt s) (l : List Value) (hl : l.length = 5) : w.there b 0 l.toArray.size := sumAt_there h ok _ (by simp [hl])
theorem mixed_ex (p bl : List Nat) (w : World) (L : Nat) (ok : OkSt ⟨p, bl, L⟩) (hg : Globs w) :
    Calls Tryd.prog 24 #[.agg (u32s p).toArray, .agg (u8s bl).toArray] w fun e w' => ∃ mp : List Nat, Sl (mp = mix p bl) ∧ Sl ((Tryd.prog.info? 50).map (·.size) = some (u32s mp).toArray.size) ∧ Sl (mp.length = 5) ∧
      e = .returned (.agg (u32s mp).toArray) ∧ Sl (Below w.heap.size w w') :=
  (mixed_any p bl w ok.pl ok.ps ok.bl ok.bs hg).mono fun e w' ⟨he, hb⟩ => ⟨mix p bl, ⟨rfl⟩, ⟨by
    have : (Tryd.prog.info? 50).map (·.size) = some 5 := by kernel_rfl
    simpa [mix_length] using this⟩, ⟨mix_length _ _⟩, he, ⟨hb⟩⟩

def AddRel (w : World) (b : Nat) (s : St) (bs : List Nat) (sb so : Nat) (v : Value) (wr : World) : Prop :=
  ∃ (m r cap : Nat) (a : Option Addr), bs.length = m + r ∧ v = .slice a r cap ∧ r ≤ cap ∧ (0 < r → a = some ⟨sb, so + m, none⟩) ∧ SumAt wr b (feed s (bs.take m)) ∧ w.grownBy wr (some b)

set_option maxHeartbeats 1000000 in
theorem add_any (b : Nat) (s : St) (bs : List Nat) (v : Value) (w : World) (hs : SumAt w b s) (ok : OkSt s) (hv : SrcAt w b v bs) (hsm : Small 256 bs) (hg : Globs w) (hb : 2 ≤ b) (hL : s.L + bs.length < 4294967296) :
    Calls Tryd.prog 14 #[.pointer (some ⟨b, 0, none⟩), v] w fun e w' => e = .returned (.tuple #[]) ∧ SumAt w' b (feed s bs) ∧ w.grownBy w' (some b) := by
  obtain ⟨a, cap, sb, so, rfl, h1, h3, h4, h5⟩ := hv
  have HS := Sl.mk hs
  have OK := Sl.mk ok
  have SM := Sl.mk hsm
  have HG := Sl.mk hg
  have HL := Sl.mk hL
  have H3 := Sl.mk h3
  have H4 := Sl.mk h4
  have H5 := Sl.mk h5
  have H1 := Sl.mk h1
  clear hs ok hsm hg hL h1 h3 h4 h5
  go_enter Tryd.func14, Tryd.ntmps14
  go_wp2
  go_loopw [1] (fun v wr => AddRel w b s bs sb so v wr) (fun v _ => lenOf v)
  case atStart => exact ⟨0, bs.length, cap, a, by omega, rfl, H1.out, fun h => by simpa using H3.out h, by simpa [feed_nil] using HS.out, grown_refl _ _⟩
  case round =>
    obtain ⟨m, r, cp, a', hm, rfl, hr, ha, hsum, hgr⟩ := hrel
    have HM := Sl.mk hm
    have HSUM := Sl.mk hsum
    have HGR := Sl.mk hgr
    have HA := Sl.mk ha
    clear hm hsum hgr ha
    by_cases hpos : 0 < r
    · obtain rfl := HA.out hpos
      clear HA
      have ok' : OkSt (feed s (bs.take m)) := OK.out.feed (fun x hx => SM.out.mem x (List.mem_of_mem_take hx))
      have hL' : (feed s (bs.take m)).L + r < 4294967296 := by
        have h1 := HM.out
        have h2 := HL.out
        have h3 := feed_L s (bs.take m)
        rw [List.length_take, Nat.min_eq_left (by omega)] at h3
        omega
      have cL := sumAt_len HSUM.out ok'
      obtain ⟨u, hu⟩ : ∃ u, u = (feed s (bs.take m)).L % 64 := ⟨_, rfl⟩
      have hu' : (((feed s (bs.take m)).L : Nat) : Int) % 64 = (u : Int) := by omega
      have hlt : u < 64 := by omega
      obtain ⟨c, hc⟩ : ∃ c, c = min r (64 - u) := ⟨_, rfl⟩
      have hcs : 1 ≤ c ∧ c ≤ r ∧ u + c ≤ 64 := by omega
      obtain ⟨w1, hcopy, hs1, hg1⟩ := copy_step HSUM.out ok' u ((bs.drop m).take c) sb (so + m) r cp c (by have := HM.out; simp; omega) hc hlt
        (fun i hi => by
          have h5 := H5.out (m + i) (by have := HM.out; omega)
          have hsb : sb ≠ b := H4.out (by have := HM.out; omega)
          have hlt := block_lt_of_cell h5
          rw [World.cell?_of_block (w := w) (HGR.out.block sb hlt (fun e => hsb (by injection e)))]
          rw [Nat.add_assoc, h5]
          simp [List.getD, List.getElem?_drop, hi])
      have oks : OkSt ⟨(feed s (bs.take m)).p, splice (feed s (bs.take m)).blk u ((bs.drop m).take c), (feed s (bs.take m)).L⟩ := ⟨ok'.pl, ok'.ps, by rw [length_splice _ _ _ (by have := HM.out; simp [ok'.bl]; omega)]; exact ok'.bl, by
        unfold splice
        exact (Small.of_mem (by decide) (fun x hx => ok'.bs.mem x (List.mem_of_mem_take hx))).append (by decide) ((Small.of_mem (by decide) (fun x hx => SM.out.mem x (List.mem_of_mem_drop (List.mem_of_mem_take hx)))).append (by decide) (Small.of_mem (by decide) (fun x hx => ok'.bs.mem x (List.mem_of_mem_drop hx))))⟩
      have c1 := sumAt_len hs1 oks
      have OKS := Sl.mk oks
      clear oks
      have f1 := frozen_of_row _ _ 69 _ _ hs1
      have HC := Sl.mk hc
      have HU := Sl.mk hu
      have HS1 := Sl.mk hs1
      have HG1 := Sl.mk hg1
      have OK' := Sl.mk ok'
      clear hc hu hs1 hg1 ok'
      generalize hst : feed s (bs.take m) = s' at *
      obtain ⟨p', blk', L'⟩ := s'
      have HST := Sl.mk hst
      clear hst
      simp only at cL hu' hL' c1
      have hsl := slice_arr b u hlt
      obtain ⟨a2, ha2, hsr⟩ := slice_rest sb (so + m) r cp c hcs.2.1 hr
      have HA2 := Sl.mk ha2
      clear ha2
      by_cases hfull : u + c = 64
      · have hf : ((u : Int) + (c : Int) == 64) = true := by simp; omega
        go_wp2
        have hs2 : SumAt (w1.setCell ⟨b, 69, none⟩ (.int .u64 ((L' : Int) + (c : Int)))) b ⟨p', splice blk' u ((bs.drop m).take c), L' + c⟩ := by
          rw [← Int.natCast_add]; exact sumAt_setLen HS1.out OKS.out (L' + c)
        have hg2 : w.grownBy (w1.setCell ⟨b, 69, none⟩ (.int .u64 ((L' : Int) + (c : Int)))) (some b) := grown_trans (grown_trans HGR.out HG1.out) (grown_setCell _ _ _ _)
        have hmore := feed_more s bs p' blk' m r L' u c HM.out HST.out OK'.out.bl HU.out HC.out hpos
        rw [if_pos hfull] at hmore
        have ok2 : OkSt ⟨p', splice blk' u ((bs.drop m).take c), L' + c⟩ := ⟨OKS.out.pl, OKS.out.ps, OKS.out.bl, OKS.out.bs⟩
        clear hcopy HS1 HG1 OKS c1 f1 cL HSUM HGR hsl hsr
        generalize w1.setCell _ _ = w2 at *
        generalize splice blk' u ((bs.drop m).take c) = sp at *
        have r0 := rangeAt_drew' (sumAt_parts hs2)
        have r1 := rangeAt_drew' (sumAt_block hs2 ok2)
        have HI50 : Sl ((Tryd.prog.info? 50).map (·.size) = some (u32s p').length) := ⟨by
          have : (Tryd.prog.info? 50).map (·.size) = some 5 := by kernel_rfl
          simpa [ok2.pl] using this⟩
        have HI51 : Sl ((Tryd.prog.info? 51).map (·.size) = some (u8s sp).length) := ⟨by
          have : (Tryd.prog.info? 51).map (·.size) = some 64 := by kernel_rfl
          simpa [ok2.bl] using this⟩
        have R0 := Sl.mk r0
        have R1 := Sl.mk r1
        have HS2 := Sl.mk hs2
        have HG2 := Sl.mk hg2
        have OK2 := Sl.mk ok2
        have HMORE := Sl.mk hmore
        clear r0 r1 hs2 hg2 ok2 hmore
        have HGL : Sl (Globs w2.drew) := ⟨(HG.out.grown HG2.out hb).below (B := 2) (Below.refl 2 w2).drew (Nat.le_refl _)⟩
        refine wp_region_noPanic ?_
        refine wp_region_any (by kernel_rfl) ?_
        change wpAny _ _ _ _ _ _ _ w2.drew
        refine take_of 0 38 (.move (.tmp 0)) (.pointer (some ⟨b, 0, none⟩)) rfl (by kernel_rfl) (by kernel_rfl) (by kernel_rfl) (fun o ho w => by simp only [execOp, ho]; go_simp) ?_
        refine take_of 1 39 (.move (.tmp 0)) (.pointer (some ⟨b, 0, none⟩)) rfl (by kernel_rfl) (by kernel_rfl) (by kernel_rfl) (fun o ho w => by simp only [execOp, ho]; go_simp) ?_
        refine take_of 2 40 (.nilCheck (.tmp 39)) (.pointer (some ⟨b, 0, none⟩)) rfl (by kernel_rfl) (by kernel_rfl) (by kernel_rfl) (fun o ho w => by simp only [execOp, ho]; go_simp) ?_
        refine take_of 3 41 (.fieldAddr 53 (.tmp 40) 0) (.pointer (some ⟨b, 0, none⟩)) rfl (by kernel_rfl) (by kernel_rfl) (by kernel_rfl) (fun o ho w => by simp only [execOp, ho]; go_simp) ?_
        refine take_of 5 43 (.move (.tmp 0)) (.pointer (some ⟨b, 0, none⟩)) rfl (by kernel_rfl) (by kernel_rfl) (by kernel_rfl) (fun o ho w => by simp only [execOp, ho]; go_simp) ?_
        refine take_of 6 44 (.nilCheck (.tmp 43)) (.pointer (some ⟨b, 0, none⟩)) rfl (by kernel_rfl) (by kernel_rfl) (by kernel_rfl) (fun o ho w => by simp only [execOp, ho]; go_simp) ?_
        refine take_of 7 45 (.fieldAddr 53 (.tmp 44) 1) (.pointer (some ⟨b, 5, none⟩)) rfl (by kernel_rfl) (by kernel_rfl) (by kernel_rfl) (fun o ho w => by simp only [execOp, ho]; go_simp) ?_
        refine wpAny_two 4 8 42 46 (.load 50 (.tmp 41)) (.load 51 (.tmp 45)) (.agg (u32s p').toArray) (.agg (u8s sp).toArray) rfl rfl (by decide) (by decide) (by kernel_rfl) (by kernel_rfl) (by kernel_rfl)
          (load_yields 50 (.tmp 41) b 0 (by kernel_rfl) (u32s p') (.array 5 49) R0.out Tryd.underlying50 rfl HI50.out) (load_yields 50 (.tmp 41) b 0 (by kernel_rfl) (u32s p') (.array 5 49) R0.out Tryd.underlying50 rfl HI50.out)
          (load_yields 51 (.tmp 45) b 5 (by kernel_rfl) (u8s sp) (.array 64 5) R1.out Tryd.underlying51 rfl HI51.out) (load_yields 51 (.tmp 45) b 5 (by kernel_rfl) (u8s sp) (.array 64 5) R1.out Tryd.underlying51 rfl HI51.out) ?_
        refine seq_tail 9 (by kernel_rfl) (by kernel_rfl) ?_
        simp only [List.drop_succ_cons, List.drop_zero]
        go_wp2_with fail
        refine (mixed_ex p' sp _ _ OK2.out HGL.out).mono ?_
        rintro e w4 ⟨mp, HMP, HI5, HL5, rfl, hb4⟩
        have HB4 : Sl (Below w2.heap.size w2 w4) := ⟨below_of_drew hb4.out⟩
        clear hb4
        have HS4 := Sl.mk (sumAt_below HS2.out HB4.out)
        have HT := Sl.mk (there_of HS4.out OK2.out (u32s mp) (by simp [HL5.out]))
        go_wp2_with (refine wpList_store_mid rfl 50 (.tmp 49) (.tmp 47) rfl b 0 (u32s mp).toArray rfl rfl HT.out HI5.out (all_oneCell_toArray (u32s_one _)) ?_)
        refine NoPanic.normal ?_
        go_wp2
        go_roundw
        case rel =>
          refine ⟨m + c, r - c, cp - c, some a2, by have := HM.out; omega, rfl, by omega, fun h => by rw [HA2.out (by omega), Nat.add_assoc], ?_, grown_trans (grown_trans HG2.out (grown_below HB4.out _)) (grown_setCells _ _ _ _)⟩
          rw [HMORE.out, ← HMP.out]
          exact sumAt_setParts HS4.out OK2.out mp HL5.out
        case measure => simp [lenOf]; omega
      · have hf : ((u : Int) + (c : Int) == 64) = false := by simp; omega
        go_wp2
        go_roundw
        case rel =>
          have hmore := feed_more s bs p' blk' m r L' u c HM.out HST.out OK'.out.bl HU.out HC.out hpos
          rw [if_neg hfull] at hmore
          refine ⟨m + c, r - c, cp - c, some a2, by have := HM.out; omega, rfl, by omega, fun h => by rw [HA2.out (by omega), Nat.add_assoc], ?_, grown_trans (grown_trans HGR.out HG1.out) (grown_setCell _ _ _ _)⟩
          rw [hmore, ← Int.natCast_add]
          exact sumAt_setLen HS1.out OKS.out (L' + c)
        case measure => simp [lenOf]; omega
    · have hr0 : (r : Int) ≤ 0 := by omega
      have hfin : SumAt wr b (feed s bs) := by
        have h := HSUM.out
        have hm := HM.out
        rw [List.take_of_length_le (by omega)] at h
        exact h
      have HF := Sl.mk hfin
      clear hfin HSUM HA
      go_wp2
      go_end0
      exact ⟨rfl, HF.out, HGR.out⟩
end Go.Proofs.YtmiemklgekhfeaaDoor
