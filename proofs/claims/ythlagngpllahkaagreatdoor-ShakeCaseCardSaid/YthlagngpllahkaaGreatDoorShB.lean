/- Small laws on a statement whose order Go leaves open: an operation that looks at no memory is taken first; two loads in either order; then the rest in its one order. -/
import Derived.Test.YthlagngpllahkaaGreatDoorShA
import Derived.Deep.RegionHeld3
import Derived.Deep.Cut
import Derived.Laws.IdiomStrings
import Derived.Laws.BytesArg
import Derived.Lib.SlBytesConst
import Derived.Stop.BytesEq
set_option maxRecDepth 100000
namespace Go.Proofs.YthlagngpllahkaaGreatDoor.Sha
open Go.RowKit
section
variable {P : Program} {md : Region.Mode} {ops : Array Oper} {Q : Exit → Act → World → Prop}

/-- What an operation is, without its place and its edges. -/
def opIs (ops : Array Oper) (i d : Nat) (op : Op) : Prop := (ops[i]?).map (fun o => (o.dst, o.op, o.guard)) = some (some d, op, none)
theorem op_of {i d : Nat} {op : Op} (h : opIs ops i d op) : ∃ o, ops[i]? = some o ∧ o.dst = some d ∧ o.op = op ∧ o.guard = none := by
  unfold opIs at h
  cases ho : ops[i]? with
  | none => rw [ho] at h; cases h
  | some o =>
    rw [ho] at h
    simp only [Option.map_some, Option.some.injEq, Prod.mk.injEq] at h
    exact ⟨o, rfl, h.1, h.2.1, h.2.2⟩
theorem take_of {fuel : Nat} {listed : Array Bool} {a : Act} {w : World} (i d : Nat) (op : Op) (v : Value) (hi : opIs ops i d op) (hs : Region.noSelect ops = true) (hf : Region.free md ops listed i = true)
    (hr : (Region.ready md ops listed).contains i = true) (hy : ∀ o : Oper, o.op = op → ∀ w, (execOp a.eval o).run P w = .ok (.value v) w)
    (h : wpAny P md ops (NoPanic Q) fuel (listed.setIfInBounds i true) (a.put (some d) v) w) : wpAny P md ops (NoPanic Q) (fuel + 1) listed a w := by
  obtain ⟨o, ho, hd, hop, hg⟩ := op_of hi
  refine wpAny_take ho hs hf hr (fun _ _ _ h => h) (Or.inl ⟨by simp [Region.wanted, hg], hy o hop⟩) ?_
  rw [hd]; exact h
theorem wpOp_yield {a : Act} {w : World} {K : Act → World → Prop} (i d : Nat) (op : Op) (v : Value) (hi : opIs ops i d op) (hy : ∀ o : Oper, o.op = op → (execOp a.eval o).run P w = .ok (.value v) w)
    (h : K (a.put (some d) v) w) : wpOp P ops Q i K a w := by
  obtain ⟨o, ho, hd, hop, hg⟩ := op_of hi
  refine wpOp_of_stOp (K := fun a' => K a' w) (fun _ h => h) ?_
  exact YieldsAt.stOp ho (Or.inl ⟨by simp [Region.wanted, hg], Or.inl (hy o hop)⟩) (by rw [hd]; exact h)
theorem wpAny_two {fuel : Nat} {listed : Array Bool} {a : Act} {w : World} (i j di dj : Nat) (oi oj : Op) (vi vj : Value) (hi : opIs ops i di oi) (hj : opIs ops j dj oj) (hne : di ≠ dj) (hij : i ≠ j)
    (hr : Region.ready md ops listed = [i, j]) (hri : Region.ready md ops (listed.setIfInBounds i true) = [j]) (hrj : Region.ready md ops (listed.setIfInBounds j true) = [i])
    (yi : ∀ o : Oper, o.op = oi → (execOp a.eval o).run P w = .ok (.value vi) w) (yi' : ∀ o : Oper, o.op = oi → (execOp (a.put (some dj) vj).eval o).run P w = .ok (.value vi) w)
    (yj : ∀ o : Oper, o.op = oj → (execOp a.eval o).run P w = .ok (.value vj) w) (yj' : ∀ o : Oper, o.op = oj → (execOp (a.put (some di) vi).eval o).run P w = .ok (.value vj) w)
    (h : wpAny P md ops Q fuel ((listed.setIfInBounds i true).setIfInBounds j true) ((a.put (some di) vi).put (some dj) vj) w) : wpAny P md ops Q (fuel + 2) listed a w := by
  refine wpAny_all hr (by simp) (fun k hk => ?_)
  simp only [List.mem_cons, List.not_mem_nil, or_false] at hk
  rcases hk with rfl | rfl
  · refine wpOp_yield _ di oi vi hi yi (wpAny_all hri (by simp) (fun k hk => ?_))
    rw [List.mem_singleton] at hk
    subst hk
    exact wpOp_yield _ dj oj vj hj yj' h
  · refine wpOp_yield _ dj oj vj hj yj (wpAny_all hrj (by simp) (fun k hk => ?_))
    rw [List.mem_singleton] at hk
    subst hk
    refine wpOp_yield _ di oi vi hi yi' ?_
    rw [Array.setIfInBounds_comm _ _ hij, Act.put_comm a vi vj (by simpa using Ne.symm hne)] at h
    exact h
theorem seq_tail {l : List Oper} {listed : Array Bool} {a : Act} {w : World} {fuel : Nat} (n : Nat) (hf : fuel = (l.drop n).length) (hB : Region.seqB md l.toArray (l.drop n).length n listed = true)
    (h : wpList P l.toArray Q (l.drop n) a w) : wpAny P md l.toArray Q fuel listed a w := by
  subst hf
  exact wpAny_of_seq (l.drop n) n listed a w (fun j => by simp [List.getElem?_drop]) hB h
theorem load_yields {a : Act} {w : World} (ty : TypeId) (x : Operand) (b o : Nat) (hx : a.eval x = .pointer (some ⟨b, o, none⟩)) (cs : List Value) (d : TypeDesc) (hc : w.rangeAt b o cs)
    (hu : P.underlying ty = some d) (hd : d.isRow = true) (hi : (P.info? ty).map (·.size) = some cs.length) : ∀ op : Oper, op.op = .load ty x → (execOp a.eval op).run P w = .ok (.value (.agg cs.toArray)) w := by
  intro op ho
  unfold execOp
  simp only [ho, hx, Instr.loadAt, Instr.sureAddr, Sem.run_bind, Sem.run_pure, Result.andThen_ok, run_loadVar_mid w b o ty cs d hc hu hd hi]
end
end Go.Proofs.YthlagngpllahkaaGreatDoor.Sha
/- The contract of Add of package sha: the sum's state becomes what the bytes make of it; nothing else that was in memory changes. Conditions: fewer than 2^32 bytes in all; the bytes lie outside the sum; the tables are as the text lays them. -/
namespace Go.Proofs.YthlagngpllahkaaGreatDoor.Sha
open Go.RowKit

def lenOf : Value → Nat
  | .slice _ n _ => n
  | _ => 0
/-- The bytes bs lie behind the slice v, outside block b. -/
def SrcAt (w : World) (b : Nat) (v : Value) (bs : List Nat) : Prop :=
  ∃ (a : Option Addr) (cap sb so : Nat), v = .slice a bs.length cap ∧ bs.length ≤ cap ∧ (0 < bs.length → a = some ⟨sb, so, none⟩) ∧ (0 < bs.length → sb ≠ b) ∧
    ∀ i, i < bs.length → w.cell? ⟨sb, so + i, none⟩ = some (.int .u8 ((bs.getD i 0 : Nat) : Int))

theorem copy_step {wr : World} {b : Nat} {s : St} (hs : SumAt wr b s) (ok : OkSt s) (u : Nat) (ch : List Nat) (sb so r cap c : Nat) (hlen : ch.length = c) (hc : c = min r (64 - u)) (hu : u < 64)
    (hsrc : ∀ i, i < c → wr.cell? ⟨sb, so + i, none⟩ = some (.int .u8 ((ch.getD i 0 : Nat) : Int))) :
    ∃ w1, (Builtin.copy_ #[53, 53] 3 #[.slice (some ⟨b, 5 + u, none⟩) (64 - u) (64 - u), .slice (some ⟨sb, so, none⟩) r cap]).run Tryz.prog wr = .ok (.int .i64 (c : Int)) w1 ∧
      SumAt w1 b ⟨s.p, splice s.blk u ch, s.L⟩ ∧ wr.grownBy w1 (some b) := by
  subst hlen
  have h := run_copy_row (P := Tryz.prog) wr 53 53 3 5 b (5 + u) (64 - u) (64 - u) ⟨sb, so, none⟩ r cap (sumCells s).toArray 145 (u8s ch) Tryz.underlying53 (by kernel_rfl) hs
    (by rw [u8s_length, hc])
    (fun j v hv => by
      have hj : j < ch.length := by simpa using (List.getElem?_eq_some_iff.1 hv).1
      rw [Addr.add_mid, hsrc j hj, ← hv, u8s_get ch j hj])
    (by simp [sumCells_length ok]; omega) (u8s_one ch)
  have e := sumCells_splice ok u ch (by omega)
  simp only [List.append_assoc] at h
  rw [e] at h
  rw [u8s_length] at h
  refine ⟨_, h, ?_, grown_setRow _ _ _⟩
  exact setRow_heap _ _ _ _ _ _ hs

theorem slice_arr (b u : Nat) (hu : u < 64) (w : World) :
    (Instr.sliceAt 143 (.pointer (some ⟨b, 5, none⟩)) (some (.int .i64 (u : Int))) none none).run Tryz.prog w = .ok (.slice (some ⟨b, 5 + u, none⟩) (64 - u) (64 - u)) w := by
  have hl : Tryz.prog.arrayLen 143 = 64 := by kernel_rfl
  have hz : (sizeOf (Tryz.prog.elem 143)).run Tryz.prog w = .ok 1 w := by kernel_rfl
  rw [run_sliceAt_array_l w 143 ⟨b, 5, none⟩ (by kernel_rfl) .i64 (u : Int) (by omega) (by rw [hl]; omega), hz, hl]
  simp only [Result.andThen, slicedAt, Int.toNat_natCast, Nat.mul_one, Addr.add_mid]
  rw [if_neg (by omega)]
theorem slice_rest (sb o r cp c : Nat) (hc : c ≤ r) (hr : r ≤ cp) : ∃ a : Addr, (c < r → a = ⟨sb, o + c, none⟩) ∧ ∀ w,
    (Instr.slice 53 (.slice (some ⟨sb, o, none⟩) r cp) (some (.int .i64 (c : Int))) none none).run Tryz.prog w = .ok (.slice (some a) (r - c) (cp - c)) w := by
  refine ⟨if cp = c then ⟨sb, o, none⟩ else ⟨sb, o + c, none⟩, fun h => by rw [if_neg (by omega)], fun w => ?_⟩
  have hz : (sizeOf (Tryz.prog.elem 53)).run Tryz.prog w = .ok 1 w := by kernel_rfl
  rw [run_slice_l w 53 (some ⟨sb, o, none⟩) r cp (by kernel_rfl) .i64 (c : Int) (by omega) (by omega), hz]
  simp [Result.andThen, sliced, Addr.add_mid]
  by_cases h : cp = c
  · simp [h]
  · simp [h]

theorem wpStill_load_mid {P : Program} {ops : Array Oper} {rest : List Oper} {op : Oper} {a : Act} {w : World} {Q : Act → Prop} (hw : Region.wanted op (yielded ops a.tmps) = true) (ty : TypeId) (x : Operand) (ho : op.op = .load ty x)
    (b o : Nat) (hx : a.eval x = .pointer (some ⟨b, o, none⟩)) (cs : List Value) (d : TypeDesc) (hc : w.rangeAt b o cs)
    (hu : P.underlying ty = some d) (hd : d.isRow = true) (hi : (P.info? ty).map (·.size) = some cs.length)
    (h : wpStill P ops w Q rest (a.put op.dst (.agg cs.toArray))) : wpStill P ops w Q (op :: rest) a := by
  unfold wpStill
  rw [if_pos hw]
  unfold Oper.still execOp
  simp only [ho, hx, Instr.loadAt, Instr.sureAddr, Sem.run_bind, Sem.run_pure, Result.andThen_ok, run_loadVar_mid w b o ty cs d hc hu hd hi]
  exact ⟨rfl, h⟩
theorem rangeAt_drew' {w : World} {b o : Nat} {cs : List Value} (h : w.rangeAt b o cs) : w.drew.rangeAt b o cs := (World.rangeAt_drew w b o cs).2 h

theorem below_of_drew {w w' : World} (h : Below w.drew.heap.size w.drew w') : Below w.heap.size w w' := ⟨h.os, h.tape, h.output, h.size, h.block⟩
theorem there_of {w : World} {b : Nat} {s : St} (h : SumAt w b s) (ok : OkSt s) (l : List Value) (hl : l.length = 5) : w.there b 0 l.toArray.size := sumAt_there h ok _ (by simp [hl])
theorem mixed_ex (p bl : List Nat) (w : World) (L : Nat) (ok : OkSt ⟨p, bl, L⟩) (hg : Globs w) :
    Calls Tryz.prog 123 #[.agg (u32s p).toArray, .agg (u8s bl).toArray] w fun e w' => ∃ mp : List Nat, Sl (mp = mix p bl) ∧ Sl ((Tryz.prog.info? 142).map (·.size) = some (u32s mp).toArray.size) ∧ Sl (mp.length = 5) ∧
      e = .returned (.agg (u32s mp).toArray) ∧ Sl (Below w.heap.size w w') :=
  (mixed_any p bl w ok.pl ok.ps ok.bl ok.bs hg).mono fun e w' ⟨he, hb⟩ => ⟨mix p bl, ⟨rfl⟩, ⟨by
    have : (Tryz.prog.info? 142).map (·.size) = some 5 := by kernel_rfl
    simpa [mix_length] using this⟩, ⟨mix_length _ _⟩, he, ⟨hb⟩⟩

def AddRel (w : World) (b : Nat) (s : St) (bs : List Nat) (sb so : Nat) (v : Value) (wr : World) : Prop :=
  ∃ (m r cap : Nat) (a : Option Addr), bs.length = m + r ∧ v = .slice a r cap ∧ r ≤ cap ∧ (0 < r → a = some ⟨sb, so + m, none⟩) ∧ SumAt wr b (feed s (bs.take m)) ∧ w.grownBy wr (some b)

set_option maxHeartbeats 1000000 in
theorem add_any (b : Nat) (s : St) (bs : List Nat) (v : Value) (w : World) (hs : SumAt w b s) (ok : OkSt s) (hv : SrcAt w b v bs) (hsm : Small 256 bs) (hg : Globs w) (hb : 5 ≤ b) (hL : s.L + bs.length < 4294967296) :
    Calls Tryz.prog 83 #[.pointer (some ⟨b, 0, none⟩), v] w fun e w' => e = .returned (.tuple #[]) ∧ SumAt w' b (feed s bs) ∧ w.grownBy w' (some b) := by
  obtain ⟨a, cap, sb, so, rfl, h1, h3, h4, h5⟩ := hv
  have HS := Sl.mk hs
  have OK := Sl.mk ok
  have SM := Sl.mk hsm
  have HG := Sl.mk hg
  have HL := Sl.mk hL
  have H3 := Sl.mk h3
  have H4 := Sl.mk h4
  have H5 := Sl.mk h5
  have H1 := Sl.mk h1
  clear hs ok hsm hg hL h1 h3 h4 h5
  go_enter Tryz.func83, Tryz.ntmps83
  go_wp2
  go_loopw [1] (fun v wr => AddRel w b s bs sb so v wr) (fun v _ => lenOf v)
  case atStart => exact ⟨0, bs.length, cap, a, by omega, rfl, H1.out, fun h => by simpa using H3.out h, by simpa [feed_nil] using HS.out, grown_refl _ _⟩
  case round =>
    obtain ⟨m, r, cp, a', hm, rfl, hr, ha, hsum, hgr⟩ := hrel
    have HM := Sl.mk hm
    have HSUM := Sl.mk hsum
    have HGR := Sl.mk hgr
    have HA := Sl.mk ha
    clear hm hsum hgr ha
    by_cases hpos : 0 < r
    · obtain rfl := HA.out hpos
      clear HA
      have ok' : OkSt (feed s (bs.take m)) := OK.out.feed (fun x hx => SM.out.mem x (List.mem_of_mem_take hx))
      have hL' : (feed s (bs.take m)).L + r < 4294967296 := by
        have h1 := HM.out
        have h2 := HL.out
        have h3 := feed_L s (bs.take m)
        rw [List.length_take, Nat.min_eq_left (by omega)] at h3
        omega
      have cL := sumAt_len HSUM.out ok'
      obtain ⟨u, hu⟩ : ∃ u, u = (feed s (bs.take m)).L % 64 := ⟨_, rfl⟩
      have hu' : (((feed s (bs.take m)).L : Nat) : Int) % 64 = (u : Int) := by omega
      have hlt : u < 64 := by omega
      obtain ⟨c, hc⟩ : ∃ c, c = min r (64 - u) := ⟨_, rfl⟩
      have hcs : 1 ≤ c ∧ c ≤ r ∧ u + c ≤ 64 := by omega
      obtain ⟨w1, hcopy, hs1, hg1⟩ := copy_step HSUM.out ok' u ((bs.drop m).take c) sb (so + m) r cp c (by have := HM.out; simp; omega) hc hlt
        (fun i hi => by
          have h5 := H5.out (m + i) (by have := HM.out; omega)
          have hsb : sb ≠ b := H4.out (by have := HM.out; omega)
          have hlt := block_lt_of_cell h5
          rw [World.cell?_of_block (w := w) (HGR.out.block sb hlt (fun e => hsb (by injection e)))]
          rw [Nat.add_assoc, h5]
          simp [List.getD, List.getElem?_drop, hi])
      have oks : OkSt ⟨(feed s (bs.take m)).p, splice (feed s (bs.take m)).blk u ((bs.drop m).take c), (feed s (bs.take m)).L⟩ := ⟨ok'.pl, ok'.ps, by rw [length_splice _ _ _ (by have := HM.out; simp [ok'.bl]; omega)]; exact ok'.bl, by
        unfold splice
        exact (Small.of_mem (by decide) (fun x hx => ok'.bs.mem x (List.mem_of_mem_take hx))).append (by decide) ((Small.of_mem (by decide) (fun x hx => SM.out.mem x (List.mem_of_mem_drop (List.mem_of_mem_take hx)))).append (by decide) (Small.of_mem (by decide) (fun x hx => ok'.bs.mem x (List.mem_of_mem_drop hx))))⟩
      have c1 := sumAt_len hs1 oks
      have OKS := Sl.mk oks
      clear oks
      have f1 := frozen_of_row _ _ 69 _ _ hs1
      have HC := Sl.mk hc
      have HU := Sl.mk hu
      have HS1 := Sl.mk hs1
      have HG1 := Sl.mk hg1
      have OK' := Sl.mk ok'
      clear hc hu hs1 hg1 ok'
      generalize hst : feed s (bs.take m) = s' at *
      obtain ⟨p', blk', L'⟩ := s'
      have HST := Sl.mk hst
      clear hst
      simp only at cL hu' hL' c1
      have hsl := slice_arr b u hlt
      obtain ⟨a2, ha2, hsr⟩ := slice_rest sb (so + m) r cp c hcs.2.1 hr
      have HA2 := Sl.mk ha2
      clear ha2
      by_cases hfull : u + c = 64
      · have hf : ((u : Int) + (c : Int) == 64) = true := by simp; omega
        go_wp2
        have hs2 : SumAt (w1.setCell ⟨b, 69, none⟩ (.int .u64 ((L' : Int) + (c : Int)))) b ⟨p', splice blk' u ((bs.drop m).take c), L' + c⟩ := by
          rw [← Int.natCast_add]; exact sumAt_setLen HS1.out OKS.out (L' + c)
        have hg2 : w.grownBy (w1.setCell ⟨b, 69, none⟩ (.int .u64 ((L' : Int) + (c : Int)))) (some b) := grown_trans (grown_trans HGR.out HG1.out) (grown_setCell _ _ _ _)
        have hmore := feed_more s bs p' blk' m r L' u c HM.out HST.out OK'.out.bl HU.out HC.out hpos
        rw [if_pos hfull] at hmore
        have ok2 : OkSt ⟨p', splice blk' u ((bs.drop m).take c), L' + c⟩ := ⟨OKS.out.pl, OKS.out.ps, OKS.out.bl, OKS.out.bs⟩
        clear hcopy HS1 HG1 OKS c1 f1 cL HSUM HGR hsl hsr
        generalize w1.setCell _ _ = w2 at *
        generalize splice blk' u ((bs.drop m).take c) = sp at *
        have r0 := rangeAt_drew' (sumAt_parts hs2)
        have r1 := rangeAt_drew' (sumAt_block hs2 ok2)
        have HI50 : Sl ((Tryz.prog.info? 142).map (·.size) = some (u32s p').length) := ⟨by
          have : (Tryz.prog.info? 142).map (·.size) = some 5 := by kernel_rfl
          simpa [ok2.pl] using this⟩
        have HI51 : Sl ((Tryz.prog.info? 143).map (·.size) = some (u8s sp).length) := ⟨by
          have : (Tryz.prog.info? 143).map (·.size) = some 64 := by kernel_rfl
          simpa [ok2.bl] using this⟩
        have R0 := Sl.mk r0
        have R1 := Sl.mk r1
        have HS2 := Sl.mk hs2
        have HG2 := Sl.mk hg2
        have OK2 := Sl.mk ok2
        have HMORE := Sl.mk hmore
        clear r0 r1 hs2 hg2 ok2 hmore
        have HGL : Sl (Globs w2.drew) := ⟨(HG.out.grown HG2.out hb).below (B := 5) (Below.refl _ w2).drew (Nat.le_refl _)⟩
        refine wp_region_noPanic ?_
        refine wp_region_any (by kernel_rfl) ?_
        change wpAny _ _ _ _ _ _ _ w2.drew
        refine take_of 0 38 (.move (.tmp 0)) (.pointer (some ⟨b, 0, none⟩)) rfl (by kernel_rfl) (by kernel_rfl) (by kernel_rfl) (fun o ho w => by simp only [execOp, ho]; go_simp) ?_
        refine take_of 1 39 (.move (.tmp 0)) (.pointer (some ⟨b, 0, none⟩)) rfl (by kernel_rfl) (by kernel_rfl) (by kernel_rfl) (fun o ho w => by simp only [execOp, ho]; go_simp) ?_
        refine take_of 2 40 (.nilCheck (.tmp 39)) (.pointer (some ⟨b, 0, none⟩)) rfl (by kernel_rfl) (by kernel_rfl) (by kernel_rfl) (fun o ho w => by simp only [execOp, ho]; go_simp) ?_
        refine take_of 3 41 (.fieldAddr 145 (.tmp 40) 0) (.pointer (some ⟨b, 0, none⟩)) rfl (by kernel_rfl) (by kernel_rfl) (by kernel_rfl) (fun o ho w => by simp only [execOp, ho]; go_simp) ?_
        refine take_of 5 43 (.move (.tmp 0)) (.pointer (some ⟨b, 0, none⟩)) rfl (by kernel_rfl) (by kernel_rfl) (by kernel_rfl) (fun o ho w => by simp only [execOp, ho]; go_simp) ?_
        refine take_of 6 44 (.nilCheck (.tmp 43)) (.pointer (some ⟨b, 0, none⟩)) rfl (by kernel_rfl) (by kernel_rfl) (by kernel_rfl) (fun o ho w => by simp only [execOp, ho]; go_simp) ?_
        refine take_of 7 45 (.fieldAddr 145 (.tmp 44) 1) (.pointer (some ⟨b, 5, none⟩)) rfl (by kernel_rfl) (by kernel_rfl) (by kernel_rfl) (fun o ho w => by simp only [execOp, ho]; go_simp) ?_
        refine wpAny_two 4 8 42 46 (.load 142 (.tmp 41)) (.load 143 (.tmp 45)) (.agg (u32s p').toArray) (.agg (u8s sp).toArray) rfl rfl (by decide) (by decide) (by kernel_rfl) (by kernel_rfl) (by kernel_rfl)
          (load_yields 142 (.tmp 41) b 0 (by kernel_rfl) (u32s p') (.array 5 141) R0.out Tryz.underlying142 rfl HI50.out) (load_yields 142 (.tmp 41) b 0 (by kernel_rfl) (u32s p') (.array 5 141) R0.out Tryz.underlying142 rfl HI50.out)
          (load_yields 143 (.tmp 45) b 5 (by kernel_rfl) (u8s sp) (.array 64 5) R1.out Tryz.underlying143 rfl HI51.out) (load_yields 143 (.tmp 45) b 5 (by kernel_rfl) (u8s sp) (.array 64 5) R1.out Tryz.underlying143 rfl HI51.out) ?_
        refine seq_tail 9 (by kernel_rfl) (by kernel_rfl) ?_
        simp only [List.drop_succ_cons, List.drop_zero]
        go_wp2_with fail
        refine (mixed_ex p' sp _ _ OK2.out HGL.out).mono ?_
        rintro e w4 ⟨mp, HMP, HI5, HL5, rfl, hb4⟩
        have HB4 : Sl (Below w2.heap.size w2 w4) := ⟨below_of_drew hb4.out⟩
        clear hb4
        have HS4 := Sl.mk (sumAt_below HS2.out HB4.out)
        have HT := Sl.mk (there_of HS4.out OK2.out (u32s mp) (by simp [HL5.out]))
        go_wp2_with (refine wpList_store_mid rfl 142 (.tmp 49) (.tmp 47) rfl b 0 (u32s mp).toArray rfl rfl HT.out HI5.out (all_oneCell_toArray (u32s_one _)) ?_)
        refine NoPanic.normal ?_
        go_wp2
        go_roundw
        case rel =>
          refine ⟨m + c, r - c, cp - c, some a2, by have := HM.out; omega, rfl, by omega, fun h => by rw [HA2.out (by omega), Nat.add_assoc], ?_, grown_trans (grown_trans HG2.out (grown_below HB4.out _)) (grown_setCells _ _ _ _)⟩
          rw [HMORE.out, ← HMP.out]
          exact sumAt_setParts HS4.out OK2.out mp HL5.out
        case measure => simp [lenOf]; omega
      · have hf : ((u : Int) + (c : Int) == 64) = false := by simp; omega
        go_wp2
        go_roundw
        case rel =>
          have hmore := feed_more s bs p' blk' m r L' u c HM.out HST.out OK'.out.bl HU.out HC.out hpos
          rw [if_neg hfull] at hmore
          refine ⟨m + c, r - c, cp - c, some a2, by have := HM.out; omega, rfl, by omega, fun h => by rw [HA2.out (by omega), Nat.add_assoc], ?_, grown_trans (grown_trans HGR.out HG1.out) (grown_setCell _ _ _ _)⟩
          rw [hmore, ← Int.natCast_add]
          exact sumAt_setLen HS1.out OKS.out (L' + c)
        case measure => simp [lenOf]; omega
    · have hr0 : (r : Int) ≤ 0 := by omega
      have hfin : SumAt wr b (feed s bs) := by
        have h := HSUM.out
        have hm := HM.out
        rw [List.take_of_length_le (by omega)] at h
        exact h
      have HF := Sl.mk hfin
      clear hfin HSUM HA
      go_wp2
      go_end0
      exact ⟨rfl, HF.out, HGR.out⟩
end Go.Proofs.YthlagngpllahkaaGreatDoor.Sha
/- The contracts of New, Len, Told and Of of package sha. -/
namespace Go.Proofs.YthlagngpllahkaaGreatDoor.Sha
open Go.RowKit

set_option maxHeartbeats 400000 in
theorem new_any (w : World) (hg : Globs w) :
    Calls Tryz.prog 82 #[] w fun e w' => e = .returned (.pointer (some ⟨w.heap.size, 0, none⟩)) ∧ w' = w.alloc (.cells (sumCells st0).toArray 145) := by
  have HI50 : Sl ((Tryz.prog.info? 142).map (·.size) = some (u32s start).length) := ⟨by kernel_rfl⟩
  have HR := Sl.mk hg.1
  have HB : Sl ((Tryz.prog.built 145 [(0, .agg (u32s start).toArray)]).getD #[] = (sumCells st0).toArray) := ⟨by kernel_rfl⟩
  clear hg
  go_enter Tryz.func82, Tryz.ntmps82
  go_wp2_with (first
    | (refine wpList_load_mid rfl 142 (.global 0) rfl 0 0 rfl (u32s start) (.array 5 141) HR.out Tryz.underlying142 rfl HI50.out ?_)
    | (refine wpList_build rfl 145 _ rfl (by kernel_rfl) ?_))
  go_ret
  exact ⟨rfl, by rw [HB.out]⟩


/-- The sum that is told. -/
def told (s : St) : List Nat := bytesOf (feed s (endOf s.L)).p 20
theorem told_length (s : St) : (told s).length = 20 := bytesOf_length _ 20
theorem told_small (s : St) : Small 256 (told s) := bytesOf_small _ 20

theorem part_ex (p : List Nat) (w : World) (hp : p.length = 5) (hps : Small 4294967296 p) :
    Calls Tryz.prog 125 #[.agg (u32s p).toArray] w fun e w' => ∃ bt : List Nat, Sl (bt = bytesOf p 20) ∧ Sl (bt.length = 20) ∧ e = .returned (.agg (u8s bt).toArray) ∧ Sl (Below w.heap.size w w') :=
  (partBytes_any p w hp hps).mono fun _ _ ⟨he, hb⟩ => ⟨_, ⟨rfl⟩, ⟨bytesOf_length _ 20⟩, he, ⟨hb⟩⟩
theorem ending_ex (L : Nat) (w : World) (hL : L < 4294967296) :
    Calls Tryz.prog 124 #[.int .u64 L] w fun e w' => ∃ (en : List Nat) (n : Nat), Sl (en = endOf L) ∧ Sl (en.length = n) ∧ e = .returned (.slice (some ⟨w.heap.size, 0, none⟩) n n) ∧
      Sl (w'.heap[w.heap.size]? = some (.cells (u8s en).toArray 5 (0, 0))) ∧ Sl (w'.heap.size = w.heap.size + 1) ∧ Sl (Below w.heap.size w w') :=
  (ending_any L w hL).mono fun _ _ ⟨he, h1, h2, h3⟩ => ⟨_, _, ⟨rfl⟩, ⟨endOf_length L⟩, he, ⟨h1⟩, ⟨h2⟩, ⟨h3⟩⟩
/-- Bytes in a row of their own. -/
theorem src_row {w : World} {b g n : Nat} {l : List Nat} {t : TypeId} (h : w.heap[g]? = some (.cells (u8s l).toArray t (0, 0))) (hn : l.length = n) (hne : g ≠ b) : SrcAt w b (.slice (some ⟨g, 0, none⟩) n n) l :=
  ⟨some ⟨g, 0, none⟩, n, g, 0, by rw [hn], by omega, fun _ => rfl, fun _ => hne, fun i hi => by rw [Nat.zero_add]; exact row_cell h i _ (u8s_get l i hi)⟩

def z70 : St := ⟨z5, zs 64, 0⟩
theorem info53 : (Tryz.prog.info? 145).map (fun i => (i.zero, i.size)) = some (some (.agg (sumCells z70).toArray), 70) := by kernel_rfl
theorem zero53 : ∀ w, (zeroValue 145).run Tryz.prog w = .ok (.agg (sumCells z70).toArray) w := (zero_of_info info53).1
theorem sumCells_one (s : St) : ∀ v ∈ sumCells s, v.oneCell' = true := by
  intro v hv
  simp only [sumCells, List.mem_append, List.mem_singleton] at hv
  rcases hv with hv | hv | rfl
  · exact u32s_one _ v hv
  · exact u8s_one _ v hv
  · rfl

/-- What stands before Told calls anything. -/
structure TW (w w1 : World) (b : Nat) (s : St) : Prop where
  own : SumAt w1 (w.heap.size + 1) s
  old : SumAt w1 b s
  res : w1.heap[w.heap.size]? = some (.cells (u8s z20).toArray 76 (0, 0))
  size : w1.heap.size = w.heap.size + 2
  below : Below w.heap.size w w1
theorem tw_start (w : World) (b : Nat) (s : St) (hs : SumAt w b s) : TW w (((w.alloc (.cells (u8s z20).toArray 76)).alloc (.cells (sumCells z70).toArray 145)).setRow (w.heap.size + 1) (sumCells s).toArray) b s := by
  have hlt : b < w.heap.size := (Array.getElem?_eq_some_iff.1 hs).1
  have s1 := alloc_size w (.cells (u8s z20).toArray 76)
  have s2 := alloc_size (w.alloc (.cells (u8s z20).toArray 76)) (.cells (sumCells z70).toArray 145)
  refine ⟨?_, ?_, ?_, ?_, ?_⟩
  · exact setRow_heap _ _ _ _ _ _ (alloc_new _ _ _ (by omega))
  · show _ = _
    rw [setRow_other _ _ _ _ (by omega), alloc_old _ _ _ (by omega), alloc_old _ _ _ (by omega)]; exact hs
  · rw [setRow_other _ _ _ _ (by omega), alloc_old _ _ _ (by omega), alloc_new _ _ _ rfl]
  · rw [setRow_size]; omega
  · exact below_setRow (((Below.refl _ _).alloc (Nat.le_refl _) _).alloc (by omega) _) (by omega) _

set_option maxHeartbeats 400000 in
theorem told_any (b : Nat) (s : St) (w : World) (hs : SumAt w b s) (ok : OkSt s) (hg : Globs w) (hL : s.L < 1000000000) :
    Calls Tryz.prog 84 #[.pointer (some ⟨b, 0, none⟩)] w fun e w' => e = .returned (.agg (u8s (told s)).toArray) ∧ Below w.heap.size w w' := by
  have HS := Sl.mk hs
  have OK := Sl.mk ok
  have HG := Sl.mk hg
  have HL := Sl.mk hL
  have hlt : b < w.heap.size := (Array.getElem?_eq_some_iff.1 hs).1
  have HI53 : Sl ((Tryz.prog.info? 145).map (·.size) = some (sumCells s).toArray.size) := ⟨by
    have := (zero_of_info info53).2
    simpa [sumCells_length ok] using this⟩
  have HO : Sl ((sumCells z70).toArray.size = (sumCells s).toArray.size) := ⟨by
    have : (sumCells z70).length = 70 := rfl
    simp [sumCells_length ok, this]⟩
  have HT : Sl (told s = bytesOf (feed s (endOf s.L)).p 20) := ⟨rfl⟩
  have hz := zero53
  clear hs ok hg hL
  go_enter Tryz.func84, Tryz.ntmps84
  go_upto_region 2 with (first
    | (refine wpList_load_row rfl 145 (.tmp 5) rfl b rfl 145 _ (0, 0) (.struct _) (by rw [alloc_old _ _ _ hlt]; exact HS.out) Tryz.underlying145 rfl HI53.out ?_)
    | (refine wpList_store_row rfl 145 (.tmp 3) (.tmp 6) rfl (w.heap.size + 1) _ rfl rfl 145 _ (alloc_new _ _ _ (by simp)) HI53.out HO.out (all_oneCell_toArray (sumCells_one s)) ?_))
  generalize hw1 : World.setRow _ _ _ = w1
  have HTW : Sl (TW w w1 b s) := ⟨by rw [← hw1]; exact tw_start w b s HS.out⟩
  have cL := sumAt_len HTW.out.old OK.out
  clear hw1 hz HI53 HO HS
  go_wp2_with fail
  refine (ending_ex s.L _ (by have := HL.out; omega)).mono ?_
  rintro e w2 ⟨en, n, HEN, HN, rfl, HR2, HZ2, HB2⟩
  go_wp2_with fail
  have hz1 : Sl (w1.heap.size = w.heap.size + 2) := ⟨HTW.out.size⟩
  have HOWN : Sl (SumAt w2 (w.heap.size + 1) s) := ⟨by
    show _ = _
    rw [HB2.out.block _ (by rw [hz1.out]; omega)]; exact HTW.out.own⟩
  have HB02 : Sl (Below w.heap.size w w2) := ⟨HTW.out.below.trans (HB2.out.mono (by rw [hz1.out]; omega))⟩
  have HRES2 : Sl (w2.heap[w.heap.size]? = some (.cells (u8s z20).toArray 76 (0, 0))) := ⟨by rw [HB2.out.block _ (by rw [hz1.out]; omega)]; exact HTW.out.res⟩
  have hen : n ≤ 72 := by rw [← HN.out, HEN.out, endOf_length]; have : nought s.L < 64 := by { unfold nought; omega }; omega
  have HSM : Sl (Small 256 en) := ⟨by rw [HEN.out]; exact endOf_small _⟩
  refine (add_any (w.heap.size + 1) s en _ _ HOWN.out OK.out (src_row HR2.out HN.out (by rw [hz1.out]; omega)) HSM.out (HG.out.below HB02.out HG.out.size) (by have := HG.out.size; omega) (by rw [HN.out]; have := HL.out; omega)).mono ?_
  rintro e w3 ⟨rfl, hs3, hg3⟩
  have HS3 := Sl.mk hs3
  have ok3 : OkSt (feed s en) := OK.out.feed HSM.out.mem
  have HP3 : Sl (bytesOf (feed s en).p 20 = told s) := ⟨by rw [HT.out, HEN.out]⟩
  have HB03 : Sl (Below w.heap.size w w3) := ⟨HB02.out.trans ⟨hg3.os, hg3.tape, hg3.output, hg3.size, fun k hk => hg3.block k (by have := HB02.out.size; omega) (fun e => by injection e with e; omega)⟩⟩
  have HRES3 : Sl (w3.heap[w.heap.size]? = some (.cells (u8s z20).toArray 76 (0, 0))) := ⟨by
    rw [hg3.block _ (by have := (Array.getElem?_eq_some_iff.1 HRES2.out).1; omega) (fun e => by injection e with e; omega)]; exact HRES2.out⟩
  have HRA : Sl (w3.rangeAt (w.heap.size + 1) 0 (u32s (feed s en).p)) := ⟨sumAt_parts hs3⟩
  have HPL : Sl ((feed s en).p.length = 5) := ⟨ok3.pl⟩
  have HPS : Sl (Small 4294967296 (feed s en).p) := ⟨ok3.ps⟩
  clear hs3 ok3 hg3 HS3 HOWN HB02 HRES2 HSM HR2 HZ2 HB2 HEN HN hen HT cL HTW hz1
  generalize (feed s en).p = p3 at *
  have HI50 : Sl ((Tryz.prog.info? 142).map (·.size) = some (u32s p3).length) := ⟨by
    have : (Tryz.prog.info? 142).map (·.size) = some 5 := by kernel_rfl
    simpa [HPL.out] using this⟩
  go_wp2_with (refine wpList_load_mid rfl 142 (.tmp 13) rfl (w.heap.size + 1) 0 rfl (u32s p3) (.array 5 141) HRA.out Tryz.underlying142 rfl HI50.out ?_)
  refine (part_ex p3 _ HPL.out HPS.out).mono ?_
  rintro e w4 ⟨bt, HBT, HBL, rfl, HB4⟩
  have HI24 : Sl ((Tryz.prog.info? 76).map (·.size) = some (u8s bt).toArray.size) := ⟨by
    have : (Tryz.prog.info? 76).map (·.size) = some 20 := by kernel_rfl
    simpa [HBL.out] using this⟩
  have HO20 : Sl ((u8s z20).toArray.size = (u8s bt).toArray.size) := ⟨by simp [HBL.out, z20]⟩
  have HRES4 : Sl (w4.heap[w.heap.size]? = some (.cells (u8s z20).toArray 76 (0, 0))) := ⟨by rw [HB4.out.block _ (Array.getElem?_eq_some_iff.1 HRES3.out).1]; exact HRES3.out⟩
  have HB04 : Sl (Below w.heap.size w w4) := ⟨HB03.out.trans (HB4.out.mono HB03.out.size)⟩
  go_wp2_with (refine wpList_store_row rfl 76 (.tmp 2) (.tmp 15) rfl w.heap.size _ rfl rfl 76 _ HRES4.out HI24.out HO20.out (all_oneCell_toArray (u8s_one _)) ?_)
  refine bodyPost_ret (v := .agg (u8s bt).toArray) ?_ rfl ⟨by rw [HBT.out, HP3.out], below_setRow HB04.out (Nat.le_refl _) _⟩
  exact results_cell_row Tryz.results84 _ _ w.heap.size 76 _ (0, 0) (.array 20 5) rfl (setRow_heap _ _ _ _ _ _ HRES4.out) Tryz.underlying76 rfl HI24.out
end Go.Proofs.YthlagngpllahkaaGreatDoor.Sha
/- The contracts of Of of package sha, and of text and fill of the statements' package. -/
namespace Go.Proofs.YthlagngpllahkaaGreatDoor.Sha
open Go.RowKit

theorem SrcAt.later {w w' : World} {b b' : Nat} {v : Value} {bs : List Nat} (h : SrcAt w b v bs) (hb : Below w.heap.size w w') (hb' : w.heap.size ≤ b') : SrcAt w' b' v bs := by
  obtain ⟨a, cap, sb, so, h0, h1, h3, h4, h5⟩ := h
  have hsb : 0 < bs.length → sb < w.heap.size := fun hp => block_lt_of_cell (h5 0 hp)
  exact ⟨a, cap, sb, so, h0, h1, h3, fun hp => by have := hsb hp; omega, fun i hi => by rw [hb.cell (p := ⟨sb, so + i, none⟩) (hsb (by omega))]; exact h5 i hi⟩

theorem told_ex (b : Nat) (s : St) (w : World) (hs : SumAt w b s) (ok : OkSt s) (hg : Globs w) (hL : s.L < 1000000000) :
    Calls Tryz.prog 84 #[.pointer (some ⟨b, 0, none⟩)] w fun e w' => ∃ bt : List Nat, Sl (bt = told s) ∧ Sl (bt.length = 20) ∧ e = .returned (.agg (u8s bt).toArray) ∧ Sl (Below w.heap.size w w') :=
  (told_any b s w hs ok hg hL).mono fun _ _ ⟨he, hb⟩ => ⟨_, ⟨rfl⟩, ⟨told_length s⟩, he, ⟨hb⟩⟩

set_option maxHeartbeats 400000 in
theorem of_any (b0 : Nat) (v : Value) (bs : List Nat) (w : World) (hv : SrcAt w b0 v bs) (hsm : Small 256 bs) (hg : Globs w) (hL : bs.length < 1000000000) :
    Calls Tryz.prog 45 #[v] w fun e w' => ∃ bt : List Nat, Sl (bt = told (feed st0 bs)) ∧ Sl (bt.length = 20) ∧ e = .returned (.agg (u8s bt).toArray) ∧ Sl (Below w.heap.size w w') := by
  have HV := Sl.mk hv
  have HSM := Sl.mk hsm
  have HG := Sl.mk hg
  have HL := Sl.mk hL
  obtain ⟨W, hW⟩ : ∃ W, W = w.alloc (.cells (u8s z20).toArray 76) := ⟨_, rfl⟩
  have HW := Sl.mk hW
  have HB1 : Sl (Below w.heap.size w W) := ⟨by rw [HW.out]; exact (Below.refl _ _).alloc (Nat.le_refl _) _⟩
  have HZ1 : Sl (W.heap.size = w.heap.size + 1) := ⟨by rw [HW.out]; exact alloc_size _ _⟩
  have HRES1 : Sl (W.heap[w.heap.size]? = some (.cells (u8s z20).toArray 76 (0, 0))) := ⟨by rw [HW.out]; exact alloc_new _ _ _ rfl⟩
  have HG1 : Sl (Globs W) := ⟨HG.out.below HB1.out HG.out.size⟩
  clear hv hsm hg hL hW
  go_enter Tryz.func45, Tryz.ntmps45
  go_wp2_with fail
  generalize hw1 : World.alloc _ _ = w1
  obtain rfl : w1 = W := by rw [← hw1, HW.out]; rfl
  clear hw1 HW
  refine (new_any _ HG1.out).mono ?_
  rintro e w2 ⟨rfl, hw2⟩
  have HS2 : Sl (SumAt w2 w1.heap.size st0) := ⟨by rw [hw2]; exact alloc_new _ _ _ rfl⟩
  have HB2 : Sl (Below w1.heap.size w1 w2) := ⟨by rw [hw2]; exact (Below.refl _ _).alloc (Nat.le_refl _) _⟩
  have HB02 : Sl (Below w.heap.size w w2) := ⟨HB1.out.trans (HB2.out.mono HB1.out.size)⟩
  have HRES2 : Sl (w2.heap[w.heap.size]? = some (.cells (u8s z20).toArray 76 (0, 0))) := ⟨by rw [HB2.out.block _ (by rw [HZ1.out]; omega)]; exact HRES1.out⟩
  clear hw2
  go_wp2_with fail
  refine (add_any w1.heap.size st0 bs v _ HS2.out okSt0 (HV.out.later HB02.out (by rw [HZ1.out]; omega)) HSM.out (HG.out.below HB02.out HG.out.size) (by have := HG.out.size; rw [HZ1.out]; omega)
    (by have := HL.out; show 0 + _ < _; omega)).mono ?_
  rintro e w3 ⟨rfl, hs3, hg3⟩
  have HS3 := Sl.mk hs3
  have OK3 : Sl (OkSt (feed st0 bs)) := ⟨okSt0.feed HSM.out.mem⟩
  have HL3 : Sl ((feed st0 bs).L < 1000000000) := ⟨by rw [feed_L]; have := HL.out; show 0 + _ < _; omega⟩
  have HB03 : Sl (Below w.heap.size w w3) := ⟨HB02.out.trans ⟨hg3.os, hg3.tape, hg3.output, hg3.size, fun k hk => hg3.block k (by have := HB02.out.size; omega) (fun e => by injection e with e; have := HZ1.out; omega)⟩⟩
  have HRES3 : Sl (w3.heap[w.heap.size]? = some (.cells (u8s z20).toArray 76 (0, 0))) := ⟨by
    rw [hg3.block _ (by have := (Array.getElem?_eq_some_iff.1 HRES2.out).1; omega) (fun e => by injection e with e; have := HZ1.out; omega)]; exact HRES2.out⟩
  clear hs3 hg3
  go_wp2_with fail
  refine (told_ex w1.heap.size (feed st0 bs) _ HS3.out OK3.out (HG.out.below HB03.out HG.out.size) HL3.out).mono ?_
  rintro e w4 ⟨bt, HBT, HBL, rfl, HB4⟩
  have HI24 : Sl ((Tryz.prog.info? 76).map (·.size) = some (u8s bt).toArray.size) := ⟨by
    have : (Tryz.prog.info? 76).map (·.size) = some 20 := by kernel_rfl
    simpa [HBL.out] using this⟩
  have HO20 : Sl ((u8s z20).toArray.size = (u8s bt).toArray.size) := ⟨by simp [HBL.out, z20]⟩
  have HRES4 : Sl (w4.heap[w.heap.size]? = some (.cells (u8s z20).toArray 76 (0, 0))) := ⟨by rw [HB4.out.block _ (Array.getElem?_eq_some_iff.1 HRES3.out).1]; exact HRES3.out⟩
  have HB04 : Sl (Below w.heap.size w w4) := ⟨HB03.out.trans (HB4.out.mono HB03.out.size)⟩
  go_wp2_with (refine wpList_store_row rfl 76 (.tmp 2) (.tmp 9) rfl w.heap.size _ rfl rfl 76 _ HRES4.out HI24.out HO20.out (all_oneCell_toArray (u8s_one _)) ?_)
  refine bodyPost_ret (v := .agg (u8s bt).toArray) ?_ rfl ⟨bt, HBT, HBL, rfl, ⟨below_setRow HB04.out (Nat.le_refl _) _⟩⟩
  exact results_cell_row Tryz.results45 _ _ w.heap.size 76 _ (0, 0) (.array 20 5) rfl (setRow_heap _ _ _ _ _ _ HRES4.out) Tryz.underlying76 rfl HI24.out

/-- Bytes as a string. -/
def strOf (l : List Nat) : ByteArray := strOfNums (l.map fun (n : Nat) => (n : Int))
end Go.Proofs.YthlagngpllahkaaGreatDoor.Sha
/- Laws on a statement whose order Go leaves open, under a fact S that every operation of it keeps: an operation that yields one value in every world that meets S is taken first; one that stands alone is carried out. -/
namespace Go.Proofs.YthlagngpllahkaaGreatDoor.Sha
open Go.RowKit
section
variable {P : Program} {md : Region.Mode} {ops : Array Oper} {Q : Exit → Act → World → Prop} {S : World → Prop}

/-- What an operation is, without its place and its edges. -/
def opIsG (ops : Array Oper) (i : Nat) (d : Option Tmp) (op : Op) (g : Option (Nat × Bool)) : Prop := (ops[i]?).map (fun o => (o.dst, o.op, o.guard)) = some (d, op, g)
theorem op_ofG {i : Nat} {d : Option Tmp} {op : Op} {g : Option (Nat × Bool)} (h : opIsG ops i d op g) : ∃ o, ops[i]? = some o ∧ o.dst = d ∧ o.op = op ∧ o.guard = g := by
  unfold opIsG at h
  cases ho : ops[i]? with
  | none => rw [ho] at h; cases h
  | some o =>
    rw [ho] at h
    simp only [Option.map_some, Option.some.injEq, Prod.mk.injEq] at h
    exact ⟨o, rfl, h.1, h.2.1, h.2.2⟩
/-- The guard lets the operation run. -/
def lets (ops : Array Oper) (a : Act) : Option (Nat × Bool) → Bool
  | none => true
  | some (j, want) => yielded ops a.tmps j == some want
theorem wanted_of {o : Oper} {a : Act} {g : Option (Nat × Bool)} (hg : o.guard = g) (h : lets ops a g = true) : Region.wanted o (yielded ops a.tmps) = true := by
  unfold Region.wanted
  rw [hg]
  cases g with
  | none => rfl
  | some p => exact h
theorem heldTake {fuel : Nat} {listed : Array Bool} {a : Act} {w : World} {d : Option Tmp} {op : Op} {g : Option (Nat × Bool)} (i : Nat) (v : Value) (hi : opIsG ops i d op g) (hw : lets ops a g = true)
    (hs : Region.noSelect ops = true) (hf : Region.free md ops listed i = true) (hr : (Region.ready md ops listed).contains i = true)
    (hy : ∀ o : Oper, o.op = op → ∀ w, S w → (execOp a.eval o).run P w = .ok (.value v) w) (hS : S w)
    (h : wpAnyH P md ops (NoPanic Q) S fuel (listed.setIfInBounds i true) (a.put d v) w) : wpAnyH P md ops (NoPanic Q) S (fuel + 1) listed a w := by
  obtain ⟨o, ho, hd, hop, hg⟩ := op_ofG hi
  refine wpAnyH_take ho hs hf hr (fun _ _ _ h => h) (Or.inl ⟨wanted_of hg hw, hy o hop⟩) hS ?_
  rw [hd]; exact h
/-- One that its guard passes over. -/
theorem heldSkip {fuel : Nat} {listed : Array Bool} {a : Act} {w : World} {d : Option Tmp} {op : Op} {g : Option (Nat × Bool)} (i : Nat) (hi : opIsG ops i d op g) (hw : lets ops a g = false)
    (hs : Region.noSelect ops = true) (hf : Region.free md ops listed i = true) (hr : (Region.ready md ops listed).contains i = true) (hS : S w)
    (h : wpAnyH P md ops (NoPanic Q) S fuel (listed.setIfInBounds i true) (a.put d undef) w) : wpAnyH P md ops (NoPanic Q) S (fuel + 1) listed a w := by
  obtain ⟨o, ho, hd, hop, hg⟩ := op_ofG hi
  have hwf : Region.wanted o (yielded ops a.tmps) = false := by
    unfold Region.wanted
    rw [hg]
    cases g with
    | none => cases hw
    | some p => exact hw
  refine wpAnyH_take ho hs hf hr (fun _ _ _ h => h) (Or.inr ⟨hwf, rfl⟩) hS ?_
  rw [hd]; exact h
theorem heldRun {fuel : Nat} {listed : Array Bool} {a : Act} {w : World} {d : Option Tmp} {op : Op} {g : Option (Nat × Bool)} (i : Nat) (v : Value) (w' : World) (hi : opIsG ops i d op g) (hw : lets ops a g = true)
    (hr : Region.ready md ops listed = [i]) (hy : ∀ o : Oper, o.op = op → (execOp a.eval o).run P w = .ok (.value v) w') (hS : S w')
    (h : wpAnyH P md ops Q S fuel (listed.setIfInBounds i true) (a.put d v) w') : wpAnyH P md ops Q S (fuel + 1) listed a w := by
  obtain ⟨o, ho, hd, hop, hg⟩ := op_ofG hi
  refine wpAnyH_all hr (by simp) (fun k hk => ?_)
  rw [List.mem_singleton] at hk
  subst hk
  refine wpOp_step ho (fun K hK => ?_)
  rw [if_pos (wanted_of hg hw)]
  unfold Oper.wp
  rw [hy o hop, Oper.upon_value, hd]
  exact hK _ _ ⟨hS, h⟩
theorem heldCall {fuel : Nat} {listed : Array Bool} {a : Act} {w : World} {d : Option Tmp} {op : Op} {g : Option (Nat × Bool)} (i : Nat) (f : FuncId) (args : Array Value) (hi : opIsG ops i d op g) (hw : lets ops a g = true)
    (hr : Region.ready md ops listed = [i]) (hy : ∀ o : Oper, o.op = op → (execOp a.eval o).run P w = .ok (.enter f args) w)
    (h : Calls P f args w fun e w' => ∃ v, e = .returned v ∧ S w' ∧ wpAnyH P md ops Q S fuel (listed.setIfInBounds i true) (a.put d v) w') : wpAnyH P md ops Q S (fuel + 1) listed a w := by
  obtain ⟨o, ho, hd, hop, hg⟩ := op_ofG hi
  refine wpAnyH_all hr (by simp) (fun k hk => ?_)
  rw [List.mem_singleton] at hk
  subst hk
  refine wpOp_step ho (fun K hK => ?_)
  rw [if_pos (wanted_of hg hw)]
  unfold Oper.wp
  rw [hy o hop, Oper.upon_enter]
  refine h.mono ?_
  rintro e w' ⟨v, rfl, hS, h'⟩
  rw [hd]
  exact hK _ _ ⟨hS, h'⟩
/-- A call and an operation that makes memory, neither of which waits for the other: in either order. -/
theorem heldBoth {fuel : Nat} {listed : Array Bool} {a : Act} {w : World} {di dj : Nat} {opi opj : Op} {gi gj : Option (Nat × Bool)} (i j : Nat) (f : FuncId) (args : Array Value) (vi : Value) (T : Value → World → Prop)
    (hi : opIsG ops i (some di) opi gi) (hj : opIsG ops j (some dj) opj gj) (hwi : lets ops a gi = true) (hwi' : ∀ v, lets ops (a.put (some dj) v) gi = true) (hwj : lets ops a gj = true) (hwj' : lets ops (a.put (some di) vi) gj = true)
    (hne : di ≠ dj) (hij : i ≠ j) (hr : Region.ready md ops listed = [i, j]) (hri : Region.ready md ops (listed.setIfInBounds i true) = [j]) (hrj : Region.ready md ops (listed.setIfInBounds j true) = [i])
    (yi : ∀ o : Oper, o.op = opi → ∀ W, (execOp a.eval o).run P W = .ok (.enter f args) W) (yi' : ∀ v, ∀ o : Oper, o.op = opi → ∀ W, (execOp (a.put (some dj) v).eval o).run P W = .ok (.enter f args) W)
    (keepS : ∀ W w', S W → Below W.heap.size W w' → S w') (keepT : ∀ v W w', T v W → Below W.heap.size W w' → T v w')
    (ci : ∀ W, S W → Calls P f args W fun e w' => e = .returned vi ∧ Below W.heap.size W w')
    (yj : ∀ W, ∃ v w', (∀ o : Oper, o.op = opj → (execOp a.eval o).run P W = .ok (.value v) w') ∧ (∀ o : Oper, o.op = opj → (execOp (a.put (some di) vi).eval o).run P W = .ok (.value v) w') ∧ Below W.heap.size W w' ∧ T v w')
    (hS : S w) (tail : ∀ v W, S W → T v W → wpAnyH P md ops Q S fuel ((listed.setIfInBounds i true).setIfInBounds j true) ((a.put (some di) vi).put (some dj) v) W) :
    wpAnyH P md ops Q S (fuel + 2) listed a w := by
  refine wpAnyH_all hr (by simp) (fun k hk => ?_)
  simp only [List.mem_cons, List.not_mem_nil, or_false] at hk
  rcases hk with rfl | rfl
  · obtain ⟨o, ho, hd, hop, hg⟩ := op_ofG hi
    refine wpOp_step ho (fun K hK => ?_)
    rw [if_pos (wanted_of hg hwi)]
    unfold Oper.wp
    rw [yi o hop, Oper.upon_enter]
    refine (ci w hS).mono ?_
    rintro e w1 ⟨rfl, hb1⟩
    rw [hd]
    have hS1 := keepS _ _ hS hb1
    refine hK _ _ ⟨hS1, ?_⟩
    obtain ⟨v, w2, _, y2, hb2, hT⟩ := yj w1
    exact heldRun j v w2 hj hwj' hri y2 (keepS _ _ hS1 hb2) (tail v w2 (keepS _ _ hS1 hb2) hT)
  · obtain ⟨v, w1, y1, _, hb1, hT⟩ := yj w
    obtain ⟨o, ho, hd, hop, hg⟩ := op_ofG hj
    refine wpOp_step ho (fun K hK => ?_)
    rw [if_pos (wanted_of hg hwj)]
    unfold Oper.wp
    rw [y1 o hop, Oper.upon_value, hd]
    have hS1 := keepS _ _ hS hb1
    refine hK _ _ ⟨hS1, ?_⟩
    refine heldCall i f args hi (hwi' v) hrj (fun o ho => yi' v o ho w1) ?_
    refine (ci w1 hS1).mono ?_
    rintro e w2 ⟨rfl, hb2⟩
    refine ⟨_, rfl, keepS _ _ hS1 hb2, ?_⟩
    have ht := tail v w2 (keepS _ _ hS1 hb2) (keepT _ _ _ hT hb2)
    rw [Array.setIfInBounds_comm _ _ hij, Act.put_comm a vi v (by simpa using Ne.symm hne)] at ht
    exact ht
end
end Go.Proofs.YthlagngpllahkaaGreatDoor.Sha
/- Strings and their bytes; what is the same in all of the statements' walks. -/
namespace Go.Proofs.YthlagngpllahkaaGreatDoor.Sha
open Go.RowKit

/-- A string's bytes. -/
def bytes (s : ByteArray) : List Nat := s.data.toList.map (·.toNat)
theorem bytes_length (s : ByteArray) : (bytes s).length = s.size := by unfold bytes; rw [List.length_map, Array.length_toList]; rfl
theorem bytes_small (s : ByteArray) : Small 256 (bytes s) := Small.of_mem (by decide) (fun x hx => by
  simp only [bytes, List.mem_map] at hx
  obtain ⟨b, _, rfl⟩ := hx
  exact b.toNat_lt)
theorem bytes_append (a b : ByteArray) : bytes (a ++ b) = bytes a ++ bytes b := by simp [bytes]
theorem bytes_getD (s : ByteArray) (i : Nat) (hi : i < s.size) : (bytes s).getD i 0 = (s.data[i]'hi).toNat := by
  have hi' : i < s.data.size := hi
  simp only [bytes, List.getD, List.getElem?_map, Array.getElem?_toList, Array.getElem?_eq_getElem hi']
  rfl
/-- The bytes of a string, made new. -/
theorem conv_str (s : ByteArray) (W : World) : ∃ cap w', (convert 9 53 (.string s)).run Tryz.prog W = .ok (.slice (some ⟨W.heap.size, 0, none⟩) s.size cap) w' ∧
    Sl (∀ b, b ≠ W.heap.size → SrcAt w' b (.slice (some ⟨W.heap.size, 0, none⟩) s.size cap) (bytes s)) ∧ Sl (Below W.heap.size W w') := by
  refine ⟨_, _, run_bytes_of_string (P := Tryz.prog) W 9 53 5 s Tryz.underlying9 Tryz.underlying53 Tryz.underlying5, ⟨fun b hb => ?_⟩, ⟨((Below.refl _ _).drew).alloc (Nat.le_refl _) _⟩⟩
  refine ⟨some ⟨W.heap.size, 0, none⟩, _, W.heap.size, 0, by rw [bytes_length], by rw [bytes_length]; exact grownCap_ge _ _ _ _, fun _ => rfl, fun _ => Ne.symm hb, fun i hi => ?_⟩
  rw [bytes_length] at hi
  rw [Nat.zero_add]
  have h := World.cell?_alloc_mark W.drew (bytesRow s (grownCap W s.size 0 5)) 5 ((bytesRow s (grownCap W s.size 0 5)).size, (bytesRow s (grownCap W s.size 0 5)).size + 1) i
  rw [show W.drew.heap.size = W.heap.size from rfl] at h
  rw [h, bytesRow_at s _ i hi, bytes_getD s i hi]
end Go.Proofs.YthlagngpllahkaaGreatDoor.Sha
/- The contract of awake of the statements' package: it answers true; nothing that was in memory changes. Condition: the two tables are as the text lays them. -/
namespace Go.Proofs.YthlagngpllahkaaGreatDoor.Sha
open Go.RowKit

theorem src_any {w : World} {b g n c : Nat} {l : List Nat} {t : TypeId} {fr : Nat × Nat} (h : w.heap[g]? = some (.cells (u8s l).toArray t fr)) (hn : l.length = n) (hc : n ≤ c) (hne : g ≠ b) : SrcAt w b (.slice (some ⟨g, 0, none⟩) n c) l :=
  ⟨some ⟨g, 0, none⟩, c, g, 0, by rw [hn], by omega, fun _ => rfl, fun _ => hne, fun i hi => by
    rw [Nat.zero_add, cell_of_row _ _ _ _ _ _ h]
    simpa using u8s_get l i hi⟩
theorem src_nil (w : World) (b : Nat) : SrcAt w b (.slice none 0 0) [] := ⟨none, 0, 0, 0, rfl, by simp, fun h => by simp at h, fun h => by simp at h, fun i hi => by simp at hi⟩

/-- Add, in a call that began in w0 and made the sum itself. -/
theorem add_ex (w0 W : World) (b : Nat) (s : St) (bs : List Nat) (v : Value) (h0 : w0.heap.size ≤ b) (hB : Below w0.heap.size w0 W) (hg : Globs w0) (hs : SumAt W b s) (ok : OkSt s) (hv : SrcAt W b v bs) (hsm : Small 256 bs) (hL : s.L + bs.length < 1000000000) :
    Calls Tryz.prog 83 #[.pointer (some ⟨b, 0, none⟩), v] W fun e w' => e = .returned (.tuple #[]) ∧ Sl (SumAt w' b (feed s bs)) ∧ Sl (Below w0.heap.size w0 w') ∧ Sl (W.grownBy w' (some b)) :=
  (add_any b s bs v W hs ok hv hsm (hg.below hB hg.size) (by have := hg.size; omega) (by omega)).mono fun _ _ ⟨he, h1, h2⟩ => ⟨he, ⟨h1⟩, ⟨hB.trans ⟨h2.os, h2.tape, h2.output, h2.size, fun k hk => h2.block k (by have := hB.size; omega) (fun e => by injection e with e; omega)⟩⟩, ⟨h2⟩⟩
theorem sumAt_alloc {w : World} {b : Nat} {s : St} (h : SumAt w b s) (o : Obj) : SumAt (w.alloc o) b s := by
  have hlt : b < w.heap.size := (Array.getElem?_eq_some_iff.1 h).1
  show _ = _
  rw [alloc_old _ _ _ hlt]; exact h
theorem sumAt_lt {w : World} {b : Nat} {s : St} (h : SumAt w b s) : b < w.heap.size := (Array.getElem?_eq_some_iff.1 h).1

theorem u8s_cells (l : List Nat) (h : Small 256 l) : u8s l = (l.map UInt8.ofNat).map Extern.Stop.cell := by
  simp only [u8s, List.map_map]
  refine List.map_congr_left (fun x hx => ?_)
  have hx' := h.mem x hx
  simp only [v8, Function.comp_def, Extern.Stop.cell]
  congr 1
  rw [UInt8.toNat_ofNat_of_lt' hx']
  rfl
theorem below_alloc5 {w5 W : World} (h : Sl (Below w5.heap.size w5 W)) (o : Obj) : Sl (Below w5.heap.size w5 (W.alloc o)) := ⟨h.out.alloc h.out.size o⟩
theorem src_abc (W : World) (fr : Nat × Nat) : Sl (∃ b0, SrcAt (W.alloc (.cells #[.int .u8 97, .int .u8 98, .int .u8 99] 5 fr)) b0 (.slice (some ⟨W.heap.size, 0, none⟩) 3 3) [97, 98, 99]) :=
  ⟨⟨W.heap.size + 1, src_any (l := [97, 98, 99]) (alloc_new _ _ _ rfl) rfl (Nat.le_refl _) (by omega)⟩⟩
theorem keep5 {w5 W : World} {B : Nat} {l : List Value} (hr : Sl (w5.rangeAt B 0 l)) (hB : B < w5.heap.size) (h : Sl (Below w5.heap.size w5 W)) : W.rangeAt B 0 l ∧ Below w5.heap.size w5 W :=
  ⟨fun j v hv => by rw [h.out.cell (p := ⟨B, 0 + j, none⟩) hB]; exact hr.out j v hv, h.out⟩
theorem drew5 {w5 W : World} (h : Sl (Below w5.heap.size w5 W)) : Sl (Below w5.heap.size w5 W.drew) := ⟨h.out.drew⟩

end Go.Proofs.YthlagngpllahkaaGreatDoor.Sha
/- ShaNothing, the walk: whatever two strings are handed over, the law's Go text returns true, and nothing that was in memory changes. Conditions: the two tables of package sha are as its text lays them; the strings fit in memory. -/
namespace Go.Proofs.YthlagngpllahkaaGreatDoor.Sha
open Go.RowKit

theorem new_ex (w : World) (hg : Globs w) :
    Calls Tryz.prog 82 #[] w fun e w' => e = .returned (.pointer (some ⟨w.heap.size, 0, none⟩)) ∧ Sl (SumAt w' w.heap.size st0) ∧ Sl (Below w.heap.size w w') :=
  (new_any w hg).mono fun _ _ ⟨he, hw⟩ => ⟨he, ⟨by rw [hw]; exact alloc_new _ _ _ rfl⟩, ⟨by rw [hw]; exact (Below.refl _ _).alloc (Nat.le_refl _) _⟩⟩
theorem range_setRow (w : World) {g : Nat} {old : Array Value} {t : TypeId} {fr : Nat × Nat} (l : List Value) (h : w.heap[g]? = some (.cells old t fr)) : (w.setRow g l.toArray).rangeAt g 0 l := fun j v hv => by
  rw [Nat.zero_add, cell_of_row _ _ _ _ _ _ (setRow_heap _ _ _ _ _ _ h)]
  simpa using hv
theorem src_empty (w : World) (b : Nat) (a : Option Addr) (c : Nat) : SrcAt w b (.slice a 0 c) [] := ⟨a, c, 0, 0, rfl, by simp, fun h => by simp at h, fun h => by simp at h, fun i hi => by simp at hi⟩
theorem range_grown {w w' : World} {b T : Nat} {l : List Value} (h : w.rangeAt T 0 l) (hg : w.grownBy w' (some b)) (hT : T ≠ b) (hlt : T < w.heap.size) : w'.rangeAt T 0 l := fun j v hv => by
  rw [World.cell?_of_block (w := w) (hg.block T hlt (fun e => hT (by injection e)))]; exact h j v hv

theorem keepTwo {wz W : World} {A B : Nat} {l m : List Value} (ha : Sl (wz.rangeAt A 0 l)) (hb : Sl (wz.rangeAt B 0 m)) (hA : A < wz.heap.size) (hB : B < wz.heap.size) (h : Below wz.heap.size wz W) :
    W.rangeAt A 0 l ∧ W.rangeAt B 0 m ∧ Below wz.heap.size wz W :=
  ⟨fun j v hv => by rw [h.cell (p := ⟨A, 0 + j, none⟩) hA]; exact ha.out j v hv, fun j v hv => by rw [h.cell (p := ⟨B, 0 + j, none⟩) hB]; exact hb.out j v hv, h⟩
theorem below_step {wz W w' : World} (h : Below wz.heap.size wz W) (hb : Below W.heap.size W w') : Below wz.heap.size wz w' := h.trans (hb.mono h.size)
theorem src_later {W w' : World} {v : Value} {bs : List Nat} (h : Sl (∃ b0, SrcAt W b0 v bs)) (hb : Below W.heap.size W w') : Sl (∃ b0, SrcAt w' b0 v bs) := h.out.elim fun _ h => ⟨⟨_, h.later hb (Nat.le_refl _)⟩⟩
theorem ofW (W : World) (hg : Globs W) (v : Value) (bs bt : List Nat) (hv : Sl (∃ b0, SrcAt W b0 v bs)) (hs : Small 256 bs) (hL : bs.length < 1000000000) (hbt : Sl (bt = told (feed st0 bs))) :
    Calls Tryz.prog 45 #[v] W fun e w' => e = .returned (.agg (u8s bt).toArray) ∧ Below W.heap.size W w' :=
  hv.out.elim fun b0 hv => (of_any b0 v bs W hv hs hg hL).mono fun _ _ ⟨b1, h1, _, he, hb⟩ => ⟨by rw [he, h1.out, hbt.out], hb.out⟩
theorem toldW (W : World) (hg : Globs W) (b : Nat) (s : St) (bt : List Nat) (hs : SumAt W b s) (ok : OkSt s) (hL : s.L < 1000000000) (hbt : Sl (bt = told s)) :
    Calls Tryz.prog 84 #[.pointer (some ⟨b, 0, none⟩)] W fun e w' => e = .returned (.agg (u8s bt).toArray) ∧ Below W.heap.size W w' :=
  (told_any b s W hs ok hg hL).mono fun _ _ ⟨he, hb⟩ => ⟨by rw [he, hbt.out], hb⟩

end Go.Proofs.YthlagngpllahkaaGreatDoor.Sha
/- The contract of fill of the statements' package: so many of a byte, as a string; nothing that was in memory changes. Condition: at most a million. -/
namespace Go.Proofs.YthlagngpllahkaaGreatDoor.Sha
open Go.RowKit

/-- So many of a byte. -/
def reps (n v : Nat) : List Nat := List.replicate n v
theorem reps_length (n v : Nat) : (reps n v).length = n := by simp [reps]
theorem reps_small (n v : Nat) (h : v < 256) : Small 256 (reps n v) := Small.of_mem (by decide) (fun x hx => by simp [reps] at hx; omega)
/-- What the loop of fill holds to. -/
def FL (w : World) (n v k : Nat) (wr : World) : Prop :=
  ∃ bs : List Nat, bs.length = n ∧ bs.take k = reps k v ∧ wr.heap.size = w.heap.size + 1 ∧ wr.heap[w.heap.size]? = some (.cells (u8s bs).toArray 5 (0, 0)) ∧ Below w.heap.size w wr
theorem FL.next {w wr : World} {n v k : Nat} (h : FL w n v k wr) (hk : k < n) : FL w n v (k + 1) (wr.setCell ⟨w.heap.size, k, none⟩ (.int .u8 (v : Int))) := by
  obtain ⟨ws, h1, h3, h4, h7, h8⟩ := h
  refine ⟨ws.set k v, by simpa using h1, ?_, ?_, ?_, h8.setCell (by simp) _⟩
  · rw [take_set_succ _ _ _ (by omega), h3]
    simp [reps, List.replicate_succ']
  · simpa [World.setCell] using h4
  · rw [heap_setCell_same _ _ _ _ _ _ h7, u8s_set]

theorem conv_back {W : World} {g n c : Nat} (l : List Nat) (hn : l.length = n) (h : W.rangeAt g 0 (u8s l)) : (convert 53 9 (.slice (some ⟨g, 0, none⟩) n c)).run Tryz.prog W = .ok (.string (strOf l)) W :=
  run_convert_bytes_arg W 53 5 Tryz.underlying53 Tryz.underlying5 g 0 n c (l.map fun (n : Nat) => (n : Int)) (by simp [hn]) (fun i hi => by
    rw [h i _ (u8s_get l i (by omega))]
    cases h : l[i]? <;> simp [List.getD, h]) 9 Tryz.underlying9

end Go.Proofs.YthlagngpllahkaaGreatDoor.Sha
