/- The contracts of New, Len, Told and Of of package sha. -/
import Derived.Test.YtmiemklgekhfeaaDoorF
import Derived.Deep.Cut
namespace Go.Proofs.YtmiemklgekhfeaaDoor
open Go.RowKit

set_option maxHeartbeats 400000 in
theorem new_any (w : World) (hg : Globs w) :
    Calls Tryd.prog 13 #[] w fun e w' => e = .returned (.pointer (some ⟨w.heap.size, 0, none⟩)) ∧ w' = w.alloc (.cells (sumCells st0).toArray 53) := by
  have HI50 : Sl ((Tryd.prog.info? 50).map (·.size) = some (u32s start).length) := ⟨by kernel_rfl⟩
  have HR := Sl.mk hg.1
  have HB : Sl ((Tryd.prog.built 53 [(0, .agg (u32s start).toArray)]).getD #[] = (sumCells st0).toArray) := ⟨by kernel_rfl⟩
  clear hg
  go_enter Tryd.func13, Tryd.ntmps13
  go_wp2_with (first
    | (refine wpList_load_mid rfl 50 (.global 0) rfl 0 0 rfl (u32s start) (.array 5 49) HR.out Tryd.underlying50 rfl HI50.out ?_)
    | (refine wpList_build rfl 53 _ rfl (by kernel_rfl) ?_))
  go_ret
  exact ⟨rfl, by rw [HB.out]⟩

set_option maxHeartbeats 400000 in
theorem len_any (b : Nat) (s : St) (w : World) (hs : SumAt w b s) (ok : OkSt s) :
    Calls Tryd.prog 16 #[.pointer (some ⟨b, 0, none⟩)] w fun e w' => e = .returned (.int .u64 (s.L : Int)) ∧ w = w' := by
  have cL := sumAt_len hs ok
  clear hs ok
  go_enter Tryd.func16, Tryd.ntmps16
  go_wp2
  go_ret
  exact ⟨rfl, rfl⟩

/-- The sum that is told. -/
def told (s : St) : List Nat := bytesOf (feed s (endOf s.L)).p 20
theorem told_length (s : St) : (told s).length = 20 := bytesOf_length _ 20
theorem told_small (s : St) : Small 256 (told s) := bytesOf_small _ 20

theorem part_ex (p : List Nat) (w : World) (hp : p.length = 5) (hps : Small 4294967296 p) :
    Calls Tryd.prog 26 #[.agg (u32s p).toArray] w fun e w' => ∃ bt : List Nat, Sl (bt = bytesOf p 20) ∧ Sl (bt.length = 20) ∧ e = .returned (.agg (u8s bt).toArray) ∧ Sl (Below w.heap.size w w') :=
  (partBytes_any p w hp hps).mono fun _ _ ⟨he, hb⟩ => ⟨_, ⟨rfl⟩, ⟨bytesOf_length _ 20⟩, he, ⟨hb⟩⟩
theorem ending_ex (L : Nat) (w : World) (hL : L < 4294967296) :
    Calls Tryd.prog 25 #[.int .u64 L] w fun e w' => ∃ (en : List Nat) (n : Nat), Sl (en = endOf L) ∧ Sl (en.length = n) ∧ e = .returned (.slice (some ⟨w.heap.size, 0, none⟩) n n) ∧
      Sl (w'.heap[w.heap.size]? = some (.cells (u8s en).toArray 5 (0, 0))) ∧ Sl (w'.heap.size = w.heap.size + 1) ∧ Sl (Below w.heap.size w w') :=
  (ending_any L w hL).mono fun _ _ ⟨he, h1, h2, h3⟩ => ⟨_, _, ⟨rfl⟩, ⟨endOf_length L⟩, he, ⟨h1⟩, ⟨h2⟩, ⟨h3⟩⟩
/-- Bytes in a row of their own. -/
theorem src_row {w : World} {b g n : Nat} {l : List Nat} {t : TypeId} (h : w.heap[g]? = some (.cells (u8s l).toArray t (0, 0))) (hn : l.length = n) (hne : g ≠ b) : SrcAt w b (.slice (some ⟨g, 0, none⟩) n n) l :=
  ⟨some ⟨g, 0, none⟩, n, g, 0, by rw [hn], by omega, fun _ => rfl, fun _ => hne, fun i hi => by rw [Nat.zero_add]; exact row_cell h i _ (u8s_get l i hi)⟩

def z70 : St := ⟨z5, zs 64, 0⟩
theorem info53 : (Tryd.prog.info? 53).map (fun i => (i.zero, i.size)) = some (some (.agg (sumCells z70).toArray), 70) := by kernel_rfl
theorem zero53 : ∀ w, (zeroValue 53).run Tryd.prog w = .ok (.agg (sumCells z70).toArray) w := (zero_of_info info53).1
theorem sumCells_one (s : St) : ∀ v ∈ sumCells s, v.oneCell' = true := by
  intro v hv
  simp only [sumCells, List.mem_append, List.mem_singleton] at hv
  rcases hv with hv | hv | rfl
  · exact u32s_one _ v hv
  · exact u8s_one _ v hv
  · rfl

/-- What stands before Told calls anything. -/
structure TW (w w1 : World) (b : Nat) (s : St) : Prop where
  own : SumAt w1 (w.heap.size + 1) s
  old : SumAt w1 b s
  res : w1.heap[w.heap.size]? = some (.cells (u8s z20).toArray 24 (0, 0))
  size : w1.heap.size = w.heap.size + 2
  below : Below w.heap.size w w1
theorem tw_start (w : World) (b : Nat) (s : St) (hs : SumAt w b s) : TW w (((w.alloc (.cells (u8s z20).toArray 24)).alloc (.cells (sumCells z70).toArray 53)).setRow (w.heap.size + 1) (sumCells s).toArray) b s := by
  have hlt : b < w.heap.size := (Array.getElem?_eq_some_iff.1 hs).1
  have s1 := alloc_size w (.cells (u8s z20).toArray 24)
  have s2 := alloc_size (w.alloc (.cells (u8s z20).toArray 24)) (.cells (sumCells z70).toArray 53)
  refine ⟨?_, ?_, ?_, ?_, ?_⟩
  · exact setRow_heap _ _ _ _ _ _ (alloc_new _ _ _ (by omega))
  · show _ = _
    rw [setRow_other _ _ _ _ (by omega), alloc_old _ _ _ (by omega), alloc_old _ _ _ (by omega)]; exact hs
  · rw [setRow_other _ _ _ _ (by omega), alloc_old _ _ _ (by omega), alloc_new _ _ _ rfl]
  · rw [setRow_size]; omega
  · exact below_setRow (((Below.refl _ _).alloc (Nat.le_refl _) _).alloc (by omega) _) (by omega) _

set_option maxHeartbeats 400000 in
theorem told_any (b : Nat) (s : St) (w : World) (hs : SumAt w b s) (ok : OkSt s) (hg : Globs w) (hL : s.L < 1000000000) :
    Calls Tryd.prog 15 #[.pointer (some ⟨b, 0, none⟩)] w fun e w' => e = .returned (.agg (u8s (told s)).toArray) ∧ Below w.heap.size w w' := by
  have HS := Sl.mk hs
  have OK := Sl.mk ok
  have HG := Sl.mk hg
  have HL := Sl.mk hL
  have hlt : b < w.heap.size := (Array.getElem?_eq_some_iff.1 hs).1
  have HI53 : Sl ((Tryd.prog.info? 53).map (·.size) = some (sumCells s).toArray.size) := ⟨by
    have := (zero_of_info info53).2
    simpa [sumCells_length ok] using this⟩
  have HO : Sl ((sumCells z70).toArray.size = (sumCells s).toArray.size) := ⟨by
    have : (sumCells z70).length = 70 := rfl
    simp [sumCells_length ok, this]⟩
  have HT : Sl (told s = bytesOf (feed s (endOf s.L)).p 20) := ⟨rfl⟩
  have hz := zero53
  clear hs ok hg hL
  go_enter Tryd.func15, Tryd.ntmps15
  go_upto_region 2 with (first
    | (refine wpList_load_row rfl 53 (.tmp 5) rfl b rfl 53 _ (0, 0) (.struct _) (by rw [alloc_old _ _ _ hlt]; exact HS.out) Tryd.underlying53 rfl HI53.out ?_)
    | (refine wpList_store_row rfl 53 (.tmp 3) (.tmp 6) rfl (w.heap.size + 1) _ rfl rfl 53 _ (alloc_new _ _ _ (by simp)) HI53.out HO.out (all_oneCell_toArray (sumCells_one s)) ?_))
  generalize hw1 : World.setRow _ _ _ = w1
  have HTW : Sl (TW w w1 b s) := ⟨by rw [← hw1]; exact tw_start w b s HS.out⟩
  have cL := sumAt_len HTW.out.old OK.out
  clear hw1 hz HI53 HO HS
  go_wp2_with fail
  refine (ending_ex s.L _ (by have := HL.out; omega)).mono ?_
  rintro e w2 ⟨en, n, HEN, HN, rfl, HR2, HZ2, HB2⟩
  go_wp2_with fail
  have hz1 : Sl (w1.heap.size = w.heap.size + 2) := ⟨HTW.out.size⟩
  have HOWN : Sl (SumAt w2 (w.heap.size + 1) s) := ⟨by
    show _ = _
    rw [HB2.out.block _ (by rw [hz1.out]; omega)]; exact HTW.out.own⟩
  have HB02 : Sl (Below w.heap.size w w2) := ⟨HTW.out.below.trans (HB2.out.mono (by rw [hz1.out]; omega))⟩
  have HRES2 : Sl (w2.heap[w.heap.size]? = some (.cells (u8s z20).toArray 24 (0, 0))) := ⟨by rw [HB2.out.block _ (by rw [hz1.out]; omega)]; exact HTW.out.res⟩
  have hen : n ≤ 72 := by rw [← HN.out, HEN.out, endOf_length]; have : nought s.L < 64 := by { unfold nought; omega }; omega
  have HSM : Sl (Small 256 en) := ⟨by rw [HEN.out]; exact endOf_small _⟩
  refine (add_any (w.heap.size + 1) s en _ _ HOWN.out OK.out (src_row HR2.out HN.out (by rw [hz1.out]; omega)) HSM.out (HG.out.below HB02.out HG.out.size) (by have := HG.out.size; omega) (by rw [HN.out]; have := HL.out; omega)).mono ?_
  rintro e w3 ⟨rfl, hs3, hg3⟩
  have HS3 := Sl.mk hs3
  have ok3 : OkSt (feed s en) := OK.out.feed HSM.out.mem
  have HP3 : Sl (bytesOf (feed s en).p 20 = told s) := ⟨by rw [HT.out, HEN.out]⟩
  have HB03 : Sl (Below w.heap.size w w3) := ⟨HB02.out.trans ⟨hg3.os, hg3.tape, hg3.output, hg3.size, fun k hk => hg3.block k (by have := HB02.out.size; omega) (fun e => by injection e with e; omega)⟩⟩
  have HRES3 : Sl (w3.heap[w.heap.size]? = some (.cells (u8s z20).toArray 24 (0, 0))) := ⟨by
    rw [hg3.block _ (by have := (Array.getElem?_eq_some_iff.1 HRES2.out).1; omega) (fun e => by injection e with e; omega)]; exact HRES2.out⟩
  have HRA : Sl (w3.rangeAt (w.heap.size + 1) 0 (u32s (feed s en).p)) := ⟨sumAt_parts hs3⟩
  have HPL : Sl ((feed s en).p.length = 5) := ⟨ok3.pl⟩
  have HPS : Sl (Small 4294967296 (feed s en).p) := ⟨ok3.ps⟩
  clear hs3 ok3 hg3 HS3 HOWN HB02 HRES2 HSM HR2 HZ2 HB2 HEN HN hen HT cL HTW hz1
  generalize (feed s en).p = p3 at *
  have HI50 : Sl ((Tryd.prog.info? 50).map (·.size) = some (u32s p3).length) := ⟨by
    have : (Tryd.prog.info? 50).map (·.size) = some 5 := by kernel_rfl
    simpa [HPL.out] using this⟩
  go_wp2_with (refine wpList_load_mid rfl 50 (.tmp 13) rfl (w.heap.size + 1) 0 rfl (u32s p3) (.array 5 49) HRA.out Tryd.underlying50 rfl HI50.out ?_)
  refine (part_ex p3 _ HPL.out HPS.out).mono ?_
  rintro e w4 ⟨bt, HBT, HBL, rfl, HB4⟩
  have HI24 : Sl ((Tryd.prog.info? 24).map (·.size) = some (u8s bt).toArray.size) := ⟨by
    have : (Tryd.prog.info? 24).map (·.size) = some 20 := by kernel_rfl
    simpa [HBL.out] using this⟩
  have HO20 : Sl ((u8s z20).toArray.size = (u8s bt).toArray.size) := ⟨by simp [HBL.out, z20]⟩
  have HRES4 : Sl (w4.heap[w.heap.size]? = some (.cells (u8s z20).toArray 24 (0, 0))) := ⟨by rw [HB4.out.block _ (Array.getElem?_eq_some_iff.1 HRES3.out).1]; exact HRES3.out⟩
  have HB04 : Sl (Below w.heap.size w w4) := ⟨HB03.out.trans (HB4.out.mono HB03.out.size)⟩
  go_wp2_with (refine wpList_store_row rfl 24 (.tmp 2) (.tmp 15) rfl w.heap.size _ rfl rfl 24 _ HRES4.out HI24.out HO20.out (all_oneCell_toArray (u8s_one _)) ?_)
  refine bodyPost_ret (v := .agg (u8s bt).toArray) ?_ rfl ⟨by rw [HBT.out, HP3.out], below_setRow HB04.out (Nat.le_refl _) _⟩
  exact results_cell_row Tryd.results15 _ _ w.heap.size 24 _ (0, 0) (.array 20 5) rfl (setRow_heap _ _ _ _ _ _ HRES4.out) Tryd.underlying24 rfl HI24.out
end Go.Proofs.YtmiemklgekhfeaaDoor
