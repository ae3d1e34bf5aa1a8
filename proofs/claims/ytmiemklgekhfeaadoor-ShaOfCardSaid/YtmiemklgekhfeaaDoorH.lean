/- The contracts of Of of package sha, and of text and fill of the statements' package. -/
import Derived.Test.YtmiemklgekhfeaaDoorG
import Derived.Laws.IdiomStrings
import Derived.Laws.BytesArg
import Derived.Lib.SlBytesConst
namespace Go.Proofs.YtmiemklgekhfeaaDoor
open Go.RowKit

theorem SrcAt.later {w w' : World} {b b' : Nat} {v : Value} {bs : List Nat} (h : SrcAt w b v bs) (hb : Below w.heap.size w w') (hb' : w.heap.size ≤ b') : SrcAt w' b' v bs := by
  obtain ⟨a, cap, sb, so, h0, h1, h3, h4, h5⟩ := h
  have hsb : 0 < bs.length → sb < w.heap.size := fun hp => block_lt_of_cell (h5 0 hp)
  exact ⟨a, cap, sb, so, h0, h1, h3, fun hp => by have := hsb hp; omega, fun i hi => by rw [hb.cell (p := ⟨sb, so + i, none⟩) (hsb (by omega))]; exact h5 i hi⟩

theorem told_ex (b : Nat) (s : St) (w : World) (hs : SumAt w b s) (ok : OkSt s) (hg : Globs w) (hL : s.L < 1000000000) :
    Calls Tryd.prog 15 #[.pointer (some ⟨b, 0, none⟩)] w fun e w' => ∃ bt : List Nat, Sl (bt = told s) ∧ Sl (bt.length = 20) ∧ e = .returned (.agg (u8s bt).toArray) ∧ Sl (Below w.heap.size w w') :=
  (told_any b s w hs ok hg hL).mono fun _ _ ⟨he, hb⟩ => ⟨_, ⟨rfl⟩, ⟨told_length s⟩, he, ⟨hb⟩⟩

set_option maxHeartbeats 400000 in
theorem of_any (b0 : Nat) (v : Value) (bs : List Nat) (w : World) (hv : SrcAt w b0 v bs) (hsm : Small 256 bs) (hg : Globs w) (hL : bs.length < 1000000000) :
    Calls Tryd.prog 11 #[v] w fun e w' => ∃ bt : List Nat, Sl (bt = told (feed st0 bs)) ∧ Sl (bt.length = 20) ∧ e = .returned (.agg (u8s bt).toArray) ∧ Sl (Below w.heap.size w w') := by
  have HV := Sl.mk hv
  have HSM := Sl.mk hsm
  have HG := Sl.mk hg
  have HL := Sl.mk hL
  obtain ⟨W, hW⟩ : ∃ W, W = w.alloc (.cells (u8s z20).toArray 24) := ⟨_, rfl⟩
  have HW := Sl.mk hW
  have HB1 : Sl (Below w.heap.size w W) := ⟨by rw [HW.out]; exact (Below.refl _ _).alloc (Nat.le_refl _) _⟩
  have HZ1 : Sl (W.heap.size = w.heap.size + 1) := ⟨by rw [HW.out]; exact alloc_size _ _⟩
  have HRES1 : Sl (W.heap[w.heap.size]? = some (.cells (u8s z20).toArray 24 (0, 0))) := ⟨by rw [HW.out]; exact alloc_new _ _ _ rfl⟩
  have HG1 : Sl (Globs W) := ⟨HG.out.below HB1.out HG.out.size⟩
  clear hv hsm hg hL hW
  go_enter Tryd.func11, Tryd.ntmps11
  go_wp2_with fail
  generalize hw1 : World.alloc _ _ = w1
  obtain rfl : w1 = W := by rw [← hw1, HW.out]; rfl
  clear hw1 HW
  refine (new_any _ HG1.out).mono ?_
  rintro e w2 ⟨rfl, hw2⟩
  have HS2 : Sl (SumAt w2 w1.heap.size st0) := ⟨by rw [hw2]; exact alloc_new _ _ _ rfl⟩
  have HB2 : Sl (Below w1.heap.size w1 w2) := ⟨by rw [hw2]; exact (Below.refl _ _).alloc (Nat.le_refl _) _⟩
  have HB02 : Sl (Below w.heap.size w w2) := ⟨HB1.out.trans (HB2.out.mono HB1.out.size)⟩
  have HRES2 : Sl (w2.heap[w.heap.size]? = some (.cells (u8s z20).toArray 24 (0, 0))) := ⟨by rw [HB2.out.block _ (by rw [HZ1.out]; omega)]; exact HRES1.out⟩
  clear hw2
  go_wp2_with fail
  refine (add_any w1.heap.size st0 bs v _ HS2.out okSt0 (HV.out.later HB02.out (by rw [HZ1.out]; omega)) HSM.out (HG.out.below HB02.out HG.out.size) (by have := HG.out.size; rw [HZ1.out]; omega)
    (by have := HL.out; show 0 + _ < _; omega)).mono ?_
  rintro e w3 ⟨rfl, hs3, hg3⟩
  have HS3 := Sl.mk hs3
  have OK3 : Sl (OkSt (feed st0 bs)) := ⟨okSt0.feed HSM.out.mem⟩
  have HL3 : Sl ((feed st0 bs).L < 1000000000) := ⟨by rw [feed_L]; have := HL.out; show 0 + _ < _; omega⟩
  have HB03 : Sl (Below w.heap.size w w3) := ⟨HB02.out.trans ⟨hg3.os, hg3.tape, hg3.output, hg3.size, fun k hk => hg3.block k (by have := HB02.out.size; omega) (fun e => by injection e with e; have := HZ1.out; omega)⟩⟩
  have HRES3 : Sl (w3.heap[w.heap.size]? = some (.cells (u8s z20).toArray 24 (0, 0))) := ⟨by
    rw [hg3.block _ (by have := (Array.getElem?_eq_some_iff.1 HRES2.out).1; omega) (fun e => by injection e with e; have := HZ1.out; omega)]; exact HRES2.out⟩
  clear hs3 hg3
  go_wp2_with fail
  refine (told_ex w1.heap.size (feed st0 bs) _ HS3.out OK3.out (HG.out.below HB03.out HG.out.size) HL3.out).mono ?_
  rintro e w4 ⟨bt, HBT, HBL, rfl, HB4⟩
  have HI24 : Sl ((Tryd.prog.info? 24).map (·.size) = some (u8s bt).toArray.size) := ⟨by
    have : (Tryd.prog.info? 24).map (·.size) = some 20 := by kernel_rfl
    simpa [HBL.out] using this⟩
  have HO20 : Sl ((u8s z20).toArray.size = (u8s bt).toArray.size) := ⟨by simp [HBL.out, z20]⟩
  have HRES4 : Sl (w4.heap[w.heap.size]? = some (.cells (u8s z20).toArray 24 (0, 0))) := ⟨by rw [HB4.out.block _ (Array.getElem?_eq_some_iff.1 HRES3.out).1]; exact HRES3.out⟩
  have HB04 : Sl (Below w.heap.size w w4) := ⟨HB03.out.trans (HB4.out.mono HB03.out.size)⟩
  go_wp2_with (refine wpList_store_row rfl 24 (.tmp 2) (.tmp 9) rfl w.heap.size _ rfl rfl 24 _ HRES4.out HI24.out HO20.out (all_oneCell_toArray (u8s_one _)) ?_)
  refine bodyPost_ret (v := .agg (u8s bt).toArray) ?_ rfl ⟨bt, HBT, HBL, rfl, ⟨below_setRow HB04.out (Nat.le_refl _) _⟩⟩
  exact results_cell_row Tryd.results11 _ _ w.heap.size 24 _ (0, 0) (.array 20 5) rfl (setRow_heap _ _ _ _ _ _ HRES4.out) Tryd.underlying24 rfl HI24.out

/-- Bytes as a string. -/
def strOf (l : List Nat) : ByteArray := strOfNums (l.map fun (n : Nat) => (n : Int))
set_option maxHeartbeats 400000 in
theorem text_any (t : List Nat) (w : World) (ht : t.length = 20) :
    Calls Tryd.prog 10 #[.agg (u8s t).toArray] w fun e w' => e = .returned (.string (strOf t)) ∧ Below w.heap.size w w' := by
  have hc : ∀ dst, Tryd.prog.underlying dst = some .string → (convert 26 dst (.slice (some ⟨w.heap.size, 0, none⟩) 20 20)).run Tryd.prog (w.alloc (.cells (u8s t).toArray 24)) = .ok (.string (strOf t)) (w.alloc (.cells (u8s t).toArray 24)) :=
    run_convert_bytes_arg _ 26 5 Tryd.underlying26 Tryd.underlying5 w.heap.size 0 20 20 (t.map fun (n : Nat) => (n : Int)) (by simp [ht]) (fun i hi => by
      rw [Nat.zero_add, row_cell (alloc_new _ _ _ rfl) i _ (u8s_get t i (by omega))]
      cases h : t[i]? <;> simp [List.getD, h])
  have hc9 := hc 9 Tryd.underlying9
  have HT := Sl.mk ht
  clear hc ht
  go_enter Tryd.func10, Tryd.ntmps10
  go_wp2
  go_ret
  exact ⟨rfl, (Below.refl _ _).alloc (Nat.le_refl _) _⟩
end Go.Proofs.YtmiemklgekhfeaaDoor
