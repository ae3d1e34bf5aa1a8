/- mask: Key. -/
import Derived.Test.YtleekkjaoccjlaaDoorD
import Derived.Deep.DeepCutAuto
set_option maxRecDepth 100000
namespace Go.Proofs.YtleekkjaoccjlaaDoor
open Go.RowKit MaskPlain

set_option maxHeartbeats 2000000 in
theorem key_any (n : Nat) (w : World) (hn : n < 4294967296) : Calls Tryd.prog 17 #[.int .u32 n] w fun e w' => e = .returned (.agg (u8s (be n 4)).toArray) ∧ Sl (Below w.heap.size w w') := by
  have f1 : IntKind.u64.wrap (n : Int) = (n : Int) := by rw [IntKind.wrap_u64]; omega
  obtain ⟨g, hg⟩ : ∃ g, w.heap.size = g := ⟨_, rfl⟩
  go_enter Tryd.func17, Tryd.ntmps17
  go_upto_region 2 with fail
  obtain ⟨R, hR⟩ : ∃ R, ((w.alloc (.cells (u8s (zs 4)).toArray 22)).alloc (.cells (u8s (zs 4)).toArray 22)).drew = R := ⟨_, rfl⟩
  have H0 : R.heap[g]? = some (.cells (u8s (zs 4)).toArray 22 (0, 0)) := by rw [← hR]; show ((w.alloc (.cells (u8s (zs 4)).toArray 22)).alloc (.cells (u8s (zs 4)).toArray 22)).heap[g]? = _; rw [alloc_old _ _ _ (by rw [alloc_size]; omega)]; exact alloc_new _ _ _ hg.symm
  have HS0 : Below g w R ∧ R.heap[g + 1]? = some (.cells (u8s (zs 4)).toArray 22 (0, 0)) ∧ R.heap[g]? = some (.cells (u8s (zs 4)).toArray 22 (0, 0)) := ⟨by rw [← hR]; exact (((Below.refl _ _).alloc (by omega) _).alloc (by rw [alloc_size]; omega) _).drew, by rw [← hR]; exact alloc_new _ _ _ (by rw [alloc_size, hg]), H0⟩
  clear H0
  refine wp_region_noPanic ?_
  refine wp_region_held (S := fun V => Below g w V) (by kernel_rfl) ?_
  change wpAnyH _ _ _ _ _ _ _ _ ((w.alloc (.cells (u8s (zs 4)).toArray 22)).alloc (.cells (u8s (zs 4)).toArray 22)).drew
  rw [hR]
  clear hR
  refine heldTake (d := some 4) (op := .slice 22 (.tmp 3) none none none) (g := none) 0 ?v0 rfl (by kernel_rfl) (by kernel_rfl) (by kernel_rfl) (by kernel_rfl) ?y0 HS0.1 ?_
  case y0 => intro o' ho W hS; simp only [execOp, ho]; go_simp; try rfl
  simp only [Act.put, List.setIfInBounds_toArray, List.set_cons_zero, List.set_cons_succ]
  refine heldTake (d := some 5) (op := .move (.tmp 0)) (g := none) 1 ?v1 rfl (by kernel_rfl) (by kernel_rfl) (by kernel_rfl) (by kernel_rfl) ?y1 HS0.1 ?_
  case y1 => intro o' ho W hS; simp only [execOp, ho]; go_simp; try rfl
  simp only [Act.put, List.setIfInBounds_toArray, List.set_cons_zero, List.set_cons_succ]
  refine heldTake (d := some 6) (op := .convert 41 30 (.tmp 5)) (g := none) 2 ?v2 rfl (by kernel_rfl) (by kernel_rfl) (by kernel_rfl) (by kernel_rfl) ?y2 HS0.1 ?_
  case y2 => intro o' ho W hS; simp only [execOp, ho]; go_simp; try rfl
  simp only [Act.put, List.setIfInBounds_toArray, List.set_cons_zero, List.set_cons_succ]
  refine heldCall (d := some 7) (op := .call { callee := .value (.func 18), args := #[.tmp 6, .const (.int .i64 4)], argTypes := #[30, 3] }) (g := none) 3 18 #[.int .u64 (n : Int), .int .i64 4] rfl (by kernel_rfl) (by kernel_rfl) ?y3 ?_
  case y3 => intro o' ho; simp only [execOp, ho]; go_simp; try rfl
  refine (nb_any n 4 R (by omega)).mono ?_
  rintro e X ⟨rfl, HRX, HBX⟩
  have hgR : g + 1 < R.heap.size := (Array.getElem?_eq_some_iff.1 HS0.2.1).1
  have hX0 : X.heap[g]? = some (.cells (u8s (zs 4)).toArray 22 (0, 0)) := by rw [HBX.out.block _ (by omega)]; exact HS0.2.2
  have hX1 : X.heap[g + 1]? = some (.cells (u8s (zs 4)).toArray 22 (0, 0)) := by rw [HBX.out.block _ hgR]; exact HS0.2.1
  have hBX : Below g w X := HS0.1.trans (HBX.out.mono (by have := HS0.1.size; omega))
  refine ⟨_, rfl, hBX, ?_⟩
  simp only [Act.put, List.setIfInBounds_toArray, List.set_cons_zero, List.set_cons_succ]
  have hrun := run_copy_row (P := Tryd.prog) X 24 24 3 5 (g + 1) 0 4 4 ⟨R.heap.size, 0, none⟩ 4 4 (u8s (zs 4)).toArray 22 (u8s (be n 4)) Tryd.underlying24 size5 hX1 (by simp [be_length]) (fun j u hu => by
    have hj : j < (be n 4).length := by have := (List.getElem?_eq_some_iff.1 hu).1; simpa using this
    rw [Addr.add_mid, Nat.zero_add, HRX.out.cell j hj, ← hu, u8s_get _ j hj]) (by simp [be_length]) (u8s_one _)
  rw [show ((u8s (zs 4)).toArray.toList.take 0 ++ u8s (be n 4) ++ (u8s (zs 4)).toArray.toList.drop (0 + (u8s (be n 4)).length)) = u8s (be n 4) by simp [be_length], show (u8s (be n 4)).length = 4 by simp [be_length]] at hrun
  obtain ⟨Y, hY⟩ : ∃ Y, X.setRow (g + 1) (u8s (be n 4)).toArray = Y := ⟨_, rfl⟩
  have hY1 : Sl (Y.heap[g + 1]? = some (.cells (u8s (be n 4)).toArray 22 (0, 0))) := ⟨by rw [← hY]; exact setRow_heap _ _ _ _ _ _ hX1⟩
  have hY0 : Sl (Y.heap[g]? = some (.cells (u8s (zs 4)).toArray 22 (0, 0))) := ⟨by rw [← hY, setRow_other _ _ _ _ (by omega)]; exact hX0⟩
  have hBY : Sl (Below g w Y) := ⟨by rw [← hY]; exact below_setRow hBX (by omega) _⟩
  rw [hY] at hrun
  clear hY
  refine heldRunT (d := some 8) (op := .call { callee := .builtin .copy, args := #[.tmp 4, .tmp 7], argTypes := #[24, 24] }) (g := none) (t := 3) 4 (.int .i64 4) Y rfl (by kernel_rfl) (by kernel_rfl) ?y4 hBY.out ?_
  case y4 => intro o' ho ht; simp only [execOp, ho, ht, resolve, invoke, builtin, Sem.run_bind, Sem.run_pure, Result.andThen_ok, List.map_toArray, List.map_cons, List.map_nil]; refine (congrArg (fun r => Result.andThen r _) hrun).trans ?_; rfl
  simp only [Act.put, List.setIfInBounds_toArray, List.set_cons_zero, List.set_cons_succ]
  refine wpAnyH_done (by kernel_rfl) ?_ _
  refine NoPanic.normal ?_
  have HI : Sl ((Tryd.prog.info? 22).map (·.size) = some (u8s (be n 4)).toArray.size) := ⟨by
    have : (Tryd.prog.info? 22).map (·.size) = some 4 := by kernel_rfl
    simpa [be_length] using this⟩
  have HO : Sl ((u8s (zs 4)).toArray.size = (u8s (be n 4)).toArray.size) := ⟨by simp [be_length]⟩
  go_wp2_with (first
    | (refine wpList_load_row rfl 22 (.tmp 3) rfl (g + 1) rfl 22 _ (0, 0) (.array 4 5) hY1.out Tryd.underlying22 rfl HI.out ?_)
    | (refine wpList_store_row rfl 22 (.tmp 2) (.tmp 9) rfl g _ rfl rfl 22 _ hY0.out HI.out HO.out (all_oneCell_toArray (u8s_one _)) ?_))
  refine bodyPost_ret (v := .agg (u8s (be n 4)).toArray) ?_ rfl ⟨rfl, ⟨below_setRow (by rw [hg]; exact hBY.out) (by omega) _⟩⟩
  exact results_cell_row Tryd.results17 _ _ g 22 _ (0, 0) (.array 4 5) rfl (setRow_heap _ _ _ _ _ _ hY0.out) Tryd.underlying22 rfl HI.out
end Go.Proofs.YtleekkjaoccjlaaDoor
