/- mask: MaskTurns' walk. -/
import Derived.Test.YtleekkjaoccjlaaDoorO
set_option maxRecDepth 100000
namespace Go.Proofs.YtleekkjaoccjlaaDoor
open Go.RowKit MaskPlain

theorem loadrun {W : World} {ev : Operand → Value} {o : Oper} {x : Operand} {g : Nat} {key : List Nat} (ho : o.op = .load 22 x) (hx : ev x = .pointer (some ⟨g, 0, none⟩)) (hi : (Tryd.prog.info? 22).map (·.size) = some (u8s key).toArray.size) (h : W.heap[g]? = some (.cells (u8s key).toArray 22 (0, 0))) :
    (execOp ev o).run Tryd.prog W = .ok (.value (.agg (u8s key).toArray)) W := by
  unfold execOp
  simp only [ho, hx, Instr.loadAt, Instr.sureAddr, Sem.run_bind, Sem.run_pure, Result.andThen_ok, run_loadVar_row W g 22 22 _ (0, 0) (.array 4 5) h Tryd.underlying22 rfl hi]
theorem key_info {key : List Nat} (h : key.length = 4) : (Tryd.prog.info? 22).map (·.size) = some (u8s key).toArray.size := by
  have : (Tryd.prog.info? 22).map (·.size) = some 4 := by kernel_rfl
  simpa [h] using this
theorem apply_len (key : List Nat) (at' : Int) (v : Value) (bs : List Nat) (n : Nat) (w : World) (hk : key.length = 4) (hks : Small 256 key) (hv : SrcAt w v bs) (hsm : Small 256 bs) (hm : n ≤ 100000) (hn : bs.length = n) :
    Calls Tryd.prog 11 #[.agg (u8s key).toArray, .int .i64 at', v] w fun e w' => ∃ g, e = .returned (.slice (some ⟨g, 0, none⟩) n n) ∧ Sl (RowB w' g (turn key (rest4 at') bs)) ∧ Sl (Below w.heap.size w w') := by
  subst hn
  exact (apply_any key at' v bs w hk hks hv hsm hm).mono fun _ _ ⟨g, he, _, hr, hb⟩ => ⟨g, he, hr, hb⟩
theorem src_len {w : World} {g n : Nat} {bs : List Nat} (h : SrcAt w (.slice (some ⟨g, 0, none⟩) bs.length bs.length) bs) (hn : bs.length = n) : SrcAt w (.slice (some ⟨g, 0, none⟩) n n) bs := by subst hn; exact h

set_option maxHeartbeats 2000000 in
theorem turns_walk (key : List Nat) (at' : Int) (a : ByteArray) (w : World) (hg : Globs w) (hk : key.length = 4) (hks : Small 256 key) (_ : -9223372036854775808 ≤ at' ∧ at' ≤ 9223372036854775807) :
    Calls Tryd.prog 3 #[.agg (u8s key).toArray, .int .i64 at', .string a] w fun e w' => e = .returned (.bool true) ∧ Below w.heap.size w w' := by
  have HG := Sl.mk hg
  have HKL := Sl.mk hk
  have HKS := Sl.mk hks
  have HI := Sl.mk (key_info hk)
  obtain ⟨w1, hw1⟩ : ∃ w1, w.alloc (.cells (u8s key).toArray 22) = w1 := ⟨_, rfl⟩
  have HB1 : Sl (Below w.heap.size w w1) := ⟨by rw [← hw1]; exact (Below.refl _ _).alloc (Nat.le_refl _) _⟩
  have HY1 : Sl (w1.heap[w.heap.size]? = some (.cells (u8s key).toArray 22 (0, 0))) := ⟨by rw [← hw1]; exact alloc_new _ _ _ rfl⟩
  clear hg hk hks
  go_enter Tryd.func3, Tryd.ntmps3
  go_wp2_with fail
  refine (awake_any w1 (HG.out.below HB1.out HG.out.size)).mono ?_
  rintro e w2 ⟨rfl, HX2⟩
  have HB2 : Sl (Below w.heap.size w w2) := ⟨HB1.out.trans (HX2.out.mono HB1.out.size)⟩
  have HG2 := Sl.mk (HG.out.below HB2.out HG.out.size)
  by_cases hl : a.size > 300
  · go_wp2_with fail
    refine (awake_any w2 HG2.out).mono ?_
    rintro e w3 ⟨rfl, HX3⟩
    have HB3 : Sl (Below w.heap.size w w3) := ⟨HB2.out.trans (HX3.out.mono HB2.out.size)⟩
    go_wp2
    go_ret
    exact ⟨rfl, HB3.out⟩
  · have hl2 : a.size ≤ 300 := by omega
    clear hl
    have HY2 : Sl (w2.heap[w.heap.size]? = some (.cells (u8s key).toArray 22 (0, 0))) := ⟨by rw [HX2.out.block _ (Array.getElem?_eq_some_iff.1 HY1.out).1]; exact HY1.out⟩
    obtain ⟨cap, w3, hconv, HS3, HX3⟩ := conv_str a w2
    have HB3 : Sl (Below w.heap.size w w3) := ⟨HB2.out.trans (HX3.out.mono HB2.out.size)⟩
    have HY3 : Sl (w3.heap[w.heap.size]? = some (.cells (u8s key).toArray 22 (0, 0))) := ⟨by rw [HX3.out.block _ (Array.getElem?_eq_some_iff.1 HY2.out).1]; exact HY2.out⟩
    go_wp2_with (first | (refine wpList_load_row rfl 22 (.tmp 3) rfl w.heap.size rfl 22 _ (0, 0) (.array 4 5) HY2.out Tryd.underlying22 rfl HI.out ?_) | fail)
    refine (apply_len key at' _ (bytes a) a.size w3 HKL.out HKS.out HS3.out (bytes_small a) (by omega) (bytes_length a)).mono ?_
    rintro e w4 ⟨g5, rfl, HR4, HX4⟩
    have HB4 : Sl (Below w.heap.size w w4) := ⟨HB3.out.trans (HX4.out.mono HB3.out.size)⟩
    have HY4 : Sl (w4.heap[w.heap.size]? = some (.cells (u8s key).toArray 22 (0, 0))) := ⟨by rw [HX4.out.block _ (Array.getElem?_eq_some_iff.1 HY3.out).1]; exact HY3.out⟩
    obtain ⟨K, hK⟩ : ∃ K, rest4 at' = K := ⟨_, rfl⟩
    have HK := Sl.mk hK
    rw [hK] at HR4
    have HXL : Sl ((turn key K (bytes a)).length = a.size) := ⟨by rw [turn_length, bytes_length]⟩
    have HXS : Sl (Small 256 (turn key K (bytes a))) := ⟨turn_lt key K _ (bytes_small a) (fun i => HKS.out.getD (by omega) i)⟩
    have HTW : Sl (turn key K (turn key K (bytes a)) = bytes a) := ⟨turn_twice key K (bytes a)⟩
    obtain ⟨X, hX⟩ : ∃ X, turn key K (bytes a) = X := ⟨_, rfl⟩
    have HX := Sl.mk hX
    rw [hX] at HR4 HXL HXS HTW
    clear hK hX hconv
    go_upto_region 4 with fail
    obtain ⟨R, hR⟩ : ∃ R, w4.drew = R := ⟨_, rfl⟩
    have HS0 : Below w.heap.size w R ∧ R.heap[w.heap.size]? = some (.cells (u8s key).toArray 22 (0, 0)) ∧ RowB R g5 X := ⟨by rw [← hR]; exact HB4.out.drew, by rw [← hR]; exact HY4.out, by rw [← hR]; exact HR4.out⟩
    refine wp_region_noPanic ?_
    refine wp_region_held (S := fun V => Below w.heap.size w V ∧ V.heap[w.heap.size]? = some (.cells (u8s key).toArray 22 (0, 0)) ∧ RowB V g5 X) (by kernel_rfl) ?_
    change wpAnyH _ _ _ _ _ _ _ _ w4.drew
    rw [hR]
    clear hR
    refine heldTake (d := some 21) (op := .move (Operand.tmp 7)) (g := none) 0 ?v0 rfl (by kernel_rfl) (by kernel_rfl) (by kernel_rfl) (by kernel_rfl) ?y0 HS0 ?_
    case y0 => intro o' ho W hS; simp only [execOp, ho]; go_simp; try rfl
    simp only [Act.put, List.setIfInBounds_toArray, List.set_cons_zero, List.set_cons_succ]
    refine heldTake (d := some 22) (op := .convert 24 9 (Operand.tmp 21)) (g := none) 1 ?v1 rfl (by kernel_rfl) (by kernel_rfl) (by kernel_rfl) (by kernel_rfl) ?y1 HS0 ?_
    case y1 => intro o' ho W hS; have cS := hS.2.2.str HXL.out; simp only [execOp, ho]; go_simp; try rfl
    simp only [Act.put, List.setIfInBounds_toArray, List.set_cons_zero, List.set_cons_succ]
    refine heldTake (d := some 23) (op := .load 22 (Operand.tmp 3)) (g := none) 2 (.agg (u8s key).toArray) rfl (by kernel_rfl) (by kernel_rfl) (by kernel_rfl) (by kernel_rfl) ?y2 HS0 ?_
    case y2 => intro o' ho W hS; exact loadrun ho (by rfl) HI.out hS.2.1
    simp only [Act.put, List.setIfInBounds_toArray, List.set_cons_zero, List.set_cons_succ]
    refine heldTake (d := some 24) (op := .move (Operand.tmp 1)) (g := none) 3 ?v3 rfl (by kernel_rfl) (by kernel_rfl) (by kernel_rfl) (by kernel_rfl) ?y3 HS0 ?_
    case y3 => intro o' ho W hS; simp only [execOp, ho]; go_simp; try rfl
    simp only [Act.put, List.setIfInBounds_toArray, List.set_cons_zero, List.set_cons_succ]
    refine heldTake (d := some 25) (op := .move (Operand.tmp 2)) (g := none) 4 ?v4 rfl (by kernel_rfl) (by kernel_rfl) (by kernel_rfl) (by kernel_rfl) ?y4 HS0 ?_
    case y4 => intro o' ho W hS; simp only [execOp, ho]; go_simp; try rfl
    simp only [Act.put, List.setIfInBounds_toArray, List.set_cons_zero, List.set_cons_succ]
    refine heldCall (d := some 26) (op := .call { callee := Callee.value (Operand.func 12), args := #[Operand.tmp 23, Operand.tmp 24, Operand.tmp 25], argTypes := #[22, 3, 9] }) (g := none) 5 12 #[.agg (u8s key).toArray, .int .i64 at', .string a] rfl (by kernel_rfl) (by kernel_rfl) ?y5 ?_
    case y5 => intro o' ho; simp only [execOp, ho]; go_simp; try rfl
    refine (refapply_any key at' a R HKL.out HKS.out (by omega)).mono ?_
    rintro e R2 ⟨rfl, HB2⟩
    have HS2 : Below w.heap.size w R2 ∧ R2.heap[w.heap.size]? = some (.cells (u8s key).toArray 22 (0, 0)) ∧ RowB R2 g5 X := ⟨HS0.1.trans (HB2.out.mono HS0.1.size), by rw [HB2.out.block _ (Array.getElem?_eq_some_iff.1 HS0.2.1).1]; exact HS0.2.1, HS0.2.2.below HB2.out⟩
    rw [HK.out, HX.out]
    refine ⟨_, rfl, HS2, ?_⟩
    simp only [Act.put, List.setIfInBounds_toArray, List.set_cons_zero, List.set_cons_succ]
    refine heldTake (d := some 27) (op := .binOp BinOp.eql 9 (Operand.tmp 22) (Operand.tmp 26) 9) (g := none) 6 ?v6 rfl (by kernel_rfl) (by kernel_rfl) (by kernel_rfl) (by kernel_rfl) ?y6 HS2 ?_
    case y6 => intro o' ho W hS; simp only [execOp, ho]; go_simp; try rfl
    simp only [Act.put, List.setIfInBounds_toArray, List.set_cons_zero, List.set_cons_succ]
    refine heldTake (d := some 28) (op := .move (Operand.tmp 27)) (g := none) 7 ?v7 rfl (by kernel_rfl) (by kernel_rfl) (by kernel_rfl) (by kernel_rfl) ?y7 HS2 ?_
    case y7 => intro o' ho W hS; simp only [execOp, ho]; go_simp; try rfl
    simp only [Act.put, List.setIfInBounds_toArray, List.set_cons_zero, List.set_cons_succ]
    refine heldTake (d := some 29) (op := .load 22 (Operand.tmp 3)) (g := some (7, true)) 8 (.agg (u8s key).toArray) rfl (by kernel_rfl) (by kernel_rfl) (by kernel_rfl) (by kernel_rfl) ?y8 HS2 ?_
    case y8 => intro o' ho W hS; exact loadrun ho (by rfl) HI.out hS.2.1
    simp only [Act.put, List.setIfInBounds_toArray, List.set_cons_zero, List.set_cons_succ]
    refine heldTake (d := some 30) (op := .move (Operand.tmp 1)) (g := some (7, true)) 9 ?v9 rfl (by kernel_rfl) (by kernel_rfl) (by kernel_rfl) (by kernel_rfl) ?y9 HS2 ?_
    case y9 => intro o' ho W hS; simp only [execOp, ho]; go_simp; try rfl
    simp only [Act.put, List.setIfInBounds_toArray, List.set_cons_zero, List.set_cons_succ]
    refine heldTake (d := some 31) (op := .move (Operand.tmp 7)) (g := some (7, true)) 10 ?v10 rfl (by kernel_rfl) (by kernel_rfl) (by kernel_rfl) (by kernel_rfl) ?y10 HS2 ?_
    case y10 => intro o' ho W hS; simp only [execOp, ho]; go_simp; try rfl
    simp only [Act.put, List.setIfInBounds_toArray, List.set_cons_zero, List.set_cons_succ]
    refine heldTake (d := some 34) (op := .move (Operand.tmp 2)) (g := some (7, true)) 13 ?v13 rfl (by kernel_rfl) (by kernel_rfl) (by kernel_rfl) (by kernel_rfl) ?y13 HS2 ?_
    case y13 => intro o' ho W hS; simp only [execOp, ho]; go_simp; try rfl
    simp only [Act.put, List.setIfInBounds_toArray, List.set_cons_zero, List.set_cons_succ]
    refine heldCall (d := some 32) (op := .call { callee := Callee.value (Operand.func 11), args := #[Operand.tmp 29, Operand.tmp 30, Operand.tmp 31], argTypes := #[22, 3, 24] }) (g := some (7, true)) 11 11 #[.agg (u8s key).toArray, .int .i64 at', .slice (some ⟨g5, 0, none⟩) a.size a.size] rfl (by kernel_rfl) (by kernel_rfl) ?y11 ?_
    case y11 => intro o' ho; simp only [execOp, ho]; go_simp; try rfl
    refine (apply_len key at' _ X a.size R2 HKL.out HKS.out (src_len HS2.2.2.src HXL.out) HXS.out (by omega) HXL.out).mono ?_
    rintro e R3 ⟨g6, rfl, HR6, HB3⟩
    have HS3 : Below w.heap.size w R3 ∧ R3.heap[w.heap.size]? = some (.cells (u8s key).toArray 22 (0, 0)) ∧ RowB R3 g5 X := ⟨HS2.1.trans (HB3.out.mono HS2.1.size), by rw [HB3.out.block _ (Array.getElem?_eq_some_iff.1 HS2.2.1).1]; exact HS2.2.1, HS2.2.2.below HB3.out⟩
    rw [HK.out, HTW.out] at HR6
    have hst6 : (convert 24 9 (.slice (some ⟨g6, 0, none⟩) a.size a.size)).run Tryd.prog R3 = .ok (.string a) R3 := by
      have := HR6.out.str (bytes_length a)
      rwa [strOf_bytes] at this
    refine ⟨_, rfl, HS3, ?_⟩
    simp only [Act.put, List.setIfInBounds_toArray, List.set_cons_zero, List.set_cons_succ]
    refine heldRunT (d := some 33) (op := .convert 24 9 (Operand.tmp 32)) (g := some (7, true)) (t := 9) 12 (.string a) R3 rfl (by kernel_rfl) (by kernel_rfl) ?y12 HS3 ?_
    case y12 => intro o' ho _; simp only [execOp, ho]; go_simp; try rfl
    simp only [Act.put, List.setIfInBounds_toArray, List.set_cons_zero, List.set_cons_succ]
    refine heldTake (d := some 35) (op := .binOp BinOp.eql 9 (Operand.tmp 33) (Operand.tmp 34) 9) (g := some (7, true)) 14 ?v14 rfl (by kernel_rfl) (by kernel_rfl) (by kernel_rfl) (by kernel_rfl) ?y14 HS3 ?_
    case y14 => intro o' ho W hS; simp only [execOp, ho]; go_simp; try rfl
    simp only [Act.put, List.setIfInBounds_toArray, List.set_cons_zero, List.set_cons_succ]
    refine heldTake (d := some 36) (op := .pick (Operand.tmp 28) (Operand.tmp 35) (Operand.const (Value.bool false))) (g := none) 15 ?v15 rfl (by kernel_rfl) (by kernel_rfl) (by kernel_rfl) (by kernel_rfl) ?y15 HS3 ?_
    case y15 => intro o' ho W hS; simp only [execOp, ho]; go_simp; try rfl
    simp only [Act.put, List.setIfInBounds_toArray, List.set_cons_zero, List.set_cons_succ]
    refine heldTake (d := some 6) (op := .assign (Operand.tmp 36)) (g := none) 16 ?v16 rfl (by kernel_rfl) (by kernel_rfl) (by kernel_rfl) (by kernel_rfl) ?y16 HS3 ?_
    case y16 => intro o' ho W hS; simp only [execOp, ho]; go_simp; try rfl
    simp only [Act.put, List.setIfInBounds_toArray, List.set_cons_zero, List.set_cons_succ]
    refine wpAnyH_done (by kernel_rfl) ?_ _
    refine NoPanic.normal ?_
    go_wp2
    go_ret
    exact ⟨rfl, HS3.1⟩
end Go.Proofs.YtleekkjaoccjlaaDoor
