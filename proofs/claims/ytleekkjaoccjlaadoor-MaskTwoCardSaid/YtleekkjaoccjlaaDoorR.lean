/- mask: MaskCuts' walk. -/
import Derived.Test.YtleekkjaoccjlaaDoorP
set_option maxRecDepth 100000
namespace Go.Proofs.YtleekkjaoccjlaaDoor
open Go.RowKit MaskPlain

theorem rest4_add (key : List Nat) (n m : Nat) (l : List Nat) : turn key (rest4 ((n : Int) + (m : Int))) l = turn key (rest4 (n : Int) + m) l :=
  turn_same key (by unfold rest4; omega) l
theorem cut_str (key : List Nat) (K : Nat) (a b : ByteArray) (hks : Small 256 key) : strOf (turn key K (bytes (a ++ b))) = strOf (turn key K (bytes a)) ++ strOf (turn key (K + a.size) (bytes b)) := by
  have hk := fun i => hks.getD (by omega) i
  refine bytes_inj ?_
  rw [bytes_append (strOf (turn key K (bytes a))), bytes_strOf _ (turn_lt key K _ (bytes_small a) hk), bytes_strOf _ (turn_lt key (K + a.size) _ (bytes_small b) hk), bytes_strOf _ (turn_lt key K _ (bytes_small (a ++ b)) hk), bytes_append, turn_append, bytes_length]
theorem below_key {w w' : World} {g : Nat} {o : Obj} (h : w.heap[g]? = some o) (k : Below w.heap.size w w') : w'.heap[g]? = some o := by
  rw [k.block _ (Array.getElem?_eq_some_iff.1 h).1]; exact h

set_option maxHeartbeats 2000000 in
theorem cuts_walk (key : List Nat) (n : Nat) (a b : ByteArray) (w : World) (hg : Globs w) (hk : key.length = 4) (hks : Small 256 key) (hn : n < 65536) :
    Calls Tryd.prog 4 #[.agg (u8s key).toArray, .int .u16 n, .string a, .string b] w fun e w' => e = .returned (.bool true) ∧ Below w.heap.size w w' := by
  have HG := Sl.mk hg
  have HKL := Sl.mk hk
  have HKS := Sl.mk hks
  have HI := Sl.mk (key_info hk)
  have f1 : IntKind.i64.wrap (n : Int) = (n : Int) := by rw [IntKind.wrap_i64]; omega
  obtain ⟨w1, hw1⟩ : ∃ w1, w.alloc (.cells (u8s key).toArray 22) = w1 := ⟨_, rfl⟩
  have HB1 : Sl (Below w.heap.size w w1) := ⟨by rw [← hw1]; exact (Below.refl _ _).alloc (Nat.le_refl _) _⟩
  have HY1 : Sl (w1.heap[w.heap.size]? = some (.cells (u8s key).toArray 22 (0, 0))) := ⟨by rw [← hw1]; exact alloc_new _ _ _ rfl⟩
  clear hg hk hks
  go_enter Tryd.func4, Tryd.ntmps4
  go_wp2_with fail
  refine (awake_any w1 (HG.out.below HB1.out HG.out.size)).mono ?_
  rintro e w2 ⟨rfl, HX2⟩
  have HB2 : Sl (Below w.heap.size w w2) := ⟨HB1.out.trans (HX2.out.mono HB1.out.size)⟩
  have HG2 := Sl.mk (HG.out.below HB2.out HG.out.size)
  by_cases hl : a.size > 200
  · go_wp2_with fail
    refine (awake_any w2 HG2.out).mono ?_
    rintro e w3 ⟨rfl, HX3⟩
    have HB3 : Sl (Below w.heap.size w w3) := ⟨HB2.out.trans (HX3.out.mono HB2.out.size)⟩
    go_wp2
    go_ret
    exact ⟨rfl, HB3.out⟩
  have hl2 : a.size ≤ 200 := by omega
  clear hl
  by_cases hl : b.size > 200
  · go_wp2_with fail
    refine (awake_any w2 HG2.out).mono ?_
    rintro e w3 ⟨rfl, HX3⟩
    have HB3 : Sl (Below w.heap.size w w3) := ⟨HB2.out.trans (HX3.out.mono HB2.out.size)⟩
    go_wp2
    go_ret
    exact ⟨rfl, HB3.out⟩
  have hl3 : b.size ≤ 200 := by omega
  clear hl
  have f2 : IntKind.i64.wrap ((n : Int) + (a.size : Int)) = (n : Int) + (a.size : Int) := by rw [IntKind.wrap_i64]; omega
  have HY2 := Sl.mk (below_key HY1.out HX2.out)
  obtain ⟨cap, w3, hconv, HS3, HX3⟩ := conv_str a w2
  have HB3 : Sl (Below w.heap.size w w3) := ⟨HB2.out.trans (HX3.out.mono HB2.out.size)⟩
  have HY3 := Sl.mk (below_key HY2.out HX3.out)
  go_wp2_with (first | (refine wpList_load_row rfl 22 (.tmp 4) rfl w.heap.size rfl 22 _ (0, 0) (.array 4 5) HY2.out Tryd.underlying22 rfl HI.out ?_) | fail)
  refine (apply_len key n _ (bytes a) a.size w3 HKL.out HKS.out HS3.out (bytes_small a) (by omega) (bytes_length a)).mono ?_
  rintro e w4 ⟨gx, rfl, HR4, HX4⟩
  have HB4 : Sl (Below w.heap.size w w4) := ⟨HB3.out.trans (HX4.out.mono HB3.out.size)⟩
  have HY4 := Sl.mk (below_key HY3.out HX4.out)
  clear hconv
  obtain ⟨cap5, w5, hconv5, HS5, HX5⟩ := conv_str b w4
  have HB5 : Sl (Below w.heap.size w w5) := ⟨HB4.out.trans (HX5.out.mono HB4.out.size)⟩
  have HY5 := Sl.mk (below_key HY4.out HX5.out)
  have HR5 := Sl.mk (HR4.out.below HX5.out)
  go_wp2_with (first | (refine wpList_load_row rfl 22 (.tmp 4) rfl w.heap.size rfl 22 _ (0, 0) (.array 4 5) HY4.out Tryd.underlying22 rfl HI.out ?_) | fail)
  refine (apply_len key ((n : Int) + (a.size : Int)) _ (bytes b) b.size w5 HKL.out HKS.out HS5.out (bytes_small b) (by omega) (bytes_length b)).mono ?_
  rintro e w6 ⟨gy, rfl, HQ6, HX6⟩
  have HB6 : Sl (Below w.heap.size w w6) := ⟨HB5.out.trans (HX6.out.mono HB5.out.size)⟩
  have HY6 := Sl.mk (below_key HY5.out HX6.out)
  have HR6 := Sl.mk (HR5.out.below HX6.out)
  clear hconv5
  rw [rest4_add] at HQ6
  obtain ⟨K, hK⟩ : ∃ K, rest4 (n : Int) = K := ⟨_, rfl⟩
  rw [hK] at HR6 HQ6
  have HXL : Sl ((turn key K (bytes a)).length = a.size) := ⟨by rw [turn_length, bytes_length]⟩
  have HYL : Sl ((turn key (K + a.size) (bytes b)).length = b.size) := ⟨by rw [turn_length, bytes_length]⟩
  have hz := cut_str key K a b HKS.out
  rw [← hK] at hz
  have hzz := hz
  obtain ⟨X, hX⟩ : ∃ X, turn key K (bytes a) = X := ⟨_, rfl⟩
  obtain ⟨Y, hY⟩ : ∃ Y, turn key (K + a.size) (bytes b) = Y := ⟨_, rfl⟩
  rw [hK, hX, hY, ← hK] at hz
  rw [hX] at HXL HR6
  rw [hY] at HYL HQ6
  obtain ⟨xs, hxs⟩ : ∃ xs, strOf X = xs := ⟨_, rfl⟩
  obtain ⟨ys, hys⟩ : ∃ ys, strOf Y = ys := ⟨_, rfl⟩
  have HXY : Sl (xs.size + ys.size = a.size + b.size) := ⟨by rw [← hxs, ← hys, strOf_size, strOf_size, HXL.out, HYL.out]⟩
  have HXS := Sl.mk hxs
  have HYS := Sl.mk hys
  rw [hxs, hys] at hz
  have HZ := Sl.mk hz
  have HAB : Sl (a.size + b.size ≤ 400) := ⟨by omega⟩
  have HABL : Sl ((a ++ b).size = a.size + b.size) := ⟨by rw [ByteArray.size_append]⟩
  clear hK hX hY hxs hys hz hzz HR4 HR5
  go_upto_region 5 with fail
  obtain ⟨R, hR⟩ : ∃ R, w6.drew = R := ⟨_, rfl⟩
  have HS0 : Below w.heap.size w R ∧ R.heap[w.heap.size]? = some (.cells (u8s key).toArray 22 (0, 0)) ∧ RowB R gx X ∧ RowB R gy Y := ⟨by rw [← hR]; exact HB6.out.drew, by rw [← hR]; exact HY6.out, by rw [← hR]; exact HR6.out, by rw [← hR]; exact HQ6.out⟩
  refine wp_region_noPanic ?_
  refine wp_region_held (S := fun V => Below w.heap.size w V ∧ V.heap[w.heap.size]? = some (.cells (u8s key).toArray 22 (0, 0)) ∧ RowB V gx X ∧ RowB V gy Y) (by kernel_rfl) ?_
  change wpAnyH _ _ _ _ _ _ _ _ w6.drew
  rw [hR]
  clear hR
  refine heldTake (d := some 39) (op := .load 22 (Operand.tmp 4)) (g := none) 0 (.agg (u8s key).toArray) rfl (by kernel_rfl) (by kernel_rfl) (by kernel_rfl) (by kernel_rfl) ?y0 HS0 ?_
  case y0 => intro o' ho W hS; exact loadrun ho (by rfl) HI.out hS.2.1
  simp only [Act.put, List.setIfInBounds_toArray, List.set_cons_zero, List.set_cons_succ]
  refine heldTake (d := some 40) (op := .move (Operand.tmp 1)) (g := none) 1 ?v1 rfl (by kernel_rfl) (by kernel_rfl) (by kernel_rfl) (by kernel_rfl) ?y1 HS0 ?_
  case y1 => intro o' ho W hS; simp only [execOp, ho]; go_simp; try rfl
  simp only [Act.put, List.setIfInBounds_toArray, List.set_cons_zero, List.set_cons_succ]
  refine heldTake (d := some 41) (op := .convert 28 3 (Operand.tmp 40)) (g := none) 2 ?v2 rfl (by kernel_rfl) (by kernel_rfl) (by kernel_rfl) (by kernel_rfl) ?y2 HS0 ?_
  case y2 => intro o' ho W hS; simp only [execOp, ho]; go_simp; try rfl
  simp only [Act.put, List.setIfInBounds_toArray, List.set_cons_zero, List.set_cons_succ]
  refine heldTake (d := some 42) (op := .move (Operand.tmp 2)) (g := none) 3 ?v3 rfl (by kernel_rfl) (by kernel_rfl) (by kernel_rfl) (by kernel_rfl) ?y3 HS0 ?_
  case y3 => intro o' ho W hS; simp only [execOp, ho]; go_simp; try rfl
  simp only [Act.put, List.setIfInBounds_toArray, List.set_cons_zero, List.set_cons_succ]
  refine heldTake (d := some 43) (op := .move (Operand.tmp 3)) (g := none) 4 ?v4 rfl (by kernel_rfl) (by kernel_rfl) (by kernel_rfl) (by kernel_rfl) ?y4 HS0 ?_
  case y4 => intro o' ho W hS; simp only [execOp, ho]; go_simp; try rfl
  simp only [Act.put, List.setIfInBounds_toArray, List.set_cons_zero, List.set_cons_succ]
  refine heldTake (d := some 44) (op := .binOp BinOp.add 9 (Operand.tmp 42) (Operand.tmp 43) 9) (g := none) 5 ?v5 rfl (by kernel_rfl) (by kernel_rfl) (by kernel_rfl) (by kernel_rfl) ?y5 HS0 ?_
  case y5 => intro o' ho W hS; simp only [execOp, ho]; go_simp; first | done | (rw [if_neg (by have := HAB.out; omega)]; done) | (rw [if_neg (by have := HAB.out; omega)]; rfl) | rfl
  simp only [Act.put, List.setIfInBounds_toArray, List.set_cons_zero, List.set_cons_succ]
  refine heldTake (d := some 48) (op := .move (Operand.tmp 9)) (g := none) 9 ?v9 rfl (by kernel_rfl) (by kernel_rfl) (by kernel_rfl) (by kernel_rfl) ?y9 HS0 ?_
  case y9 => intro o' ho W hS; simp only [execOp, ho]; go_simp; try rfl
  simp only [Act.put, List.setIfInBounds_toArray, List.set_cons_zero, List.set_cons_succ]
  refine heldTake (d := some 49) (op := .convert 24 9 (Operand.tmp 48)) (g := none) 10 ?v10 rfl (by kernel_rfl) (by kernel_rfl) (by kernel_rfl) (by kernel_rfl) ?y10 HS0 ?_
  case y10 => intro o' ho W hS; have cS := hS.2.2.1.str HXL.out; rw [HXS.out] at cS; simp only [execOp, ho]; go_simp; try rfl
  simp only [Act.put, List.setIfInBounds_toArray, List.set_cons_zero, List.set_cons_succ]
  refine heldTake (d := some 50) (op := .move (Operand.tmp 10)) (g := none) 11 ?v11 rfl (by kernel_rfl) (by kernel_rfl) (by kernel_rfl) (by kernel_rfl) ?y11 HS0 ?_
  case y11 => intro o' ho W hS; simp only [execOp, ho]; go_simp; try rfl
  simp only [Act.put, List.setIfInBounds_toArray, List.set_cons_zero, List.set_cons_succ]
  refine heldTake (d := some 51) (op := .convert 24 9 (Operand.tmp 50)) (g := none) 12 ?v12 rfl (by kernel_rfl) (by kernel_rfl) (by kernel_rfl) (by kernel_rfl) ?y12 HS0 ?_
  case y12 => intro o' ho W hS; have cS := hS.2.2.2.str HYL.out; rw [HYS.out] at cS; simp only [execOp, ho]; go_simp; try rfl
  simp only [Act.put, List.setIfInBounds_toArray, List.set_cons_zero, List.set_cons_succ]
  refine heldTake (d := some 52) (op := .binOp BinOp.add 9 (Operand.tmp 49) (Operand.tmp 51) 9) (g := none) 13 ?v13 rfl (by kernel_rfl) (by kernel_rfl) (by kernel_rfl) (by kernel_rfl) ?y13 HS0 ?_
  case y13 => intro o' ho W hS; simp only [execOp, ho]; go_simp; first | done | (rw [if_neg (by have := HXY.out; omega)]; done) | (rw [if_neg (by have := HXY.out; omega)]; rfl) | rfl
  simp only [Act.put, List.setIfInBounds_toArray, List.set_cons_zero, List.set_cons_succ]
  obtain ⟨cap7, R2, hconv7, HS7, HC7⟩ := conv_str (a ++ b) R
  rw [HABL.out] at hconv7 HS7
  have HS2 : Below w.heap.size w R2 ∧ R2.heap[w.heap.size]? = some (.cells (u8s key).toArray 22 (0, 0)) ∧ RowB R2 gx X ∧ RowB R2 gy Y := ⟨HS0.1.trans (HC7.out.mono HS0.1.size), by rw [HC7.out.block _ (Array.getElem?_eq_some_iff.1 HS0.2.1).1]; exact HS0.2.1, HS0.2.2.1.below HC7.out, HS0.2.2.2.below HC7.out⟩
  refine heldRunT (d := some 45) (op := .convert 9 24 (Operand.tmp 44)) (g := none) (t := 24) 6 (.slice (some ⟨R.heap.size, 0, none⟩) (a.size + b.size) cap7) R2 rfl (by kernel_rfl) (by kernel_rfl) ?y6 HS2 ?_
  case y6 => intro o' ho _; simp only [execOp, ho]; go_simp; try rfl
  simp only [Act.put, List.setIfInBounds_toArray, List.set_cons_zero, List.set_cons_succ]
  refine heldCall (d := some 46) (op := .call { callee := Callee.value (Operand.func 11), args := #[Operand.tmp 39, Operand.tmp 41, Operand.tmp 45], argTypes := #[22, 3, 24] }) (g := none) 7 11 #[.agg (u8s key).toArray, .int .i64 (n : Int), .slice (some ⟨R.heap.size, 0, none⟩) (a.size + b.size) cap7] rfl (by kernel_rfl) (by kernel_rfl) ?y7 ?_
  case y7 => intro o' ho; simp only [execOp, ho]; go_simp; try rfl
  refine (apply_len key n _ (bytes (a ++ b)) (a.size + b.size) R2 HKL.out HKS.out HS7.out (bytes_small _) (by omega) (by rw [bytes_length, HABL.out])).mono ?_
  rintro e R3 ⟨g6, rfl, HR6, HB3⟩
  have HS3 : Below w.heap.size w R3 ∧ R3.heap[w.heap.size]? = some (.cells (u8s key).toArray 22 (0, 0)) ∧ RowB R3 gx X ∧ RowB R3 gy Y := ⟨HS2.1.trans (HB3.out.mono HS2.1.size), by rw [HB3.out.block _ (Array.getElem?_eq_some_iff.1 HS2.2.1).1]; exact HS2.2.1, HS2.2.2.1.below HB3.out, HS2.2.2.2.below HB3.out⟩
  have hst6 : (convert 24 9 (.slice (some ⟨g6, 0, none⟩) (a.size + b.size) (a.size + b.size))).run Tryd.prog R3 = .ok (.string (xs ++ ys)) R3 := by
    have := HR6.out.str (by rw [turn_length, bytes_length, HABL.out])
    rwa [HZ.out] at this
  refine ⟨_, rfl, HS3, ?_⟩
  simp only [Act.put, List.setIfInBounds_toArray, List.set_cons_zero, List.set_cons_succ]
  refine heldRunT (d := some 47) (op := .convert 24 9 (Operand.tmp 46)) (g := none) (t := 9) 8 (.string (xs ++ ys)) R3 rfl (by kernel_rfl) (by kernel_rfl) ?y8 HS3 ?_
  case y8 => intro o' ho _; simp only [execOp, ho]; go_simp; try rfl
  simp only [Act.put, List.setIfInBounds_toArray, List.set_cons_zero, List.set_cons_succ]
  refine heldTake (d := some 53) (op := .binOp BinOp.eql 9 (Operand.tmp 47) (Operand.tmp 52) 9) (g := none) 14 ?v14 rfl (by kernel_rfl) (by kernel_rfl) (by kernel_rfl) (by kernel_rfl) ?y14 HS3 ?_
  case y14 => intro o' ho W hS; simp only [execOp, ho]; go_simp; try rfl
  simp only [Act.put, List.setIfInBounds_toArray, List.set_cons_zero, List.set_cons_succ]
  refine heldTake (d := some 8) (op := .assign (Operand.tmp 53)) (g := none) 15 ?v15 rfl (by kernel_rfl) (by kernel_rfl) (by kernel_rfl) (by kernel_rfl) ?y15 HS3 ?_
  case y15 => intro o' ho W hS; simp only [execOp, ho]; go_simp; try rfl
  simp only [Act.put, List.setIfInBounds_toArray, List.set_cons_zero, List.set_cons_succ]
  refine wpAnyH_done (by kernel_rfl) ?_ _
  refine NoPanic.normal ?_
  go_wp2
  go_ret
  exact ⟨rfl, HS3.1⟩
end Go.Proofs.YtleekkjaoccjlaaDoor
