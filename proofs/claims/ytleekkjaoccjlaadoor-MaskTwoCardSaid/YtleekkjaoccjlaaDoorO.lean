/- mask: the document's Apply. -/
import Derived.Test.YtleekkjaoccjlaaDoorK
import Derived.Deep.DeepCutAuto
set_option maxRecDepth 100000
namespace Go.Proofs.YtleekkjaoccjlaaDoor
open Go.RowKit MaskPlain

theorem keycell {W : World} {g j y : Nat} {key : List Nat} (h : W.heap[g]? = some (.cells (u8s key).toArray 22 (0, 0))) (hj : j < 4) (hl : key.length = 4) (hy : key.getD j 0 = y) : W.cell? ⟨g, j, none⟩ = some (.int .u8 (y : Int)) := by
  rw [cell_of_row _ _ _ _ _ _ h, List.getElem?_toArray, u8s_get key j (by omega), hy]
theorem rest4_pos {at' r : Int} (h : at'.tmod 4 = r) (h0 : ¬ r < 0) : ((rest4 at' : Nat) : Int) = r := by
  subst h
  unfold rest4
  by_cases hp : 0 ≤ at'
  · rw [Int.tmod_eq_emod_of_nonneg hp]; omega
  · obtain ⟨m, rfl⟩ : ∃ m, at' = -m := ⟨-at', by omega⟩
    rw [Int.neg_tmod, Int.tmod_eq_emod_of_nonneg (by omega)] at h0 ⊢
    omega
theorem rest4_neg {at' r : Int} (h : at'.tmod 4 = r) (h0 : r < 0) : ((rest4 at' : Nat) : Int) = r + 4 ∧ -4 < r := by
  subst h
  unfold rest4
  by_cases hp : 0 ≤ at'
  · rw [Int.tmod_eq_emod_of_nonneg hp] at h0; omega
  · obtain ⟨m, rfl⟩ : ∃ m, at' = -m := ⟨-at', by omega⟩
    rw [Int.neg_tmod, Int.tmod_eq_emod_of_nonneg (by omega)] at h0 ⊢
    omega

set_option maxHeartbeats 2000000 in
theorem refapply_any (key : List Nat) (at' : Int) (s : ByteArray) (w : World) (hk : key.length = 4) (hks : Small 256 key) (hs : s.size ≤ 1000) :
    Calls Tryd.prog 12 #[.agg (u8s key).toArray, .int .i64 at', .string s] w fun e w' => e = .returned (.string (strOf (turn key (rest4 at') (bytes s)))) ∧ Sl (Below w.heap.size w w') := by
  have HKL := Sl.mk hk
  have HKS := Sl.mk hks
  obtain ⟨r, hr⟩ : ∃ r, at'.tmod 4 = r := ⟨_, rfl⟩
  have HW1 : Sl (Below w.heap.size w (w.alloc (.cells (u8s key).toArray 22)) ∧ (w.alloc (.cells (u8s key).toArray 22)).heap[w.heap.size]? = some (.cells (u8s key).toArray 22 (0, 0))) := ⟨(Below.refl _ _).alloc (Nat.le_refl _) _, alloc_new _ _ _ rfl⟩
  have hK4 := rest4_lt at'
  clear hk hks
  by_cases hneg : r < 0
  · have hrr := (rest4_neg hr hneg).1
    have hr4 := (rest4_neg hr hneg).2
    obtain ⟨K, hK⟩ : ∃ K, rest4 at' = K := ⟨_, rfl⟩
    rw [hK] at hrr hK4 ⊢
    clear hK
    have hadd : r + 4 = (K : Int) := hrr.symm
    clear hrr
    go_enter Tryd.func12, Tryd.ntmps12
    go_wp2
    go_loopw [8, 9] (fun t i wr => ∃ (k : Nat) (o : ByteArray), k ≤ s.size ∧ i = .int .i64 k ∧ t = .string o ∧ Sl (bytes o = turn key K ((bytes s).take k)) ∧ Sl (Below w.heap.size w wr ∧ wr.heap[w.heap.size]? = some (.cells (u8s key).toArray 22 (0, 0)))) (fun _ i _ => s.size - (intOf i).toNat)
    case atStart => exact ⟨0, ByteArray.empty, Nat.zero_le _, rfl, rfl, ⟨rfl⟩, HW1⟩
    case round =>
      obtain ⟨k, o, hk, rfl, rfl, HO, HW⟩ := hrel
      by_cases hlt : k < s.size
      · have hx : (s[k]'hlt).toNat = (bytes s).getD k 0 := by rw [bytes_getD s k hlt]; rfl
        obtain ⟨x, hxx⟩ : ∃ x, (bytes s).getD k 0 = x := ⟨_, rfl⟩
        have hx256 : Sl (x < 256) := ⟨by rw [← hxx]; exact (bytes_small s).getD (by omega) k⟩
        obtain ⟨j, hj⟩ : ∃ j, (K + k) % 4 = j := ⟨_, rfl⟩
        have hj4 : j < 4 := by omega
        have q1 : ((K : Int) + (k : Int)) % 4 = (j : Int) := by omega
        have q2 : ((K : Int) + (k : Int)).tmod 4 = (j : Int) := by rw [Int.tmod_eq_emod_of_nonneg (by omega)]; omega
        have q3 : IntKind.i64.wrap ((K : Int) + (k : Int)) = (K : Int) + (k : Int) := by rw [IntKind.wrap_i64]; omega
        obtain ⟨y, hyy⟩ : ∃ y, key.getD j 0 = y := ⟨_, rfl⟩
        have hy := Sl.mk hyy
        have hxor := u8_xor_nat x y hx256.out (by rw [← hyy]; exact HKS.out.getD (by omega) j)
        obtain ⟨z, hzz⟩ : ∃ z, x ^^^ y = z := ⟨_, rfl⟩
        have hz256 : z < 256 := by
          rw [← hzz]; exact Nat.xor_lt_two_pow (n := 8) hx256.out (by rw [← hyy]; exact HKS.out.getD (by omega) j)
        have HN2 : Sl (bytes (o ++ strOf [z]) = turn key K ((bytes s).take (k + 1))) := ⟨by rw [bytes_append, HO.out, strOf_one z hz256, turn_take key K _ k (by rw [bytes_length]; exact hlt), hxx, hj, hyy, hzz]⟩
        have HZZ : Sl (o.size + (strOf [z]).size ≤ 1001) := ⟨by
          have h1 := congrArg List.length HO.out
          rw [bytes_length, turn_length, List.length_take, bytes_length] at h1
          rw [strOf_size, h1]
          simp; omega⟩
        rw [hxx] at hx
        rw [hzz] at hxor
        have hk0 : (0 : Int) ≤ (k : Int) := by omega
        have hk1 : (k : Int) < (s.size : Int) := by omega
        have hj0 : (0 : Int) ≤ (j : Int) := by omega
        have hj1 : (j : Int) < 4 := by omega
        clear hj hxx hyy hzz hz256
        go_upto_region 8 with fail
        obtain ⟨R, hR⟩ : ∃ R, wr.drew = R := ⟨_, rfl⟩
        have HS0 : Below w.heap.size w R ∧ R.heap[w.heap.size]? = some (.cells (u8s key).toArray 22 (0, 0)) := ⟨by rw [← hR]; exact HW.out.1.drew, by rw [← hR]; exact HW.out.2⟩
        refine wp_region_noPanic ?_
        refine wp_region_held (S := fun V => Below w.heap.size w V ∧ V.heap[w.heap.size]? = some (.cells (u8s key).toArray 22 (0, 0))) (by kernel_rfl) ?_
        change wpAnyH _ _ _ _ _ _ _ _ wr.drew
        rw [hR]
        clear hR
        refine heldTake (d := some 22) (op := .move (Operand.tmp 8)) (g := none) 0 ?v0p rfl (by kernel_rfl) (by kernel_rfl) (by kernel_rfl) (by kernel_rfl) ?y0p HS0 ?_
        case y0p => intro o' ho W hS; simp only [execOp, ho]; go_simp; try rfl
        simp only [Act.put, List.setIfInBounds_toArray, List.set_cons_zero, List.set_cons_succ]
        refine heldTake (d := some 23) (op := .move (Operand.tmp 2)) (g := none) 1 ?v1p rfl (by kernel_rfl) (by kernel_rfl) (by kernel_rfl) (by kernel_rfl) ?y1p HS0 ?_
        case y1p => intro o' ho W hS; simp only [execOp, ho]; go_simp; try rfl
        simp only [Act.put, List.setIfInBounds_toArray, List.set_cons_zero, List.set_cons_succ]
        refine heldTake (d := some 24) (op := .move (Operand.tmp 9)) (g := none) 2 ?v2p rfl (by kernel_rfl) (by kernel_rfl) (by kernel_rfl) (by kernel_rfl) ?y2p HS0 ?_
        case y2p => intro o' ho W hS; simp only [execOp, ho]; go_simp; try rfl
        simp only [Act.put, List.setIfInBounds_toArray, List.set_cons_zero, List.set_cons_succ]
        refine heldTake (d := some 25) (op := .index 9 (Operand.tmp 23) (Operand.tmp 24)) (g := none) 3 ?v3p rfl (by kernel_rfl) (by kernel_rfl) (by kernel_rfl) (by kernel_rfl) ?y3p HS0 ?_
        case y3p => intro o' ho W hS; simp only [execOp, ho]; go_simp; try rfl
        simp only [Act.put, List.setIfInBounds_toArray, List.set_cons_zero, List.set_cons_succ]
        refine heldTake (d := some 26) (op := .move (Operand.tmp 7)) (g := none) 4 ?v4p rfl (by kernel_rfl) (by kernel_rfl) (by kernel_rfl) (by kernel_rfl) ?y4p HS0 ?_
        case y4p => intro o' ho W hS; simp only [execOp, ho]; go_simp; try rfl
        simp only [Act.put, List.setIfInBounds_toArray, List.set_cons_zero, List.set_cons_succ]
        refine heldTake (d := some 27) (op := .move (Operand.tmp 9)) (g := none) 5 ?v5p rfl (by kernel_rfl) (by kernel_rfl) (by kernel_rfl) (by kernel_rfl) ?y5p HS0 ?_
        case y5p => intro o' ho W hS; simp only [execOp, ho]; go_simp; try rfl
        simp only [Act.put, List.setIfInBounds_toArray, List.set_cons_zero, List.set_cons_succ]
        refine heldTake (d := some 28) (op := .binOp BinOp.add 3 (Operand.tmp 26) (Operand.tmp 27) 3) (g := none) 6 ?v6p rfl (by kernel_rfl) (by kernel_rfl) (by kernel_rfl) (by kernel_rfl) ?y6p HS0 ?_
        case y6p => intro o' ho W hS; simp only [execOp, ho]; go_simp; try rfl
        simp only [Act.put, List.setIfInBounds_toArray, List.set_cons_zero, List.set_cons_succ]
        refine heldTake (d := some 29) (op := .binOp BinOp.rem 3 (Operand.tmp 28) (Operand.const (Value.int IntKind.i64 4)) 3) (g := none) 7 ?v7p rfl (by kernel_rfl) (by kernel_rfl) (by kernel_rfl) (by kernel_rfl) ?y7p HS0 ?_
        case y7p => intro o' ho W hS; simp only [execOp, ho]; go_simp; try rfl
        simp only [Act.put, List.setIfInBounds_toArray, List.set_cons_zero, List.set_cons_succ]
        refine heldTake (d := some 30) (op := .indexAddr 22 (Operand.tmp 3) (Operand.tmp 29)) (g := none) 8 ?v8p rfl (by kernel_rfl) (by kernel_rfl) (by kernel_rfl) (by kernel_rfl) ?y8p HS0 ?_
        case y8p => intro o' ho W hS; simp only [execOp, ho]; go_simp; try rfl
        simp only [Act.put, List.setIfInBounds_toArray, List.set_cons_zero, List.set_cons_succ]
        refine heldTake (d := some 31) (op := .load 5 (Operand.tmp 30)) (g := none) 9 ?v9p rfl (by kernel_rfl) (by kernel_rfl) (by kernel_rfl) (by kernel_rfl) ?y9p HS0 ?_
        case y9p => intro o' ho W hS; have cW := keycell hS.2 hj4 HKL.out hy.out; simp only [execOp, ho]; go_simp; try rfl
        simp only [Act.put, List.setIfInBounds_toArray, List.set_cons_zero, List.set_cons_succ]
        refine heldTake (d := some 32) (op := .binOp BinOp.xor 5 (Operand.tmp 25) (Operand.tmp 31) 5) (g := none) 10 ?v10p rfl (by kernel_rfl) (by kernel_rfl) (by kernel_rfl) (by kernel_rfl) ?y10p HS0 ?_
        case y10p => intro o' ho W hS; simp only [execOp, ho]; go_simp; try rfl
        simp only [Act.put, List.setIfInBounds_toArray, List.set_cons_zero, List.set_cons_succ]
        obtain ⟨X, hX⟩ : ∃ X, R.alloc (.cells #[.int .u8 (z : Int)] 5) = X := ⟨_, rfl⟩
        have HXB : Sl (Below R.heap.size R X) := ⟨by rw [← hX]; exact (Below.refl _ _).alloc (Nat.le_refl _) _⟩
        have HSX : Below w.heap.size w X ∧ X.heap[w.heap.size]? = some (.cells (u8s key).toArray 22 (0, 0)) := ⟨HS0.1.trans (HXB.out.mono HS0.1.size), by rw [HXB.out.block _ (Array.getElem?_eq_some_iff.1 HS0.2).1]; exact HS0.2⟩
        have hst : (convert 24 9 (.slice (some ⟨R.heap.size, 0, none⟩) 1 1)).run Tryd.prog X = .ok (.string (strOf [z])) X := by
          have := (rowB_new R [z]).str (k := 1) rfl
          have e0 : (u8s [z]).toArray = #[.int .u8 (z : Int)] := rfl
          rwa [e0, hX] at this
        refine heldRunT (d := some 33) (op := .buildSlice 24 1 #[(0, Operand.tmp 32)]) (g := none) (t := 24) 11 (.slice (some ⟨R.heap.size, 0, none⟩) 1 1) X rfl (by kernel_rfl) (by kernel_rfl) ?y11p HSX ?_
        case y11p => intro o' ho _; simp only [execOp, ho]; go_simp; first | done | rw [hX] | rfl
        simp only [Act.put, List.setIfInBounds_toArray, List.set_cons_zero, List.set_cons_succ]
        refine heldRunT (d := some 34) (op := .convert 24 9 (Operand.tmp 33)) (g := none) (t := 9) 12 (.string (strOf [z])) X rfl (by kernel_rfl) (by kernel_rfl) ?y12p HSX ?_
        case y12p => intro o' ho _; simp only [execOp, ho]; go_simp; try rfl
        simp only [Act.put, List.setIfInBounds_toArray, List.set_cons_zero, List.set_cons_succ]
        refine heldRunT (d := some 35) (op := .binOp BinOp.add 9 (Operand.tmp 22) (Operand.tmp 34) 9) (g := none) (t := 9) 13 (.string (o ++ strOf [z])) X rfl (by kernel_rfl) (by kernel_rfl) ?y13p HSX ?_
        case y13p => intro o' ho _; simp only [execOp, ho]; go_simp; first | done | (have := HZZ.out; omega) | rfl
        simp only [Act.put, List.setIfInBounds_toArray, List.set_cons_zero, List.set_cons_succ]
        refine heldTake (d := some 8) (op := .assign (Operand.tmp 35)) (g := none) 14 ?v14p rfl (by kernel_rfl) (by kernel_rfl) (by kernel_rfl) (by kernel_rfl) ?y14p HSX ?_
        case y14p => intro o' ho W hS; simp only [execOp, ho]; go_simp; try rfl
        simp only [Act.put, List.setIfInBounds_toArray, List.set_cons_zero, List.set_cons_succ]
        refine wpAnyH_done (by kernel_rfl) ?_ _
        refine NoPanic.normal ?_
        go_wp2
        exact ⟨⟨k + 1, _, by omega, by go_num, rfl, HN2, ⟨HSX⟩⟩, by simp [intOf] <;> omega⟩
      · have hge : ((k : Int) < (s.size : Int)) = False := eq_false (by omega)
        obtain rfl : k = s.size := by omega
        have HE : Sl (o = strOf (turn key K (bytes s))) := ⟨by
          have h1 := HO.out
          rw [List.take_of_length_le (by rw [bytes_length]; exact Nat.le_refl _)] at h1
          rw [← h1, strOf_bytes]⟩
        have HBW : Sl (Below w.heap.size w wr) := ⟨HW.out.1⟩
        go_wp2
        go_ret
        exact ⟨by rw [← HE.out]; rfl, HBW⟩
  · have hrr := rest4_pos hr hneg
    obtain ⟨K, hK⟩ : ∃ K, rest4 at' = K := ⟨_, rfl⟩
    rw [hK] at hrr hK4 ⊢
    clear hK
    have hneg2 : (r < 0) = False := eq_false hneg
    subst hrr
    go_enter Tryd.func12, Tryd.ntmps12
    go_wp2
    go_loopw [8, 9] (fun t i wr => ∃ (k : Nat) (o : ByteArray), k ≤ s.size ∧ i = .int .i64 k ∧ t = .string o ∧ Sl (bytes o = turn key K ((bytes s).take k)) ∧ Sl (Below w.heap.size w wr ∧ wr.heap[w.heap.size]? = some (.cells (u8s key).toArray 22 (0, 0)))) (fun _ i _ => s.size - (intOf i).toNat)
    case atStart => exact ⟨0, ByteArray.empty, Nat.zero_le _, rfl, rfl, ⟨rfl⟩, HW1⟩
    case round =>
      obtain ⟨k, o, hk, rfl, rfl, HO, HW⟩ := hrel
      by_cases hlt : k < s.size
      · have hx : (s[k]'hlt).toNat = (bytes s).getD k 0 := by rw [bytes_getD s k hlt]; rfl
        obtain ⟨x, hxx⟩ : ∃ x, (bytes s).getD k 0 = x := ⟨_, rfl⟩
        have hx256 : Sl (x < 256) := ⟨by rw [← hxx]; exact (bytes_small s).getD (by omega) k⟩
        obtain ⟨j, hj⟩ : ∃ j, (K + k) % 4 = j := ⟨_, rfl⟩
        have hj4 : j < 4 := by omega
        have q1 : ((K : Int) + (k : Int)) % 4 = (j : Int) := by omega
        have q2 : ((K : Int) + (k : Int)).tmod 4 = (j : Int) := by rw [Int.tmod_eq_emod_of_nonneg (by omega)]; omega
        have q3 : IntKind.i64.wrap ((K : Int) + (k : Int)) = (K : Int) + (k : Int) := by rw [IntKind.wrap_i64]; omega
        obtain ⟨y, hyy⟩ : ∃ y, key.getD j 0 = y := ⟨_, rfl⟩
        have hy := Sl.mk hyy
        have hxor := u8_xor_nat x y hx256.out (by rw [← hyy]; exact HKS.out.getD (by omega) j)
        obtain ⟨z, hzz⟩ : ∃ z, x ^^^ y = z := ⟨_, rfl⟩
        have hz256 : z < 256 := by
          rw [← hzz]; exact Nat.xor_lt_two_pow (n := 8) hx256.out (by rw [← hyy]; exact HKS.out.getD (by omega) j)
        have HN2 : Sl (bytes (o ++ strOf [z]) = turn key K ((bytes s).take (k + 1))) := ⟨by rw [bytes_append, HO.out, strOf_one z hz256, turn_take key K _ k (by rw [bytes_length]; exact hlt), hxx, hj, hyy, hzz]⟩
        have HZZ : Sl (o.size + (strOf [z]).size ≤ 1001) := ⟨by
          have h1 := congrArg List.length HO.out
          rw [bytes_length, turn_length, List.length_take, bytes_length] at h1
          rw [strOf_size, h1]
          simp; omega⟩
        rw [hxx] at hx
        rw [hzz] at hxor
        have hk0 : (0 : Int) ≤ (k : Int) := by omega
        have hk1 : (k : Int) < (s.size : Int) := by omega
        have hj0 : (0 : Int) ≤ (j : Int) := by omega
        have hj1 : (j : Int) < 4 := by omega
        clear hj hxx hyy hzz hz256
        go_upto_region 8 with fail
        obtain ⟨R, hR⟩ : ∃ R, wr.drew = R := ⟨_, rfl⟩
        have HS0 : Below w.heap.size w R ∧ R.heap[w.heap.size]? = some (.cells (u8s key).toArray 22 (0, 0)) := ⟨by rw [← hR]; exact HW.out.1.drew, by rw [← hR]; exact HW.out.2⟩
        refine wp_region_noPanic ?_
        refine wp_region_held (S := fun V => Below w.heap.size w V ∧ V.heap[w.heap.size]? = some (.cells (u8s key).toArray 22 (0, 0))) (by kernel_rfl) ?_
        change wpAnyH _ _ _ _ _ _ _ _ wr.drew
        rw [hR]
        clear hR
        refine heldTake (d := some 22) (op := .move (Operand.tmp 8)) (g := none) 0 ?v0q rfl (by kernel_rfl) (by kernel_rfl) (by kernel_rfl) (by kernel_rfl) ?y0q HS0 ?_
        case y0q => intro o' ho W hS; simp only [execOp, ho]; go_simp; try rfl
        simp only [Act.put, List.setIfInBounds_toArray, List.set_cons_zero, List.set_cons_succ]
        refine heldTake (d := some 23) (op := .move (Operand.tmp 2)) (g := none) 1 ?v1q rfl (by kernel_rfl) (by kernel_rfl) (by kernel_rfl) (by kernel_rfl) ?y1q HS0 ?_
        case y1q => intro o' ho W hS; simp only [execOp, ho]; go_simp; try rfl
        simp only [Act.put, List.setIfInBounds_toArray, List.set_cons_zero, List.set_cons_succ]
        refine heldTake (d := some 24) (op := .move (Operand.tmp 9)) (g := none) 2 ?v2q rfl (by kernel_rfl) (by kernel_rfl) (by kernel_rfl) (by kernel_rfl) ?y2q HS0 ?_
        case y2q => intro o' ho W hS; simp only [execOp, ho]; go_simp; try rfl
        simp only [Act.put, List.setIfInBounds_toArray, List.set_cons_zero, List.set_cons_succ]
        refine heldTake (d := some 25) (op := .index 9 (Operand.tmp 23) (Operand.tmp 24)) (g := none) 3 ?v3q rfl (by kernel_rfl) (by kernel_rfl) (by kernel_rfl) (by kernel_rfl) ?y3q HS0 ?_
        case y3q => intro o' ho W hS; simp only [execOp, ho]; go_simp; try rfl
        simp only [Act.put, List.setIfInBounds_toArray, List.set_cons_zero, List.set_cons_succ]
        refine heldTake (d := some 26) (op := .move (Operand.tmp 7)) (g := none) 4 ?v4q rfl (by kernel_rfl) (by kernel_rfl) (by kernel_rfl) (by kernel_rfl) ?y4q HS0 ?_
        case y4q => intro o' ho W hS; simp only [execOp, ho]; go_simp; try rfl
        simp only [Act.put, List.setIfInBounds_toArray, List.set_cons_zero, List.set_cons_succ]
        refine heldTake (d := some 27) (op := .move (Operand.tmp 9)) (g := none) 5 ?v5q rfl (by kernel_rfl) (by kernel_rfl) (by kernel_rfl) (by kernel_rfl) ?y5q HS0 ?_
        case y5q => intro o' ho W hS; simp only [execOp, ho]; go_simp; try rfl
        simp only [Act.put, List.setIfInBounds_toArray, List.set_cons_zero, List.set_cons_succ]
        refine heldTake (d := some 28) (op := .binOp BinOp.add 3 (Operand.tmp 26) (Operand.tmp 27) 3) (g := none) 6 ?v6q rfl (by kernel_rfl) (by kernel_rfl) (by kernel_rfl) (by kernel_rfl) ?y6q HS0 ?_
        case y6q => intro o' ho W hS; simp only [execOp, ho]; go_simp; try rfl
        simp only [Act.put, List.setIfInBounds_toArray, List.set_cons_zero, List.set_cons_succ]
        refine heldTake (d := some 29) (op := .binOp BinOp.rem 3 (Operand.tmp 28) (Operand.const (Value.int IntKind.i64 4)) 3) (g := none) 7 ?v7q rfl (by kernel_rfl) (by kernel_rfl) (by kernel_rfl) (by kernel_rfl) ?y7q HS0 ?_
        case y7q => intro o' ho W hS; simp only [execOp, ho]; go_simp; try rfl
        simp only [Act.put, List.setIfInBounds_toArray, List.set_cons_zero, List.set_cons_succ]
        refine heldTake (d := some 30) (op := .indexAddr 22 (Operand.tmp 3) (Operand.tmp 29)) (g := none) 8 ?v8q rfl (by kernel_rfl) (by kernel_rfl) (by kernel_rfl) (by kernel_rfl) ?y8q HS0 ?_
        case y8q => intro o' ho W hS; simp only [execOp, ho]; go_simp; try rfl
        simp only [Act.put, List.setIfInBounds_toArray, List.set_cons_zero, List.set_cons_succ]
        refine heldTake (d := some 31) (op := .load 5 (Operand.tmp 30)) (g := none) 9 ?v9q rfl (by kernel_rfl) (by kernel_rfl) (by kernel_rfl) (by kernel_rfl) ?y9q HS0 ?_
        case y9q => intro o' ho W hS; have cW := keycell hS.2 hj4 HKL.out hy.out; simp only [execOp, ho]; go_simp; try rfl
        simp only [Act.put, List.setIfInBounds_toArray, List.set_cons_zero, List.set_cons_succ]
        refine heldTake (d := some 32) (op := .binOp BinOp.xor 5 (Operand.tmp 25) (Operand.tmp 31) 5) (g := none) 10 ?v10q rfl (by kernel_rfl) (by kernel_rfl) (by kernel_rfl) (by kernel_rfl) ?y10q HS0 ?_
        case y10q => intro o' ho W hS; simp only [execOp, ho]; go_simp; try rfl
        simp only [Act.put, List.setIfInBounds_toArray, List.set_cons_zero, List.set_cons_succ]
        obtain ⟨X, hX⟩ : ∃ X, R.alloc (.cells #[.int .u8 (z : Int)] 5) = X := ⟨_, rfl⟩
        have HXB : Sl (Below R.heap.size R X) := ⟨by rw [← hX]; exact (Below.refl _ _).alloc (Nat.le_refl _) _⟩
        have HSX : Below w.heap.size w X ∧ X.heap[w.heap.size]? = some (.cells (u8s key).toArray 22 (0, 0)) := ⟨HS0.1.trans (HXB.out.mono HS0.1.size), by rw [HXB.out.block _ (Array.getElem?_eq_some_iff.1 HS0.2).1]; exact HS0.2⟩
        have hst : (convert 24 9 (.slice (some ⟨R.heap.size, 0, none⟩) 1 1)).run Tryd.prog X = .ok (.string (strOf [z])) X := by
          have := (rowB_new R [z]).str (k := 1) rfl
          have e0 : (u8s [z]).toArray = #[.int .u8 (z : Int)] := rfl
          rwa [e0, hX] at this
        refine heldRunT (d := some 33) (op := .buildSlice 24 1 #[(0, Operand.tmp 32)]) (g := none) (t := 24) 11 (.slice (some ⟨R.heap.size, 0, none⟩) 1 1) X rfl (by kernel_rfl) (by kernel_rfl) ?y11q HSX ?_
        case y11q => intro o' ho _; simp only [execOp, ho]; go_simp; first | done | rw [hX] | rfl
        simp only [Act.put, List.setIfInBounds_toArray, List.set_cons_zero, List.set_cons_succ]
        refine heldRunT (d := some 34) (op := .convert 24 9 (Operand.tmp 33)) (g := none) (t := 9) 12 (.string (strOf [z])) X rfl (by kernel_rfl) (by kernel_rfl) ?y12q HSX ?_
        case y12q => intro o' ho _; simp only [execOp, ho]; go_simp; try rfl
        simp only [Act.put, List.setIfInBounds_toArray, List.set_cons_zero, List.set_cons_succ]
        refine heldRunT (d := some 35) (op := .binOp BinOp.add 9 (Operand.tmp 22) (Operand.tmp 34) 9) (g := none) (t := 9) 13 (.string (o ++ strOf [z])) X rfl (by kernel_rfl) (by kernel_rfl) ?y13q HSX ?_
        case y13q => intro o' ho _; simp only [execOp, ho]; go_simp; first | done | (have := HZZ.out; omega) | rfl
        simp only [Act.put, List.setIfInBounds_toArray, List.set_cons_zero, List.set_cons_succ]
        refine heldTake (d := some 8) (op := .assign (Operand.tmp 35)) (g := none) 14 ?v14q rfl (by kernel_rfl) (by kernel_rfl) (by kernel_rfl) (by kernel_rfl) ?y14q HSX ?_
        case y14q => intro o' ho W hS; simp only [execOp, ho]; go_simp; try rfl
        simp only [Act.put, List.setIfInBounds_toArray, List.set_cons_zero, List.set_cons_succ]
        refine wpAnyH_done (by kernel_rfl) ?_ _
        refine NoPanic.normal ?_
        go_wp2
        exact ⟨⟨k + 1, _, by omega, by go_num, rfl, HN2, ⟨HSX⟩⟩, by simp [intOf] <;> omega⟩
      · have hge : ((k : Int) < (s.size : Int)) = False := eq_false (by omega)
        obtain rfl : k = s.size := by omega
        have HE : Sl (o = strOf (turn key K (bytes s))) := ⟨by
          have h1 := HO.out
          rw [List.take_of_length_le (by rw [bytes_length]; exact Nat.le_refl _)] at h1
          rw [← h1, strOf_bytes]⟩
        have HBW : Sl (Below w.heap.size w wr) := ⟨HW.out.1⟩
        go_wp2
        go_ret
        exact ⟨by rw [← HE.out]; rfl, HBW⟩
end Go.Proofs.YtleekkjaoccjlaaDoor
