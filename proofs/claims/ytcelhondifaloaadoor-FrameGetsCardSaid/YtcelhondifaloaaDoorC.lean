/- frame: the length's bytes, how many bytes a frame has, Data turned. -/
import Derived.Test.YtcelhondifaloaaDoorB
set_option maxRecDepth 100000
namespace Go.Proofs.YtcelhondifaloaaDoor
open Go.RowKit MaskPlain FramePlain Mas

theorem bx_cells {W : World} {g : Nat} {fin : Bool} {op : Int} {m : Bool} {a b c d : Nat} {s : ByteArray} (h : W.heap[g]? = some (.cells #[.bool fin, .int .i64 op, .bool m, .int .u8 ((a : Nat) : Int), .int .u8 ((b : Nat) : Int), .int .u8 ((c : Nat) : Int), .int .u8 ((d : Nat) : Int), .string s] 24 (0, 0))) :
    W.cell? ⟨g, 0, none⟩ = some (.bool fin) ∧ W.cell? ⟨g, 1, none⟩ = some (.int .i64 op) ∧ W.cell? ⟨g, 2, none⟩ = some (.bool m) ∧ W.cell? ⟨g, 3, none⟩ = some (.int .u8 (a : Int)) ∧ W.cell? ⟨g, 4, none⟩ = some (.int .u8 (b : Int)) ∧ W.cell? ⟨g, 5, none⟩ = some (.int .u8 (c : Int)) ∧ W.cell? ⟨g, 6, none⟩ = some (.int .u8 (d : Int)) ∧ W.cell? ⟨g, 7, none⟩ = some (.string s) := by
  refine ⟨?_, ?_, ?_, ?_, ?_, ?_, ?_, ?_⟩ <;> (rw [cell_of_row _ _ _ _ _ _ h]; rfl)
theorem box_size (fin : Bool) (op : Int) (m : Bool) (a b c d : Nat) (s : ByteArray) : (Tryd.prog.info? 24).map (·.size) = some (#[.bool fin, .int .i64 op, .bool m, .int .u8 ((a : Nat) : Int), .int .u8 ((b : Nat) : Int), .int .u8 ((c : Nat) : Int), .int .u8 ((d : Nat) : Int), .string s] : Array Value).size := by kernel_rfl
theorem loadbox {W : World} {ev : Operand → Value} {o : Oper} {x : Operand} {g : Nat} {fin : Bool} {op : Int} {m : Bool} {a b c d : Nat} {s : ByteArray} (ho : o.op = .load 24 x) (hx : ev x = .pointer (some ⟨g, 0, none⟩)) (h : W.heap[g]? = some (.cells #[.bool fin, .int .i64 op, .bool m, .int .u8 ((a : Nat) : Int), .int .u8 ((b : Nat) : Int), .int .u8 ((c : Nat) : Int), .int .u8 ((d : Nat) : Int), .string s] 24 (0, 0))) :
    (execOp ev o).run Tryd.prog W = .ok (.value (.agg #[.bool fin, .int .i64 op, .bool m, .int .u8 ((a : Nat) : Int), .int .u8 ((b : Nat) : Int), .int .u8 ((c : Nat) : Int), .int .u8 ((d : Nat) : Int), .string s])) W := by
  unfold execOp
  simp only [ho, hx, Instr.loadAt, Instr.sureAddr, Sem.run_bind, Sem.run_pure, Result.andThen_ok, run_loadVar_row W g 24 24 _ (0, 0) _ h Tryd.underlying24 rfl (box_size fin op m a b c d s)]
theorem lenbytes_any (fin : Bool) (op : Int) (m : Bool) (a b c d : Nat) (s : ByteArray) (n : Nat) (w : World) (hg : Globs w) (hs : s.size ≤ 1000000) (hn : (lenB s.size).length = n) :
    Calls Tryd.prog 20 #[(.agg #[.bool fin, .int .i64 op, .bool m, .int .u8 ((a : Nat) : Int), .int .u8 ((b : Nat) : Int), .int .u8 ((c : Nat) : Int), .int .u8 ((d : Nat) : Int), .string s])] w fun e w' => ∃ g cap, e = .returned (.slice (some ⟨g, 0, none⟩) n cap) ∧ Sl (SrcAt w' (.slice (some ⟨g, 0, none⟩) n cap) (lenB s.size)) ∧ Sl (Below w.heap.size w w') := by
  have HB := bx_below w (.cells #[.bool fin, .int .i64 op, .bool m, .int .u8 ((a : Nat) : Int), .int .u8 ((b : Nat) : Int), .int .u8 ((c : Nat) : Int), .int .u8 ((d : Nat) : Int), .string s] 24)
  have HG := Sl.mk hg
  have hsome : putL s.size = some (lenB s.size) := lenB_some (by omega)
  have C1 := fun W hW => put_yes s.size (lenB s.size) W hW hsome
  rw [hn] at C1
  obtain ⟨L, hL⟩ : ∃ L, lenB s.size = L := ⟨_, rfl⟩
  rw [hL] at C1 ⊢
  have hwr : IntKind.u64.wrap (s.size : Int) = (s.size : Int) := by rw [IntKind.wrap_u64]; omega
  clear hg hn hsome hL
  go_enter Tryd.func20, Tryd.ntmps20
  go_wp2_with fail
  refine (C1 _ (HG.out.below HB.out HG.out.size)).mono ?_
  rintro e w1 ⟨g, cap, rfl, HS, HX⟩
  have HB1 : Sl (Below w.heap.size w w1) := ⟨HB.out.trans (HX.out.mono HB.out.size)⟩
  clear HX
  go_wp2
  go_ret
  exact ⟨g, cap, rfl, HS, HB1⟩
theorem keysize_n (fin : Bool) (op : Int) (m : Bool) (a b c d : Nat) (s : ByteArray) (k : Nat) (w : World) (hk : ksz m = k) :
    Calls Tryd.prog 28 #[(.agg #[.bool fin, .int .i64 op, .bool m, .int .u8 ((a : Nat) : Int), .int .u8 ((b : Nat) : Int), .int .u8 ((c : Nat) : Int), .int .u8 ((d : Nat) : Int), .string s])] w fun e w' => e = .returned (.int .i64 (k : Int)) ∧ Sl (Below w.heap.size w w') := by
  subst hk; exact keysize_any fin op m a b c d s w
theorem size_parts (fin : Bool) (op : Int) (m : Bool) (a b c d : Nat) (s : ByteArray) (h : s.size ≤ 1000000) : size (⟨fin, op, m, [a, b, c, d], bytes s⟩ : Fr) = 1 + (lenB s.size).length + ksz m + s.size := by
  unfold size ksz
  rw [lenB_length (by omega)]
  simp only [bytes_length]
  cases m <;> simp only [if_true, Bool.false_eq_true, if_false] <;> split <;> (try split) <;> omega
theorem lenB_le (n : Nat) (h : n ≤ 1000000) : (lenB n).length ≤ 9 := by
  rw [lenB_length (by omega)]; split
  · omega
  · split <;> omega

set_option maxHeartbeats 2000000 in
theorem size_any (fin : Bool) (op : Int) (m : Bool) (a b c d : Nat) (s : ByteArray) (w : World) (hg : Globs w) (hs : s.size ≤ 1000000) :
    Calls Tryd.prog 18 #[(.agg #[.bool fin, .int .i64 op, .bool m, .int .u8 ((a : Nat) : Int), .int .u8 ((b : Nat) : Int), .int .u8 ((c : Nat) : Int), .int .u8 ((d : Nat) : Int), .string s])] w fun e w' => e = .returned (.int .i64 ((size (⟨fin, op, m, [a, b, c, d], bytes s⟩ : Fr) : Nat) : Int)) ∧ Sl (Below w.heap.size w w') := by
  have HG := Sl.mk hg
  have HSZ := Sl.mk hs
  have hF := size_parts fin op m a b c d s hs
  have hle := lenB_le s.size hs
  obtain ⟨n, hn⟩ : ∃ n, (lenB s.size).length = n := ⟨_, rfl⟩
  have HN := Sl.mk hn
  obtain ⟨k, hk⟩ : ∃ k, ksz m = k := ⟨_, rfl⟩
  have HK := Sl.mk hk
  have hk4 : k ≤ 4 := by rw [← hk]; unfold ksz; split <;> omega
  rw [hn, hk] at hF
  rw [hn] at hle
  have HF : Sl (((size (⟨fin, op, m, [a, b, c, d], bytes s⟩ : Fr) : Nat) : Int) = 1 + (n : Int) + (k : Int) + (s.size : Int)) := ⟨by rw [hF]; omega⟩
  have z1 : IntKind.i64.wrap (1 + (n : Int)) = 1 + (n : Int) := by rw [IntKind.wrap_i64]; omega
  have z2 : IntKind.i64.wrap (1 + (n : Int) + (k : Int)) = 1 + (n : Int) + (k : Int) := by rw [IntKind.wrap_i64]; omega
  have z3 : IntKind.i64.wrap (1 + (n : Int) + (k : Int) + (s.size : Int)) = 1 + (n : Int) + (k : Int) + (s.size : Int) := by rw [IntKind.wrap_i64]; omega
  clear hg hs hF hn hk
  obtain ⟨w1, hw1⟩ : ∃ w1, w.alloc (.cells #[.bool fin, .int .i64 op, .bool m, .int .u8 ((a : Nat) : Int), .int .u8 ((b : Nat) : Int), .int .u8 ((c : Nat) : Int), .int .u8 ((d : Nat) : Int), .string s] 24) = w1 := ⟨_, rfl⟩
  have HB1 : Sl (Below w.heap.size w w1) := ⟨by rw [← hw1]; exact (bx_below w _).out⟩
  have HY1 : Sl (w1.heap[w.heap.size]? = some (.cells #[.bool fin, .int .i64 op, .bool m, .int .u8 ((a : Nat) : Int), .int .u8 ((b : Nat) : Int), .int .u8 ((c : Nat) : Int), .int .u8 ((d : Nat) : Int), .string s] 24 (0, 0))) := ⟨by rw [← hw1]; exact bx_new _ _⟩
  go_enter Tryd.func18, Tryd.ntmps18
  go_upto_region 1 with fail
  obtain ⟨R, hR⟩ : ∃ R, w1.drew = R := ⟨_, rfl⟩
  have HS0 : Below w.heap.size w R ∧ R.heap[w.heap.size]? = some (.cells #[.bool fin, .int .i64 op, .bool m, .int .u8 ((a : Nat) : Int), .int .u8 ((b : Nat) : Int), .int .u8 ((c : Nat) : Int), .int .u8 ((d : Nat) : Int), .string s] 24 (0, 0)) := ⟨by rw [← hR]; exact HB1.out.drew, by rw [← hR]; exact HY1.out⟩
  refine wp_region_noPanic ?_
  refine wp_region_held (S := fun W => Below w.heap.size w W ∧ W.heap[w.heap.size]? = some (.cells #[.bool fin, .int .i64 op, .bool m, .int .u8 ((a : Nat) : Int), .int .u8 ((b : Nat) : Int), .int .u8 ((c : Nat) : Int), .int .u8 ((d : Nat) : Int), .string s] 24 (0, 0))) (by kernel_rfl) ?_
  change wpAnyH _ _ _ _ _ _ _ _ w1.drew
  rw [hR]
  clear hR hw1
  refine heldTake (d := some 3) (op := .load 24 (Operand.tmp 1)) (g := none) 0 ((.agg #[.bool fin, .int .i64 op, .bool m, .int .u8 ((a : Nat) : Int), .int .u8 ((b : Nat) : Int), .int .u8 ((c : Nat) : Int), .int .u8 ((d : Nat) : Int), .string s])) rfl (by kernel_rfl) (by kernel_rfl) (by kernel_rfl) (by kernel_rfl) ?y0 HS0 ?_
  case y0 => intro o' ho W hS; exact loadbox ho (by rfl) hS.2
  simp only [Act.put, List.setIfInBounds_toArray, List.set_cons_zero, List.set_cons_succ]
  refine heldTake (d := some 7) (op := .load 24 (Operand.tmp 1)) (g := none) 4 ((.agg #[.bool fin, .int .i64 op, .bool m, .int .u8 ((a : Nat) : Int), .int .u8 ((b : Nat) : Int), .int .u8 ((c : Nat) : Int), .int .u8 ((d : Nat) : Int), .string s])) rfl (by kernel_rfl) (by kernel_rfl) (by kernel_rfl) (by kernel_rfl) ?y4 HS0 ?_
  case y4 => intro o' ho W hS; exact loadbox ho (by rfl) hS.2
  simp only [Act.put, List.setIfInBounds_toArray, List.set_cons_zero, List.set_cons_succ]
  refine heldTake (d := some 10) (op := .fieldAddr 24 (Operand.tmp 1) 4) (g := none) 7 ?v7 rfl (by kernel_rfl) (by kernel_rfl) (by kernel_rfl) (by kernel_rfl) ?y7 HS0 ?_
  case y7 => intro o' ho W hS; simp only [execOp, ho]; go_simp; try rfl
  simp only [Act.put, List.setIfInBounds_toArray, List.set_cons_zero, List.set_cons_succ]
  refine heldTake (d := some 11) (op := .load 9 (Operand.tmp 10)) (g := none) 8 ?v8 rfl (by kernel_rfl) (by kernel_rfl) (by kernel_rfl) (by kernel_rfl) ?y8 HS0 ?_
  case y8 => intro o' ho W hS; obtain ⟨c0, c1, c2, c3, c4, c5, c6, c7⟩ := bx_cells hS.2; simp only [execOp, ho]; go_simp; try rfl
  simp only [Act.put, List.setIfInBounds_toArray, List.set_cons_zero, List.set_cons_succ]
  refine heldTake (d := some 12) (op := .call { callee := Callee.builtin Builtin.len, args := #[Operand.tmp 11], argTypes := #[9] }) (g := none) 9 ?v9 rfl (by kernel_rfl) (by kernel_rfl) (by kernel_rfl) (by kernel_rfl) ?y9 HS0 ?_
  case y9 => intro o' ho W hS; simp only [execOp, ho]; go_simp; try rfl
  simp only [Act.put, List.setIfInBounds_toArray, List.set_cons_zero, List.set_cons_succ]
  refine heldCall (d := some 4) (op := .call { callee := Callee.value (Operand.func 20), args := #[Operand.tmp 3], argTypes := #[24] }) (g := none) 1 20 #[(.agg #[.bool fin, .int .i64 op, .bool m, .int .u8 ((a : Nat) : Int), .int .u8 ((b : Nat) : Int), .int .u8 ((c : Nat) : Int), .int .u8 ((d : Nat) : Int), .string s])] rfl (by kernel_rfl) (by kernel_rfl) ?y1 ?_
  case y1 => intro o' ho; simp only [execOp, ho]; go_simp; try rfl
  refine (lenbytes_any fin op m a b c d s n R (HG.out.below HS0.1 HG.out.size) HSZ.out HN.out).mono ?_
  rintro e R1 ⟨g, cap, rfl, HSL, HX1⟩
  have HS1 : Below w.heap.size w R1 ∧ R1.heap[w.heap.size]? = some (.cells #[.bool fin, .int .i64 op, .bool m, .int .u8 ((a : Nat) : Int), .int .u8 ((b : Nat) : Int), .int .u8 ((c : Nat) : Int), .int .u8 ((d : Nat) : Int), .string s] 24 (0, 0)) := ⟨HS0.1.trans (HX1.out.mono HS0.1.size), by rw [HX1.out.block _ (Array.getElem?_eq_some_iff.1 HS0.2).1]; exact HS0.2⟩
  refine ⟨_, rfl, HS1, ?_⟩
  simp only [Act.put, List.setIfInBounds_toArray, List.set_cons_zero, List.set_cons_succ]
  refine heldTake (d := some 5) (op := .call { callee := Callee.builtin Builtin.len, args := #[Operand.tmp 4], argTypes := #[26] }) (g := none) 2 ?v2 rfl (by kernel_rfl) (by kernel_rfl) (by kernel_rfl) (by kernel_rfl) ?y2 HS1 ?_
  case y2 => intro o' ho W hS; simp only [execOp, ho]; go_simp; try rfl
  simp only [Act.put, List.setIfInBounds_toArray, List.set_cons_zero, List.set_cons_succ]
  refine heldTake (d := some 6) (op := .binOp BinOp.add 3 (Operand.const (Value.int IntKind.i64 1)) (Operand.tmp 5) 3) (g := none) 3 ?v3 rfl (by kernel_rfl) (by kernel_rfl) (by kernel_rfl) (by kernel_rfl) ?y3 HS1 ?_
  case y3 => intro o' ho W hS; simp only [execOp, ho]; go_simp; try rfl
  simp only [Act.put, List.setIfInBounds_toArray, List.set_cons_zero, List.set_cons_succ]
  refine heldCall (d := some 8) (op := .call { callee := Callee.value (Operand.func 28), args := #[Operand.tmp 7], argTypes := #[24] }) (g := none) 5 28 #[(.agg #[.bool fin, .int .i64 op, .bool m, .int .u8 ((a : Nat) : Int), .int .u8 ((b : Nat) : Int), .int .u8 ((c : Nat) : Int), .int .u8 ((d : Nat) : Int), .string s])] rfl (by kernel_rfl) (by kernel_rfl) ?y5 ?_
  case y5 => intro o' ho; simp only [execOp, ho]; go_simp; try rfl
  refine (keysize_n fin op m a b c d s k R1 HK.out).mono ?_
  rintro e R2 ⟨rfl, HX2⟩
  have HS2 : Below w.heap.size w R2 ∧ R2.heap[w.heap.size]? = some (.cells #[.bool fin, .int .i64 op, .bool m, .int .u8 ((a : Nat) : Int), .int .u8 ((b : Nat) : Int), .int .u8 ((c : Nat) : Int), .int .u8 ((d : Nat) : Int), .string s] 24 (0, 0)) := ⟨HS1.1.trans (HX2.out.mono HS1.1.size), by rw [HX2.out.block _ (Array.getElem?_eq_some_iff.1 HS1.2).1]; exact HS1.2⟩
  refine ⟨_, rfl, HS2, ?_⟩
  simp only [Act.put, List.setIfInBounds_toArray, List.set_cons_zero, List.set_cons_succ]
  refine heldTake (d := some 9) (op := .binOp BinOp.add 3 (Operand.tmp 6) (Operand.tmp 8) 3) (g := none) 6 ?v6 rfl (by kernel_rfl) (by kernel_rfl) (by kernel_rfl) (by kernel_rfl) ?y6 HS2 ?_
  case y6 => intro o' ho W hS; simp only [execOp, ho]; go_simp; try rfl
  simp only [Act.put, List.setIfInBounds_toArray, List.set_cons_zero, List.set_cons_succ]
  refine heldTake (d := some 13) (op := .binOp BinOp.add 3 (Operand.tmp 9) (Operand.tmp 12) 3) (g := none) 10 ?v10 rfl (by kernel_rfl) (by kernel_rfl) (by kernel_rfl) (by kernel_rfl) ?y10 HS2 ?_
  case y10 => intro o' ho W hS; simp only [execOp, ho]; go_simp; try rfl
  simp only [Act.put, List.setIfInBounds_toArray, List.set_cons_zero, List.set_cons_succ]
  refine heldTake (d := some 2) (op := .assign (Operand.tmp 13)) (g := none) 11 ?v11 rfl (by kernel_rfl) (by kernel_rfl) (by kernel_rfl) (by kernel_rfl) ?y11 HS2 ?_
  case y11 => intro o' ho W hS; simp only [execOp, ho]; go_simp; try rfl
  simp only [Act.put, List.setIfInBounds_toArray, List.set_cons_zero, List.set_cons_succ]
  refine wpAnyH_done (by kernel_rfl) ?_ _
  refine NoPanic.normal ?_
  go_wp2
  go_ret
  exact ⟨by rw [HF.out]; rfl, ⟨HS2.1⟩⟩
end Go.Proofs.YtcelhondifaloaaDoor
