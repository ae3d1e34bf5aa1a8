/- frame: the document's Text. -/
import Derived.Test.YtimndpmbgfoofaaDoorFrC
set_option maxRecDepth 100000
namespace Go.Proofs.YtimndpmbgfoofaaDoor.Fra
open Go.RowKit MaskPlain FramePlain Mas

theorem strOf_app (a b : List Nat) : strOf (a ++ b) = strOf a ++ strOf b := by
  refine ByteArray.ext ?_
  simp [strOf, strOfNums, ByteArray.data_append]
theorem index_run {W : World} {ev : Operand → Value} {o : Oper} {x : Operand} {s : ByteArray} {L : List Nat} {l : Nat} (ho : o.op = .index 9 x (.const (.int .i64 0))) (hx : ev x = .string s) (hev : ev (.const (.int .i64 0)) = .int .i64 0) (hs : bytes s = L ∧ 0 < L.length) (hl : L.getD 0 0 = l) :
    (execOp ev o).run Tryd.prog W = .ok (.value (.int .u8 (l : Int))) W := by
  obtain ⟨hs1, hs2⟩ := hs
  have hz : 0 < s.size := by rw [← bytes_length, hs1]; exact hs2
  have hb := bytes_getD s 0 hz
  rw [hs1, hl] at hb
  subst hb
  simp only [execOp, ho, hx, hev]
  go_simp
  rfl
theorem from_run {W : World} {ev : Operand → Value} {o : Oper} {x : Operand} {s t : ByteArray} {L : List Nat} (ho : o.op = .slice 9 x (some (.const (.int .i64 1))) none none) (hx : ev x = .string s) (hev : ev (.const (.int .i64 1)) = .int .i64 1) (hs : bytes s = L ∧ 0 < L.length) (ht : s.extract 1 s.size = t) :
    (execOp ev o).run Tryd.prog W = .ok (.value (.string t)) W := by
  obtain ⟨hs1, hs2⟩ := hs
  have hz : 1 ≤ s.size := by rw [← bytes_length, hs1]; exact hs2
  subst ht
  simp only [execOp, ho, hx, hev, Option.map_some, Option.map_none]
  go_simp
  intro h; omega
theorem cat_run {W : World} {ev : Operand → Value} {o : Oper} {x y : Operand} {s t : ByteArray} (ho : o.op = .binOp .add 9 x y 9) (hx : ev x = .string s) (hy : ev y = .string t) (h : s.size + t.size ≤ 1000000) :
    (execOp ev o).run Tryd.prog W = .ok (.value (.string (s ++ t))) W := by
  simp only [execOp, ho, hx, hy]
  go_simp
  omega
theorem conv_run {W : World} {ev : Operand → Value} {o : Oper} {x : Operand} {v : Value} {s : ByteArray} (ho : o.op = .convert 36 9 x) (hx : ev x = v) (h : (convert 36 9 v).run Tryd.prog W = .ok (.string s) W) :
    (execOp ev o).run Tryd.prog W = .ok (.value (.string s)) W := by
  simp only [execOp, ho, hx, Sem.run_bind, Sem.run_pure]
  refine (congrArg (fun r => Result.andThen r _) h).trans ?_
  rfl

set_option maxHeartbeats 8000000 in
theorem reftext_any (fin : Bool) (k : Nat) (m : Bool) (a b c d : Nat) (s : ByteArray) (w : World) (hk : Small 256 [a, b, c, d]) (hc : chk (⟨fin, (k : Int), m, [a, b, c, d], bytes s⟩ : Fr) = 0) :
    Calls Tryd.prog 36 #[.agg #[.bool fin, .int .i64 (k : Int), .bool m, .int .u8 ((a : Nat) : Int), .int .u8 ((b : Nat) : Int), .int .u8 ((c : Nat) : Int), .int .u8 ((d : Nat) : Int), .string s]] w fun e w' => e = .returned (.string (strOf (text (⟨fin, (k : Int), m, [a, b, c, d], bytes s⟩ : Fr)))) ∧ Sl (Below w.heap.size w w') := by
  have HKS := Sl.mk hk
  obtain ⟨hform, hln⟩ := chk_ok hc
  have hln : s.size ≤ 65536 := by simpa only [bytes_length] using hln
  have HSZ := Sl.mk hln
  have hfc := form_cases hform
  have hk10 : k ≤ 10 := by have := hfc.1; simp only at this; omega
  have hsome : putL s.size = some (lenB s.size) := lenB_some (by omega)
  have hle := lenB_le s.size (by omega)
  have HLs := lenB_small (n := s.size) (by omega)
  have hlow := (lenB_low (n := s.size) (by omega)).1
  have hpos : 0 < (lenB s.size).length := by rw [lenB_length (by omega)]; split <;> (try split) <;> omega
  obtain ⟨L, hL⟩ : ∃ L, lenB s.size = L := ⟨_, rfl⟩
  have HLB := Sl.mk hL
  rw [hL] at hle HLs hlow hpos hsome
  obtain ⟨l0, hl0e⟩ : ∃ l0, L.getD 0 0 = l0 := ⟨_, rfl⟩
  have HL0 := Sl.mk hl0e
  rw [hl0e] at hlow
  have hl0 := hlow
  have HPOS := Sl.mk hpos
  obtain ⟨l1, hl1⟩ : ∃ l1, l0 + 128 = l1 := ⟨_, rfl⟩
  have z3 : IntKind.u8.wrap ((l0 : Int) + 128) = (l1 : Int) := by rw [IntKind.wrap_u8]; omega
  obtain ⟨LS, hLS⟩ : ∃ LS, strOf L = LS := ⟨_, rfl⟩
  have HLS2 := Sl.mk hLS
  have HLS3 : Sl (bytes LS = L ∧ 0 < L.length) := ⟨by rw [← hLS]; exact bytes_strOf L HLs, hpos⟩
  have hlz : LS.size ≤ 9 := by rw [← hLS, strOf_size]; exact hle
  have C26 : ∀ W, Calls Tryd.prog 50 #[.int .u64 (s.size : Int)] W fun e w' => e = .returned (.tuple #[.string LS, .bool true]) ∧ Sl (Below W.heap.size W w') := fun W => by rw [← hLS]; exact refput_yes s.size L W hsome (by omega)
  have hwr : IntKind.u64.wrap (s.size : Int) = (s.size : Int) := by rw [IntKind.wrap_u64]; omega
  obtain ⟨TL, hTL⟩ : ∃ TL, LS.extract 1 LS.size = TL := ⟨_, rfl⟩
  have HTL := Sl.mk hTL
  have HTZ : Sl (TL.size ≤ 9) := ⟨by rw [← hTL, ByteArray.size_extract]; omega⟩
  obtain ⟨KS, hKS⟩ : ∃ KS, strOf [a, b, c, d] = KS := ⟨_, rfl⟩
  have HKS2 := Sl.mk hKS
  have HKZ : Sl (KS.size = 4) := ⟨by rw [← hKS, strOf_size]; rfl⟩
  obtain ⟨TD, hTD⟩ : ∃ TD, strOf (turn [a, b, c, d] (rest4 0) (bytes s)) = TD := ⟨_, rfl⟩
  have HTDZ : Sl (TD.size = s.size) := ⟨by rw [← hTD, strOf_size, turn_length, bytes_length]⟩
  have C27 : ∀ W, Calls Tryd.prog 28 #[.agg #[.int .u8 ((a : Nat) : Int), .int .u8 ((b : Nat) : Int), .int .u8 ((c : Nat) : Int), .int .u8 ((d : Nat) : Int)], .int .i64 0, .string s] W fun e w' => e = .returned (.string TD) ∧ Sl (Below W.heap.size W w') := fun W => by rw [← hTD]; exact refapply_any [a, b, c, d] 0 s W rfl hk (by omega)
  have TXT : Sl (∀ x : Nat, Ending.returned (.string (strOf [x, l1] ++ TL ++ KS ++ TD)) = Ending.returned (.string (strOf ((([x] ++ L).set 1 (l0 + 128) ++ [a, b, c, d]) ++ tb true [a, b, c, d] (bytes s))))) := ⟨fun x => by
    have h1 : ([x] ++ L).set 1 (l0 + 128) = [x, l0 + 128] ++ L.drop 1 := by
      cases L with
      | nil => cases hpos
      | cons y ys => rfl
    have h2 : TL = strOf (L.drop 1) := by
      refine bytes_inj ?_
      rw [← hTL, bytes_extract, HLS3.out.1, bytes_strOf _ (fun x hx => HLs x (List.mem_of_mem_drop hx)), List.take_of_length_le (by rw [← hLS, strOf_size]; exact Nat.le_refl _)]
    rw [h1, strOf_app, strOf_app, strOf_app, h2, hKS, ← hTD, hl1]; rfl⟩
  clear hk hform hln hfc hc hsome hle HLs hpos hL hl0e hlow hLS hl1 hTL hKS hTD
  cases fin with
  | true =>
    cases m with
    | true =>
      obtain ⟨b0, hb0⟩ : ∃ b0, k + 128 = b0 := ⟨_, rfl⟩
      have HBY : Sl (byte0 (⟨true, (k : Int), true, [a, b, c, d], bytes s⟩ : Fr) = b0) := ⟨hb0⟩
      have z1 : IntKind.i64.wrap ((k : Int) + 128) = ((k + 128 : Nat) : Int) := by rw [IntKind.wrap_i64]; omega
      rw [hb0] at z1
      obtain ⟨H2, hH2⟩ : ∃ H2, strOf [b0, l1] = H2 := ⟨_, rfl⟩
      have hz2 : H2.size = 2 := by rw [← hH2, strOf_size]; rfl
      have z2 : IntKind.u8.wrap (b0 : Int) = (b0 : Int) := by rw [IntKind.wrap_u8]; omega
      obtain ⟨w1, hw1⟩ : ∃ w1, w.alloc (.cells #[.bool true, .int .i64 (k : Int), .bool true, .int .u8 ((a : Nat) : Int), .int .u8 ((b : Nat) : Int), .int .u8 ((c : Nat) : Int), .int .u8 ((d : Nat) : Int), .string s] 44) = w1 := ⟨_, rfl⟩
      have HB1 : Sl (Below w.heap.size w w1) := ⟨by rw [← hw1]; exact (bx_below w _).out⟩
      have HY1 : Sl (w1.heap[w.heap.size]? = some (.cells #[.bool true, .int .i64 (k : Int), .bool true, .int .u8 ((a : Nat) : Int), .int .u8 ((b : Nat) : Int), .int .u8 ((c : Nat) : Int), .int .u8 ((d : Nat) : Int), .string s] 44 (0, 0))) := ⟨by rw [← hw1]; exact bx_new _ _⟩
      obtain ⟨p0, p1, p2, p3, p4, p5, p6, p7⟩ := bx_cells HY1.out
      go_enter Tryd.func36, Tryd.ntmps36
      go_wp2_with fail
      refine (C26 _).mono ?_
      rintro e w2 ⟨rfl, HX2⟩
      have HB2 : Sl (Below w.heap.size w w2) := ⟨HB1.out.trans (HX2.out.mono HB1.out.size)⟩
      have HY2 : Sl (w2.heap[w.heap.size]? = some (.cells #[.bool true, .int .i64 (k : Int), .bool true, .int .u8 ((a : Nat) : Int), .int .u8 ((b : Nat) : Int), .int .u8 ((c : Nat) : Int), .int .u8 ((d : Nat) : Int), .string s] 44 (0, 0))) := ⟨below_key HY1.out HX2.out⟩
      clear HX2 HB1 HY1 hw1 C26 p0 p1 p2 p3 p4 p5 p6 p7
      obtain ⟨c0, c1, c2, c3, c4, c5, c6, c7⟩ := bx_cells HY2.out
      go_upto_region 7 with fail
      obtain ⟨R, hR⟩ : ∃ R, w2.drew = R := ⟨_, rfl⟩
      have HS0 : Below w.heap.size w R ∧ R.heap[w.heap.size]? = some (.cells #[.bool true, .int .i64 (k : Int), .bool true, .int .u8 ((a : Nat) : Int), .int .u8 ((b : Nat) : Int), .int .u8 ((c : Nat) : Int), .int .u8 ((d : Nat) : Int), .string s] 44 (0, 0)) := ⟨by rw [← hR]; exact HB2.out.drew, by rw [← hR]; exact HY2.out⟩
      refine wp_region_noPanic ?_
      refine wp_region_held (S := fun W => Below w.heap.size w W ∧ W.heap[w.heap.size]? = some (.cells #[.bool true, .int .i64 (k : Int), .bool true, .int .u8 ((a : Nat) : Int), .int .u8 ((b : Nat) : Int), .int .u8 ((c : Nat) : Int), .int .u8 ((d : Nat) : Int), .string s] 44 (0, 0))) (by kernel_rfl) ?_
      change wpAnyH _ _ _ _ _ _ _ _ w2.drew
      rw [hR]
      clear hR HB2 HY2 c0 c1 c2 c3 c4 c5 c6 c7
      refine heldTake (d := some 32) (op := .move (Operand.tmp 3)) (g := none) 0 ?v0a rfl (by kernel_rfl) (by kernel_rfl) (by kernel_rfl) (by kernel_rfl) ?y0a HS0 ?_
      case y0a => intro o' ho W hS; simp only [execOp, ho]; go_simp; try rfl
      simp only [Act.put, List.setIfInBounds_toArray, List.set_cons_zero, List.set_cons_succ]
      refine heldTake (d := some 33) (op := .convert 3 5 (Operand.tmp 32)) (g := none) 1 ?v1a rfl (by kernel_rfl) (by kernel_rfl) (by kernel_rfl) (by kernel_rfl) ?y1a HS0 ?_
      case y1a => intro o' ho W hS; simp only [execOp, ho]; go_simp; try rfl
      simp only [Act.put, List.setIfInBounds_toArray, List.set_cons_zero, List.set_cons_succ]
      refine heldTake (d := some 34) (op := .move (Operand.tmp 4)) (g := none) 2 ?v2a rfl (by kernel_rfl) (by kernel_rfl) (by kernel_rfl) (by kernel_rfl) ?y2a HS0 ?_
      case y2a => intro o' ho W hS; simp only [execOp, ho]; go_simp; try rfl
      simp only [Act.put, List.setIfInBounds_toArray, List.set_cons_zero, List.set_cons_succ]
      refine heldTake (d := some 35) (op := .index 9 (Operand.tmp 34) (Operand.const (Value.int IntKind.i64 0))) (g := none) 3 (.int .u8 (l0 : Int)) rfl (by kernel_rfl) (by kernel_rfl) (by kernel_rfl) (by kernel_rfl) ?y3a HS0 ?_
      case y3a => intro o' ho W hS; exact index_run ho (by rfl) (by rfl) HLS3.out HL0.out
      simp only [Act.put, List.setIfInBounds_toArray, List.set_cons_zero, List.set_cons_succ]
      refine heldTake (d := some 36) (op := .binOp BinOp.add 5 (Operand.tmp 35) (Operand.const (Value.int IntKind.u8 128)) 5) (g := none) 4 ?v4a rfl (by kernel_rfl) (by kernel_rfl) (by kernel_rfl) (by kernel_rfl) ?y4a HS0 ?_
      case y4a => intro o' ho W hS; simp only [execOp, ho]; go_simp; try rfl
      simp only [Act.put, List.setIfInBounds_toArray, List.set_cons_zero, List.set_cons_succ]
      refine heldTake (d := some 39) (op := .move (Operand.tmp 4)) (g := none) 7 ?v7a rfl (by kernel_rfl) (by kernel_rfl) (by kernel_rfl) (by kernel_rfl) ?y7a HS0 ?_
      case y7a => intro o' ho W hS; simp only [execOp, ho]; go_simp; try rfl
      simp only [Act.put, List.setIfInBounds_toArray, List.set_cons_zero, List.set_cons_succ]
      refine heldTake (d := some 40) (op := .slice 9 (Operand.tmp 39) (some (Operand.const (Value.int IntKind.i64 1))) none none) (g := none) 8 (.string TL) rfl (by kernel_rfl) (by kernel_rfl) (by kernel_rfl) (by kernel_rfl) ?y8a HS0 ?_
      case y8a => intro o' ho W hS; exact from_run ho (by rfl) (by rfl) HLS3.out HTL.out
      simp only [Act.put, List.setIfInBounds_toArray, List.set_cons_zero, List.set_cons_succ]
      refine heldTake (d := some 42) (op := .fieldAddr 44 (Operand.tmp 1) 3) (g := none) 10 ?v10a rfl (by kernel_rfl) (by kernel_rfl) (by kernel_rfl) (by kernel_rfl) ?y10a HS0 ?_
      case y10a => intro o' ho W hS; simp only [execOp, ho]; go_simp; try rfl
      simp only [Act.put, List.setIfInBounds_toArray, List.set_cons_zero, List.set_cons_succ]
      refine heldTake (d := some 43) (op := .slice 42 (Operand.tmp 42) none none none) (g := none) 11 ?v11a rfl (by kernel_rfl) (by kernel_rfl) (by kernel_rfl) (by kernel_rfl) ?y11a HS0 ?_
      case y11a => intro o' ho W hS; simp only [execOp, ho]; go_simp; try rfl
      simp only [Act.put, List.setIfInBounds_toArray, List.set_cons_zero, List.set_cons_succ]
      refine heldTake (d := some 44) (op := .convert 36 9 (Operand.tmp 43)) (g := none) 12 (.string KS) rfl (by kernel_rfl) (by kernel_rfl) (by kernel_rfl) (by kernel_rfl) ?y12a HS0 ?_
      case y12a => intro o' ho W hS; exact conv_run ho (by rfl) (by rw [← HKS2.out]; obtain ⟨e0, e1, e2, e3, e4, e5, e6, e7⟩ := bx_cells hS.2; exact (key_src e3 e4 e5 e6).conv)
      simp only [Act.put, List.setIfInBounds_toArray, List.set_cons_zero, List.set_cons_succ]
      refine heldTake (d := some 46) (op := .fieldAddr 44 (Operand.tmp 1) 3) (g := none) 14 ?v14a rfl (by kernel_rfl) (by kernel_rfl) (by kernel_rfl) (by kernel_rfl) ?y14a HS0 ?_
      case y14a => intro o' ho W hS; simp only [execOp, ho]; go_simp; try rfl
      simp only [Act.put, List.setIfInBounds_toArray, List.set_cons_zero, List.set_cons_succ]
      refine heldTake (d := some 47) (op := .load 42 (Operand.tmp 46)) (g := none) 15 ?v15a rfl (by kernel_rfl) (by kernel_rfl) (by kernel_rfl) (by kernel_rfl) ?y15a HS0 ?_
      case y15a => intro o' ho W hS; obtain ⟨e0, e1, e2, e3, e4, e5, e6, e7⟩ := bx_cells hS.2; simp only [execOp, ho]; go_simp; try rfl
      simp only [Act.put, List.setIfInBounds_toArray, List.set_cons_zero, List.set_cons_succ]
      refine heldTake (d := some 48) (op := .fieldAddr 44 (Operand.tmp 1) 4) (g := none) 16 ?v16a rfl (by kernel_rfl) (by kernel_rfl) (by kernel_rfl) (by kernel_rfl) ?y16a HS0 ?_
      case y16a => intro o' ho W hS; simp only [execOp, ho]; go_simp; try rfl
      simp only [Act.put, List.setIfInBounds_toArray, List.set_cons_zero, List.set_cons_succ]
      refine heldTake (d := some 49) (op := .load 9 (Operand.tmp 48)) (g := none) 17 ?v17a rfl (by kernel_rfl) (by kernel_rfl) (by kernel_rfl) (by kernel_rfl) ?y17a HS0 ?_
      case y17a => intro o' ho W hS; obtain ⟨e0, e1, e2, e3, e4, e5, e6, e7⟩ := bx_cells hS.2; simp only [execOp, ho]; go_simp; try rfl
      simp only [Act.put, List.setIfInBounds_toArray, List.set_cons_zero, List.set_cons_succ]
      obtain ⟨A, hA⟩ : ∃ A, R.alloc (.cells #[.int .u8 (b0 : Int), .int .u8 (l1 : Int)] 5) = A := ⟨_, rfl⟩
      have HRA : RowB A R.heap.size [b0, l1] := by rw [← hA]; exact rowB_new R [b0, l1]
      have BA : Below R.heap.size R A := by rw [← hA]; exact (Below.refl _ _).alloc (Nat.le_refl _) _
      have HSA : Below w.heap.size w A ∧ A.heap[w.heap.size]? = some (.cells #[.bool true, .int .i64 (k : Int), .bool true, .int .u8 ((a : Nat) : Int), .int .u8 ((b : Nat) : Int), .int .u8 ((c : Nat) : Int), .int .u8 ((d : Nat) : Int), .string s] 44 (0, 0)) := ⟨HS0.1.trans (BA.mono HS0.1.size), below_key HS0.2 BA⟩
      refine heldCA (di := some 37) (opi := .buildSlice 36 2 #[(0, Operand.tmp 33), (1, Operand.tmp 36)]) (dj := some 50) (opj := .call { callee := Callee.value (Operand.func 28), args := #[Operand.tmp 47, Operand.const (Value.int IntKind.i64 0), Operand.tmp 49], argTypes := #[42, 3, 9] }) (ti := 36) (tj := 9) 5 18 (.slice (some ⟨R.heap.size, 0, none⟩) 2 2) A 28 #[.agg #[.int .u8 ((a : Nat) : Int), .int .u8 ((b : Nat) : Int), .int .u8 ((c : Nat) : Int), .int .u8 ((d : Nat) : Int)], .int .i64 0, .string s] rfl rfl (by kernel_rfl) ?y5aa ?y18aa HSA ?firsta ?seconda
      case y5aa => intro o' ho ht; simp only [execOp, ho]; go_simp; first | done | (rw [hA]; done) | rfl
      case y18aa => intro o' ho ht; simp only [execOp, ho]; go_simp; try rfl
      case firsta =>
        simp only [Act.put, List.setIfInBounds_toArray, List.set_cons_zero, List.set_cons_succ]
        refine heldMore (S' := fun W => (Below w.heap.size w W ∧ W.heap[w.heap.size]? = some (.cells #[.bool true, .int .i64 (k : Int), .bool true, .int .u8 ((a : Nat) : Int), .int .u8 ((b : Nat) : Int), .int .u8 ((c : Nat) : Int), .int .u8 ((d : Nat) : Int), .string s] 44 (0, 0))) ∧ RowB W R.heap.size [b0, l1]) (fun W h => h.1) _ _ _ _ ?_
        have HSM : (Below w.heap.size w A ∧ A.heap[w.heap.size]? = some (.cells #[.bool true, .int .i64 (k : Int), .bool true, .int .u8 ((a : Nat) : Int), .int .u8 ((b : Nat) : Int), .int .u8 ((c : Nat) : Int), .int .u8 ((d : Nat) : Int), .string s] 44 (0, 0))) ∧ RowB A R.heap.size [b0, l1] := ⟨HSA, HRA⟩
        refine heldTake (d := some 38) (op := .convert 36 9 (Operand.tmp 37)) (g := none) 6 (.string H2) rfl (by kernel_rfl) (by kernel_rfl) (by kernel_rfl) (by kernel_rfl) ?y6af HSM ?_
        case y6af => intro o' ho W hS; exact conv_run ho (by rfl) (by rw [← hH2]; exact hS.2.str rfl)
        simp only [Act.put, List.setIfInBounds_toArray, List.set_cons_zero, List.set_cons_succ]
        refine heldTake (d := some 41) (op := .binOp BinOp.add 9 (Operand.tmp 38) (Operand.tmp 40) 9) (g := none) 9 (.string (H2 ++ TL)) rfl (by kernel_rfl) (by kernel_rfl) (by kernel_rfl) (by kernel_rfl) ?y9af HSM ?_
        case y9af => intro o' ho W hS; exact cat_run ho (by rfl) (by rfl) (by rw [hz2]; have := HTZ.out; omega)
        simp only [Act.put, List.setIfInBounds_toArray, List.set_cons_zero, List.set_cons_succ]
        refine heldTake (d := some 45) (op := .binOp BinOp.add 9 (Operand.tmp 41) (Operand.tmp 44) 9) (g := none) 13 (.string (H2 ++ TL ++ KS)) rfl (by kernel_rfl) (by kernel_rfl) (by kernel_rfl) (by kernel_rfl) ?y13af HSM ?_
        case y13af => intro o' ho W hS; exact cat_run ho (by rfl) (by rfl) (by rw [ByteArray.size_append, hz2, HKZ.out]; have := HTZ.out; omega)
        simp only [Act.put, List.setIfInBounds_toArray, List.set_cons_zero, List.set_cons_succ]
        refine heldCall (d := some 50) (op := .call { callee := Callee.value (Operand.func 28), args := #[Operand.tmp 47, Operand.const (Value.int IntKind.i64 0), Operand.tmp 49], argTypes := #[42, 3, 9] }) (g := none) 18 28 #[.agg #[.int .u8 ((a : Nat) : Int), .int .u8 ((b : Nat) : Int), .int .u8 ((c : Nat) : Int), .int .u8 ((d : Nat) : Int)], .int .i64 0, .string s] rfl (by kernel_rfl) (by kernel_rfl) ?y18af ?_
        case y18af => intro o' ho; simp only [execOp, ho]; go_simp; try rfl
        refine (C27 A).mono ?_
        rintro e X ⟨rfl, HXX⟩
        have HSX : (Below w.heap.size w X ∧ X.heap[w.heap.size]? = some (.cells #[.bool true, .int .i64 (k : Int), .bool true, .int .u8 ((a : Nat) : Int), .int .u8 ((b : Nat) : Int), .int .u8 ((c : Nat) : Int), .int .u8 ((d : Nat) : Int), .string s] 44 (0, 0))) ∧ RowB X R.heap.size [b0, l1] := ⟨⟨HSA.1.trans (HXX.out.mono HSA.1.size), below_key HSA.2 HXX.out⟩, HRA.below HXX.out⟩
        refine ⟨_, rfl, HSX, ?_⟩
        simp only [Act.put, List.setIfInBounds_toArray, List.set_cons_zero, List.set_cons_succ]
        refine heldTake (d := some 51) (op := .binOp BinOp.add 9 (Operand.tmp 45) (Operand.tmp 50) 9) (g := none) 19 (.string (H2 ++ TL ++ KS ++ TD)) rfl (by kernel_rfl) (by kernel_rfl) (by kernel_rfl) (by kernel_rfl) ?y19af HSX ?_
        case y19af => intro o' ho W hS; exact cat_run ho (by rfl) (by rfl) (by rw [ByteArray.size_append, ByteArray.size_append, hz2, HKZ.out, HTDZ.out]; have := HTZ.out; have := HSZ.out; omega)
        simp only [Act.put, List.setIfInBounds_toArray, List.set_cons_zero, List.set_cons_succ]
        refine heldTake (d := some 2) (op := .assign (Operand.tmp 51)) (g := none) 20 ?v20af rfl (by kernel_rfl) (by kernel_rfl) (by kernel_rfl) (by kernel_rfl) ?y20af HSX ?_
        case y20af => intro o' ho W hS; simp only [execOp, ho]; go_simp; try rfl
        simp only [Act.put, List.setIfInBounds_toArray, List.set_cons_zero, List.set_cons_succ]
        refine wpAnyH_done (by kernel_rfl) ?_ _
        refine NoPanic.normal ?_
        go_wp2
        go_ret
        refine ⟨?_, ⟨HSX.1.1⟩⟩
        rw [text_mask (⟨true, (k : Int), true, [a, b, c, d], bytes s⟩ : Fr) (L := L) l0 rfl HBY.out (by rw [bytes_length]; exact HLB.out) HL0.out HPOS.out]
        rw [← hH2]
        exact TXT.out b0
      case seconda =>
        refine (C27 R).mono ?_
        rintro e X ⟨rfl, HXX⟩
        have HSX : Below w.heap.size w X ∧ X.heap[w.heap.size]? = some (.cells #[.bool true, .int .i64 (k : Int), .bool true, .int .u8 ((a : Nat) : Int), .int .u8 ((b : Nat) : Int), .int .u8 ((c : Nat) : Int), .int .u8 ((d : Nat) : Int), .string s] 44 (0, 0)) := ⟨HS0.1.trans (HXX.out.mono HS0.1.size), below_key HS0.2 HXX.out⟩
        refine ⟨_, rfl, HSX, ?_⟩
        simp only [Act.put, List.setIfInBounds_toArray, List.set_cons_zero, List.set_cons_succ]
        obtain ⟨Y, hY⟩ : ∃ Y, X.alloc (.cells #[.int .u8 (b0 : Int), .int .u8 (l1 : Int)] 5) = Y := ⟨_, rfl⟩
        have HRY : RowB Y X.heap.size [b0, l1] := by rw [← hY]; exact rowB_new X [b0, l1]
        have BY : Below X.heap.size X Y := by rw [← hY]; exact (Below.refl _ _).alloc (Nat.le_refl _) _
        have HSY : Below w.heap.size w Y ∧ Y.heap[w.heap.size]? = some (.cells #[.bool true, .int .i64 (k : Int), .bool true, .int .u8 ((a : Nat) : Int), .int .u8 ((b : Nat) : Int), .int .u8 ((c : Nat) : Int), .int .u8 ((d : Nat) : Int), .string s] 44 (0, 0)) := ⟨HSX.1.trans (BY.mono HSX.1.size), below_key HSX.2 BY⟩
        refine heldRunT (d := some 37) (op := .buildSlice 36 2 #[(0, Operand.tmp 33), (1, Operand.tmp 36)]) (g := none) (t := 36) 5 (.slice (some ⟨X.heap.size, 0, none⟩) 2 2) Y rfl (by kernel_rfl) (by kernel_rfl) ?y5ag HSY ?_
        case y5ag => intro o' ho _; simp only [execOp, ho]; go_simp; first | done | (rw [hY]; done) | rfl
        simp only [Act.put, List.setIfInBounds_toArray, List.set_cons_zero, List.set_cons_succ]
        refine heldRunT (d := some 38) (op := .convert 36 9 (Operand.tmp 37)) (g := none) (t := 9) 6 (.string H2) Y rfl (by kernel_rfl) (by kernel_rfl) ?y6ag HSY ?_
        case y6ag => intro o' ho _; exact conv_run ho (by rfl) (by rw [← hH2]; exact HRY.str rfl)
        simp only [Act.put, List.setIfInBounds_toArray, List.set_cons_zero, List.set_cons_succ]
        refine heldTake (d := some 41) (op := .binOp BinOp.add 9 (Operand.tmp 38) (Operand.tmp 40) 9) (g := none) 9 (.string (H2 ++ TL)) rfl (by kernel_rfl) (by kernel_rfl) (by kernel_rfl) (by kernel_rfl) ?y9ag HSY ?_
        case y9ag => intro o' ho W hS; exact cat_run ho (by rfl) (by rfl) (by rw [hz2]; have := HTZ.out; omega)
        simp only [Act.put, List.setIfInBounds_toArray, List.set_cons_zero, List.set_cons_succ]
        refine heldTake (d := some 45) (op := .binOp BinOp.add 9 (Operand.tmp 41) (Operand.tmp 44) 9) (g := none) 13 (.string (H2 ++ TL ++ KS)) rfl (by kernel_rfl) (by kernel_rfl) (by kernel_rfl) (by kernel_rfl) ?y13ag HSY ?_
        case y13ag => intro o' ho W hS; exact cat_run ho (by rfl) (by rfl) (by rw [ByteArray.size_append, hz2, HKZ.out]; have := HTZ.out; omega)
        simp only [Act.put, List.setIfInBounds_toArray, List.set_cons_zero, List.set_cons_succ]
        refine heldTake (d := some 51) (op := .binOp BinOp.add 9 (Operand.tmp 45) (Operand.tmp 50) 9) (g := none) 19 (.string (H2 ++ TL ++ KS ++ TD)) rfl (by kernel_rfl) (by kernel_rfl) (by kernel_rfl) (by kernel_rfl) ?y19ag HSY ?_
        case y19ag => intro o' ho W hS; exact cat_run ho (by rfl) (by rfl) (by rw [ByteArray.size_append, ByteArray.size_append, hz2, HKZ.out, HTDZ.out]; have := HTZ.out; have := HSZ.out; omega)
        simp only [Act.put, List.setIfInBounds_toArray, List.set_cons_zero, List.set_cons_succ]
        refine heldTake (d := some 2) (op := .assign (Operand.tmp 51)) (g := none) 20 ?v20ag rfl (by kernel_rfl) (by kernel_rfl) (by kernel_rfl) (by kernel_rfl) ?y20ag HSY ?_
        case y20ag => intro o' ho W hS; simp only [execOp, ho]; go_simp; try rfl
        simp only [Act.put, List.setIfInBounds_toArray, List.set_cons_zero, List.set_cons_succ]
        refine wpAnyH_done (by kernel_rfl) ?_ _
        refine NoPanic.normal ?_
        go_wp2
        go_ret
        refine ⟨?_, ⟨HSY.1⟩⟩
        rw [text_mask (⟨true, (k : Int), true, [a, b, c, d], bytes s⟩ : Fr) (L := L) l0 rfl HBY.out (by rw [bytes_length]; exact HLB.out) HL0.out HPOS.out]
        rw [← hH2]
        exact TXT.out b0
    | false =>
      obtain ⟨b0, hb0⟩ : ∃ b0, k + 128 = b0 := ⟨_, rfl⟩
      have HBY : Sl (byte0 (⟨true, (k : Int), false, [a, b, c, d], bytes s⟩ : Fr) = b0) := ⟨hb0⟩
      have z1 : IntKind.i64.wrap ((k : Int) + 128) = ((k + 128 : Nat) : Int) := by rw [IntKind.wrap_i64]; omega
      rw [hb0] at z1
      obtain ⟨H1, hH1⟩ : ∃ H1, strOf [b0] = H1 := ⟨_, rfl⟩
      have hz1 : H1.size = 1 := by rw [← hH1, strOf_size]; rfl
      have z2 : IntKind.u8.wrap (b0 : Int) = (b0 : Int) := by rw [IntKind.wrap_u8]; omega
      obtain ⟨w1, hw1⟩ : ∃ w1, w.alloc (.cells #[.bool true, .int .i64 (k : Int), .bool false, .int .u8 ((a : Nat) : Int), .int .u8 ((b : Nat) : Int), .int .u8 ((c : Nat) : Int), .int .u8 ((d : Nat) : Int), .string s] 44) = w1 := ⟨_, rfl⟩
      have HB1 : Sl (Below w.heap.size w w1) := ⟨by rw [← hw1]; exact (bx_below w _).out⟩
      have HY1 : Sl (w1.heap[w.heap.size]? = some (.cells #[.bool true, .int .i64 (k : Int), .bool false, .int .u8 ((a : Nat) : Int), .int .u8 ((b : Nat) : Int), .int .u8 ((c : Nat) : Int), .int .u8 ((d : Nat) : Int), .string s] 44 (0, 0))) := ⟨by rw [← hw1]; exact bx_new _ _⟩
      obtain ⟨p0, p1, p2, p3, p4, p5, p6, p7⟩ := bx_cells HY1.out
      go_enter Tryd.func36, Tryd.ntmps36
      go_wp2_with fail
      refine (C26 _).mono ?_
      rintro e w2 ⟨rfl, HX2⟩
      have HB2 : Sl (Below w.heap.size w w2) := ⟨HB1.out.trans (HX2.out.mono HB1.out.size)⟩
      have HY2 : Sl (w2.heap[w.heap.size]? = some (.cells #[.bool true, .int .i64 (k : Int), .bool false, .int .u8 ((a : Nat) : Int), .int .u8 ((b : Nat) : Int), .int .u8 ((c : Nat) : Int), .int .u8 ((d : Nat) : Int), .string s] 44 (0, 0))) := ⟨below_key HY1.out HX2.out⟩
      clear HX2 HB1 HY1 hw1 C26 p0 p1 p2 p3 p4 p5 p6 p7
      obtain ⟨c0, c1, c2, c3, c4, c5, c6, c7⟩ := bx_cells HY2.out
      obtain ⟨w3, hw3⟩ : ∃ V, w2.alloc (.cells #[.int .u8 (b0 : Int)] 5) = V := ⟨_, rfl⟩
      have HX3 : Sl (Below w2.heap.size w2 w3) := ⟨by rw [← hw3]; exact (Below.refl _ _).alloc (Nat.le_refl _) _⟩
      have HB3 : Sl (Below w.heap.size w w3) := ⟨HB2.out.trans (HX3.out.mono HB2.out.size)⟩
      have HY3 : Sl (w3.heap[w.heap.size]? = some (.cells #[.bool true, .int .i64 (k : Int), .bool false, .int .u8 ((a : Nat) : Int), .int .u8 ((b : Nat) : Int), .int .u8 ((c : Nat) : Int), .int .u8 ((d : Nat) : Int), .string s] 44 (0, 0))) := ⟨below_key HY2.out HX3.out⟩
      obtain ⟨d0, d1, d2, d3, d4, d5, d6, d7⟩ := bx_cells HY3.out
      have hcv : (convert 36 9 (.slice (some ⟨w2.heap.size, 0, none⟩) 1 1)).run Tryd.prog w3 = .ok (.string H1) w3 := by
        rw [← hH1, ← hw3]; exact (rowB_new w2 [b0]).str rfl
      have hs6 := HSZ.out
      go_wp2
      go_ret
      refine ⟨?_, HB3⟩
      rw [text_bare (⟨true, (k : Int), false, [a, b, c, d], bytes s⟩ : Fr) (L := L) rfl HBY.out (by rw [bytes_length]; exact HLB.out)]
      show Ending.returned (.string (H1 ++ LS ++ s)) = .returned (.string (strOf (([b0] ++ L) ++ bytes s)))
      rw [← hH1, ← HLS2.out, strOf_app, strOf_app, strOf_bytes]
  | false =>
    cases m with
    | true =>
      obtain ⟨b0, hb0⟩ : ∃ b0, k  = b0 := ⟨_, rfl⟩
      have HBY : Sl (byte0 (⟨false, (k : Int), true, [a, b, c, d], bytes s⟩ : Fr) = b0) := ⟨hb0⟩
      have z1 : IntKind.i64.wrap ((k : Int) + 128) = ((k + 128 : Nat) : Int) := by rw [IntKind.wrap_i64]; omega
      subst hb0
      clear z1
      obtain ⟨H2, hH2⟩ : ∃ H2, strOf [k, l1] = H2 := ⟨_, rfl⟩
      have hz2 : H2.size = 2 := by rw [← hH2, strOf_size]; rfl
      have z2 : IntKind.u8.wrap (k : Int) = (k : Int) := by rw [IntKind.wrap_u8]; omega
      obtain ⟨w1, hw1⟩ : ∃ w1, w.alloc (.cells #[.bool false, .int .i64 (k : Int), .bool true, .int .u8 ((a : Nat) : Int), .int .u8 ((b : Nat) : Int), .int .u8 ((c : Nat) : Int), .int .u8 ((d : Nat) : Int), .string s] 44) = w1 := ⟨_, rfl⟩
      have HB1 : Sl (Below w.heap.size w w1) := ⟨by rw [← hw1]; exact (bx_below w _).out⟩
      have HY1 : Sl (w1.heap[w.heap.size]? = some (.cells #[.bool false, .int .i64 (k : Int), .bool true, .int .u8 ((a : Nat) : Int), .int .u8 ((b : Nat) : Int), .int .u8 ((c : Nat) : Int), .int .u8 ((d : Nat) : Int), .string s] 44 (0, 0))) := ⟨by rw [← hw1]; exact bx_new _ _⟩
      obtain ⟨p0, p1, p2, p3, p4, p5, p6, p7⟩ := bx_cells HY1.out
      go_enter Tryd.func36, Tryd.ntmps36
      go_wp2_with fail
      refine (C26 _).mono ?_
      rintro e w2 ⟨rfl, HX2⟩
      have HB2 : Sl (Below w.heap.size w w2) := ⟨HB1.out.trans (HX2.out.mono HB1.out.size)⟩
      have HY2 : Sl (w2.heap[w.heap.size]? = some (.cells #[.bool false, .int .i64 (k : Int), .bool true, .int .u8 ((a : Nat) : Int), .int .u8 ((b : Nat) : Int), .int .u8 ((c : Nat) : Int), .int .u8 ((d : Nat) : Int), .string s] 44 (0, 0))) := ⟨below_key HY1.out HX2.out⟩
      clear HX2 HB1 HY1 hw1 C26 p0 p1 p2 p3 p4 p5 p6 p7
      obtain ⟨c0, c1, c2, c3, c4, c5, c6, c7⟩ := bx_cells HY2.out
      go_upto_region 7 with fail
      obtain ⟨R, hR⟩ : ∃ R, w2.drew = R := ⟨_, rfl⟩
      have HS0 : Below w.heap.size w R ∧ R.heap[w.heap.size]? = some (.cells #[.bool false, .int .i64 (k : Int), .bool true, .int .u8 ((a : Nat) : Int), .int .u8 ((b : Nat) : Int), .int .u8 ((c : Nat) : Int), .int .u8 ((d : Nat) : Int), .string s] 44 (0, 0)) := ⟨by rw [← hR]; exact HB2.out.drew, by rw [← hR]; exact HY2.out⟩
      refine wp_region_noPanic ?_
      refine wp_region_held (S := fun W => Below w.heap.size w W ∧ W.heap[w.heap.size]? = some (.cells #[.bool false, .int .i64 (k : Int), .bool true, .int .u8 ((a : Nat) : Int), .int .u8 ((b : Nat) : Int), .int .u8 ((c : Nat) : Int), .int .u8 ((d : Nat) : Int), .string s] 44 (0, 0))) (by kernel_rfl) ?_
      change wpAnyH _ _ _ _ _ _ _ _ w2.drew
      rw [hR]
      clear hR HB2 HY2 c0 c1 c2 c3 c4 c5 c6 c7
      refine heldTake (d := some 32) (op := .move (Operand.tmp 3)) (g := none) 0 ?v0b rfl (by kernel_rfl) (by kernel_rfl) (by kernel_rfl) (by kernel_rfl) ?y0b HS0 ?_
      case y0b => intro o' ho W hS; simp only [execOp, ho]; go_simp; try rfl
      simp only [Act.put, List.setIfInBounds_toArray, List.set_cons_zero, List.set_cons_succ]
      refine heldTake (d := some 33) (op := .convert 3 5 (Operand.tmp 32)) (g := none) 1 ?v1b rfl (by kernel_rfl) (by kernel_rfl) (by kernel_rfl) (by kernel_rfl) ?y1b HS0 ?_
      case y1b => intro o' ho W hS; simp only [execOp, ho]; go_simp; try rfl
      simp only [Act.put, List.setIfInBounds_toArray, List.set_cons_zero, List.set_cons_succ]
      refine heldTake (d := some 34) (op := .move (Operand.tmp 4)) (g := none) 2 ?v2b rfl (by kernel_rfl) (by kernel_rfl) (by kernel_rfl) (by kernel_rfl) ?y2b HS0 ?_
      case y2b => intro o' ho W hS; simp only [execOp, ho]; go_simp; try rfl
      simp only [Act.put, List.setIfInBounds_toArray, List.set_cons_zero, List.set_cons_succ]
      refine heldTake (d := some 35) (op := .index 9 (Operand.tmp 34) (Operand.const (Value.int IntKind.i64 0))) (g := none) 3 (.int .u8 (l0 : Int)) rfl (by kernel_rfl) (by kernel_rfl) (by kernel_rfl) (by kernel_rfl) ?y3b HS0 ?_
      case y3b => intro o' ho W hS; exact index_run ho (by rfl) (by rfl) HLS3.out HL0.out
      simp only [Act.put, List.setIfInBounds_toArray, List.set_cons_zero, List.set_cons_succ]
      refine heldTake (d := some 36) (op := .binOp BinOp.add 5 (Operand.tmp 35) (Operand.const (Value.int IntKind.u8 128)) 5) (g := none) 4 ?v4b rfl (by kernel_rfl) (by kernel_rfl) (by kernel_rfl) (by kernel_rfl) ?y4b HS0 ?_
      case y4b => intro o' ho W hS; simp only [execOp, ho]; go_simp; try rfl
      simp only [Act.put, List.setIfInBounds_toArray, List.set_cons_zero, List.set_cons_succ]
      refine heldTake (d := some 39) (op := .move (Operand.tmp 4)) (g := none) 7 ?v7b rfl (by kernel_rfl) (by kernel_rfl) (by kernel_rfl) (by kernel_rfl) ?y7b HS0 ?_
      case y7b => intro o' ho W hS; simp only [execOp, ho]; go_simp; try rfl
      simp only [Act.put, List.setIfInBounds_toArray, List.set_cons_zero, List.set_cons_succ]
      refine heldTake (d := some 40) (op := .slice 9 (Operand.tmp 39) (some (Operand.const (Value.int IntKind.i64 1))) none none) (g := none) 8 (.string TL) rfl (by kernel_rfl) (by kernel_rfl) (by kernel_rfl) (by kernel_rfl) ?y8b HS0 ?_
      case y8b => intro o' ho W hS; exact from_run ho (by rfl) (by rfl) HLS3.out HTL.out
      simp only [Act.put, List.setIfInBounds_toArray, List.set_cons_zero, List.set_cons_succ]
      refine heldTake (d := some 42) (op := .fieldAddr 44 (Operand.tmp 1) 3) (g := none) 10 ?v10b rfl (by kernel_rfl) (by kernel_rfl) (by kernel_rfl) (by kernel_rfl) ?y10b HS0 ?_
      case y10b => intro o' ho W hS; simp only [execOp, ho]; go_simp; try rfl
      simp only [Act.put, List.setIfInBounds_toArray, List.set_cons_zero, List.set_cons_succ]
      refine heldTake (d := some 43) (op := .slice 42 (Operand.tmp 42) none none none) (g := none) 11 ?v11b rfl (by kernel_rfl) (by kernel_rfl) (by kernel_rfl) (by kernel_rfl) ?y11b HS0 ?_
      case y11b => intro o' ho W hS; simp only [execOp, ho]; go_simp; try rfl
      simp only [Act.put, List.setIfInBounds_toArray, List.set_cons_zero, List.set_cons_succ]
      refine heldTake (d := some 44) (op := .convert 36 9 (Operand.tmp 43)) (g := none) 12 (.string KS) rfl (by kernel_rfl) (by kernel_rfl) (by kernel_rfl) (by kernel_rfl) ?y12b HS0 ?_
      case y12b => intro o' ho W hS; exact conv_run ho (by rfl) (by rw [← HKS2.out]; obtain ⟨e0, e1, e2, e3, e4, e5, e6, e7⟩ := bx_cells hS.2; exact (key_src e3 e4 e5 e6).conv)
      simp only [Act.put, List.setIfInBounds_toArray, List.set_cons_zero, List.set_cons_succ]
      refine heldTake (d := some 46) (op := .fieldAddr 44 (Operand.tmp 1) 3) (g := none) 14 ?v14b rfl (by kernel_rfl) (by kernel_rfl) (by kernel_rfl) (by kernel_rfl) ?y14b HS0 ?_
      case y14b => intro o' ho W hS; simp only [execOp, ho]; go_simp; try rfl
      simp only [Act.put, List.setIfInBounds_toArray, List.set_cons_zero, List.set_cons_succ]
      refine heldTake (d := some 47) (op := .load 42 (Operand.tmp 46)) (g := none) 15 ?v15b rfl (by kernel_rfl) (by kernel_rfl) (by kernel_rfl) (by kernel_rfl) ?y15b HS0 ?_
      case y15b => intro o' ho W hS; obtain ⟨e0, e1, e2, e3, e4, e5, e6, e7⟩ := bx_cells hS.2; simp only [execOp, ho]; go_simp; try rfl
      simp only [Act.put, List.setIfInBounds_toArray, List.set_cons_zero, List.set_cons_succ]
      refine heldTake (d := some 48) (op := .fieldAddr 44 (Operand.tmp 1) 4) (g := none) 16 ?v16b rfl (by kernel_rfl) (by kernel_rfl) (by kernel_rfl) (by kernel_rfl) ?y16b HS0 ?_
      case y16b => intro o' ho W hS; simp only [execOp, ho]; go_simp; try rfl
      simp only [Act.put, List.setIfInBounds_toArray, List.set_cons_zero, List.set_cons_succ]
      refine heldTake (d := some 49) (op := .load 9 (Operand.tmp 48)) (g := none) 17 ?v17b rfl (by kernel_rfl) (by kernel_rfl) (by kernel_rfl) (by kernel_rfl) ?y17b HS0 ?_
      case y17b => intro o' ho W hS; obtain ⟨e0, e1, e2, e3, e4, e5, e6, e7⟩ := bx_cells hS.2; simp only [execOp, ho]; go_simp; try rfl
      simp only [Act.put, List.setIfInBounds_toArray, List.set_cons_zero, List.set_cons_succ]
      obtain ⟨A, hA⟩ : ∃ A, R.alloc (.cells #[.int .u8 (k : Int), .int .u8 (l1 : Int)] 5) = A := ⟨_, rfl⟩
      have HRA : RowB A R.heap.size [k, l1] := by rw [← hA]; exact rowB_new R [k, l1]
      have BA : Below R.heap.size R A := by rw [← hA]; exact (Below.refl _ _).alloc (Nat.le_refl _) _
      have HSA : Below w.heap.size w A ∧ A.heap[w.heap.size]? = some (.cells #[.bool false, .int .i64 (k : Int), .bool true, .int .u8 ((a : Nat) : Int), .int .u8 ((b : Nat) : Int), .int .u8 ((c : Nat) : Int), .int .u8 ((d : Nat) : Int), .string s] 44 (0, 0)) := ⟨HS0.1.trans (BA.mono HS0.1.size), below_key HS0.2 BA⟩
      refine heldCA (di := some 37) (opi := .buildSlice 36 2 #[(0, Operand.tmp 33), (1, Operand.tmp 36)]) (dj := some 50) (opj := .call { callee := Callee.value (Operand.func 28), args := #[Operand.tmp 47, Operand.const (Value.int IntKind.i64 0), Operand.tmp 49], argTypes := #[42, 3, 9] }) (ti := 36) (tj := 9) 5 18 (.slice (some ⟨R.heap.size, 0, none⟩) 2 2) A 28 #[.agg #[.int .u8 ((a : Nat) : Int), .int .u8 ((b : Nat) : Int), .int .u8 ((c : Nat) : Int), .int .u8 ((d : Nat) : Int)], .int .i64 0, .string s] rfl rfl (by kernel_rfl) ?y5ab ?y18ab HSA ?firstb ?secondb
      case y5ab => intro o' ho ht; simp only [execOp, ho]; go_simp; first | done | (rw [hA]; done) | rfl
      case y18ab => intro o' ho ht; simp only [execOp, ho]; go_simp; try rfl
      case firstb =>
        simp only [Act.put, List.setIfInBounds_toArray, List.set_cons_zero, List.set_cons_succ]
        refine heldMore (S' := fun W => (Below w.heap.size w W ∧ W.heap[w.heap.size]? = some (.cells #[.bool false, .int .i64 (k : Int), .bool true, .int .u8 ((a : Nat) : Int), .int .u8 ((b : Nat) : Int), .int .u8 ((c : Nat) : Int), .int .u8 ((d : Nat) : Int), .string s] 44 (0, 0))) ∧ RowB W R.heap.size [k, l1]) (fun W h => h.1) _ _ _ _ ?_
        have HSM : (Below w.heap.size w A ∧ A.heap[w.heap.size]? = some (.cells #[.bool false, .int .i64 (k : Int), .bool true, .int .u8 ((a : Nat) : Int), .int .u8 ((b : Nat) : Int), .int .u8 ((c : Nat) : Int), .int .u8 ((d : Nat) : Int), .string s] 44 (0, 0))) ∧ RowB A R.heap.size [k, l1] := ⟨HSA, HRA⟩
        refine heldTake (d := some 38) (op := .convert 36 9 (Operand.tmp 37)) (g := none) 6 (.string H2) rfl (by kernel_rfl) (by kernel_rfl) (by kernel_rfl) (by kernel_rfl) ?y6bf HSM ?_
        case y6bf => intro o' ho W hS; exact conv_run ho (by rfl) (by rw [← hH2]; exact hS.2.str rfl)
        simp only [Act.put, List.setIfInBounds_toArray, List.set_cons_zero, List.set_cons_succ]
        refine heldTake (d := some 41) (op := .binOp BinOp.add 9 (Operand.tmp 38) (Operand.tmp 40) 9) (g := none) 9 (.string (H2 ++ TL)) rfl (by kernel_rfl) (by kernel_rfl) (by kernel_rfl) (by kernel_rfl) ?y9bf HSM ?_
        case y9bf => intro o' ho W hS; exact cat_run ho (by rfl) (by rfl) (by rw [hz2]; have := HTZ.out; omega)
        simp only [Act.put, List.setIfInBounds_toArray, List.set_cons_zero, List.set_cons_succ]
        refine heldTake (d := some 45) (op := .binOp BinOp.add 9 (Operand.tmp 41) (Operand.tmp 44) 9) (g := none) 13 (.string (H2 ++ TL ++ KS)) rfl (by kernel_rfl) (by kernel_rfl) (by kernel_rfl) (by kernel_rfl) ?y13bf HSM ?_
        case y13bf => intro o' ho W hS; exact cat_run ho (by rfl) (by rfl) (by rw [ByteArray.size_append, hz2, HKZ.out]; have := HTZ.out; omega)
        simp only [Act.put, List.setIfInBounds_toArray, List.set_cons_zero, List.set_cons_succ]
        refine heldCall (d := some 50) (op := .call { callee := Callee.value (Operand.func 28), args := #[Operand.tmp 47, Operand.const (Value.int IntKind.i64 0), Operand.tmp 49], argTypes := #[42, 3, 9] }) (g := none) 18 28 #[.agg #[.int .u8 ((a : Nat) : Int), .int .u8 ((b : Nat) : Int), .int .u8 ((c : Nat) : Int), .int .u8 ((d : Nat) : Int)], .int .i64 0, .string s] rfl (by kernel_rfl) (by kernel_rfl) ?y18bf ?_
        case y18bf => intro o' ho; simp only [execOp, ho]; go_simp; try rfl
        refine (C27 A).mono ?_
        rintro e X ⟨rfl, HXX⟩
        have HSX : (Below w.heap.size w X ∧ X.heap[w.heap.size]? = some (.cells #[.bool false, .int .i64 (k : Int), .bool true, .int .u8 ((a : Nat) : Int), .int .u8 ((b : Nat) : Int), .int .u8 ((c : Nat) : Int), .int .u8 ((d : Nat) : Int), .string s] 44 (0, 0))) ∧ RowB X R.heap.size [k, l1] := ⟨⟨HSA.1.trans (HXX.out.mono HSA.1.size), below_key HSA.2 HXX.out⟩, HRA.below HXX.out⟩
        refine ⟨_, rfl, HSX, ?_⟩
        simp only [Act.put, List.setIfInBounds_toArray, List.set_cons_zero, List.set_cons_succ]
        refine heldTake (d := some 51) (op := .binOp BinOp.add 9 (Operand.tmp 45) (Operand.tmp 50) 9) (g := none) 19 (.string (H2 ++ TL ++ KS ++ TD)) rfl (by kernel_rfl) (by kernel_rfl) (by kernel_rfl) (by kernel_rfl) ?y19bf HSX ?_
        case y19bf => intro o' ho W hS; exact cat_run ho (by rfl) (by rfl) (by rw [ByteArray.size_append, ByteArray.size_append, hz2, HKZ.out, HTDZ.out]; have := HTZ.out; have := HSZ.out; omega)
        simp only [Act.put, List.setIfInBounds_toArray, List.set_cons_zero, List.set_cons_succ]
        refine heldTake (d := some 2) (op := .assign (Operand.tmp 51)) (g := none) 20 ?v20bf rfl (by kernel_rfl) (by kernel_rfl) (by kernel_rfl) (by kernel_rfl) ?y20bf HSX ?_
        case y20bf => intro o' ho W hS; simp only [execOp, ho]; go_simp; try rfl
        simp only [Act.put, List.setIfInBounds_toArray, List.set_cons_zero, List.set_cons_succ]
        refine wpAnyH_done (by kernel_rfl) ?_ _
        refine NoPanic.normal ?_
        go_wp2
        go_ret
        refine ⟨?_, ⟨HSX.1.1⟩⟩
        rw [text_mask (⟨false, (k : Int), true, [a, b, c, d], bytes s⟩ : Fr) (L := L) l0 rfl HBY.out (by rw [bytes_length]; exact HLB.out) HL0.out HPOS.out]
        rw [← hH2]
        exact TXT.out k
      case secondb =>
        refine (C27 R).mono ?_
        rintro e X ⟨rfl, HXX⟩
        have HSX : Below w.heap.size w X ∧ X.heap[w.heap.size]? = some (.cells #[.bool false, .int .i64 (k : Int), .bool true, .int .u8 ((a : Nat) : Int), .int .u8 ((b : Nat) : Int), .int .u8 ((c : Nat) : Int), .int .u8 ((d : Nat) : Int), .string s] 44 (0, 0)) := ⟨HS0.1.trans (HXX.out.mono HS0.1.size), below_key HS0.2 HXX.out⟩
        refine ⟨_, rfl, HSX, ?_⟩
        simp only [Act.put, List.setIfInBounds_toArray, List.set_cons_zero, List.set_cons_succ]
        obtain ⟨Y, hY⟩ : ∃ Y, X.alloc (.cells #[.int .u8 (k : Int), .int .u8 (l1 : Int)] 5) = Y := ⟨_, rfl⟩
        have HRY : RowB Y X.heap.size [k, l1] := by rw [← hY]; exact rowB_new X [k, l1]
        have BY : Below X.heap.size X Y := by rw [← hY]; exact (Below.refl _ _).alloc (Nat.le_refl _) _
        have HSY : Below w.heap.size w Y ∧ Y.heap[w.heap.size]? = some (.cells #[.bool false, .int .i64 (k : Int), .bool true, .int .u8 ((a : Nat) : Int), .int .u8 ((b : Nat) : Int), .int .u8 ((c : Nat) : Int), .int .u8 ((d : Nat) : Int), .string s] 44 (0, 0)) := ⟨HSX.1.trans (BY.mono HSX.1.size), below_key HSX.2 BY⟩
        refine heldRunT (d := some 37) (op := .buildSlice 36 2 #[(0, Operand.tmp 33), (1, Operand.tmp 36)]) (g := none) (t := 36) 5 (.slice (some ⟨X.heap.size, 0, none⟩) 2 2) Y rfl (by kernel_rfl) (by kernel_rfl) ?y5bg HSY ?_
        case y5bg => intro o' ho _; simp only [execOp, ho]; go_simp; first | done | (rw [hY]; done) | rfl
        simp only [Act.put, List.setIfInBounds_toArray, List.set_cons_zero, List.set_cons_succ]
        refine heldRunT (d := some 38) (op := .convert 36 9 (Operand.tmp 37)) (g := none) (t := 9) 6 (.string H2) Y rfl (by kernel_rfl) (by kernel_rfl) ?y6bg HSY ?_
        case y6bg => intro o' ho _; exact conv_run ho (by rfl) (by rw [← hH2]; exact HRY.str rfl)
        simp only [Act.put, List.setIfInBounds_toArray, List.set_cons_zero, List.set_cons_succ]
        refine heldTake (d := some 41) (op := .binOp BinOp.add 9 (Operand.tmp 38) (Operand.tmp 40) 9) (g := none) 9 (.string (H2 ++ TL)) rfl (by kernel_rfl) (by kernel_rfl) (by kernel_rfl) (by kernel_rfl) ?y9bg HSY ?_
        case y9bg => intro o' ho W hS; exact cat_run ho (by rfl) (by rfl) (by rw [hz2]; have := HTZ.out; omega)
        simp only [Act.put, List.setIfInBounds_toArray, List.set_cons_zero, List.set_cons_succ]
        refine heldTake (d := some 45) (op := .binOp BinOp.add 9 (Operand.tmp 41) (Operand.tmp 44) 9) (g := none) 13 (.string (H2 ++ TL ++ KS)) rfl (by kernel_rfl) (by kernel_rfl) (by kernel_rfl) (by kernel_rfl) ?y13bg HSY ?_
        case y13bg => intro o' ho W hS; exact cat_run ho (by rfl) (by rfl) (by rw [ByteArray.size_append, hz2, HKZ.out]; have := HTZ.out; omega)
        simp only [Act.put, List.setIfInBounds_toArray, List.set_cons_zero, List.set_cons_succ]
        refine heldTake (d := some 51) (op := .binOp BinOp.add 9 (Operand.tmp 45) (Operand.tmp 50) 9) (g := none) 19 (.string (H2 ++ TL ++ KS ++ TD)) rfl (by kernel_rfl) (by kernel_rfl) (by kernel_rfl) (by kernel_rfl) ?y19bg HSY ?_
        case y19bg => intro o' ho W hS; exact cat_run ho (by rfl) (by rfl) (by rw [ByteArray.size_append, ByteArray.size_append, hz2, HKZ.out, HTDZ.out]; have := HTZ.out; have := HSZ.out; omega)
        simp only [Act.put, List.setIfInBounds_toArray, List.set_cons_zero, List.set_cons_succ]
        refine heldTake (d := some 2) (op := .assign (Operand.tmp 51)) (g := none) 20 ?v20bg rfl (by kernel_rfl) (by kernel_rfl) (by kernel_rfl) (by kernel_rfl) ?y20bg HSY ?_
        case y20bg => intro o' ho W hS; simp only [execOp, ho]; go_simp; try rfl
        simp only [Act.put, List.setIfInBounds_toArray, List.set_cons_zero, List.set_cons_succ]
        refine wpAnyH_done (by kernel_rfl) ?_ _
        refine NoPanic.normal ?_
        go_wp2
        go_ret
        refine ⟨?_, ⟨HSY.1⟩⟩
        rw [text_mask (⟨false, (k : Int), true, [a, b, c, d], bytes s⟩ : Fr) (L := L) l0 rfl HBY.out (by rw [bytes_length]; exact HLB.out) HL0.out HPOS.out]
        rw [← hH2]
        exact TXT.out k
    | false =>
      obtain ⟨b0, hb0⟩ : ∃ b0, k  = b0 := ⟨_, rfl⟩
      have HBY : Sl (byte0 (⟨false, (k : Int), false, [a, b, c, d], bytes s⟩ : Fr) = b0) := ⟨hb0⟩
      have z1 : IntKind.i64.wrap ((k : Int) + 128) = ((k + 128 : Nat) : Int) := by rw [IntKind.wrap_i64]; omega
      subst hb0
      clear z1
      obtain ⟨H1, hH1⟩ : ∃ H1, strOf [k] = H1 := ⟨_, rfl⟩
      have hz1 : H1.size = 1 := by rw [← hH1, strOf_size]; rfl
      have z2 : IntKind.u8.wrap (k : Int) = (k : Int) := by rw [IntKind.wrap_u8]; omega
      obtain ⟨w1, hw1⟩ : ∃ w1, w.alloc (.cells #[.bool false, .int .i64 (k : Int), .bool false, .int .u8 ((a : Nat) : Int), .int .u8 ((b : Nat) : Int), .int .u8 ((c : Nat) : Int), .int .u8 ((d : Nat) : Int), .string s] 44) = w1 := ⟨_, rfl⟩
      have HB1 : Sl (Below w.heap.size w w1) := ⟨by rw [← hw1]; exact (bx_below w _).out⟩
      have HY1 : Sl (w1.heap[w.heap.size]? = some (.cells #[.bool false, .int .i64 (k : Int), .bool false, .int .u8 ((a : Nat) : Int), .int .u8 ((b : Nat) : Int), .int .u8 ((c : Nat) : Int), .int .u8 ((d : Nat) : Int), .string s] 44 (0, 0))) := ⟨by rw [← hw1]; exact bx_new _ _⟩
      obtain ⟨p0, p1, p2, p3, p4, p5, p6, p7⟩ := bx_cells HY1.out
      go_enter Tryd.func36, Tryd.ntmps36
      go_wp2_with fail
      refine (C26 _).mono ?_
      rintro e w2 ⟨rfl, HX2⟩
      have HB2 : Sl (Below w.heap.size w w2) := ⟨HB1.out.trans (HX2.out.mono HB1.out.size)⟩
      have HY2 : Sl (w2.heap[w.heap.size]? = some (.cells #[.bool false, .int .i64 (k : Int), .bool false, .int .u8 ((a : Nat) : Int), .int .u8 ((b : Nat) : Int), .int .u8 ((c : Nat) : Int), .int .u8 ((d : Nat) : Int), .string s] 44 (0, 0))) := ⟨below_key HY1.out HX2.out⟩
      clear HX2 HB1 HY1 hw1 C26 p0 p1 p2 p3 p4 p5 p6 p7
      obtain ⟨c0, c1, c2, c3, c4, c5, c6, c7⟩ := bx_cells HY2.out
      obtain ⟨w3, hw3⟩ : ∃ V, w2.alloc (.cells #[.int .u8 (k : Int)] 5) = V := ⟨_, rfl⟩
      have HX3 : Sl (Below w2.heap.size w2 w3) := ⟨by rw [← hw3]; exact (Below.refl _ _).alloc (Nat.le_refl _) _⟩
      have HB3 : Sl (Below w.heap.size w w3) := ⟨HB2.out.trans (HX3.out.mono HB2.out.size)⟩
      have HY3 : Sl (w3.heap[w.heap.size]? = some (.cells #[.bool false, .int .i64 (k : Int), .bool false, .int .u8 ((a : Nat) : Int), .int .u8 ((b : Nat) : Int), .int .u8 ((c : Nat) : Int), .int .u8 ((d : Nat) : Int), .string s] 44 (0, 0))) := ⟨below_key HY2.out HX3.out⟩
      obtain ⟨d0, d1, d2, d3, d4, d5, d6, d7⟩ := bx_cells HY3.out
      have hcv : (convert 36 9 (.slice (some ⟨w2.heap.size, 0, none⟩) 1 1)).run Tryd.prog w3 = .ok (.string H1) w3 := by
        rw [← hH1, ← hw3]; exact (rowB_new w2 [k]).str rfl
      have hs6 := HSZ.out
      go_wp2
      go_ret
      refine ⟨?_, HB3⟩
      rw [text_bare (⟨false, (k : Int), false, [a, b, c, d], bytes s⟩ : Fr) (L := L) rfl HBY.out (by rw [bytes_length]; exact HLB.out)]
      show Ending.returned (.string (H1 ++ LS ++ s)) = .returned (.string (strOf (([k] ++ L) ++ bytes s)))
      rw [← hH1, ← HLS2.out, strOf_app, strOf_app, strOf_bytes]
end Go.Proofs.YtimndpmbgfoofaaDoor.Fra
