/- frame: the document's Get. -/
import Derived.Test.YtlgmgalopdfcaaaDoorFrC
set_option maxRecDepth 100000
namespace Go.Proofs.YtlgmgalopdfcaaaDoor.Fra
open Go.RowKit MaskPlain FramePlain Mas

theorem index_at {W : World} {ev : Operand → Value} {o : Oper} {x y : Operand} {s : ByteArray} {L : List Nat} {i l : Nat} (ho : o.op = .index 9 x y) (hx : ev x = .string s) (hy : ev y = .int .i64 (i : Int)) (hs : bytes s = L ∧ i < L.length) (hl : L.getD i 0 = l) :
    (execOp ev o).run Tryd.prog W = .ok (.value (.int .u8 (l : Int))) W := by
  obtain ⟨hs1, hs2⟩ := hs
  have hz : i < s.size := by rw [← bytes_length, hs1]; exact hs2
  have hb := bytes_getD s i hz
  rw [hs1, hl] at hb
  subst hb
  simp only [execOp, ho, hx, hy]
  go_simp
  rfl
theorem geq_run {W : World} {ev : Operand → Value} {o : Oper} {x y : Operand} {n : Nat} {r : Bool} (ho : o.op = .binOp .geq 5 x y 5) (hx : ev x = .int .u8 (n : Int)) (hy : ev y = .int .u8 128) (hr : decide (128 ≤ n) = r) :
    (execOp ev o).run Tryd.prog W = .ok (.value (.bool r)) W := by
  subst hr
  simp only [execOp, ho, hx, hy]
  by_cases h : 128 ≤ n
  · have h2 : ((n : Int) ≥ 128) = True := eq_true (by omega)
    rw [decide_eq_true h]
    go_simp
  · have h2 : ((n : Int) ≥ 128) = False := eq_false (by omega)
    rw [decide_eq_false h]
    go_simp
theorem upto_run {W : World} {ev : Operand → Value} {o : Oper} {x y : Operand} {s t : ByteArray} {n : Nat} (ho : o.op = .slice 9 x none (some y) none) (hx : ev x = .string s) (hy : ev y = .int .u64 (n : Int)) (hn : n ≤ s.size) (ht : s.extract 0 n = t) :
    (execOp ev o).run Tryd.prog W = .ok (.value (.string t)) W := by
  subst ht
  simp only [execOp, ho, hx, hy, Option.map_some, Option.map_none]
  go_simp
theorem store_key0 {W : World} {ev : Operand → Value} {o : Oper} {x y : Operand} {g : Nat} {c0 c1 c2 c7 : Value} {a b c d p q r t : Nat} (ho : o.op = .store 41 x y) (hx : ev x = .pointer (some ⟨g, 3, none⟩)) (hy : ev y = .agg #[.int .u8 ((p : Nat) : Int), .int .u8 ((q : Nat) : Int), .int .u8 ((r : Nat) : Int), .int .u8 ((t : Nat) : Int)])
    (hg : W.heap[g]? = some (.cells #[c0, c1, c2, .int .u8 ((a : Nat) : Int), .int .u8 ((b : Nat) : Int), .int .u8 ((c : Nat) : Int), .int .u8 ((d : Nat) : Int), c7] 43 (0, 0))) :
    (execOp ev o).run Tryd.prog W = .ok .skip (W.setRow g #[c0, c1, c2, .int .u8 ((p : Nat) : Int), .int .u8 ((q : Nat) : Int), .int .u8 ((r : Nat) : Int), .int .u8 ((t : Nat) : Int), c7]) := by
  have hst := run_storeCells_at Tryd.prog g 3 43 (u8s [p, q, r, t]) 0 _ W hg (by simp) (u8s_one _)
  have hi := key_info (key := [p, q, r, t]) rfl
  cases hq : Tryd.prog.info? 41 with
  | none => rw [hq] at hi; cases hi
  | some i =>
    have hs : i.size = 4 := by rw [hq] at hi; simpa using hi
    unfold execOp
    simp only [ho, hx, hy, Instr.storeAt, Instr.sureAddr, Sem.run_bind, Sem.run_pure, Result.andThen_ok, storeVar, sizeOf, typeInfo]
    simp [Value.cells, hq, hs]
    refine (congrArg (fun r => Result.andThen r _) hst).trans ?_
    rfl
theorem bad_parts (x : Nat) (h : x < 256) : (bad x = true ↔ (x / 16 % 8 ≠ 0 ∨ (2 < x % 16 ∧ ctl ((x % 16 : Nat) : Int) = false) ∨ (ctl ((x % 16 : Nat) : Int) = true ∧ decide (128 ≤ x) = false))) := by
  have : ∀ c : Fin 256, (bad c.val = true ↔ (c.val / 16 % 8 ≠ 0 ∨ (2 < c.val % 16 ∧ ctl ((c.val % 16 : Nat) : Int) = false) ∨ (ctl ((c.val % 16 : Nat) : Int) = true ∧ decide (128 ≤ c.val) = false))) := by decide +kernel
  exact this ⟨x, h⟩
theorem ctl_eight {n : Nat} (h : ctl (n : Int) = true) : 8 ≤ n := by
  unfold ctl at h
  rw [Bool.and_eq_true, decide_eq_true_eq, decide_eq_true_eq] at h
  omega

set_option maxHeartbeats 16000000 in
theorem refgetf_any (s : ByteArray) (most : Int) (w : World) (hs : s.size ≤ 100000) (hmo : most ≤ 9223372036854775807) : Calls Tryd.prog 28 #[.string s, .int .i64 most] w fun e w' => e = .returned (resF (getF (bytes s) most)) ∧ Sl (Below w.heap.size w w') := by
  obtain ⟨w1, hw1⟩ : ∃ w1, w.alloc (.cells #[.bool false, .int .i64 0, .bool false, .int .u8 0, .int .u8 0, .int .u8 0, .int .u8 0, .string { data := #[] }] 43) = w1 := ⟨_, rfl⟩
  have HB1 : Sl (Below w.heap.size w w1) := ⟨by rw [← hw1]; exact (bx_below w _).out⟩
  have HZ1 : Sl (w1.heap[w.heap.size]? = some (.cells #[.bool false, .int .i64 0, .bool false, .int .u8 0, .int .u8 0, .int .u8 0, .int .u8 0, .string { data := #[] }] 43 (0, 0))) := ⟨by rw [← hw1]; exact bx_new _ _⟩
  have hbl := bytes_length s
  have HSM := Sl.mk (bytes_small s)
  by_cases h0 : s.size = 0
  · obtain rfl : s = { data := #[] } := bytes_inj (List.eq_nil_of_length_eq_zero (by rw [bytes_length]; exact h0))
    have HQ : Sl (getF (bytes { data := #[] }) most = (Fr0, 0, 90)) := ⟨rfl⟩
    clear hs hmo hbl h0
    go_enter Tryd.func28, Tryd.ntmps28
    go_upto_region 2 with fail
    have HI := fr_info (cs := #[.bool false, .int .i64 0, .bool false, .int .u8 0, .int .u8 0, .int .u8 0, .int .u8 0, .string { data := #[] }]) rfl
    go_wp2_with (refine wpList_store_row rfl 43 (.tmp 4) (.tmp 14) rfl w.heap.size #[.bool false, .int .i64 0, .bool false, .int .u8 0, .int .u8 0, .int .u8 0, .int .u8 0, .string { data := #[] }] rfl rfl 43 #[.bool false, .int .i64 0, .bool false, .int .u8 0, .int .u8 0, .int .u8 0, .int .u8 0, .string { data := #[] }] HZ1.out HI rfl (fr_all _ _ _ _ _ _ _ _) ?_)
    refine bodyPost_ret (ret_fr rfl _ _ w.heap.size 43 _ (0, 0) rfl (setRow_heap _ _ _ _ _ _ HZ1.out) rfl) rfl ?_
    rw [HQ.out]
    exact ⟨rfl, ⟨below_setRow HB1.out (Nat.le_refl _) _⟩⟩
  obtain ⟨x, xs, hb⟩ : ∃ x xs, bytes s = x :: xs := by
    cases hb : bytes s with
    | nil => rw [hb] at hbl; exact absurd hbl.symm h0
    | cons x xs => exact ⟨x, xs, rfl⟩
  rw [hb] at hbl HSM ⊢
  have HBX := Sl.mk hb
  have HXS : Sl (Small 256 xs) := ⟨fun y hy => HSM.out y (List.mem_cons_of_mem _ hy)⟩
  have h0s : 0 < s.size := by omega
  have hx : (s[0]'h0s).toNat = x := by
    have := bytes_getD s 0 h0s
    rw [hb, List.getD_cons_zero] at this
    rw [this]; rfl
  have hx256 : x < 256 := HSM.out x (by simp)
  have hse : (s.toList == []) = false := by
    rw [Bool.eq_false_iff]
    intro h
    rw [beq_bytes, hb] at h
    simp at h
  obtain ⟨fin, hfin⟩ : ∃ fin, decide (128 ≤ x) = fin := ⟨_, rfl⟩
  have HFIN := Sl.mk hfin
  have hbp := bad_parts x hx256
  obtain ⟨o, ho⟩ : ∃ o, x % 16 = o := ⟨_, rfl⟩
  have HO16 := Sl.mk ho
  obtain ⟨q0, hq0⟩ : ∃ q0, x / 16 = q0 := ⟨_, rfl⟩
  obtain ⟨r0, hr0⟩ : ∃ r0, q0 % 8 = r0 := ⟨_, rfl⟩
  rw [hq0, hr0, ho, hfin] at hbp
  obtain ⟨ct, hct⟩ : ∃ ct, ctl (o : Int) = ct := ⟨_, rfl⟩
  rw [hct] at hbp
  have bad_iff := Sl.mk hbp
  have CTI : Sl ((ct = true → 8 ≤ x % 16) ∧ True) := ⟨fun h => by rw [ho]; exact ctl_eight (hct.trans h), trivial⟩
  have C15 : ∀ W, Calls Tryd.prog 23 #[.int .i64 (o : Int)] W fun e w' => e = .returned (.bool ct) ∧ W = w' := fun W => by rw [← hct]; exact refcontrol_any (o : Int) W
  have hwx : IntKind.i64.wrap (x : Int) = (x : Int) := by rw [IntKind.wrap_i64]; omega
  have hmod : (x : Int) % 16 = (o : Int) := by omega
  have htm : Int.tmod (x : Int) 16 = (o : Int) := by rw [← hmod, Int.tmod_eq_emod_of_nonneg (by omega)]
  have hdiv : (x : Int) / 16 = (q0 : Int) := by omega
  have htd : Int.tdiv (x : Int) 16 = (q0 : Int) := by rw [← hdiv, Int.tdiv_eq_ediv_of_nonneg (by omega)]
  have hmr : (q0 : Int) % 8 = (r0 : Int) := by omega
  have htr : Int.tmod (q0 : Int) 8 = (r0 : Int) := by rw [← hmr, Int.tmod_eq_emod_of_nonneg (by omega)]
  clear hb hbp hct ho hq0 hr0 hfin h0
  go_enter Tryd.func28, Tryd.ntmps28
  go_upto_region 3 with fail
  obtain ⟨Rw, hR⟩ : ∃ Rw, w1.drew = Rw := ⟨_, rfl⟩
  have HS0 : Below w.heap.size w Rw := by rw [← hR]; exact HB1.out.drew
  have HZR : Rw.heap[w.heap.size]? = some (.cells #[.bool false, .int .i64 0, .bool false, .int .u8 0, .int .u8 0, .int .u8 0, .int .u8 0, .string { data := #[] }] 43 (0, 0)) := by rw [← hR]; exact HZ1.out
  refine wp_region_noPanic ?_
  refine wp_region_held (S := fun W => Below w.heap.size w W) (by kernel_rfl) ?_
  change wpAnyH _ _ _ _ _ _ _ _ w1.drew
  rw [hR]
  clear hR HB1 HZ1
  refine heldTake (d := some 15) (op := .move (Operand.tmp 0)) (g := none) 0 ?v0 rfl (by kernel_rfl) (by kernel_rfl) (by kernel_rfl) (by kernel_rfl) ?y0 HS0 ?_
  case y0 => intro o' ho W hS; simp only [execOp, ho]; go_simp; try rfl
  simp only [Act.put, List.setIfInBounds_toArray, List.set_cons_zero, List.set_cons_succ]
  refine heldTake (d := some 16) (op := .index 9 (Operand.tmp 15) (Operand.const (Value.int IntKind.i64 0))) (g := none) 1 (.int .u8 (x : Int)) rfl (by kernel_rfl) (by kernel_rfl) (by kernel_rfl) (by kernel_rfl) ?y1 HS0 ?_
  case y1 => intro o' ho W hS; exact index_at (i := 0) ho (by rfl) (by rfl) ⟨HBX.out, by simp⟩ rfl
  simp only [Act.put, List.setIfInBounds_toArray, List.set_cons_zero, List.set_cons_succ]
  refine heldTake (d := some 17) (op := .binOp BinOp.geq 5 (Operand.tmp 16) (Operand.const (Value.int IntKind.u8 128)) 5) (g := none) 2 (.bool fin) rfl (by kernel_rfl) (by kernel_rfl) (by kernel_rfl) (by kernel_rfl) ?y2 HS0 ?_
  case y2 => intro o' ho W hS; exact geq_run ho (by rfl) (by rfl) HFIN.out
  simp only [Act.put, List.setIfInBounds_toArray, List.set_cons_zero, List.set_cons_succ]
  refine heldTake (d := some 18) (op := .move (Operand.tmp 0)) (g := none) 3 ?v3 rfl (by kernel_rfl) (by kernel_rfl) (by kernel_rfl) (by kernel_rfl) ?y3 HS0 ?_
  case y3 => intro o' ho W hS; simp only [execOp, ho]; go_simp; try rfl
  simp only [Act.put, List.setIfInBounds_toArray, List.set_cons_zero, List.set_cons_succ]
  refine heldTake (d := some 19) (op := .index 9 (Operand.tmp 18) (Operand.const (Value.int IntKind.i64 0))) (g := none) 4 (.int .u8 (x : Int)) rfl (by kernel_rfl) (by kernel_rfl) (by kernel_rfl) (by kernel_rfl) ?y4 HS0 ?_
  case y4 => intro o' ho W hS; exact index_at (i := 0) ho (by rfl) (by rfl) ⟨HBX.out, by simp⟩ rfl
  simp only [Act.put, List.setIfInBounds_toArray, List.set_cons_zero, List.set_cons_succ]
  refine heldTake (d := some 20) (op := .convert 5 3 (Operand.tmp 19)) (g := none) 5 ?v5 rfl (by kernel_rfl) (by kernel_rfl) (by kernel_rfl) (by kernel_rfl) ?y5 HS0 ?_
  case y5 => intro o' ho W hS; simp only [execOp, ho]; go_simp; try rfl
  simp only [Act.put, List.setIfInBounds_toArray, List.set_cons_zero, List.set_cons_succ]
  refine heldTake (d := some 21) (op := .binOp BinOp.rem 3 (Operand.tmp 20) (Operand.const (Value.int IntKind.i64 16)) 3) (g := none) 6 ?v6 rfl (by kernel_rfl) (by kernel_rfl) (by kernel_rfl) (by kernel_rfl) ?y6 HS0 ?_
  case y6 => intro o' ho W hS; simp only [execOp, ho]; go_simp; try rfl
  simp only [Act.put, List.setIfInBounds_toArray, List.set_cons_zero, List.set_cons_succ]
  refine heldTake (d := some 22) (op := .build 43 #[(0, Operand.tmp 17), (1, Operand.tmp 21)]) (g := none) 7 ?v7 rfl (by kernel_rfl) (by kernel_rfl) (by kernel_rfl) (by kernel_rfl) ?y7 HS0 ?_
  case y7 => intro o' ho W hS; simp only [execOp, ho]; go_simp; try rfl
  simp only [Act.put, List.setIfInBounds_toArray, List.set_cons_zero, List.set_cons_succ]
  obtain ⟨w2, hw2⟩ : ∃ W, Rw.alloc (.cells #[.bool false, .int .i64 0, .bool false, .int .u8 0, .int .u8 0, .int .u8 0, .int .u8 0, .string { data := #[] }] 43) = W := ⟨_, rfl⟩
  obtain ⟨fb, hfb⟩ : ∃ fb, Rw.heap.size = fb := ⟨_, rfl⟩
  have HB2 : Sl (Below w.heap.size w w2) := ⟨by rw [← hw2]; exact HS0.alloc HS0.size _⟩
  have HF2 : w2.heap[fb]? = some (.cells #[.bool false, .int .i64 0, .bool false, .int .u8 0, .int .u8 0, .int .u8 0, .int .u8 0, .string { data := #[] }] 43 (0, 0)) := by rw [← hw2, ← hfb]; exact bx_new _ _
  have hne : w.heap.size < fb := by rw [← hfb]; exact (Array.getElem?_eq_some_iff.1 HZR).1
  have HZ2 : w2.heap[w.heap.size]? = some (.cells #[.bool false, .int .i64 0, .bool false, .int .u8 0, .int .u8 0, .int .u8 0, .int .u8 0, .string { data := #[] }] 43 (0, 0)) := by rw [← hw2, alloc_old _ _ _ (by omega)]; exact HZR
  refine heldRunT (d := some 7) (op := .alloc 43) (g := none) (t := 0) 8 (.pointer (some ⟨fb, 0, none⟩)) w2 rfl (by kernel_rfl) (by kernel_rfl) ?y8 HB2.out ?_
  case y8 => intro o' ho _; simp only [execOp, ho]; go_simp; first | done | (refine ⟨?_, ?_⟩ <;> first | rw [hfb] | rw [hw2] | rfl) | (rw [hfb]; done) | (rw [hw2, hfb]; done) | rfl
  simp only [Act.put, List.setIfInBounds_toArray, List.set_cons_zero, List.set_cons_succ]
  obtain ⟨w3, hw3⟩ : ∃ W, w2.setRow fb #[.bool fin, .int .i64 (o : Int), .bool false, .int .u8 0, .int .u8 0, .int .u8 0, .int .u8 0, .string { data := #[] }] = W := ⟨_, rfl⟩
  have HB3 : Sl (Below w.heap.size w w3) := ⟨by rw [← hw3]; exact below_setRow HB2.out (by omega) _⟩
  have HF3 : Sl (w3.heap[fb]? = some (.cells #[.bool fin, .int .i64 (o : Int), .bool false, .int .u8 0, .int .u8 0, .int .u8 0, .int .u8 0, .string { data := #[] }] 43 (0, 0))) := ⟨by rw [← hw3]; exact setRow_heap _ _ _ _ _ _ HF2⟩
  have HZ3 : Sl (w3.heap[w.heap.size]? = some (.cells #[.bool false, .int .i64 0, .bool false, .int .u8 0, .int .u8 0, .int .u8 0, .int .u8 0, .string { data := #[] }] 43 (0, 0))) := ⟨by rw [← hw3, setRow_other _ _ _ _ (by omega)]; exact HZ2⟩
  have HFB := Sl.mk hne
  refine heldStore (d := none) (op := .store 43 (Operand.tmp 7) (Operand.tmp 22)) (g := none) (t := 0) 9 w3 rfl (by kernel_rfl) (by kernel_rfl) ?y9 HB3.out ?_
  case y9 => intro o' ho ht; rw [← hw3]; exact store8 ho (by rfl) (by rfl) HF2 ⟨rfl, rfl⟩ (fr_all _ _ _ _ _ _ _ _)
  simp only [Act.put]
  refine wpAnyH_done (by kernel_rfl) ?_ _
  refine NoPanic.normal ?_
  clear HS0 HZR hw2 hfb HB2 HF2 HZ2 hw3
  obtain ⟨e0, e1, e2, e3, e4, e5, e6, e7⟩ := bx8 HF3.out
  by_cases hr0 : r0 = 0
  · have hqr : ((r0 : Int) != 0) = false := by subst hr0; rfl
    by_cases ho2 : 2 < o
    · have hqo : ((o : Int) > 2) = True := eq_true (by omega)
      cases ct with
      | false =>
        have hbad : bad x = true := bad_iff.out.2 (.inr (.inl ⟨ho2, rfl⟩))
        have HQ : Sl (getF (x :: xs) most = (Fr0, 0, 91)) := ⟨getF_bad most hbad⟩
        go_wp2_with fail
        refine (C15 _).mono ?_
        rintro e' w' ⟨rfl, rfl⟩
        go_upto_region 5 with fail
        have HI := fr_info (cs := #[.bool false, .int .i64 0, .bool false, .int .u8 0, .int .u8 0, .int .u8 0, .int .u8 0, .string { data := #[] }]) rfl
        go_wp2_with (refine wpList_store_row rfl 43 (.tmp 4) (.tmp 50) rfl w.heap.size #[.bool false, .int .i64 0, .bool false, .int .u8 0, .int .u8 0, .int .u8 0, .int .u8 0, .string { data := #[] }] rfl rfl 43 #[.bool false, .int .i64 0, .bool false, .int .u8 0, .int .u8 0, .int .u8 0, .int .u8 0, .string { data := #[] }] HZ3.out HI rfl (fr_all _ _ _ _ _ _ _ _) ?_)
        refine bodyPost_ret (ret_fr rfl _ _ w.heap.size 43 _ (0, 0) rfl (setRow_heap _ _ _ _ _ _ HZ3.out) rfl) rfl ?_
        rw [HQ.out]
        exact ⟨rfl, ⟨below_setRow HB3.out (Nat.le_refl _) _⟩⟩
      | true =>
        cases fin with
        | false =>
          have hbad : bad x = true := bad_iff.out.2 (.inr (.inr ⟨rfl, rfl⟩))
          have HQ : Sl (getF (x :: xs) most = (Fr0, 0, 91)) := ⟨getF_bad most hbad⟩
          go_wp2_with fail
          refine (C15 _).mono ?_
          rintro e' w' ⟨rfl, rfl⟩
          go_wp2_with fail
          refine (C15 _).mono ?_
          rintro e' w' ⟨rfl, rfl⟩
          go_upto_region 5 with fail
          have HI := fr_info (cs := #[.bool false, .int .i64 0, .bool false, .int .u8 0, .int .u8 0, .int .u8 0, .int .u8 0, .string { data := #[] }]) rfl
          go_wp2_with (refine wpList_store_row rfl 43 (.tmp 4) (.tmp 50) rfl w.heap.size #[.bool false, .int .i64 0, .bool false, .int .u8 0, .int .u8 0, .int .u8 0, .int .u8 0, .string { data := #[] }] rfl rfl 43 #[.bool false, .int .i64 0, .bool false, .int .u8 0, .int .u8 0, .int .u8 0, .int .u8 0, .string { data := #[] }] HZ3.out HI rfl (fr_all _ _ _ _ _ _ _ _) ?_)
          refine bodyPost_ret (ret_fr rfl _ _ w.heap.size 43 _ (0, 0) rfl (setRow_heap _ _ _ _ _ _ HZ3.out) rfl) rfl ?_
          rw [HQ.out]
          exact ⟨rfl, ⟨below_setRow HB3.out (Nat.le_refl _) _⟩⟩
        | true =>
          have hbad : bad x = false := by
            cases hb : bad x with
            | false => rfl
            | true => rcases bad_iff.out.1 hb with h | h | h; exact absurd hr0 h; cases h.2; cases h.2
          go_wp2_with fail
          refine (C15 _).mono ?_
          rintro e' w' ⟨rfl, rfl⟩
          go_wp2_with fail
          refine (C15 _).mono ?_
          rintro e' w' ⟨rfl, rfl⟩
          by_cases hl1 : 0 < xs.length
          · have hq6 : ((s.size : Int) > 1) = True := eq_true (by rw [← hbl]; simp; omega)
            have h1s' : 1 < s.size := by rw [← hbl]; simp; omega
            obtain ⟨y', hy'⟩ : ∃ y, xs.getD 0 0 = y := ⟨_, rfl⟩
            have hy1' : (s[1]'h1s').toNat = y' := by rw [bytes_tail s x xs HBX.out 0 h1s']; exact hy'
            have hy256' : y' < 256 := by rw [← hy']; exact HXS.out.getD (by omega) 0
            obtain ⟨yr, hyr⟩ : ∃ yr, y' % 128 = yr := ⟨_, rfl⟩
            have hym : (y' : Int) % 128 = (yr : Int) := by omega
            have hymt : Int.tmod (y' : Int) 128 = (yr : Int) := by rw [← hym, Int.tmod_eq_emod_of_nonneg (by omega)]
            by_cases h125 : 125 < yr
            · have hq7 : ((yr : Int) > 125) = True := eq_true (by omega)
              have HQ : Sl (getF (x :: xs) most = (Fr0, 0, 91)) := ⟨by rw [getF_cons, if_neg (by rw [hbad]; decide), if_pos ⟨hl1, CTI.out.1 (by trivial), by rw [hy', hyr]; exact h125⟩]⟩
              go_wp2_with fail
              refine (C15 _).mono ?_
              rintro e' w' ⟨rfl, rfl⟩
              go_upto_region 7 with fail
              have HI := fr_info (cs := #[.bool false, .int .i64 0, .bool false, .int .u8 0, .int .u8 0, .int .u8 0, .int .u8 0, .string { data := #[] }]) rfl
              go_wp2_with (refine wpList_store_row rfl 43 (.tmp 4) (.tmp 65) rfl w.heap.size #[.bool false, .int .i64 0, .bool false, .int .u8 0, .int .u8 0, .int .u8 0, .int .u8 0, .string { data := #[] }] rfl rfl 43 #[.bool false, .int .i64 0, .bool false, .int .u8 0, .int .u8 0, .int .u8 0, .int .u8 0, .string { data := #[] }] HZ3.out HI rfl (fr_all _ _ _ _ _ _ _ _) ?_)
              refine bodyPost_ret (ret_fr rfl _ _ w.heap.size 43 _ (0, 0) rfl (setRow_heap _ _ _ _ _ _ HZ3.out) rfl) rfl ?_
              rw [HQ.out]
              exact ⟨rfl, ⟨below_setRow HB3.out (Nat.le_refl _) _⟩⟩
            · have hq7 : ((yr : Int) > 125) = False := eq_false (by omega)
              have HN6 : Sl (¬ (0 < xs.length ∧ 8 ≤ x % 16 ∧ 125 < xs.getD 0 0 % 128)) := ⟨fun h => by have := h.2.2; rw [hy', hyr] at this; exact h125 this⟩
              go_wp2_with fail
              refine (C15 _).mono ?_
              rintro e' w' ⟨rfl, rfl⟩
              obtain ⟨⟨n, k, e⟩, hnke⟩ : ∃ r, getL xs = r := ⟨_, rfl⟩
              have hle := get_le xs
              rw [hnke] at hle
              have hcodes := get_codes xs
              rw [hnke] at hcodes
              simp only at hle hcodes
              have HGC := Sl.mk (getF_cons x xs most)
              have C29 : ∀ W, Calls Tryd.prog 33 #[.string (s.extract 1 s.size)] W fun e' w' => e' = .returned (.tuple #[.int .u64 (n : Int), .int .i64 (k : Int), .int .i64 (e : Int)]) ∧ W = w' := fun W => by
                have := refget_any (s.extract 1 s.size) W (by rw [ByteArray.size_extract]; omega)
                rw [show bytes (s.extract 1 s.size) = xs by rw [bytes_extract, HBX.out, List.take_of_length_le (by rw [← HBX.out, bytes_length]; exact Nat.le_refl _)]; rfl, hnke] at this
                exact this
              go_wp2_with fail
              refine (C29 _).mono ?_
              rintro e' w' ⟨rfl, rfl⟩
              clear C29 hy1' hym hymt hq7 e0 e1 e2 e3 e4 e5 e6 e7
              rcases hcodes with he | he | he
              · subst he
                have HGE : Sl (getF (x :: xs) most = if most < (n : Int) then (Fr0, 0, 92) else fillF true (o : Int) (decide (128 ≤ xs.getD 0 0)) (1 + k) n (xs.drop k)) := ⟨by
                  rw [HGC.out, if_neg (by rw [hbad]; decide), if_neg HN6.out, hnke, if_neg (show ¬ (0 : Nat) = 81 by decide), if_neg (show ¬ (0 : Nat) = 80 by decide)]
                  by_cases hmn : most < (n : Int)
                  · rw [if_pos hmn, if_pos hmn]
                  · rw [if_neg hmn, if_neg hmn, rest_fill, HO16.out, HFIN.out]⟩
                have hxs : 0 < xs.length := by
                  cases xs with
                  | nil => have h2 : (getL []).2.2 = 80 := rfl; rw [hnke] at h2; cases h2
                  | cons y ys => simp
                obtain ⟨y, hy⟩ : ∃ y, xs.getD 0 0 = y := ⟨_, rfl⟩
                rw [hy] at HGE
                have h1s : 1 < s.size := by rw [← hbl]; simp; omega
                have hxl : xs.length + 1 = s.size := by rw [← hbl]; simp
                have hy1 : (s[1]'h1s).toNat = y := by rw [bytes_tail s x xs HBX.out 0 h1s]; exact hy
                by_cases hneg : most < 0
                · have hq1 : (most < 0) = True := eq_true hneg
                  have HQ : Sl (getF (x :: xs) most = (Fr0, 0, 92)) := ⟨by rw [HGE.out]; exact if_pos (by omega)⟩
                  clear hneg hnke hle HGC
                  go_upto_region 14 with fail
                  have HI := fr_info (cs := #[.bool false, .int .i64 0, .bool false, .int .u8 0, .int .u8 0, .int .u8 0, .int .u8 0, .string { data := #[] }]) rfl
                  go_wp2_with (refine wpList_store_row rfl 43 (.tmp 4) (.tmp 87) rfl w.heap.size #[.bool false, .int .i64 0, .bool false, .int .u8 0, .int .u8 0, .int .u8 0, .int .u8 0, .string { data := #[] }] rfl rfl 43 #[.bool false, .int .i64 0, .bool false, .int .u8 0, .int .u8 0, .int .u8 0, .int .u8 0, .string { data := #[] }] HZ3.out HI rfl (fr_all _ _ _ _ _ _ _ _) ?_)
                  refine bodyPost_ret (ret_fr rfl _ _ w.heap.size 43 _ (0, 0) rfl (setRow_heap _ _ _ _ _ _ HZ3.out) rfl) rfl ?_
                  rw [HQ.out]
                  exact ⟨rfl, ⟨below_setRow HB3.out (Nat.le_refl _) _⟩⟩
                · have hq1 : (most < 0) = False := eq_false hneg
                  obtain ⟨mo, rfl⟩ := Int.eq_ofNat_of_zero_le (show 0 ≤ most by omega)
                  have hmw : IntKind.u64.wrap (mo : Int) = (mo : Int) := by rw [IntKind.wrap_u64]; omega
                  by_cases hov : mo < n
                  · have hq2 : ((n : Int) > (mo : Int)) = True := eq_true (by omega)
                    have HQ : Sl (getF (x :: xs) (mo : Int) = (Fr0, 0, 92)) := ⟨by rw [HGE.out]; exact if_pos (by omega)⟩
                    clear hneg hnke hle HGC
                    go_upto_region 14 with fail
                    have HI := fr_info (cs := #[.bool false, .int .i64 0, .bool false, .int .u8 0, .int .u8 0, .int .u8 0, .int .u8 0, .string { data := #[] }]) rfl
                    go_wp2_with (refine wpList_store_row rfl 43 (.tmp 4) (.tmp 87) rfl w.heap.size #[.bool false, .int .i64 0, .bool false, .int .u8 0, .int .u8 0, .int .u8 0, .int .u8 0, .string { data := #[] }] rfl rfl 43 #[.bool false, .int .i64 0, .bool false, .int .u8 0, .int .u8 0, .int .u8 0, .int .u8 0, .string { data := #[] }] HZ3.out HI rfl (fr_all _ _ _ _ _ _ _ _) ?_)
                    refine bodyPost_ret (ret_fr rfl _ _ w.heap.size 43 _ (0, 0) rfl (setRow_heap _ _ _ _ _ _ HZ3.out) rfl) rfl ?_
                    rw [HQ.out]
                    exact ⟨rfl, ⟨below_setRow HB3.out (Nat.le_refl _) _⟩⟩
                  · have hq2 : ((n : Int) > (mo : Int)) = False := eq_false (by omega)
                    obtain ⟨pk, hpk⟩ : ∃ pk, 1 + k = pk := ⟨_, rfl⟩
                    have HQ : Sl (getF (x :: xs) (mo : Int) = fillF true (o : Int) (decide (128 ≤ y)) pk n (xs.drop k)) := ⟨by rw [HGE.out, if_neg (by omega), hpk]⟩
                    have hwk : IntKind.i64.wrap (1 + (k : Int)) = (pk : Int) := by rw [IntKind.wrap_i64]; omega
                    obtain ⟨rl, hrl⟩ : ∃ rl, (xs.drop k).length = rl := ⟨_, rfl⟩
                    have hrl2 : pk + rl = s.size := by rw [← hrl, List.length_drop, ← hbl, List.length_cons]; omega
                    have hpks : pk ≤ s.size := by omega
                    obtain ⟨RS, hRS⟩ : ∃ RS, s.extract pk s.size = RS := ⟨_, rfl⟩
                    have HRS : Sl (bytes RS = xs.drop k ∧ RS.size = rl) := ⟨by rw [← hRS, bytes_extract, HBX.out, List.take_of_length_le (by rw [← HBX.out, bytes_length]; exact Nat.le_refl _), ← hpk, Nat.add_comm]; rfl, by rw [← hRS, ByteArray.size_extract]; omega⟩
                    have hrz := HRS.out.2
                    have hn64 : n ≤ 9223372036854775807 := by omega
                    have hwl : IntKind.u64.wrap (rl : Int) = (rl : Int) := by rw [IntKind.wrap_u64]; omega
                    clear hneg hov hnke hle HGC HGE
                    by_cases h128 : 128 ≤ y
                    · have hqy : ((y : Int) ≥ 128) = True := eq_true (by omega)
                      rw [decide_eq_true h128] at HQ
                      have z2 : w3.frozen? ⟨fb, 2, none⟩ = false := frozen_of_row _ _ _ _ _ HF3.out
                      obtain ⟨f0, f1, f2, f3, f4, f5, f6, f7⟩ := bx8 HF3.out
                      obtain ⟨w4, hw4⟩ : ∃ W, w3.setCell ⟨fb, 2, none⟩ (.bool true) = W := ⟨_, rfl⟩
                      have HB4 : Sl (Below w.heap.size w w4) := ⟨by rw [← hw4]; exact HB3.out.setCell (by show w.heap.size ≤ fb; have := HFB.out; omega) _⟩
                      have HF4 : Sl (w4.heap[fb]? = some (.cells #[.bool true, .int .i64 (o : Int), .bool true, .int .u8 0, .int .u8 0, .int .u8 0, .int .u8 0, .string { data := #[] }] 43 (0, 0))) := ⟨by rw [← hw4, heap_setCell_same _ _ _ _ _ _ HF3.out]; rfl⟩
                      have HZ4 : Sl (w4.heap[w.heap.size]? = some (.cells #[.bool false, .int .i64 0, .bool false, .int .u8 0, .int .u8 0, .int .u8 0, .int .u8 0, .string { data := #[] }] 43 (0, 0))) := ⟨by rw [← hw4, heap_setCell_other _ _ _ _ (by show w.heap.size ≠ fb; have := HFB.out; omega)]; exact HZ3.out⟩
                      by_cases h4 : rl < 4
                      · have hq4 : ((rl : Int) < 4) = True := eq_true (by omega)
                        have HQ1 := HQ
                        have HQ : Sl (getF (x :: xs) (mo : Int) = (Fr0, 0, 90)) := ⟨by rw [HQ1.out]; unfold fillF; rw [if_pos rfl, if_pos (by omega)]⟩
                        clear HQ1 h4 h128
                        go_upto_region 19 with fail
                        have HI := fr_info (cs := #[.bool false, .int .i64 0, .bool false, .int .u8 0, .int .u8 0, .int .u8 0, .int .u8 0, .string { data := #[] }]) rfl
                        go_wp2_with (refine wpList_store_row rfl 43 (.tmp 4) (.tmp 99) rfl w.heap.size #[.bool false, .int .i64 0, .bool false, .int .u8 0, .int .u8 0, .int .u8 0, .int .u8 0, .string { data := #[] }] rfl rfl 43 #[.bool false, .int .i64 0, .bool false, .int .u8 0, .int .u8 0, .int .u8 0, .int .u8 0, .string { data := #[] }] HZ4.out HI rfl (fr_all _ _ _ _ _ _ _ _) ?_)
                        refine bodyPost_ret (ret_fr rfl _ _ w.heap.size 43 _ (0, 0) rfl (setRow_heap _ _ _ _ _ _ HZ4.out) rfl) rfl ?_
                        rw [HQ.out]
                        exact ⟨rfl, ⟨below_setRow HB4.out (Nat.le_refl _) _⟩⟩
                      · have hq4 : ((rl : Int) < 4) = False := eq_false (by omega)
                        obtain ⟨a, b, c, d, hkey⟩ := four_of (xs.drop k) (by omega)
                        have HKS : Sl (Small 256 [a, b, c, d]) := ⟨by rw [← hkey]; exact (HXS.out.drop k).take 4⟩
                        have HKEY := Sl.mk hkey
                        have HIX : Sl (∀ i v, i < 4 → [a, b, c, d].getD i 0 = v → (xs.drop k).getD i 0 = v) := ⟨fun i v hi hv => by
                          rw [← hv, ← hkey]
                          simp only [List.getD_eq_getElem?_getD, List.getElem?_take_of_lt hi]⟩
                        have h4r : 4 ≤ (xs.drop k).length := by omega
                        have H4R := Sl.mk h4r
                        obtain ⟨R4, hR4⟩ : ∃ R4, RS.extract 4 RS.size = R4 := ⟨_, rfl⟩
                        have hR4' : RS.extract 4 rl = R4 := by rw [← hrz]; exact hR4
                        obtain ⟨r4, hr4⟩ : ∃ r4, rl - 4 = r4 := ⟨_, rfl⟩
                        have HR4 : Sl (bytes R4 = (xs.drop k).drop 4 ∧ R4.size = r4) := ⟨by rw [← hR4, bytes_extract, HRS.out.1, List.take_of_length_le (by rw [hrl, hrz]; exact Nat.le_refl _)], by rw [← hR4, ByteArray.size_extract]; omega⟩
                        have hr4z := HR4.out.2
                        have HR4L : Sl ((xs.drop k).drop 4 = (xs.drop k).drop 4) := ⟨rfl⟩
                        have hwl4 : IntKind.u64.wrap (r4 : Int) = (r4 : Int) := by rw [IntKind.wrap_u64]; omega
                        clear hwl hkey
                        go_upto_region 20 with fail
                        obtain ⟨Rw, hR⟩ : ∃ Rw, w4.drew = Rw := ⟨_, rfl⟩
                        have HS0 : Below w.heap.size w Rw := by rw [← hR]; exact HB4.out.drew
                        have HFR : Rw.heap[fb]? = some (.cells #[.bool true, .int .i64 (o : Int), .bool true, .int .u8 0, .int .u8 0, .int .u8 0, .int .u8 0, .string { data := #[] }] 43 (0, 0)) := by rw [← hR]; exact HF4.out
                        have HZR : Rw.heap[w.heap.size]? = some (.cells #[.bool false, .int .i64 0, .bool false, .int .u8 0, .int .u8 0, .int .u8 0, .int .u8 0, .string { data := #[] }] 43 (0, 0)) := by rw [← hR]; exact HZ4.out
                        refine wp_region_noPanic ?_
                        refine wp_region_held (S := fun W => Below w.heap.size w W) (by kernel_rfl) ?_
                        change wpAnyH _ _ _ _ _ _ _ _ w4.drew
                        rw [hR]
                        clear hR HB4 HF4 HZ4 z2 f0 f1 f2 f3 f4 f5 f6 f7 hw4
                        refine heldTake (d := some 100) (op := .move (Operand.tmp 11)) (g := none) 0 ?v0n3 rfl (by kernel_rfl) (by kernel_rfl) (by kernel_rfl) (by kernel_rfl) ?y0n3 HS0 ?_
                        case y0n3 => intro o' ho W hS; simp only [execOp, ho]; go_simp; try rfl
                        simp only [Act.put, List.setIfInBounds_toArray, List.set_cons_zero, List.set_cons_succ]
                        refine heldTake (d := some 101) (op := .index 9 (Operand.tmp 100) (Operand.const (Value.int IntKind.i64 0))) (g := none) 1 (.int .u8 (a : Int)) rfl (by kernel_rfl) (by kernel_rfl) (by kernel_rfl) (by kernel_rfl) ?y1n3 HS0 ?_
                        case y1n3 => intro o' ho W hS; exact index_at (i := 0) ho (by rfl) (by rfl) ⟨HRS.out.1, by have := H4R.out; omega⟩ (HIX.out 0 _ (by decide) rfl)
                        simp only [Act.put, List.setIfInBounds_toArray, List.set_cons_zero, List.set_cons_succ]
                        refine heldTake (d := some 102) (op := .move (Operand.tmp 11)) (g := none) 2 ?v2n3 rfl (by kernel_rfl) (by kernel_rfl) (by kernel_rfl) (by kernel_rfl) ?y2n3 HS0 ?_
                        case y2n3 => intro o' ho W hS; simp only [execOp, ho]; go_simp; try rfl
                        simp only [Act.put, List.setIfInBounds_toArray, List.set_cons_zero, List.set_cons_succ]
                        refine heldTake (d := some 103) (op := .index 9 (Operand.tmp 102) (Operand.const (Value.int IntKind.i64 1))) (g := none) 3 (.int .u8 (b : Int)) rfl (by kernel_rfl) (by kernel_rfl) (by kernel_rfl) (by kernel_rfl) ?y3n3 HS0 ?_
                        case y3n3 => intro o' ho W hS; exact index_at (i := 1) ho (by rfl) (by rfl) ⟨HRS.out.1, by have := H4R.out; omega⟩ (HIX.out 1 _ (by decide) rfl)
                        simp only [Act.put, List.setIfInBounds_toArray, List.set_cons_zero, List.set_cons_succ]
                        refine heldTake (d := some 104) (op := .move (Operand.tmp 11)) (g := none) 4 ?v4n3 rfl (by kernel_rfl) (by kernel_rfl) (by kernel_rfl) (by kernel_rfl) ?y4n3 HS0 ?_
                        case y4n3 => intro o' ho W hS; simp only [execOp, ho]; go_simp; try rfl
                        simp only [Act.put, List.setIfInBounds_toArray, List.set_cons_zero, List.set_cons_succ]
                        refine heldTake (d := some 105) (op := .index 9 (Operand.tmp 104) (Operand.const (Value.int IntKind.i64 2))) (g := none) 5 (.int .u8 (c : Int)) rfl (by kernel_rfl) (by kernel_rfl) (by kernel_rfl) (by kernel_rfl) ?y5n3 HS0 ?_
                        case y5n3 => intro o' ho W hS; exact index_at (i := 2) ho (by rfl) (by rfl) ⟨HRS.out.1, by have := H4R.out; omega⟩ (HIX.out 2 _ (by decide) rfl)
                        simp only [Act.put, List.setIfInBounds_toArray, List.set_cons_zero, List.set_cons_succ]
                        refine heldTake (d := some 106) (op := .move (Operand.tmp 11)) (g := none) 6 ?v6n3 rfl (by kernel_rfl) (by kernel_rfl) (by kernel_rfl) (by kernel_rfl) ?y6n3 HS0 ?_
                        case y6n3 => intro o' ho W hS; simp only [execOp, ho]; go_simp; try rfl
                        simp only [Act.put, List.setIfInBounds_toArray, List.set_cons_zero, List.set_cons_succ]
                        refine heldTake (d := some 107) (op := .index 9 (Operand.tmp 106) (Operand.const (Value.int IntKind.i64 3))) (g := none) 7 (.int .u8 (d : Int)) rfl (by kernel_rfl) (by kernel_rfl) (by kernel_rfl) (by kernel_rfl) ?y7n3 HS0 ?_
                        case y7n3 => intro o' ho W hS; exact index_at (i := 3) ho (by rfl) (by rfl) ⟨HRS.out.1, by have := H4R.out; omega⟩ (HIX.out 3 _ (by decide) rfl)
                        simp only [Act.put, List.setIfInBounds_toArray, List.set_cons_zero, List.set_cons_succ]
                        refine heldTake (d := some 108) (op := .build 41 #[(0, Operand.tmp 101), (1, Operand.tmp 103), (2, Operand.tmp 105), (3, Operand.tmp 107)]) (g := none) 8 ?v8n3 rfl (by kernel_rfl) (by kernel_rfl) (by kernel_rfl) (by kernel_rfl) ?y8n3 HS0 ?_
                        case y8n3 => intro o' ho W hS; simp only [execOp, ho]; go_simp; try rfl
                        simp only [Act.put, List.setIfInBounds_toArray, List.set_cons_zero, List.set_cons_succ]
                        refine heldTake (d := some 109) (op := .fieldAddr 43 (Operand.tmp 7) 3) (g := none) 9 ?v9n3 rfl (by kernel_rfl) (by kernel_rfl) (by kernel_rfl) (by kernel_rfl) ?y9n3 HS0 ?_
                        case y9n3 => intro o' ho W hS; simp only [execOp, ho]; go_simp; try rfl
                        simp only [Act.put, List.setIfInBounds_toArray, List.set_cons_zero, List.set_cons_succ]
                        obtain ⟨w5, hw5⟩ : ∃ W, Rw.setRow fb #[.bool true, .int .i64 (o : Int), .bool true, .int .u8 (a : Int), .int .u8 (b : Int), .int .u8 (c : Int), .int .u8 (d : Int), .string { data := #[] }] = W := ⟨_, rfl⟩
                        have HB5 : Sl (Below w.heap.size w w5) := ⟨by rw [← hw5]; exact below_setRow HS0 (by have := HFB.out; omega) _⟩
                        have HF5 : Sl (w5.heap[fb]? = some (.cells #[.bool true, .int .i64 (o : Int), .bool true, .int .u8 (a : Int), .int .u8 (b : Int), .int .u8 (c : Int), .int .u8 (d : Int), .string { data := #[] }] 43 (0, 0))) := ⟨by rw [← hw5]; exact setRow_heap _ _ _ _ _ _ HFR⟩
                        have HZ5 : Sl (w5.heap[w.heap.size]? = some (.cells #[.bool false, .int .i64 0, .bool false, .int .u8 0, .int .u8 0, .int .u8 0, .int .u8 0, .string { data := #[] }] 43 (0, 0))) := ⟨by rw [← hw5, setRow_other _ _ _ _ (by have := HFB.out; omega)]; exact HZR⟩
                        refine heldStore (d := none) (op := .store 41 (Operand.tmp 109) (Operand.tmp 108)) (g := none) (t := 0) 10 w5 rfl (by kernel_rfl) (by kernel_rfl) ?y10n3 HB5.out ?_
                        case y10n3 => intro o' ho ht; rw [← hw5]; exact store_key0 (a := 0) (b := 0) (c := 0) (d := 0) ho (by rfl) (by rfl) HFR
                        simp only [Act.put]
                        refine wpAnyH_done (by kernel_rfl) ?_ _
                        refine NoPanic.normal ?_
                        clear HS0 HFR HZR hw5
                        have h4p : 4 ≤ rl := by omega
                        have h4i : (4 : Int) ≤ (rl : Int) := by omega
                        have h4t : ((4 : Int) ≤ (rl : Int)) = True := eq_true h4i
                        by_cases hrn : r4 < n
                        · have hqn : ((r4 : Int) < (n : Int)) = True := eq_true (by omega)
                          have HQ1 := HQ
                          have HQ : Sl (getF (x :: xs) (mo : Int) = (Fr0, 0, 90)) := ⟨by rw [HQ1.out]; unfold fillF; rw [if_pos rfl, if_pos (by omega)]⟩
                          clear HQ1 h4 h128 hrn
                          go_upto_region 23 with fail
                          have HI := fr_info (cs := #[.bool false, .int .i64 0, .bool false, .int .u8 0, .int .u8 0, .int .u8 0, .int .u8 0, .string { data := #[] }]) rfl
                          go_wp2_with (refine wpList_store_row rfl 43 (.tmp 4) (.tmp 117) rfl w.heap.size #[.bool false, .int .i64 0, .bool false, .int .u8 0, .int .u8 0, .int .u8 0, .int .u8 0, .string { data := #[] }] rfl rfl 43 #[.bool false, .int .i64 0, .bool false, .int .u8 0, .int .u8 0, .int .u8 0, .int .u8 0, .string { data := #[] }] HZ5.out HI rfl (fr_all _ _ _ _ _ _ _ _) ?_)
                          refine bodyPost_ret (ret_fr rfl _ _ w.heap.size 43 _ (0, 0) rfl (setRow_heap _ _ _ _ _ _ HZ5.out) rfl) rfl ?_
                          rw [HQ.out]
                          exact ⟨rfl, ⟨below_setRow HB5.out (Nat.le_refl _) _⟩⟩
                        · have hqn : ((r4 : Int) < (n : Int)) = False := eq_false (by omega)
                          have HRN : Sl (n ≤ R4.size ∧ 4 + n ≤ (xs.drop k).length) := ⟨by omega, by omega⟩
                          obtain ⟨en, hen⟩ : ∃ en, pk + 4 + n = en := ⟨_, rfl⟩
                          have HEN := Sl.mk hen
                          have z4 : IntKind.i64.wrap ((s.size : Int) - (r4 : Int)) = ((pk + 4 : Nat) : Int) := by rw [IntKind.wrap_i64]; omega
                          obtain ⟨p4, hp4⟩ : ∃ p4, pk + 4 = p4 := ⟨_, rfl⟩
                          rw [hp4] at z4
                          have z5 : IntKind.i64.wrap ((p4 : Int) + (n : Int)) = (en : Int) := by rw [IntKind.wrap_i64]; omega
                          clear hrn h4 h128 hrl
                          obtain ⟨PD, hPD⟩ : ∃ PD, R4.extract 0 n = PD := ⟨_, rfl⟩
                          have HPD : Sl (bytes PD = ((xs.drop k).drop 4).take n) := ⟨by rw [← hPD, bytes_extract, List.drop_zero, HR4.out.1]⟩
                          obtain ⟨TD, hTD⟩ : ∃ TD, strOf (turn [a, b, c, d] (rest4 0) (bytes PD)) = TD := ⟨_, rfl⟩
                          have C27 : ∀ W, Calls Tryd.prog 25 #[.agg #[.int .u8 (a : Int), .int .u8 (b : Int), .int .u8 (c : Int), .int .u8 (d : Int)], .int .i64 0, .string PD] W fun e w' => e = .returned (.string TD) ∧ Sl (Below W.heap.size W w') := fun W => by rw [← hTD]; exact refapply_any [a, b, c, d] 0 PD W rfl HKS.out (by rw [← hPD, ByteArray.size_extract]; omega)
                          have hw48 : IntKind.i64.wrap (n : Int) = (n : Int) := by rw [IntKind.wrap_i64]; omega
                          go_upto_region 24 with fail
                          obtain ⟨Rw, hR⟩ : ∃ Rw, w5.drew = Rw := ⟨_, rfl⟩
                          have HS0 : Below w.heap.size w Rw := by rw [← hR]; exact HB5.out.drew
                          have HFR : Rw.heap[fb]? = some (.cells #[.bool true, .int .i64 (o : Int), .bool true, .int .u8 (a : Int), .int .u8 (b : Int), .int .u8 (c : Int), .int .u8 (d : Int), .string { data := #[] }] 43 (0, 0)) := by rw [← hR]; exact HF5.out
                          have HZR : Rw.heap[w.heap.size]? = some (.cells #[.bool false, .int .i64 0, .bool false, .int .u8 0, .int .u8 0, .int .u8 0, .int .u8 0, .string { data := #[] }] 43 (0, 0)) := by rw [← hR]; exact HZ5.out
                          refine wp_region_noPanic ?_
                          refine wp_region_held (S := fun W => Below w.heap.size w W) (by kernel_rfl) ?_
                          change wpAnyH _ _ _ _ _ _ _ _ w5.drew
                          rw [hR]
                          clear hR HB5 HF5 HZ5
                          refine heldTake (d := some 118) (op := .fieldAddr 43 (Operand.tmp 7) 3) (g := none) 0 ?v0n1 rfl (by kernel_rfl) (by kernel_rfl) (by kernel_rfl) (by kernel_rfl) ?y0n1 HS0 ?_
                          case y0n1 => intro o' ho W hS; simp only [execOp, ho]; go_simp; try rfl
                          simp only [Act.put, List.setIfInBounds_toArray, List.set_cons_zero, List.set_cons_succ]
                          refine heldTake (d := some 120) (op := .move (Operand.tmp 11)) (g := none) 2 ?v2n1 rfl (by kernel_rfl) (by kernel_rfl) (by kernel_rfl) (by kernel_rfl) ?y2n1 HS0 ?_
                          case y2n1 => intro o' ho W hS; simp only [execOp, ho]; go_simp; try rfl
                          simp only [Act.put, List.setIfInBounds_toArray, List.set_cons_zero, List.set_cons_succ]
                          refine heldTake (d := some 121) (op := .move (Operand.tmp 8)) (g := none) 3 ?v3n1 rfl (by kernel_rfl) (by kernel_rfl) (by kernel_rfl) (by kernel_rfl) ?y3n1 HS0 ?_
                          case y3n1 => intro o' ho W hS; simp only [execOp, ho]; go_simp; try rfl
                          simp only [Act.put, List.setIfInBounds_toArray, List.set_cons_zero, List.set_cons_succ]
                          refine heldTake (d := some 122) (op := .slice 9 (Operand.tmp 120) none (some (Operand.tmp 121)) none) (g := none) 4 (.string PD) rfl (by kernel_rfl) (by kernel_rfl) (by kernel_rfl) (by kernel_rfl) ?y4n1 HS0 ?_
                          case y4n1 => intro o' ho W hS; exact upto_run ho (by rfl) (by rfl) (by have := HRN.out; omega) hPD
                          simp only [Act.put, List.setIfInBounds_toArray, List.set_cons_zero, List.set_cons_succ]
                          refine heldRunT (d := some 119) (op := .load 41 (Operand.tmp 118)) (g := none) (t := 41) 1 (.agg #[.int .u8 (a : Int), .int .u8 (b : Int), .int .u8 (c : Int), .int .u8 (d : Int)]) Rw rfl (by kernel_rfl) (by kernel_rfl) ?y1n1 HS0 ?_
                          case y1n1 => intro o' ho _; simp only [execOp, ho]; obtain ⟨f0, f1, f2, f3, f4, f5, f6, f7⟩ := bx8 HFR; go_simp; try rfl
                          simp only [Act.put, List.setIfInBounds_toArray, List.set_cons_zero, List.set_cons_succ]
                          refine heldCall (d := some 123) (op := .call { callee := Callee.value (Operand.func 25), args := #[Operand.tmp 119, Operand.const (Value.int IntKind.i64 0), Operand.tmp 122], argTypes := #[41, 3, 9] }) (g := none) 5 25 #[.agg #[.int .u8 (a : Int), .int .u8 (b : Int), .int .u8 (c : Int), .int .u8 (d : Int)], .int .i64 0, .string PD] rfl (by kernel_rfl) (by kernel_rfl) ?y5n1 ?_
                          case y5n1 => intro o' ho; simp only [execOp, ho]; go_simp; try rfl
                          refine (C27 Rw).mono ?_
                          rintro e X ⟨rfl, HXX⟩
                          have HS1 : Below w.heap.size w X := HS0.trans (HXX.out.mono HS0.size)
                          have HFX : X.heap[fb]? = some (.cells #[.bool true, .int .i64 (o : Int), .bool true, .int .u8 (a : Int), .int .u8 (b : Int), .int .u8 (c : Int), .int .u8 (d : Int), .string { data := #[] }] 43 (0, 0)) := below_key HFR HXX.out
                          have HZX : X.heap[w.heap.size]? = some (.cells #[.bool false, .int .i64 0, .bool false, .int .u8 0, .int .u8 0, .int .u8 0, .int .u8 0, .string { data := #[] }] 43 (0, 0)) := below_key HZR HXX.out
                          refine ⟨_, rfl, HS1, ?_⟩
                          simp only [Act.put, List.setIfInBounds_toArray, List.set_cons_zero, List.set_cons_succ]
                          refine heldTake (d := some 124) (op := .fieldAddr 43 (Operand.tmp 7) 4) (g := none) 6 ?v6n1 rfl (by kernel_rfl) (by kernel_rfl) (by kernel_rfl) (by kernel_rfl) ?y6n1 HS1 ?_
                          case y6n1 => intro o' ho W hS; simp only [execOp, ho]; go_simp; try rfl
                          simp only [Act.put, List.setIfInBounds_toArray, List.set_cons_zero, List.set_cons_succ]
                          obtain ⟨w8, hw8⟩ : ∃ W, X.setCell ⟨fb, 7, none⟩ (.string TD) = W := ⟨_, rfl⟩
                          have hfz : X.frozen? ⟨fb, 7, none⟩ = false := frozen_of_row _ _ _ _ _ HFX
                          have hc7 : X.cell? ⟨fb, 7, none⟩ = some (.string { data := #[] }) := (bx8 HFX).2.2.2.2.2.2.2
                          have HB8 : Sl (Below w.heap.size w w8) := ⟨by rw [← hw8]; exact HS1.setCell (by show w.heap.size ≤ fb; have := HFB.out; omega) _⟩
                          have HF8 : Sl (w8.heap[fb]? = some (.cells #[.bool true, .int .i64 (o : Int), .bool true, .int .u8 (a : Int), .int .u8 (b : Int), .int .u8 (c : Int), .int .u8 (d : Int), .string TD] 43 (0, 0))) := ⟨by rw [← hw8, heap_setCell_same _ _ _ _ _ _ HFX]; rfl⟩
                          have HZ8 : Sl (w8.heap[w.heap.size]? = some (.cells #[.bool false, .int .i64 0, .bool false, .int .u8 0, .int .u8 0, .int .u8 0, .int .u8 0, .string { data := #[] }] 43 (0, 0))) := ⟨by rw [← hw8, heap_setCell_other _ _ _ _ (by show w.heap.size ≠ fb; have := HFB.out; omega)]; exact HZX⟩
                          refine heldStore (d := none) (op := .store 9 (Operand.tmp 124) (Operand.tmp 123)) (g := none) (t := 0) 7 w8 rfl (by kernel_rfl) (by kernel_rfl) ?y7n1 HB8.out ?_
                          case y7n1 => intro o' ho ht; simp only [execOp, ho]; go_simp; first | done | rw [hw8] | rfl
                          simp only [Act.put]
                          refine wpAnyH_done (by kernel_rfl) ?_ _
                          refine NoPanic.normal ?_
                          have HQ2 : Sl (getF (x :: xs) (mo : Int) = (⟨true, (o : Int), true, [a, b, c, d], turn [a, b, c, d] 0 (((xs.drop k).drop 4).take n)⟩, en, 0)) := ⟨by rw [HQ.out]; unfold fillF; rw [if_pos rfl, if_neg (by have := HRN.out; omega), HKEY.out, HEN.out] <;> rfl⟩
                          have HTD2 : Sl (TD = strOf (turn [a, b, c, d] 0 (((xs.drop k).drop 4).take n))) := ⟨by rw [← hTD, HPD.out] <;> rfl⟩
                          have HI := fr_info (cs := #[.bool true, .int .i64 (o : Int), .bool true, .int .u8 (a : Int), .int .u8 (b : Int), .int .u8 (c : Int), .int .u8 (d : Int), .string TD]) rfl
                          obtain ⟨h0, h1, h2, h3, h4, h5, h6, h7⟩ := bx8 HF8.out
                          clear hfz hc7 hw8 HZX HFX HS1 HXX HS0 HFR HZR C27 hPD hTD
                          go_wp2_with (refine wpList_store_row rfl 43 (.tmp 4) (.tmp 125) rfl w.heap.size #[.bool true, .int .i64 (o : Int), .bool true, .int .u8 (a : Int), .int .u8 (b : Int), .int .u8 (c : Int), .int .u8 (d : Int), .string TD] rfl rfl 43 #[.bool false, .int .i64 0, .bool false, .int .u8 0, .int .u8 0, .int .u8 0, .int .u8 0, .string { data := #[] }] HZ8.out HI rfl (fr_all _ _ _ _ _ _ _ _) ?_)
                          refine bodyPost_ret (ret_fr rfl _ _ w.heap.size 43 _ (0, 0) rfl (setRow_heap _ _ _ _ _ _ HZ8.out) rfl) rfl ?_
                          rw [HQ2.out, HTD2.out]
                          exact ⟨rfl, ⟨below_setRow HB8.out (Nat.le_refl _) _⟩⟩
                    · have hqy : ((y : Int) ≥ 128) = False := eq_false (by omega)
                      rw [decide_eq_false h128] at HQ
                      by_cases hrn : rl < n
                      · have hqn : ((rl : Int) < (n : Int)) = True := eq_true (by omega)
                        have HQ1 := HQ
                        have HQ : Sl (getF (x :: xs) (mo : Int) = (Fr0, 0, 90)) := ⟨by rw [HQ1.out]; unfold fillF; rw [if_neg (by decide), if_pos (by omega)]⟩
                        clear HQ1 h128 hrn
                        go_upto_region 23 with fail
                        have HI := fr_info (cs := #[.bool false, .int .i64 0, .bool false, .int .u8 0, .int .u8 0, .int .u8 0, .int .u8 0, .string { data := #[] }]) rfl
                        go_wp2_with (refine wpList_store_row rfl 43 (.tmp 4) (.tmp 117) rfl w.heap.size #[.bool false, .int .i64 0, .bool false, .int .u8 0, .int .u8 0, .int .u8 0, .int .u8 0, .string { data := #[] }] rfl rfl 43 #[.bool false, .int .i64 0, .bool false, .int .u8 0, .int .u8 0, .int .u8 0, .int .u8 0, .string { data := #[] }] HZ3.out HI rfl (fr_all _ _ _ _ _ _ _ _) ?_)
                        refine bodyPost_ret (ret_fr rfl _ _ w.heap.size 43 _ (0, 0) rfl (setRow_heap _ _ _ _ _ _ HZ3.out) rfl) rfl ?_
                        rw [HQ.out]
                        exact ⟨rfl, ⟨below_setRow HB3.out (Nat.le_refl _) _⟩⟩
                      · have hqn : ((rl : Int) < (n : Int)) = False := eq_false (by omega)
                        have HRN : Sl (n ≤ RS.size ∧ n ≤ (xs.drop k).length) := ⟨by omega, by omega⟩
                        obtain ⟨en, hen⟩ : ∃ en, pk + n = en := ⟨_, rfl⟩
                        have HEN := Sl.mk hen
                        have z4 : IntKind.i64.wrap ((s.size : Int) - (rl : Int)) = (pk : Int) := by rw [IntKind.wrap_i64]; omega
                        have z5 : IntKind.i64.wrap ((pk : Int) + (n : Int)) = (en : Int) := by rw [IntKind.wrap_i64]; omega
                        clear hrn h128 hrl
                        obtain ⟨PD, hPD⟩ : ∃ PD, RS.extract 0 n = PD := ⟨_, rfl⟩
                        have HPD : Sl (bytes PD = (xs.drop k).take n) := ⟨by rw [← hPD, bytes_extract, List.drop_zero, HRS.out.1]⟩
                        obtain ⟨TD, hTD⟩ : ∃ TD, strOf (turn [0, 0, 0, 0] (rest4 0) (bytes PD)) = TD := ⟨_, rfl⟩
                        have C27 : ∀ W, Calls Tryd.prog 25 #[.agg #[.int .u8 0, .int .u8 0, .int .u8 0, .int .u8 0], .int .i64 0, .string PD] W fun e w' => e = .returned (.string TD) ∧ Sl (Below W.heap.size W w') := fun W => by rw [← hTD]; exact refapply_any [0, 0, 0, 0] 0 PD W rfl (fun x hx => by simp at hx; omega) (by rw [← hPD, ByteArray.size_extract]; omega)
                        have hw48 : IntKind.i64.wrap (n : Int) = (n : Int) := by rw [IntKind.wrap_i64]; omega
                        go_upto_region 24 with fail
                        obtain ⟨Rw, hR⟩ : ∃ Rw, w3.drew = Rw := ⟨_, rfl⟩
                        have HS0 : Below w.heap.size w Rw := by rw [← hR]; exact HB3.out.drew
                        have HFR : Rw.heap[fb]? = some (.cells #[.bool true, .int .i64 (o : Int), .bool false, .int .u8 0, .int .u8 0, .int .u8 0, .int .u8 0, .string { data := #[] }] 43 (0, 0)) := by rw [← hR]; exact HF3.out
                        have HZR : Rw.heap[w.heap.size]? = some (.cells #[.bool false, .int .i64 0, .bool false, .int .u8 0, .int .u8 0, .int .u8 0, .int .u8 0, .string { data := #[] }] 43 (0, 0)) := by rw [← hR]; exact HZ3.out
                        refine wp_region_noPanic ?_
                        refine wp_region_held (S := fun W => Below w.heap.size w W) (by kernel_rfl) ?_
                        change wpAnyH _ _ _ _ _ _ _ _ w3.drew
                        rw [hR]
                        clear hR HB3 HF3 HZ3
                        refine heldTake (d := some 118) (op := .fieldAddr 43 (Operand.tmp 7) 3) (g := none) 0 ?v0n2 rfl (by kernel_rfl) (by kernel_rfl) (by kernel_rfl) (by kernel_rfl) ?y0n2 HS0 ?_
                        case y0n2 => intro o' ho W hS; simp only [execOp, ho]; go_simp; try rfl
                        simp only [Act.put, List.setIfInBounds_toArray, List.set_cons_zero, List.set_cons_succ]
                        refine heldTake (d := some 120) (op := .move (Operand.tmp 11)) (g := none) 2 ?v2n2 rfl (by kernel_rfl) (by kernel_rfl) (by kernel_rfl) (by kernel_rfl) ?y2n2 HS0 ?_
                        case y2n2 => intro o' ho W hS; simp only [execOp, ho]; go_simp; try rfl
                        simp only [Act.put, List.setIfInBounds_toArray, List.set_cons_zero, List.set_cons_succ]
                        refine heldTake (d := some 121) (op := .move (Operand.tmp 8)) (g := none) 3 ?v3n2 rfl (by kernel_rfl) (by kernel_rfl) (by kernel_rfl) (by kernel_rfl) ?y3n2 HS0 ?_
                        case y3n2 => intro o' ho W hS; simp only [execOp, ho]; go_simp; try rfl
                        simp only [Act.put, List.setIfInBounds_toArray, List.set_cons_zero, List.set_cons_succ]
                        refine heldTake (d := some 122) (op := .slice 9 (Operand.tmp 120) none (some (Operand.tmp 121)) none) (g := none) 4 (.string PD) rfl (by kernel_rfl) (by kernel_rfl) (by kernel_rfl) (by kernel_rfl) ?y4n2 HS0 ?_
                        case y4n2 => intro o' ho W hS; exact upto_run ho (by rfl) (by rfl) (by have := HRN.out; omega) hPD
                        simp only [Act.put, List.setIfInBounds_toArray, List.set_cons_zero, List.set_cons_succ]
                        refine heldRunT (d := some 119) (op := .load 41 (Operand.tmp 118)) (g := none) (t := 41) 1 (.agg #[.int .u8 0, .int .u8 0, .int .u8 0, .int .u8 0]) Rw rfl (by kernel_rfl) (by kernel_rfl) ?y1n2 HS0 ?_
                        case y1n2 => intro o' ho _; simp only [execOp, ho]; obtain ⟨f0, f1, f2, f3, f4, f5, f6, f7⟩ := bx8 HFR; go_simp; try rfl
                        simp only [Act.put, List.setIfInBounds_toArray, List.set_cons_zero, List.set_cons_succ]
                        refine heldCall (d := some 123) (op := .call { callee := Callee.value (Operand.func 25), args := #[Operand.tmp 119, Operand.const (Value.int IntKind.i64 0), Operand.tmp 122], argTypes := #[41, 3, 9] }) (g := none) 5 25 #[.agg #[.int .u8 0, .int .u8 0, .int .u8 0, .int .u8 0], .int .i64 0, .string PD] rfl (by kernel_rfl) (by kernel_rfl) ?y5n2 ?_
                        case y5n2 => intro o' ho; simp only [execOp, ho]; go_simp; try rfl
                        refine (C27 Rw).mono ?_
                        rintro e X ⟨rfl, HXX⟩
                        have HS1 : Below w.heap.size w X := HS0.trans (HXX.out.mono HS0.size)
                        have HFX : X.heap[fb]? = some (.cells #[.bool true, .int .i64 (o : Int), .bool false, .int .u8 0, .int .u8 0, .int .u8 0, .int .u8 0, .string { data := #[] }] 43 (0, 0)) := below_key HFR HXX.out
                        have HZX : X.heap[w.heap.size]? = some (.cells #[.bool false, .int .i64 0, .bool false, .int .u8 0, .int .u8 0, .int .u8 0, .int .u8 0, .string { data := #[] }] 43 (0, 0)) := below_key HZR HXX.out
                        refine ⟨_, rfl, HS1, ?_⟩
                        simp only [Act.put, List.setIfInBounds_toArray, List.set_cons_zero, List.set_cons_succ]
                        refine heldTake (d := some 124) (op := .fieldAddr 43 (Operand.tmp 7) 4) (g := none) 6 ?v6n2 rfl (by kernel_rfl) (by kernel_rfl) (by kernel_rfl) (by kernel_rfl) ?y6n2 HS1 ?_
                        case y6n2 => intro o' ho W hS; simp only [execOp, ho]; go_simp; try rfl
                        simp only [Act.put, List.setIfInBounds_toArray, List.set_cons_zero, List.set_cons_succ]
                        obtain ⟨w8, hw8⟩ : ∃ W, X.setCell ⟨fb, 7, none⟩ (.string TD) = W := ⟨_, rfl⟩
                        have hfz : X.frozen? ⟨fb, 7, none⟩ = false := frozen_of_row _ _ _ _ _ HFX
                        have hc7 : X.cell? ⟨fb, 7, none⟩ = some (.string { data := #[] }) := (bx8 HFX).2.2.2.2.2.2.2
                        have HB8 : Sl (Below w.heap.size w w8) := ⟨by rw [← hw8]; exact HS1.setCell (by show w.heap.size ≤ fb; have := HFB.out; omega) _⟩
                        have HF8 : Sl (w8.heap[fb]? = some (.cells #[.bool true, .int .i64 (o : Int), .bool false, .int .u8 0, .int .u8 0, .int .u8 0, .int .u8 0, .string TD] 43 (0, 0))) := ⟨by rw [← hw8, heap_setCell_same _ _ _ _ _ _ HFX]; rfl⟩
                        have HZ8 : Sl (w8.heap[w.heap.size]? = some (.cells #[.bool false, .int .i64 0, .bool false, .int .u8 0, .int .u8 0, .int .u8 0, .int .u8 0, .string { data := #[] }] 43 (0, 0))) := ⟨by rw [← hw8, heap_setCell_other _ _ _ _ (by show w.heap.size ≠ fb; have := HFB.out; omega)]; exact HZX⟩
                        refine heldStore (d := none) (op := .store 9 (Operand.tmp 124) (Operand.tmp 123)) (g := none) (t := 0) 7 w8 rfl (by kernel_rfl) (by kernel_rfl) ?y7n2 HB8.out ?_
                        case y7n2 => intro o' ho ht; simp only [execOp, ho]; go_simp; first | done | rw [hw8] | rfl
                        simp only [Act.put]
                        refine wpAnyH_done (by kernel_rfl) ?_ _
                        refine NoPanic.normal ?_
                        have HQ2 : Sl (getF (x :: xs) (mo : Int) = (⟨true, (o : Int), false, [0, 0, 0, 0], (xs.drop k).take n⟩, en, 0)) := ⟨by rw [HQ.out]; unfold fillF; rw [if_neg (by decide), if_neg (by have := HRN.out; omega), HEN.out] <;> rfl⟩
                        have HTD2 : Sl (TD = strOf ((xs.drop k).take n)) := ⟨by rw [← hTD, HPD.out, turn_zero (z := [0, 0, 0, 0]) (by decide)] <;> rfl⟩
                        have HI := fr_info (cs := #[.bool true, .int .i64 (o : Int), .bool false, .int .u8 0, .int .u8 0, .int .u8 0, .int .u8 0, .string TD]) rfl
                        obtain ⟨h0, h1, h2, h3, h4, h5, h6, h7⟩ := bx8 HF8.out
                        clear hfz hc7 hw8 HZX HFX HS1 HXX HS0 HFR HZR C27 hPD hTD
                        go_wp2_with (refine wpList_store_row rfl 43 (.tmp 4) (.tmp 125) rfl w.heap.size #[.bool true, .int .i64 (o : Int), .bool false, .int .u8 0, .int .u8 0, .int .u8 0, .int .u8 0, .string TD] rfl rfl 43 #[.bool false, .int .i64 0, .bool false, .int .u8 0, .int .u8 0, .int .u8 0, .int .u8 0, .string { data := #[] }] HZ8.out HI rfl (fr_all _ _ _ _ _ _ _ _) ?_)
                        refine bodyPost_ret (ret_fr rfl _ _ w.heap.size 43 _ (0, 0) rfl (setRow_heap _ _ _ _ _ _ HZ8.out) rfl) rfl ?_
                        rw [HQ2.out, HTD2.out]
                        exact ⟨rfl, ⟨below_setRow HB8.out (Nat.le_refl _) _⟩⟩
              · subst he
                have HQ : Sl (getF (x :: xs) most = (Fr0, 0, 90)) := ⟨by rw [HGC.out, if_neg (by rw [hbad]; decide), if_neg HN6.out, hnke, if_neg (show ¬ (80 : Nat) = 81 by decide), if_pos rfl]⟩
                clear hnke hle HGC
                go_upto_region 12 with fail
                have HI := fr_info (cs := #[.bool false, .int .i64 0, .bool false, .int .u8 0, .int .u8 0, .int .u8 0, .int .u8 0, .string { data := #[] }]) rfl
                go_wp2_with (refine wpList_store_row rfl 43 (.tmp 4) (.tmp 78) rfl w.heap.size #[.bool false, .int .i64 0, .bool false, .int .u8 0, .int .u8 0, .int .u8 0, .int .u8 0, .string { data := #[] }] rfl rfl 43 #[.bool false, .int .i64 0, .bool false, .int .u8 0, .int .u8 0, .int .u8 0, .int .u8 0, .string { data := #[] }] HZ3.out HI rfl (fr_all _ _ _ _ _ _ _ _) ?_)
                refine bodyPost_ret (ret_fr rfl _ _ w.heap.size 43 _ (0, 0) rfl (setRow_heap _ _ _ _ _ _ HZ3.out) rfl) rfl ?_
                rw [HQ.out]
                exact ⟨rfl, ⟨below_setRow HB3.out (Nat.le_refl _) _⟩⟩
              · subst he
                have HQ : Sl (getF (x :: xs) most = (Fr0, 0, 91)) := ⟨by rw [HGC.out, if_neg (by rw [hbad]; decide), if_neg HN6.out, hnke, if_pos rfl]⟩
                clear hnke hle HGC
                go_upto_region 10 with fail
                have HI := fr_info (cs := #[.bool false, .int .i64 0, .bool false, .int .u8 0, .int .u8 0, .int .u8 0, .int .u8 0, .string { data := #[] }]) rfl
                go_wp2_with (refine wpList_store_row rfl 43 (.tmp 4) (.tmp 75) rfl w.heap.size #[.bool false, .int .i64 0, .bool false, .int .u8 0, .int .u8 0, .int .u8 0, .int .u8 0, .string { data := #[] }] rfl rfl 43 #[.bool false, .int .i64 0, .bool false, .int .u8 0, .int .u8 0, .int .u8 0, .int .u8 0, .string { data := #[] }] HZ3.out HI rfl (fr_all _ _ _ _ _ _ _ _) ?_)
                refine bodyPost_ret (ret_fr rfl _ _ w.heap.size 43 _ (0, 0) rfl (setRow_heap _ _ _ _ _ _ HZ3.out) rfl) rfl ?_
                rw [HQ.out]
                exact ⟨rfl, ⟨below_setRow HB3.out (Nat.le_refl _) _⟩⟩
          · have hq6 : ((s.size : Int) > 1) = False := eq_false (by rw [← hbl]; simp; omega)
            have HN6 : Sl (¬ (0 < xs.length ∧ 8 ≤ x % 16 ∧ 125 < xs.getD 0 0 % 128)) := ⟨fun h => hl1 h.1⟩
            obtain ⟨⟨n, k, e⟩, hnke⟩ : ∃ r, getL xs = r := ⟨_, rfl⟩
            have hle := get_le xs
            rw [hnke] at hle
            have hcodes := get_codes xs
            rw [hnke] at hcodes
            simp only at hle hcodes
            have HGC := Sl.mk (getF_cons x xs most)
            have C29 : ∀ W, Calls Tryd.prog 33 #[.string (s.extract 1 s.size)] W fun e' w' => e' = .returned (.tuple #[.int .u64 (n : Int), .int .i64 (k : Int), .int .i64 (e : Int)]) ∧ W = w' := fun W => by
              have := refget_any (s.extract 1 s.size) W (by rw [ByteArray.size_extract]; omega)
              rw [show bytes (s.extract 1 s.size) = xs by rw [bytes_extract, HBX.out, List.take_of_length_le (by rw [← HBX.out, bytes_length]; exact Nat.le_refl _)]; rfl, hnke] at this
              exact this
            go_wp2_with fail
            refine (C29 _).mono ?_
            rintro e' w' ⟨rfl, rfl⟩
            clear C29 e0 e1 e2 e3 e4 e5 e6 e7
            have he : e = 80 := by
              cases xs with
              | nil => have h2 : (getL []).2.2 = 80 := rfl; rw [hnke] at h2; exact h2
              | cons y ys => exact absurd (show 0 < (y :: ys).length by simp) hl1
            subst he
            have HQ : Sl (getF (x :: xs) most = (Fr0, 0, 90)) := ⟨by rw [HGC.out, if_neg (by rw [hbad]; decide), if_neg HN6.out, hnke, if_neg (show ¬ (80 : Nat) = 81 by decide), if_pos rfl]⟩
            clear hnke hle HGC
            go_upto_region 12 with fail
            have HI := fr_info (cs := #[.bool false, .int .i64 0, .bool false, .int .u8 0, .int .u8 0, .int .u8 0, .int .u8 0, .string { data := #[] }]) rfl
            go_wp2_with (refine wpList_store_row rfl 43 (.tmp 4) (.tmp 78) rfl w.heap.size #[.bool false, .int .i64 0, .bool false, .int .u8 0, .int .u8 0, .int .u8 0, .int .u8 0, .string { data := #[] }] rfl rfl 43 #[.bool false, .int .i64 0, .bool false, .int .u8 0, .int .u8 0, .int .u8 0, .int .u8 0, .string { data := #[] }] HZ3.out HI rfl (fr_all _ _ _ _ _ _ _ _) ?_)
            refine bodyPost_ret (ret_fr rfl _ _ w.heap.size 43 _ (0, 0) rfl (setRow_heap _ _ _ _ _ _ HZ3.out) rfl) rfl ?_
            rw [HQ.out]
            exact ⟨rfl, ⟨below_setRow HB3.out (Nat.le_refl _) _⟩⟩
    · have hqo : ((o : Int) > 2) = False := eq_false (by omega)
      have hct : ct = false := by cases ct with
        | false => rfl
        | true => have := CTI.out.1 (by trivial); rw [HO16.out] at this; omega
      subst hct
      have hbad : bad x = false := by
        cases hb : bad x with
        | false => rfl
        | true => rcases bad_iff.out.1 hb with h | h | h; exact absurd hr0 h; exact absurd h.1 ho2; cases h.1
      have HN6 : Sl (¬ (0 < xs.length ∧ 8 ≤ x % 16 ∧ 125 < xs.getD 0 0 % 128)) := ⟨fun h => by have h2 := h.2.1; rw [HO16.out] at h2; omega⟩
      go_wp2_with fail
      refine (C15 _).mono ?_
      rintro e' w' ⟨rfl, rfl⟩
      by_cases hl1 : 0 < xs.length
      · have hq6 : ((s.size : Int) > 1) = True := eq_true (by rw [← hbl]; simp; omega)
        go_wp2_with fail
        refine (C15 _).mono ?_
        rintro e' w' ⟨rfl, rfl⟩
        obtain ⟨⟨n, k, e⟩, hnke⟩ : ∃ r, getL xs = r := ⟨_, rfl⟩
        have hle := get_le xs
        rw [hnke] at hle
        have hcodes := get_codes xs
        rw [hnke] at hcodes
        simp only at hle hcodes
        have HGC := Sl.mk (getF_cons x xs most)
        have C29 : ∀ W, Calls Tryd.prog 33 #[.string (s.extract 1 s.size)] W fun e' w' => e' = .returned (.tuple #[.int .u64 (n : Int), .int .i64 (k : Int), .int .i64 (e : Int)]) ∧ W = w' := fun W => by
          have := refget_any (s.extract 1 s.size) W (by rw [ByteArray.size_extract]; omega)
          rw [show bytes (s.extract 1 s.size) = xs by rw [bytes_extract, HBX.out, List.take_of_length_le (by rw [← HBX.out, bytes_length]; exact Nat.le_refl _)]; rfl, hnke] at this
          exact this
        go_wp2_with fail
        refine (C29 _).mono ?_
        rintro e' w' ⟨rfl, rfl⟩
        clear C29 e0 e1 e2 e3 e4 e5 e6 e7
        rcases hcodes with he | he | he
        · subst he
          have HGE : Sl (getF (x :: xs) most = if most < (n : Int) then (Fr0, 0, 92) else fillF fin (o : Int) (decide (128 ≤ xs.getD 0 0)) (1 + k) n (xs.drop k)) := ⟨by
            rw [HGC.out, if_neg (by rw [hbad]; decide), if_neg HN6.out, hnke, if_neg (show ¬ (0 : Nat) = 81 by decide), if_neg (show ¬ (0 : Nat) = 80 by decide)]
            by_cases hmn : most < (n : Int)
            · rw [if_pos hmn, if_pos hmn]
            · rw [if_neg hmn, if_neg hmn, rest_fill, HO16.out, HFIN.out]⟩
          have hxs : 0 < xs.length := by
            cases xs with
            | nil => have h2 : (getL []).2.2 = 80 := rfl; rw [hnke] at h2; cases h2
            | cons y ys => simp
          obtain ⟨y, hy⟩ : ∃ y, xs.getD 0 0 = y := ⟨_, rfl⟩
          rw [hy] at HGE
          have h1s : 1 < s.size := by rw [← hbl]; simp; omega
          have hxl : xs.length + 1 = s.size := by rw [← hbl]; simp
          have hy1 : (s[1]'h1s).toNat = y := by rw [bytes_tail s x xs HBX.out 0 h1s]; exact hy
          by_cases hneg : most < 0
          · have hq1 : (most < 0) = True := eq_true hneg
            have HQ : Sl (getF (x :: xs) most = (Fr0, 0, 92)) := ⟨by rw [HGE.out]; exact if_pos (by omega)⟩
            clear hneg hnke hle HGC
            go_upto_region 14 with fail
            have HI := fr_info (cs := #[.bool false, .int .i64 0, .bool false, .int .u8 0, .int .u8 0, .int .u8 0, .int .u8 0, .string { data := #[] }]) rfl
            go_wp2_with (refine wpList_store_row rfl 43 (.tmp 4) (.tmp 87) rfl w.heap.size #[.bool false, .int .i64 0, .bool false, .int .u8 0, .int .u8 0, .int .u8 0, .int .u8 0, .string { data := #[] }] rfl rfl 43 #[.bool false, .int .i64 0, .bool false, .int .u8 0, .int .u8 0, .int .u8 0, .int .u8 0, .string { data := #[] }] HZ3.out HI rfl (fr_all _ _ _ _ _ _ _ _) ?_)
            refine bodyPost_ret (ret_fr rfl _ _ w.heap.size 43 _ (0, 0) rfl (setRow_heap _ _ _ _ _ _ HZ3.out) rfl) rfl ?_
            rw [HQ.out]
            exact ⟨rfl, ⟨below_setRow HB3.out (Nat.le_refl _) _⟩⟩
          · have hq1 : (most < 0) = False := eq_false hneg
            obtain ⟨mo, rfl⟩ := Int.eq_ofNat_of_zero_le (show 0 ≤ most by omega)
            have hmw : IntKind.u64.wrap (mo : Int) = (mo : Int) := by rw [IntKind.wrap_u64]; omega
            by_cases hov : mo < n
            · have hq2 : ((n : Int) > (mo : Int)) = True := eq_true (by omega)
              have HQ : Sl (getF (x :: xs) (mo : Int) = (Fr0, 0, 92)) := ⟨by rw [HGE.out]; exact if_pos (by omega)⟩
              clear hneg hnke hle HGC
              go_upto_region 14 with fail
              have HI := fr_info (cs := #[.bool false, .int .i64 0, .bool false, .int .u8 0, .int .u8 0, .int .u8 0, .int .u8 0, .string { data := #[] }]) rfl
              go_wp2_with (refine wpList_store_row rfl 43 (.tmp 4) (.tmp 87) rfl w.heap.size #[.bool false, .int .i64 0, .bool false, .int .u8 0, .int .u8 0, .int .u8 0, .int .u8 0, .string { data := #[] }] rfl rfl 43 #[.bool false, .int .i64 0, .bool false, .int .u8 0, .int .u8 0, .int .u8 0, .int .u8 0, .string { data := #[] }] HZ3.out HI rfl (fr_all _ _ _ _ _ _ _ _) ?_)
              refine bodyPost_ret (ret_fr rfl _ _ w.heap.size 43 _ (0, 0) rfl (setRow_heap _ _ _ _ _ _ HZ3.out) rfl) rfl ?_
              rw [HQ.out]
              exact ⟨rfl, ⟨below_setRow HB3.out (Nat.le_refl _) _⟩⟩
            · have hq2 : ((n : Int) > (mo : Int)) = False := eq_false (by omega)
              obtain ⟨pk, hpk⟩ : ∃ pk, 1 + k = pk := ⟨_, rfl⟩
              have HQ : Sl (getF (x :: xs) (mo : Int) = fillF fin (o : Int) (decide (128 ≤ y)) pk n (xs.drop k)) := ⟨by rw [HGE.out, if_neg (by omega), hpk]⟩
              have hwk : IntKind.i64.wrap (1 + (k : Int)) = (pk : Int) := by rw [IntKind.wrap_i64]; omega
              obtain ⟨rl, hrl⟩ : ∃ rl, (xs.drop k).length = rl := ⟨_, rfl⟩
              have hrl2 : pk + rl = s.size := by rw [← hrl, List.length_drop, ← hbl, List.length_cons]; omega
              have hpks : pk ≤ s.size := by omega
              obtain ⟨RS, hRS⟩ : ∃ RS, s.extract pk s.size = RS := ⟨_, rfl⟩
              have HRS : Sl (bytes RS = xs.drop k ∧ RS.size = rl) := ⟨by rw [← hRS, bytes_extract, HBX.out, List.take_of_length_le (by rw [← HBX.out, bytes_length]; exact Nat.le_refl _), ← hpk, Nat.add_comm]; rfl, by rw [← hRS, ByteArray.size_extract]; omega⟩
              have hrz := HRS.out.2
              have hn64 : n ≤ 9223372036854775807 := by omega
              have hwl : IntKind.u64.wrap (rl : Int) = (rl : Int) := by rw [IntKind.wrap_u64]; omega
              clear hneg hov hnke hle HGC HGE
              by_cases h128 : 128 ≤ y
              · have hqy : ((y : Int) ≥ 128) = True := eq_true (by omega)
                rw [decide_eq_true h128] at HQ
                have z2 : w3.frozen? ⟨fb, 2, none⟩ = false := frozen_of_row _ _ _ _ _ HF3.out
                obtain ⟨f0, f1, f2, f3, f4, f5, f6, f7⟩ := bx8 HF3.out
                obtain ⟨w4, hw4⟩ : ∃ W, w3.setCell ⟨fb, 2, none⟩ (.bool true) = W := ⟨_, rfl⟩
                have HB4 : Sl (Below w.heap.size w w4) := ⟨by rw [← hw4]; exact HB3.out.setCell (by show w.heap.size ≤ fb; have := HFB.out; omega) _⟩
                have HF4 : Sl (w4.heap[fb]? = some (.cells #[.bool fin, .int .i64 (o : Int), .bool true, .int .u8 0, .int .u8 0, .int .u8 0, .int .u8 0, .string { data := #[] }] 43 (0, 0))) := ⟨by rw [← hw4, heap_setCell_same _ _ _ _ _ _ HF3.out]; rfl⟩
                have HZ4 : Sl (w4.heap[w.heap.size]? = some (.cells #[.bool false, .int .i64 0, .bool false, .int .u8 0, .int .u8 0, .int .u8 0, .int .u8 0, .string { data := #[] }] 43 (0, 0))) := ⟨by rw [← hw4, heap_setCell_other _ _ _ _ (by show w.heap.size ≠ fb; have := HFB.out; omega)]; exact HZ3.out⟩
                by_cases h4 : rl < 4
                · have hq4 : ((rl : Int) < 4) = True := eq_true (by omega)
                  have HQ1 := HQ
                  have HQ : Sl (getF (x :: xs) (mo : Int) = (Fr0, 0, 90)) := ⟨by rw [HQ1.out]; unfold fillF; rw [if_pos rfl, if_pos (by omega)]⟩
                  clear HQ1 h4 h128
                  go_upto_region 19 with fail
                  have HI := fr_info (cs := #[.bool false, .int .i64 0, .bool false, .int .u8 0, .int .u8 0, .int .u8 0, .int .u8 0, .string { data := #[] }]) rfl
                  go_wp2_with (refine wpList_store_row rfl 43 (.tmp 4) (.tmp 99) rfl w.heap.size #[.bool false, .int .i64 0, .bool false, .int .u8 0, .int .u8 0, .int .u8 0, .int .u8 0, .string { data := #[] }] rfl rfl 43 #[.bool false, .int .i64 0, .bool false, .int .u8 0, .int .u8 0, .int .u8 0, .int .u8 0, .string { data := #[] }] HZ4.out HI rfl (fr_all _ _ _ _ _ _ _ _) ?_)
                  refine bodyPost_ret (ret_fr rfl _ _ w.heap.size 43 _ (0, 0) rfl (setRow_heap _ _ _ _ _ _ HZ4.out) rfl) rfl ?_
                  rw [HQ.out]
                  exact ⟨rfl, ⟨below_setRow HB4.out (Nat.le_refl _) _⟩⟩
                · have hq4 : ((rl : Int) < 4) = False := eq_false (by omega)
                  obtain ⟨a, b, c, d, hkey⟩ := four_of (xs.drop k) (by omega)
                  have HKS : Sl (Small 256 [a, b, c, d]) := ⟨by rw [← hkey]; exact (HXS.out.drop k).take 4⟩
                  have HKEY := Sl.mk hkey
                  have HIX : Sl (∀ i v, i < 4 → [a, b, c, d].getD i 0 = v → (xs.drop k).getD i 0 = v) := ⟨fun i v hi hv => by
                    rw [← hv, ← hkey]
                    simp only [List.getD_eq_getElem?_getD, List.getElem?_take_of_lt hi]⟩
                  have h4r : 4 ≤ (xs.drop k).length := by omega
                  have H4R := Sl.mk h4r
                  obtain ⟨R4, hR4⟩ : ∃ R4, RS.extract 4 RS.size = R4 := ⟨_, rfl⟩
                  have hR4' : RS.extract 4 rl = R4 := by rw [← hrz]; exact hR4
                  obtain ⟨r4, hr4⟩ : ∃ r4, rl - 4 = r4 := ⟨_, rfl⟩
                  have HR4 : Sl (bytes R4 = (xs.drop k).drop 4 ∧ R4.size = r4) := ⟨by rw [← hR4, bytes_extract, HRS.out.1, List.take_of_length_le (by rw [hrl, hrz]; exact Nat.le_refl _)], by rw [← hR4, ByteArray.size_extract]; omega⟩
                  have hr4z := HR4.out.2
                  have HR4L : Sl ((xs.drop k).drop 4 = (xs.drop k).drop 4) := ⟨rfl⟩
                  have hwl4 : IntKind.u64.wrap (r4 : Int) = (r4 : Int) := by rw [IntKind.wrap_u64]; omega
                  clear hwl hkey
                  go_upto_region 20 with fail
                  obtain ⟨Rw, hR⟩ : ∃ Rw, w4.drew = Rw := ⟨_, rfl⟩
                  have HS0 : Below w.heap.size w Rw := by rw [← hR]; exact HB4.out.drew
                  have HFR : Rw.heap[fb]? = some (.cells #[.bool fin, .int .i64 (o : Int), .bool true, .int .u8 0, .int .u8 0, .int .u8 0, .int .u8 0, .string { data := #[] }] 43 (0, 0)) := by rw [← hR]; exact HF4.out
                  have HZR : Rw.heap[w.heap.size]? = some (.cells #[.bool false, .int .i64 0, .bool false, .int .u8 0, .int .u8 0, .int .u8 0, .int .u8 0, .string { data := #[] }] 43 (0, 0)) := by rw [← hR]; exact HZ4.out
                  refine wp_region_noPanic ?_
                  refine wp_region_held (S := fun W => Below w.heap.size w W) (by kernel_rfl) ?_
                  change wpAnyH _ _ _ _ _ _ _ _ w4.drew
                  rw [hR]
                  clear hR HB4 HF4 HZ4 z2 f0 f1 f2 f3 f4 f5 f6 f7 hw4
                  refine heldTake (d := some 100) (op := .move (Operand.tmp 11)) (g := none) 0 ?v0n8 rfl (by kernel_rfl) (by kernel_rfl) (by kernel_rfl) (by kernel_rfl) ?y0n8 HS0 ?_
                  case y0n8 => intro o' ho W hS; simp only [execOp, ho]; go_simp; try rfl
                  simp only [Act.put, List.setIfInBounds_toArray, List.set_cons_zero, List.set_cons_succ]
                  refine heldTake (d := some 101) (op := .index 9 (Operand.tmp 100) (Operand.const (Value.int IntKind.i64 0))) (g := none) 1 (.int .u8 (a : Int)) rfl (by kernel_rfl) (by kernel_rfl) (by kernel_rfl) (by kernel_rfl) ?y1n8 HS0 ?_
                  case y1n8 => intro o' ho W hS; exact index_at (i := 0) ho (by rfl) (by rfl) ⟨HRS.out.1, by have := H4R.out; omega⟩ (HIX.out 0 _ (by decide) rfl)
                  simp only [Act.put, List.setIfInBounds_toArray, List.set_cons_zero, List.set_cons_succ]
                  refine heldTake (d := some 102) (op := .move (Operand.tmp 11)) (g := none) 2 ?v2n8 rfl (by kernel_rfl) (by kernel_rfl) (by kernel_rfl) (by kernel_rfl) ?y2n8 HS0 ?_
                  case y2n8 => intro o' ho W hS; simp only [execOp, ho]; go_simp; try rfl
                  simp only [Act.put, List.setIfInBounds_toArray, List.set_cons_zero, List.set_cons_succ]
                  refine heldTake (d := some 103) (op := .index 9 (Operand.tmp 102) (Operand.const (Value.int IntKind.i64 1))) (g := none) 3 (.int .u8 (b : Int)) rfl (by kernel_rfl) (by kernel_rfl) (by kernel_rfl) (by kernel_rfl) ?y3n8 HS0 ?_
                  case y3n8 => intro o' ho W hS; exact index_at (i := 1) ho (by rfl) (by rfl) ⟨HRS.out.1, by have := H4R.out; omega⟩ (HIX.out 1 _ (by decide) rfl)
                  simp only [Act.put, List.setIfInBounds_toArray, List.set_cons_zero, List.set_cons_succ]
                  refine heldTake (d := some 104) (op := .move (Operand.tmp 11)) (g := none) 4 ?v4n8 rfl (by kernel_rfl) (by kernel_rfl) (by kernel_rfl) (by kernel_rfl) ?y4n8 HS0 ?_
                  case y4n8 => intro o' ho W hS; simp only [execOp, ho]; go_simp; try rfl
                  simp only [Act.put, List.setIfInBounds_toArray, List.set_cons_zero, List.set_cons_succ]
                  refine heldTake (d := some 105) (op := .index 9 (Operand.tmp 104) (Operand.const (Value.int IntKind.i64 2))) (g := none) 5 (.int .u8 (c : Int)) rfl (by kernel_rfl) (by kernel_rfl) (by kernel_rfl) (by kernel_rfl) ?y5n8 HS0 ?_
                  case y5n8 => intro o' ho W hS; exact index_at (i := 2) ho (by rfl) (by rfl) ⟨HRS.out.1, by have := H4R.out; omega⟩ (HIX.out 2 _ (by decide) rfl)
                  simp only [Act.put, List.setIfInBounds_toArray, List.set_cons_zero, List.set_cons_succ]
                  refine heldTake (d := some 106) (op := .move (Operand.tmp 11)) (g := none) 6 ?v6n8 rfl (by kernel_rfl) (by kernel_rfl) (by kernel_rfl) (by kernel_rfl) ?y6n8 HS0 ?_
                  case y6n8 => intro o' ho W hS; simp only [execOp, ho]; go_simp; try rfl
                  simp only [Act.put, List.setIfInBounds_toArray, List.set_cons_zero, List.set_cons_succ]
                  refine heldTake (d := some 107) (op := .index 9 (Operand.tmp 106) (Operand.const (Value.int IntKind.i64 3))) (g := none) 7 (.int .u8 (d : Int)) rfl (by kernel_rfl) (by kernel_rfl) (by kernel_rfl) (by kernel_rfl) ?y7n8 HS0 ?_
                  case y7n8 => intro o' ho W hS; exact index_at (i := 3) ho (by rfl) (by rfl) ⟨HRS.out.1, by have := H4R.out; omega⟩ (HIX.out 3 _ (by decide) rfl)
                  simp only [Act.put, List.setIfInBounds_toArray, List.set_cons_zero, List.set_cons_succ]
                  refine heldTake (d := some 108) (op := .build 41 #[(0, Operand.tmp 101), (1, Operand.tmp 103), (2, Operand.tmp 105), (3, Operand.tmp 107)]) (g := none) 8 ?v8n8 rfl (by kernel_rfl) (by kernel_rfl) (by kernel_rfl) (by kernel_rfl) ?y8n8 HS0 ?_
                  case y8n8 => intro o' ho W hS; simp only [execOp, ho]; go_simp; try rfl
                  simp only [Act.put, List.setIfInBounds_toArray, List.set_cons_zero, List.set_cons_succ]
                  refine heldTake (d := some 109) (op := .fieldAddr 43 (Operand.tmp 7) 3) (g := none) 9 ?v9n8 rfl (by kernel_rfl) (by kernel_rfl) (by kernel_rfl) (by kernel_rfl) ?y9n8 HS0 ?_
                  case y9n8 => intro o' ho W hS; simp only [execOp, ho]; go_simp; try rfl
                  simp only [Act.put, List.setIfInBounds_toArray, List.set_cons_zero, List.set_cons_succ]
                  obtain ⟨w5, hw5⟩ : ∃ W, Rw.setRow fb #[.bool fin, .int .i64 (o : Int), .bool true, .int .u8 (a : Int), .int .u8 (b : Int), .int .u8 (c : Int), .int .u8 (d : Int), .string { data := #[] }] = W := ⟨_, rfl⟩
                  have HB5 : Sl (Below w.heap.size w w5) := ⟨by rw [← hw5]; exact below_setRow HS0 (by have := HFB.out; omega) _⟩
                  have HF5 : Sl (w5.heap[fb]? = some (.cells #[.bool fin, .int .i64 (o : Int), .bool true, .int .u8 (a : Int), .int .u8 (b : Int), .int .u8 (c : Int), .int .u8 (d : Int), .string { data := #[] }] 43 (0, 0))) := ⟨by rw [← hw5]; exact setRow_heap _ _ _ _ _ _ HFR⟩
                  have HZ5 : Sl (w5.heap[w.heap.size]? = some (.cells #[.bool false, .int .i64 0, .bool false, .int .u8 0, .int .u8 0, .int .u8 0, .int .u8 0, .string { data := #[] }] 43 (0, 0))) := ⟨by rw [← hw5, setRow_other _ _ _ _ (by have := HFB.out; omega)]; exact HZR⟩
                  refine heldStore (d := none) (op := .store 41 (Operand.tmp 109) (Operand.tmp 108)) (g := none) (t := 0) 10 w5 rfl (by kernel_rfl) (by kernel_rfl) ?y10n8 HB5.out ?_
                  case y10n8 => intro o' ho ht; rw [← hw5]; exact store_key0 (a := 0) (b := 0) (c := 0) (d := 0) ho (by rfl) (by rfl) HFR
                  simp only [Act.put]
                  refine wpAnyH_done (by kernel_rfl) ?_ _
                  refine NoPanic.normal ?_
                  clear HS0 HFR HZR hw5
                  have h4p : 4 ≤ rl := by omega
                  have h4i : (4 : Int) ≤ (rl : Int) := by omega
                  have h4t : ((4 : Int) ≤ (rl : Int)) = True := eq_true h4i
                  by_cases hrn : r4 < n
                  · have hqn : ((r4 : Int) < (n : Int)) = True := eq_true (by omega)
                    have HQ1 := HQ
                    have HQ : Sl (getF (x :: xs) (mo : Int) = (Fr0, 0, 90)) := ⟨by rw [HQ1.out]; unfold fillF; rw [if_pos rfl, if_pos (by omega)]⟩
                    clear HQ1 h4 h128 hrn
                    go_upto_region 23 with fail
                    have HI := fr_info (cs := #[.bool false, .int .i64 0, .bool false, .int .u8 0, .int .u8 0, .int .u8 0, .int .u8 0, .string { data := #[] }]) rfl
                    go_wp2_with (refine wpList_store_row rfl 43 (.tmp 4) (.tmp 117) rfl w.heap.size #[.bool false, .int .i64 0, .bool false, .int .u8 0, .int .u8 0, .int .u8 0, .int .u8 0, .string { data := #[] }] rfl rfl 43 #[.bool false, .int .i64 0, .bool false, .int .u8 0, .int .u8 0, .int .u8 0, .int .u8 0, .string { data := #[] }] HZ5.out HI rfl (fr_all _ _ _ _ _ _ _ _) ?_)
                    refine bodyPost_ret (ret_fr rfl _ _ w.heap.size 43 _ (0, 0) rfl (setRow_heap _ _ _ _ _ _ HZ5.out) rfl) rfl ?_
                    rw [HQ.out]
                    exact ⟨rfl, ⟨below_setRow HB5.out (Nat.le_refl _) _⟩⟩
                  · have hqn : ((r4 : Int) < (n : Int)) = False := eq_false (by omega)
                    have HRN : Sl (n ≤ R4.size ∧ 4 + n ≤ (xs.drop k).length) := ⟨by omega, by omega⟩
                    obtain ⟨en, hen⟩ : ∃ en, pk + 4 + n = en := ⟨_, rfl⟩
                    have HEN := Sl.mk hen
                    have z4 : IntKind.i64.wrap ((s.size : Int) - (r4 : Int)) = ((pk + 4 : Nat) : Int) := by rw [IntKind.wrap_i64]; omega
                    obtain ⟨p4, hp4⟩ : ∃ p4, pk + 4 = p4 := ⟨_, rfl⟩
                    rw [hp4] at z4
                    have z5 : IntKind.i64.wrap ((p4 : Int) + (n : Int)) = (en : Int) := by rw [IntKind.wrap_i64]; omega
                    clear hrn h4 h128 hrl
                    obtain ⟨PD, hPD⟩ : ∃ PD, R4.extract 0 n = PD := ⟨_, rfl⟩
                    have HPD : Sl (bytes PD = ((xs.drop k).drop 4).take n) := ⟨by rw [← hPD, bytes_extract, List.drop_zero, HR4.out.1]⟩
                    obtain ⟨TD, hTD⟩ : ∃ TD, strOf (turn [a, b, c, d] (rest4 0) (bytes PD)) = TD := ⟨_, rfl⟩
                    have C27 : ∀ W, Calls Tryd.prog 25 #[.agg #[.int .u8 (a : Int), .int .u8 (b : Int), .int .u8 (c : Int), .int .u8 (d : Int)], .int .i64 0, .string PD] W fun e w' => e = .returned (.string TD) ∧ Sl (Below W.heap.size W w') := fun W => by rw [← hTD]; exact refapply_any [a, b, c, d] 0 PD W rfl HKS.out (by rw [← hPD, ByteArray.size_extract]; omega)
                    have hw48 : IntKind.i64.wrap (n : Int) = (n : Int) := by rw [IntKind.wrap_i64]; omega
                    go_upto_region 24 with fail
                    obtain ⟨Rw, hR⟩ : ∃ Rw, w5.drew = Rw := ⟨_, rfl⟩
                    have HS0 : Below w.heap.size w Rw := by rw [← hR]; exact HB5.out.drew
                    have HFR : Rw.heap[fb]? = some (.cells #[.bool fin, .int .i64 (o : Int), .bool true, .int .u8 (a : Int), .int .u8 (b : Int), .int .u8 (c : Int), .int .u8 (d : Int), .string { data := #[] }] 43 (0, 0)) := by rw [← hR]; exact HF5.out
                    have HZR : Rw.heap[w.heap.size]? = some (.cells #[.bool false, .int .i64 0, .bool false, .int .u8 0, .int .u8 0, .int .u8 0, .int .u8 0, .string { data := #[] }] 43 (0, 0)) := by rw [← hR]; exact HZ5.out
                    refine wp_region_noPanic ?_
                    refine wp_region_held (S := fun W => Below w.heap.size w W) (by kernel_rfl) ?_
                    change wpAnyH _ _ _ _ _ _ _ _ w5.drew
                    rw [hR]
                    clear hR HB5 HF5 HZ5
                    refine heldTake (d := some 118) (op := .fieldAddr 43 (Operand.tmp 7) 3) (g := none) 0 ?v0n6 rfl (by kernel_rfl) (by kernel_rfl) (by kernel_rfl) (by kernel_rfl) ?y0n6 HS0 ?_
                    case y0n6 => intro o' ho W hS; simp only [execOp, ho]; go_simp; try rfl
                    simp only [Act.put, List.setIfInBounds_toArray, List.set_cons_zero, List.set_cons_succ]
                    refine heldTake (d := some 120) (op := .move (Operand.tmp 11)) (g := none) 2 ?v2n6 rfl (by kernel_rfl) (by kernel_rfl) (by kernel_rfl) (by kernel_rfl) ?y2n6 HS0 ?_
                    case y2n6 => intro o' ho W hS; simp only [execOp, ho]; go_simp; try rfl
                    simp only [Act.put, List.setIfInBounds_toArray, List.set_cons_zero, List.set_cons_succ]
                    refine heldTake (d := some 121) (op := .move (Operand.tmp 8)) (g := none) 3 ?v3n6 rfl (by kernel_rfl) (by kernel_rfl) (by kernel_rfl) (by kernel_rfl) ?y3n6 HS0 ?_
                    case y3n6 => intro o' ho W hS; simp only [execOp, ho]; go_simp; try rfl
                    simp only [Act.put, List.setIfInBounds_toArray, List.set_cons_zero, List.set_cons_succ]
                    refine heldTake (d := some 122) (op := .slice 9 (Operand.tmp 120) none (some (Operand.tmp 121)) none) (g := none) 4 (.string PD) rfl (by kernel_rfl) (by kernel_rfl) (by kernel_rfl) (by kernel_rfl) ?y4n6 HS0 ?_
                    case y4n6 => intro o' ho W hS; exact upto_run ho (by rfl) (by rfl) (by have := HRN.out; omega) hPD
                    simp only [Act.put, List.setIfInBounds_toArray, List.set_cons_zero, List.set_cons_succ]
                    refine heldRunT (d := some 119) (op := .load 41 (Operand.tmp 118)) (g := none) (t := 41) 1 (.agg #[.int .u8 (a : Int), .int .u8 (b : Int), .int .u8 (c : Int), .int .u8 (d : Int)]) Rw rfl (by kernel_rfl) (by kernel_rfl) ?y1n6 HS0 ?_
                    case y1n6 => intro o' ho _; simp only [execOp, ho]; obtain ⟨f0, f1, f2, f3, f4, f5, f6, f7⟩ := bx8 HFR; go_simp; try rfl
                    simp only [Act.put, List.setIfInBounds_toArray, List.set_cons_zero, List.set_cons_succ]
                    refine heldCall (d := some 123) (op := .call { callee := Callee.value (Operand.func 25), args := #[Operand.tmp 119, Operand.const (Value.int IntKind.i64 0), Operand.tmp 122], argTypes := #[41, 3, 9] }) (g := none) 5 25 #[.agg #[.int .u8 (a : Int), .int .u8 (b : Int), .int .u8 (c : Int), .int .u8 (d : Int)], .int .i64 0, .string PD] rfl (by kernel_rfl) (by kernel_rfl) ?y5n6 ?_
                    case y5n6 => intro o' ho; simp only [execOp, ho]; go_simp; try rfl
                    refine (C27 Rw).mono ?_
                    rintro e X ⟨rfl, HXX⟩
                    have HS1 : Below w.heap.size w X := HS0.trans (HXX.out.mono HS0.size)
                    have HFX : X.heap[fb]? = some (.cells #[.bool fin, .int .i64 (o : Int), .bool true, .int .u8 (a : Int), .int .u8 (b : Int), .int .u8 (c : Int), .int .u8 (d : Int), .string { data := #[] }] 43 (0, 0)) := below_key HFR HXX.out
                    have HZX : X.heap[w.heap.size]? = some (.cells #[.bool false, .int .i64 0, .bool false, .int .u8 0, .int .u8 0, .int .u8 0, .int .u8 0, .string { data := #[] }] 43 (0, 0)) := below_key HZR HXX.out
                    refine ⟨_, rfl, HS1, ?_⟩
                    simp only [Act.put, List.setIfInBounds_toArray, List.set_cons_zero, List.set_cons_succ]
                    refine heldTake (d := some 124) (op := .fieldAddr 43 (Operand.tmp 7) 4) (g := none) 6 ?v6n6 rfl (by kernel_rfl) (by kernel_rfl) (by kernel_rfl) (by kernel_rfl) ?y6n6 HS1 ?_
                    case y6n6 => intro o' ho W hS; simp only [execOp, ho]; go_simp; try rfl
                    simp only [Act.put, List.setIfInBounds_toArray, List.set_cons_zero, List.set_cons_succ]
                    obtain ⟨w8, hw8⟩ : ∃ W, X.setCell ⟨fb, 7, none⟩ (.string TD) = W := ⟨_, rfl⟩
                    have hfz : X.frozen? ⟨fb, 7, none⟩ = false := frozen_of_row _ _ _ _ _ HFX
                    have hc7 : X.cell? ⟨fb, 7, none⟩ = some (.string { data := #[] }) := (bx8 HFX).2.2.2.2.2.2.2
                    have HB8 : Sl (Below w.heap.size w w8) := ⟨by rw [← hw8]; exact HS1.setCell (by show w.heap.size ≤ fb; have := HFB.out; omega) _⟩
                    have HF8 : Sl (w8.heap[fb]? = some (.cells #[.bool fin, .int .i64 (o : Int), .bool true, .int .u8 (a : Int), .int .u8 (b : Int), .int .u8 (c : Int), .int .u8 (d : Int), .string TD] 43 (0, 0))) := ⟨by rw [← hw8, heap_setCell_same _ _ _ _ _ _ HFX]; rfl⟩
                    have HZ8 : Sl (w8.heap[w.heap.size]? = some (.cells #[.bool false, .int .i64 0, .bool false, .int .u8 0, .int .u8 0, .int .u8 0, .int .u8 0, .string { data := #[] }] 43 (0, 0))) := ⟨by rw [← hw8, heap_setCell_other _ _ _ _ (by show w.heap.size ≠ fb; have := HFB.out; omega)]; exact HZX⟩
                    refine heldStore (d := none) (op := .store 9 (Operand.tmp 124) (Operand.tmp 123)) (g := none) (t := 0) 7 w8 rfl (by kernel_rfl) (by kernel_rfl) ?y7n6 HB8.out ?_
                    case y7n6 => intro o' ho ht; simp only [execOp, ho]; go_simp; first | done | rw [hw8] | rfl
                    simp only [Act.put]
                    refine wpAnyH_done (by kernel_rfl) ?_ _
                    refine NoPanic.normal ?_
                    have HQ2 : Sl (getF (x :: xs) (mo : Int) = (⟨fin, (o : Int), true, [a, b, c, d], turn [a, b, c, d] 0 (((xs.drop k).drop 4).take n)⟩, en, 0)) := ⟨by rw [HQ.out]; unfold fillF; rw [if_pos rfl, if_neg (by have := HRN.out; omega), HKEY.out, HEN.out] <;> rfl⟩
                    have HTD2 : Sl (TD = strOf (turn [a, b, c, d] 0 (((xs.drop k).drop 4).take n))) := ⟨by rw [← hTD, HPD.out] <;> rfl⟩
                    have HI := fr_info (cs := #[.bool fin, .int .i64 (o : Int), .bool true, .int .u8 (a : Int), .int .u8 (b : Int), .int .u8 (c : Int), .int .u8 (d : Int), .string TD]) rfl
                    obtain ⟨h0, h1, h2, h3, h4, h5, h6, h7⟩ := bx8 HF8.out
                    clear hfz hc7 hw8 HZX HFX HS1 HXX HS0 HFR HZR C27 hPD hTD
                    go_wp2_with (refine wpList_store_row rfl 43 (.tmp 4) (.tmp 125) rfl w.heap.size #[.bool fin, .int .i64 (o : Int), .bool true, .int .u8 (a : Int), .int .u8 (b : Int), .int .u8 (c : Int), .int .u8 (d : Int), .string TD] rfl rfl 43 #[.bool false, .int .i64 0, .bool false, .int .u8 0, .int .u8 0, .int .u8 0, .int .u8 0, .string { data := #[] }] HZ8.out HI rfl (fr_all _ _ _ _ _ _ _ _) ?_)
                    refine bodyPost_ret (ret_fr rfl _ _ w.heap.size 43 _ (0, 0) rfl (setRow_heap _ _ _ _ _ _ HZ8.out) rfl) rfl ?_
                    rw [HQ2.out, HTD2.out]
                    exact ⟨rfl, ⟨below_setRow HB8.out (Nat.le_refl _) _⟩⟩
              · have hqy : ((y : Int) ≥ 128) = False := eq_false (by omega)
                rw [decide_eq_false h128] at HQ
                by_cases hrn : rl < n
                · have hqn : ((rl : Int) < (n : Int)) = True := eq_true (by omega)
                  have HQ1 := HQ
                  have HQ : Sl (getF (x :: xs) (mo : Int) = (Fr0, 0, 90)) := ⟨by rw [HQ1.out]; unfold fillF; rw [if_neg (by decide), if_pos (by omega)]⟩
                  clear HQ1 h128 hrn
                  go_upto_region 23 with fail
                  have HI := fr_info (cs := #[.bool false, .int .i64 0, .bool false, .int .u8 0, .int .u8 0, .int .u8 0, .int .u8 0, .string { data := #[] }]) rfl
                  go_wp2_with (refine wpList_store_row rfl 43 (.tmp 4) (.tmp 117) rfl w.heap.size #[.bool false, .int .i64 0, .bool false, .int .u8 0, .int .u8 0, .int .u8 0, .int .u8 0, .string { data := #[] }] rfl rfl 43 #[.bool false, .int .i64 0, .bool false, .int .u8 0, .int .u8 0, .int .u8 0, .int .u8 0, .string { data := #[] }] HZ3.out HI rfl (fr_all _ _ _ _ _ _ _ _) ?_)
                  refine bodyPost_ret (ret_fr rfl _ _ w.heap.size 43 _ (0, 0) rfl (setRow_heap _ _ _ _ _ _ HZ3.out) rfl) rfl ?_
                  rw [HQ.out]
                  exact ⟨rfl, ⟨below_setRow HB3.out (Nat.le_refl _) _⟩⟩
                · have hqn : ((rl : Int) < (n : Int)) = False := eq_false (by omega)
                  have HRN : Sl (n ≤ RS.size ∧ n ≤ (xs.drop k).length) := ⟨by omega, by omega⟩
                  obtain ⟨en, hen⟩ : ∃ en, pk + n = en := ⟨_, rfl⟩
                  have HEN := Sl.mk hen
                  have z4 : IntKind.i64.wrap ((s.size : Int) - (rl : Int)) = (pk : Int) := by rw [IntKind.wrap_i64]; omega
                  have z5 : IntKind.i64.wrap ((pk : Int) + (n : Int)) = (en : Int) := by rw [IntKind.wrap_i64]; omega
                  clear hrn h128 hrl
                  obtain ⟨PD, hPD⟩ : ∃ PD, RS.extract 0 n = PD := ⟨_, rfl⟩
                  have HPD : Sl (bytes PD = (xs.drop k).take n) := ⟨by rw [← hPD, bytes_extract, List.drop_zero, HRS.out.1]⟩
                  obtain ⟨TD, hTD⟩ : ∃ TD, strOf (turn [0, 0, 0, 0] (rest4 0) (bytes PD)) = TD := ⟨_, rfl⟩
                  have C27 : ∀ W, Calls Tryd.prog 25 #[.agg #[.int .u8 0, .int .u8 0, .int .u8 0, .int .u8 0], .int .i64 0, .string PD] W fun e w' => e = .returned (.string TD) ∧ Sl (Below W.heap.size W w') := fun W => by rw [← hTD]; exact refapply_any [0, 0, 0, 0] 0 PD W rfl (fun x hx => by simp at hx; omega) (by rw [← hPD, ByteArray.size_extract]; omega)
                  have hw48 : IntKind.i64.wrap (n : Int) = (n : Int) := by rw [IntKind.wrap_i64]; omega
                  go_upto_region 24 with fail
                  obtain ⟨Rw, hR⟩ : ∃ Rw, w3.drew = Rw := ⟨_, rfl⟩
                  have HS0 : Below w.heap.size w Rw := by rw [← hR]; exact HB3.out.drew
                  have HFR : Rw.heap[fb]? = some (.cells #[.bool fin, .int .i64 (o : Int), .bool false, .int .u8 0, .int .u8 0, .int .u8 0, .int .u8 0, .string { data := #[] }] 43 (0, 0)) := by rw [← hR]; exact HF3.out
                  have HZR : Rw.heap[w.heap.size]? = some (.cells #[.bool false, .int .i64 0, .bool false, .int .u8 0, .int .u8 0, .int .u8 0, .int .u8 0, .string { data := #[] }] 43 (0, 0)) := by rw [← hR]; exact HZ3.out
                  refine wp_region_noPanic ?_
                  refine wp_region_held (S := fun W => Below w.heap.size w W) (by kernel_rfl) ?_
                  change wpAnyH _ _ _ _ _ _ _ _ w3.drew
                  rw [hR]
                  clear hR HB3 HF3 HZ3
                  refine heldTake (d := some 118) (op := .fieldAddr 43 (Operand.tmp 7) 3) (g := none) 0 ?v0n7 rfl (by kernel_rfl) (by kernel_rfl) (by kernel_rfl) (by kernel_rfl) ?y0n7 HS0 ?_
                  case y0n7 => intro o' ho W hS; simp only [execOp, ho]; go_simp; try rfl
                  simp only [Act.put, List.setIfInBounds_toArray, List.set_cons_zero, List.set_cons_succ]
                  refine heldTake (d := some 120) (op := .move (Operand.tmp 11)) (g := none) 2 ?v2n7 rfl (by kernel_rfl) (by kernel_rfl) (by kernel_rfl) (by kernel_rfl) ?y2n7 HS0 ?_
                  case y2n7 => intro o' ho W hS; simp only [execOp, ho]; go_simp; try rfl
                  simp only [Act.put, List.setIfInBounds_toArray, List.set_cons_zero, List.set_cons_succ]
                  refine heldTake (d := some 121) (op := .move (Operand.tmp 8)) (g := none) 3 ?v3n7 rfl (by kernel_rfl) (by kernel_rfl) (by kernel_rfl) (by kernel_rfl) ?y3n7 HS0 ?_
                  case y3n7 => intro o' ho W hS; simp only [execOp, ho]; go_simp; try rfl
                  simp only [Act.put, List.setIfInBounds_toArray, List.set_cons_zero, List.set_cons_succ]
                  refine heldTake (d := some 122) (op := .slice 9 (Operand.tmp 120) none (some (Operand.tmp 121)) none) (g := none) 4 (.string PD) rfl (by kernel_rfl) (by kernel_rfl) (by kernel_rfl) (by kernel_rfl) ?y4n7 HS0 ?_
                  case y4n7 => intro o' ho W hS; exact upto_run ho (by rfl) (by rfl) (by have := HRN.out; omega) hPD
                  simp only [Act.put, List.setIfInBounds_toArray, List.set_cons_zero, List.set_cons_succ]
                  refine heldRunT (d := some 119) (op := .load 41 (Operand.tmp 118)) (g := none) (t := 41) 1 (.agg #[.int .u8 0, .int .u8 0, .int .u8 0, .int .u8 0]) Rw rfl (by kernel_rfl) (by kernel_rfl) ?y1n7 HS0 ?_
                  case y1n7 => intro o' ho _; simp only [execOp, ho]; obtain ⟨f0, f1, f2, f3, f4, f5, f6, f7⟩ := bx8 HFR; go_simp; try rfl
                  simp only [Act.put, List.setIfInBounds_toArray, List.set_cons_zero, List.set_cons_succ]
                  refine heldCall (d := some 123) (op := .call { callee := Callee.value (Operand.func 25), args := #[Operand.tmp 119, Operand.const (Value.int IntKind.i64 0), Operand.tmp 122], argTypes := #[41, 3, 9] }) (g := none) 5 25 #[.agg #[.int .u8 0, .int .u8 0, .int .u8 0, .int .u8 0], .int .i64 0, .string PD] rfl (by kernel_rfl) (by kernel_rfl) ?y5n7 ?_
                  case y5n7 => intro o' ho; simp only [execOp, ho]; go_simp; try rfl
                  refine (C27 Rw).mono ?_
                  rintro e X ⟨rfl, HXX⟩
                  have HS1 : Below w.heap.size w X := HS0.trans (HXX.out.mono HS0.size)
                  have HFX : X.heap[fb]? = some (.cells #[.bool fin, .int .i64 (o : Int), .bool false, .int .u8 0, .int .u8 0, .int .u8 0, .int .u8 0, .string { data := #[] }] 43 (0, 0)) := below_key HFR HXX.out
                  have HZX : X.heap[w.heap.size]? = some (.cells #[.bool false, .int .i64 0, .bool false, .int .u8 0, .int .u8 0, .int .u8 0, .int .u8 0, .string { data := #[] }] 43 (0, 0)) := below_key HZR HXX.out
                  refine ⟨_, rfl, HS1, ?_⟩
                  simp only [Act.put, List.setIfInBounds_toArray, List.set_cons_zero, List.set_cons_succ]
                  refine heldTake (d := some 124) (op := .fieldAddr 43 (Operand.tmp 7) 4) (g := none) 6 ?v6n7 rfl (by kernel_rfl) (by kernel_rfl) (by kernel_rfl) (by kernel_rfl) ?y6n7 HS1 ?_
                  case y6n7 => intro o' ho W hS; simp only [execOp, ho]; go_simp; try rfl
                  simp only [Act.put, List.setIfInBounds_toArray, List.set_cons_zero, List.set_cons_succ]
                  obtain ⟨w8, hw8⟩ : ∃ W, X.setCell ⟨fb, 7, none⟩ (.string TD) = W := ⟨_, rfl⟩
                  have hfz : X.frozen? ⟨fb, 7, none⟩ = false := frozen_of_row _ _ _ _ _ HFX
                  have hc7 : X.cell? ⟨fb, 7, none⟩ = some (.string { data := #[] }) := (bx8 HFX).2.2.2.2.2.2.2
                  have HB8 : Sl (Below w.heap.size w w8) := ⟨by rw [← hw8]; exact HS1.setCell (by show w.heap.size ≤ fb; have := HFB.out; omega) _⟩
                  have HF8 : Sl (w8.heap[fb]? = some (.cells #[.bool fin, .int .i64 (o : Int), .bool false, .int .u8 0, .int .u8 0, .int .u8 0, .int .u8 0, .string TD] 43 (0, 0))) := ⟨by rw [← hw8, heap_setCell_same _ _ _ _ _ _ HFX]; rfl⟩
                  have HZ8 : Sl (w8.heap[w.heap.size]? = some (.cells #[.bool false, .int .i64 0, .bool false, .int .u8 0, .int .u8 0, .int .u8 0, .int .u8 0, .string { data := #[] }] 43 (0, 0))) := ⟨by rw [← hw8, heap_setCell_other _ _ _ _ (by show w.heap.size ≠ fb; have := HFB.out; omega)]; exact HZX⟩
                  refine heldStore (d := none) (op := .store 9 (Operand.tmp 124) (Operand.tmp 123)) (g := none) (t := 0) 7 w8 rfl (by kernel_rfl) (by kernel_rfl) ?y7n7 HB8.out ?_
                  case y7n7 => intro o' ho ht; simp only [execOp, ho]; go_simp; first | done | rw [hw8] | rfl
                  simp only [Act.put]
                  refine wpAnyH_done (by kernel_rfl) ?_ _
                  refine NoPanic.normal ?_
                  have HQ2 : Sl (getF (x :: xs) (mo : Int) = (⟨fin, (o : Int), false, [0, 0, 0, 0], (xs.drop k).take n⟩, en, 0)) := ⟨by rw [HQ.out]; unfold fillF; rw [if_neg (by decide), if_neg (by have := HRN.out; omega), HEN.out] <;> rfl⟩
                  have HTD2 : Sl (TD = strOf ((xs.drop k).take n)) := ⟨by rw [← hTD, HPD.out, turn_zero (z := [0, 0, 0, 0]) (by decide)] <;> rfl⟩
                  have HI := fr_info (cs := #[.bool fin, .int .i64 (o : Int), .bool false, .int .u8 0, .int .u8 0, .int .u8 0, .int .u8 0, .string TD]) rfl
                  obtain ⟨h0, h1, h2, h3, h4, h5, h6, h7⟩ := bx8 HF8.out
                  clear hfz hc7 hw8 HZX HFX HS1 HXX HS0 HFR HZR C27 hPD hTD
                  go_wp2_with (refine wpList_store_row rfl 43 (.tmp 4) (.tmp 125) rfl w.heap.size #[.bool fin, .int .i64 (o : Int), .bool false, .int .u8 0, .int .u8 0, .int .u8 0, .int .u8 0, .string TD] rfl rfl 43 #[.bool false, .int .i64 0, .bool false, .int .u8 0, .int .u8 0, .int .u8 0, .int .u8 0, .string { data := #[] }] HZ8.out HI rfl (fr_all _ _ _ _ _ _ _ _) ?_)
                  refine bodyPost_ret (ret_fr rfl _ _ w.heap.size 43 _ (0, 0) rfl (setRow_heap _ _ _ _ _ _ HZ8.out) rfl) rfl ?_
                  rw [HQ2.out, HTD2.out]
                  exact ⟨rfl, ⟨below_setRow HB8.out (Nat.le_refl _) _⟩⟩
        · subst he
          have HQ : Sl (getF (x :: xs) most = (Fr0, 0, 90)) := ⟨by rw [HGC.out, if_neg (by rw [hbad]; decide), if_neg HN6.out, hnke, if_neg (show ¬ (80 : Nat) = 81 by decide), if_pos rfl]⟩
          clear hnke hle HGC
          go_upto_region 12 with fail
          have HI := fr_info (cs := #[.bool false, .int .i64 0, .bool false, .int .u8 0, .int .u8 0, .int .u8 0, .int .u8 0, .string { data := #[] }]) rfl
          go_wp2_with (refine wpList_store_row rfl 43 (.tmp 4) (.tmp 78) rfl w.heap.size #[.bool false, .int .i64 0, .bool false, .int .u8 0, .int .u8 0, .int .u8 0, .int .u8 0, .string { data := #[] }] rfl rfl 43 #[.bool false, .int .i64 0, .bool false, .int .u8 0, .int .u8 0, .int .u8 0, .int .u8 0, .string { data := #[] }] HZ3.out HI rfl (fr_all _ _ _ _ _ _ _ _) ?_)
          refine bodyPost_ret (ret_fr rfl _ _ w.heap.size 43 _ (0, 0) rfl (setRow_heap _ _ _ _ _ _ HZ3.out) rfl) rfl ?_
          rw [HQ.out]
          exact ⟨rfl, ⟨below_setRow HB3.out (Nat.le_refl _) _⟩⟩
        · subst he
          have HQ : Sl (getF (x :: xs) most = (Fr0, 0, 91)) := ⟨by rw [HGC.out, if_neg (by rw [hbad]; decide), if_neg HN6.out, hnke, if_pos rfl]⟩
          clear hnke hle HGC
          go_upto_region 10 with fail
          have HI := fr_info (cs := #[.bool false, .int .i64 0, .bool false, .int .u8 0, .int .u8 0, .int .u8 0, .int .u8 0, .string { data := #[] }]) rfl
          go_wp2_with (refine wpList_store_row rfl 43 (.tmp 4) (.tmp 75) rfl w.heap.size #[.bool false, .int .i64 0, .bool false, .int .u8 0, .int .u8 0, .int .u8 0, .int .u8 0, .string { data := #[] }] rfl rfl 43 #[.bool false, .int .i64 0, .bool false, .int .u8 0, .int .u8 0, .int .u8 0, .int .u8 0, .string { data := #[] }] HZ3.out HI rfl (fr_all _ _ _ _ _ _ _ _) ?_)
          refine bodyPost_ret (ret_fr rfl _ _ w.heap.size 43 _ (0, 0) rfl (setRow_heap _ _ _ _ _ _ HZ3.out) rfl) rfl ?_
          rw [HQ.out]
          exact ⟨rfl, ⟨below_setRow HB3.out (Nat.le_refl _) _⟩⟩
      · have hq6 : ((s.size : Int) > 1) = False := eq_false (by rw [← hbl]; simp; omega)
        obtain ⟨⟨n, k, e⟩, hnke⟩ : ∃ r, getL xs = r := ⟨_, rfl⟩
        have hle := get_le xs
        rw [hnke] at hle
        have hcodes := get_codes xs
        rw [hnke] at hcodes
        simp only at hle hcodes
        have HGC := Sl.mk (getF_cons x xs most)
        have C29 : ∀ W, Calls Tryd.prog 33 #[.string (s.extract 1 s.size)] W fun e' w' => e' = .returned (.tuple #[.int .u64 (n : Int), .int .i64 (k : Int), .int .i64 (e : Int)]) ∧ W = w' := fun W => by
          have := refget_any (s.extract 1 s.size) W (by rw [ByteArray.size_extract]; omega)
          rw [show bytes (s.extract 1 s.size) = xs by rw [bytes_extract, HBX.out, List.take_of_length_le (by rw [← HBX.out, bytes_length]; exact Nat.le_refl _)]; rfl, hnke] at this
          exact this
        go_wp2_with fail
        refine (C29 _).mono ?_
        rintro e' w' ⟨rfl, rfl⟩
        clear C29 e0 e1 e2 e3 e4 e5 e6 e7
        have he : e = 80 := by
          cases xs with
          | nil => have h2 : (getL []).2.2 = 80 := rfl; rw [hnke] at h2; exact h2
          | cons y ys => exact absurd (show 0 < (y :: ys).length by simp) hl1
        subst he
        have HQ : Sl (getF (x :: xs) most = (Fr0, 0, 90)) := ⟨by rw [HGC.out, if_neg (by rw [hbad]; decide), if_neg HN6.out, hnke, if_neg (show ¬ (80 : Nat) = 81 by decide), if_pos rfl]⟩
        clear hnke hle HGC
        go_upto_region 12 with fail
        have HI := fr_info (cs := #[.bool false, .int .i64 0, .bool false, .int .u8 0, .int .u8 0, .int .u8 0, .int .u8 0, .string { data := #[] }]) rfl
        go_wp2_with (refine wpList_store_row rfl 43 (.tmp 4) (.tmp 78) rfl w.heap.size #[.bool false, .int .i64 0, .bool false, .int .u8 0, .int .u8 0, .int .u8 0, .int .u8 0, .string { data := #[] }] rfl rfl 43 #[.bool false, .int .i64 0, .bool false, .int .u8 0, .int .u8 0, .int .u8 0, .int .u8 0, .string { data := #[] }] HZ3.out HI rfl (fr_all _ _ _ _ _ _ _ _) ?_)
        refine bodyPost_ret (ret_fr rfl _ _ w.heap.size 43 _ (0, 0) rfl (setRow_heap _ _ _ _ _ _ HZ3.out) rfl) rfl ?_
        rw [HQ.out]
        exact ⟨rfl, ⟨below_setRow HB3.out (Nat.le_refl _) _⟩⟩
  · have hqr : ((r0 : Int) != 0) = true := by simp; omega
    have hbad : bad x = true := bad_iff.out.2 (.inl hr0)
    have HQ : Sl (getF (x :: xs) most = (Fr0, 0, 91)) := ⟨getF_bad most hbad⟩
    go_upto_region 5 with fail
    have HI := fr_info (cs := #[.bool false, .int .i64 0, .bool false, .int .u8 0, .int .u8 0, .int .u8 0, .int .u8 0, .string { data := #[] }]) rfl
    go_wp2_with (refine wpList_store_row rfl 43 (.tmp 4) (.tmp 50) rfl w.heap.size #[.bool false, .int .i64 0, .bool false, .int .u8 0, .int .u8 0, .int .u8 0, .int .u8 0, .string { data := #[] }] rfl rfl 43 #[.bool false, .int .i64 0, .bool false, .int .u8 0, .int .u8 0, .int .u8 0, .int .u8 0, .string { data := #[] }] HZ3.out HI rfl (fr_all _ _ _ _ _ _ _ _) ?_)
    refine bodyPost_ret (ret_fr rfl _ _ w.heap.size 43 _ (0, 0) rfl (setRow_heap _ _ _ _ _ _ HZ3.out) rfl) rfl ?_
    rw [HQ.out]
    exact ⟨rfl, ⟨below_setRow HB3.out (Nat.le_refl _) _⟩⟩
end Go.Proofs.YtlgmgalopdfcaaaDoor.Fra
