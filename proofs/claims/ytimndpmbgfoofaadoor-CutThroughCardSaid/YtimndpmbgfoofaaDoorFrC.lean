/- frame: Get. -/
import Derived.Test.YtimndpmbgfoofaaDoorFrB
set_option maxRecDepth 100000
namespace Go.Proofs.YtimndpmbgfoofaaDoor.Fra
open Go.RowKit MaskPlain FramePlain Mas

theorem slice_tail {W : World} {ev : Operand → Value} {o : Oper} {x : Operand} {sb so L cap k : Nat} (of : Nat) (hof : (if cap = 1 then so else so + 1) = of) (ho : o.op = .slice 36 x (some (.const (.int .i64 1))) none none) (hx : ev x = .slice (some ⟨sb, so, none⟩) L cap) (hk : L - 1 = k) (hL : 1 ≤ L ∧ L ≤ cap) (hev : ev (.const (.int .i64 1)) = .int .i64 1) :
    (execOp ev o).run Tryd.prog W = .ok (.value (.slice (some ⟨sb, of, none⟩) k (cap - 1))) W := by
  subst hk hof
  obtain ⟨hL1, hL2⟩ := hL
  simp only [execOp, ho, hx, hev, Option.map_some, Option.map_none]
  by_cases hc : cap = 1
  · subst hc
    rw [if_pos rfl]
    go_simp
    intro h; omega
  · rw [if_neg hc]
    go_simp
    intro h; omega
theorem store8 {W : World} {ev : Operand → Value} {o : Oper} {x y : Operand} {g : Nat} {old cells : Array Value} (ho : o.op = .store 44 x y) (hx : ev x = .pointer (some ⟨g, 0, none⟩)) (hy : ev y = .agg cells) (hg : W.heap[g]? = some (.cells old 44 (0, 0))) (hs : old.size = 8 ∧ cells.size = 8) (h1 : cells.all (·.oneCell') = true) :
    (execOp ev o).run Tryd.prog W = .ok .skip (W.setRow g cells) := by
  unfold execOp
  simp only [ho, hx, hy, Instr.storeAt, Instr.sureAddr, Sem.run_bind, Sem.run_pure, Result.andThen_ok, run_storeVar_row W g 44 44 old cells hg (fr_info hs.2) (hs.1.trans hs.2.symm) h1]
/-- What a first byte tells. -/
theorem bad_opn (x : Nat) (h : x < 256) : bad x = !(opn (decide (128 ≤ x)) ((x % 128 : Nat) : Int)) ∧ (bad x = false → (ctl ((x % 128 : Nat) : Int) = true ↔ 8 ≤ x % 16) ∧ x % 128 = x % 16) := by
  have : ∀ c : Fin 256, bad c.val = !(opn (decide (128 ≤ c.val)) ((c.val % 128 : Nat) : Int)) ∧ (bad c.val = false → (ctl ((c.val % 128 : Nat) : Int) = true ↔ 8 ≤ c.val % 16) ∧ c.val % 128 = c.val % 16) := by decide +kernel
  exact this ⟨x, h⟩
theorem getF_cons (x : Nat) (xs : List Nat) (most : Int) : getF (x :: xs) most = if bad x then (Fr0, 0, 91)
    else if 0 < xs.length ∧ 8 ≤ x % 16 ∧ 125 < xs.getD 0 0 % 128 then (Fr0, 0, 91)
    else if (getL xs).2.2 = 81 then (Fr0, 0, 91)
    else if (getL xs).2.2 = 80 then (Fr0, 0, 90)
    else if most < ((getL xs).1 : Int) then (Fr0, 0, 92)
    else rest x (xs.getD 0 0) (getL xs).1 (getL xs).2.1 (xs.drop (getL xs).2.1) := rfl
theorem getF_bad {x : Nat} {xs : List Nat} (most : Int) (h : bad x = true) : getF (x :: xs) most = (Fr0, 0, 91) := by rw [getF_cons, if_pos h]
theorem getF_len {x : Nat} {xs : List Nat} (most : Int) (hx : x < 256) (h : bad x = false) : getF (x :: xs) most = if (lenF (x % 128) xs).2.2 = 0 then (if most < (((lenF (x % 128) xs).1 : Nat) : Int) then (Fr0, 0, 92) else rest x (xs.getD 0 0) (lenF (x % 128) xs).1 (lenF (x % 128) xs).2.1 (xs.drop (lenF (x % 128) xs).2.1)) else (Fr0, 0, (lenF (x % 128) xs).2.2) := by
  have h2 := ((bad_opn x hx).2 h).1
  rw [getF_cons, if_neg (show ¬ bad x = true from by rw [h]; decide)]
  unfold lenF
  by_cases c1 : ctl ((x % 128 : Nat) : Int) = true ∧ 0 < xs.length ∧ 125 < xs.getD 0 0 % 128
  · rw [if_pos c1, if_pos ⟨c1.2.1, h2.1 c1.1, c1.2.2⟩]; rfl
  · rw [if_neg c1, if_neg (fun hh => c1 ⟨h2.2 hh.2.1, hh.1, hh.2.2⟩)]
    by_cases c2 : (getL xs).2.2 = 81
    · rw [if_pos c2, if_pos c2]; rfl
    · rw [if_neg c2, if_neg c2]
      by_cases c3 : (getL xs).2.2 = 80
      · rw [if_pos c3, if_pos c3]; rfl
      · rw [if_neg c3, if_neg c3]
        have c4 : (getL xs).2.2 = 0 := by rcases get_codes xs with h | h | h <;> omega
        rw [if_pos c4]
theorem lenF_le (o : Nat) (bs : List Nat) : (lenF o bs).2.1 ≤ bs.length ∧ (bs = [] → (lenF o bs).2.2 ≠ 0) := by
  unfold lenF
  have := get_le bs
  refine ⟨?_, fun hb => ?_⟩
  · split
    · exact Nat.zero_le _
    · split
      · exact Nat.zero_le _
      · split
        · exact Nat.zero_le _
        · exact this
  · subst hb; rw [if_neg (fun h => absurd h.2.1 (by decide)), if_neg (by decide), if_pos (by rfl)]; decide

set_option maxHeartbeats 4000000 in
theorem getf_any (sb so L cap : Nat) (bs : List Nat) (most : Int) (w : World) (hg : Globs w) (hv : SrcAt w (.slice (some ⟨sb, so, none⟩) L cap) bs) (hbl : bs.length = L) (hsm : Small 256 bs) (hm : L ≤ 100000) (hmo : most ≤ 9223372036854775807) :
    Calls Tryd.prog 54 #[.slice (some ⟨sb, so, none⟩) L cap, .int .i64 most] w fun e w' => e = .returned (resF (getF bs most)) ∧ Sl (Below w.heap.size w w') := by
  have HG := Sl.mk hg
  have HV := Sl.mk hv
  have hLc : L ≤ cap := by obtain ⟨_, c', _, _, he, h1, _⟩ := hv; injection he with _ _ ec; omega
  obtain ⟨w1, hw1⟩ : ∃ w1, w.alloc (.cells #[.bool false, .int .i64 0, .bool false, .int .u8 0, .int .u8 0, .int .u8 0, .int .u8 0, .string { data := #[] }] 44) = w1 := ⟨_, rfl⟩
  have HB1 : Sl (Below w.heap.size w w1) := ⟨by rw [← hw1]; exact (bx_below w _).out⟩
  have HZ1 : Sl (w1.heap[w.heap.size]? = some (.cells #[.bool false, .int .i64 0, .bool false, .int .u8 0, .int .u8 0, .int .u8 0, .int .u8 0, .string { data := #[] }] 44 (0, 0))) := ⟨by rw [← hw1]; exact bx_new _ _⟩
  by_cases h0 : L = 0
  · subst h0
    obtain rfl : bs = [] := List.eq_nil_of_length_eq_zero hbl
    have HQ : Sl (getF [] most = (Fr0, 0, 90)) := ⟨rfl⟩
    clear hg hv hsm hm hmo hbl hLc
    go_enter Tryd.func54, Tryd.ntmps54
    have HI := fr_info (cs := #[.bool false, .int .i64 0, .bool false, .int .u8 0, .int .u8 0, .int .u8 0, .int .u8 0, .string { data := #[] }]) rfl
    go_wp2_with (refine wpList_store_row rfl 44 (.tmp 4) (.tmp 14) rfl w.heap.size #[.bool false, .int .i64 0, .bool false, .int .u8 0, .int .u8 0, .int .u8 0, .int .u8 0, .string { data := #[] }] rfl rfl 44 #[.bool false, .int .i64 0, .bool false, .int .u8 0, .int .u8 0, .int .u8 0, .int .u8 0, .string { data := #[] }] HZ1.out HI rfl (fr_all _ _ _ _ _ _ _ _) ?_)
    refine bodyPost_ret (ret_fr rfl _ _ w.heap.size 44 _ (0, 0) rfl (setRow_heap _ _ _ _ _ _ HZ1.out) rfl) rfl ?_
    rw [HQ.out]
    exact ⟨rfl, ⟨below_setRow HB1.out (Nat.le_refl _) _⟩⟩
  obtain ⟨x, xs, rfl⟩ : ∃ x xs, bs = x :: xs := by
    cases bs with
    | nil => exact absurd hbl.symm h0
    | cons x xs => exact ⟨x, xs, rfl⟩
  have hL1 : L - 1 = xs.length := by rw [← hbl]; simp
  have hcells : ∀ i, i < L → w.cell? ⟨sb, so + i, none⟩ = some (.int .u8 (((x :: xs).getD i 0 : Nat) : Int)) := by
    obtain ⟨a, c', sb', so', he, h1, h2, h3⟩ := hv
    injection he with ea eb ec
    rw [h2 (by simp)] at ea
    injection ea with ea
    injection ea with e1 e2
    subst e1 e2
    exact fun i hi => h3 i (by omega)
  have hc0 : w.cell? ⟨sb, so, none⟩ = some (.int .u8 (x : Int)) := hcells 0 (by omega)
  have hsb : sb < w.heap.size := block_lt_of_cell hc0
  have hx256 : x < 256 := hsm x (by simp)
  have hbo := bad_opn x hx256
  have hand := andNot_128 x hx256
  have handn := and_128 x hx256
  obtain ⟨o, ho⟩ : ∃ o, x % 128 = o := ⟨_, rfl⟩
  have ho128 : o < 128 := by omega
  rw [ho] at hand hbo
  obtain ⟨fin, hfin⟩ : ∃ fin, decide (128 ≤ x) = fin := ⟨_, rfl⟩
  have hne0 : ((((if 128 ≤ x then 128 else 0 : Nat) : Int)) != 0) = fin := by
    rw [← hfin]
    by_cases h : 128 ≤ x
    · rw [if_pos h, decide_eq_true h]; rfl
    · rw [if_neg h, decide_eq_false h]; rfl
  obtain ⟨ax, hax⟩ : ∃ ax : Nat, (if 128 ≤ x then 128 else 0 : Nat) = ax := ⟨_, rfl⟩
  rw [hax] at handn hne0
  rw [hfin] at hbo
  have hwo : IntKind.i64.wrap (o : Int) = (o : Int) := by rw [IntKind.wrap_i64]; omega
  obtain ⟨ob, hob⟩ : ∃ ob, opn fin (o : Int) = ob := ⟨_, rfl⟩
  have C23 : ∀ W, Calls Tryd.prog 44 #[.bool fin, .int .i64 (o : Int)] W fun e w' => e = .returned (.bool ob) ∧ W = w' := fun W => by rw [← hob]; exact opens_any fin (o : Int) W
  have hLq : ((L : Int) == 0) = false := by simp; omega
  have h0L : 0 < L := by omega
  go_enter Tryd.func54, Tryd.ntmps54
  go_upto_region 3 with fail
  obtain ⟨Rw, hR⟩ : ∃ Rw, w1.drew = Rw := ⟨_, rfl⟩
  have HS0 : Below w.heap.size w Rw := by rw [← hR]; exact HB1.out.drew
  have HZR : Rw.heap[w.heap.size]? = some (.cells #[.bool false, .int .i64 0, .bool false, .int .u8 0, .int .u8 0, .int .u8 0, .int .u8 0, .string { data := #[] }] 44 (0, 0)) := by rw [← hR]; exact HZ1.out
  refine wp_region_noPanic ?_
  refine wp_region_held (S := fun W => Below w.heap.size w W) (by kernel_rfl) ?_
  change wpAnyH _ _ _ _ _ _ _ _ w1.drew
  rw [hR]
  clear hR HB1 HZ1
  refine heldTake (d := some 15) (op := .move (Operand.tmp 0)) (g := none) 0 ?v0 rfl (by kernel_rfl) (by kernel_rfl) (by kernel_rfl) (by kernel_rfl) ?y0 HS0 ?_
  case y0 => intro o' ho W hS; simp only [execOp, ho]; go_simp; try rfl
  simp only [Act.put, List.setIfInBounds_toArray, List.set_cons_zero, List.set_cons_succ]
  refine heldTake (d := some 16) (op := .indexAddr 36 (Operand.tmp 15) (Operand.const (Value.int IntKind.i64 0))) (g := none) 1 ?v1 rfl (by kernel_rfl) (by kernel_rfl) (by kernel_rfl) (by kernel_rfl) ?y1 HS0 ?_
  case y1 => intro o' ho W hS; simp only [execOp, ho]; go_simp; try rfl
  simp only [Act.put, List.setIfInBounds_toArray, List.set_cons_zero, List.set_cons_succ]
  refine heldTake (d := some 17) (op := .load 5 (Operand.tmp 16)) (g := none) 2 ?v2 rfl (by kernel_rfl) (by kernel_rfl) (by kernel_rfl) (by kernel_rfl) ?y2 HS0 ?_
  case y2 => intro o' ho W hS; have hcx : W.cell? ⟨sb, so, none⟩ = some (.int .u8 (x : Int)) := (hS.cell hsb).trans hc0; simp only [execOp, ho]; go_simp; try rfl
  simp only [Act.put, List.setIfInBounds_toArray, List.set_cons_zero, List.set_cons_succ]
  refine heldTake (d := some 18) (op := .binOp BinOp.and 5 (Operand.tmp 17) (Operand.const (Value.int IntKind.u8 128)) 5) (g := none) 3 ?v3 rfl (by kernel_rfl) (by kernel_rfl) (by kernel_rfl) (by kernel_rfl) ?y3 HS0 ?_
  case y3 => intro o' ho W hS; simp only [execOp, ho]; go_simp; try rfl
  simp only [Act.put, List.setIfInBounds_toArray, List.set_cons_zero, List.set_cons_succ]
  refine heldTake (d := some 19) (op := .binOp BinOp.neq 5 (Operand.tmp 18) (Operand.const (Value.int IntKind.u8 0)) 5) (g := none) 4 ?v4 rfl (by kernel_rfl) (by kernel_rfl) (by kernel_rfl) (by kernel_rfl) ?y4 HS0 ?_
  case y4 => intro o' ho W hS; simp only [execOp, ho]; go_simp; try rfl
  simp only [Act.put, List.setIfInBounds_toArray, List.set_cons_zero, List.set_cons_succ]
  refine heldTake (d := some 20) (op := .move (Operand.tmp 0)) (g := none) 5 ?v5 rfl (by kernel_rfl) (by kernel_rfl) (by kernel_rfl) (by kernel_rfl) ?y5 HS0 ?_
  case y5 => intro o' ho W hS; simp only [execOp, ho]; go_simp; try rfl
  simp only [Act.put, List.setIfInBounds_toArray, List.set_cons_zero, List.set_cons_succ]
  refine heldTake (d := some 21) (op := .indexAddr 36 (Operand.tmp 20) (Operand.const (Value.int IntKind.i64 0))) (g := none) 6 ?v6 rfl (by kernel_rfl) (by kernel_rfl) (by kernel_rfl) (by kernel_rfl) ?y6 HS0 ?_
  case y6 => intro o' ho W hS; simp only [execOp, ho]; go_simp; try rfl
  simp only [Act.put, List.setIfInBounds_toArray, List.set_cons_zero, List.set_cons_succ]
  refine heldTake (d := some 22) (op := .load 5 (Operand.tmp 21)) (g := none) 7 ?v7 rfl (by kernel_rfl) (by kernel_rfl) (by kernel_rfl) (by kernel_rfl) ?y7 HS0 ?_
  case y7 => intro o' ho W hS; have hcx : W.cell? ⟨sb, so, none⟩ = some (.int .u8 (x : Int)) := (hS.cell hsb).trans hc0; simp only [execOp, ho]; go_simp; try rfl
  simp only [Act.put, List.setIfInBounds_toArray, List.set_cons_zero, List.set_cons_succ]
  refine heldTake (d := some 23) (op := .binOp BinOp.andNot 5 (Operand.tmp 22) (Operand.const (Value.int IntKind.u8 128)) 5) (g := none) 8 ?v8 rfl (by kernel_rfl) (by kernel_rfl) (by kernel_rfl) (by kernel_rfl) ?y8 HS0 ?_
  case y8 => intro o' ho W hS; simp only [execOp, ho]; go_simp; try rfl
  simp only [Act.put, List.setIfInBounds_toArray, List.set_cons_zero, List.set_cons_succ]
  refine heldTake (d := some 24) (op := .convert 5 3 (Operand.tmp 23)) (g := none) 9 ?v9 rfl (by kernel_rfl) (by kernel_rfl) (by kernel_rfl) (by kernel_rfl) ?y9 HS0 ?_
  case y9 => intro o' ho W hS; simp only [execOp, ho]; go_simp; try rfl
  simp only [Act.put, List.setIfInBounds_toArray, List.set_cons_zero, List.set_cons_succ]
  refine heldTake (d := some 25) (op := .build 44 #[(0, Operand.tmp 19), (1, Operand.tmp 24)]) (g := none) 10 ?v10 rfl (by kernel_rfl) (by kernel_rfl) (by kernel_rfl) (by kernel_rfl) ?y10 HS0 ?_
  case y10 => intro o' ho W hS; simp only [execOp, ho]; go_simp; try rfl
  simp only [Act.put, List.setIfInBounds_toArray, List.set_cons_zero, List.set_cons_succ]
  obtain ⟨w2, hw2⟩ : ∃ W, Rw.alloc (.cells #[.bool false, .int .i64 0, .bool false, .int .u8 0, .int .u8 0, .int .u8 0, .int .u8 0, .string { data := #[] }] 44) = W := ⟨_, rfl⟩
  obtain ⟨fb, hfb⟩ : ∃ fb, Rw.heap.size = fb := ⟨_, rfl⟩
  have HB2 : Sl (Below w.heap.size w w2) := ⟨by rw [← hw2]; exact HS0.alloc HS0.size _⟩
  have HF2 : w2.heap[fb]? = some (.cells #[.bool false, .int .i64 0, .bool false, .int .u8 0, .int .u8 0, .int .u8 0, .int .u8 0, .string { data := #[] }] 44 (0, 0)) := by rw [← hw2, ← hfb]; exact bx_new _ _
  have hne : w.heap.size < fb := by rw [← hfb]; exact (Array.getElem?_eq_some_iff.1 HZR).1
  have HZ2 : w2.heap[w.heap.size]? = some (.cells #[.bool false, .int .i64 0, .bool false, .int .u8 0, .int .u8 0, .int .u8 0, .int .u8 0, .string { data := #[] }] 44 (0, 0)) := by rw [← hw2, alloc_old _ _ _ (by omega)]; exact HZR
  refine heldRunT (d := some 7) (op := .alloc 44) (g := none) (t := 0) 11 (.pointer (some ⟨fb, 0, none⟩)) w2 rfl (by kernel_rfl) (by kernel_rfl) ?y11 HB2.out ?_
  case y11 => intro o' ho _; simp only [execOp, ho]; go_simp; first | done | (refine ⟨?_, ?_⟩ <;> first | rw [hfb] | rw [hw2] | rfl) | (rw [hfb]; done) | (rw [hw2, hfb]; done) | rfl
  simp only [Act.put, List.setIfInBounds_toArray, List.set_cons_zero, List.set_cons_succ]
  obtain ⟨w3, hw3⟩ : ∃ W, w2.setRow fb #[.bool fin, .int .i64 (o : Int), .bool false, .int .u8 0, .int .u8 0, .int .u8 0, .int .u8 0, .string { data := #[] }] = W := ⟨_, rfl⟩
  have HB3 : Sl (Below w.heap.size w w3) := ⟨by rw [← hw3]; exact below_setRow HB2.out (by omega) _⟩
  have HF3 : Sl (w3.heap[fb]? = some (.cells #[.bool fin, .int .i64 (o : Int), .bool false, .int .u8 0, .int .u8 0, .int .u8 0, .int .u8 0, .string { data := #[] }] 44 (0, 0))) := ⟨by rw [← hw3]; exact setRow_heap _ _ _ _ _ _ HF2⟩
  have HZ3 : Sl (w3.heap[w.heap.size]? = some (.cells #[.bool false, .int .i64 0, .bool false, .int .u8 0, .int .u8 0, .int .u8 0, .int .u8 0, .string { data := #[] }] 44 (0, 0))) := ⟨by rw [← hw3, setRow_other _ _ _ _ (by omega)]; exact HZ2⟩
  have HFB := Sl.mk hne
  refine heldStore (d := none) (op := .store 44 (Operand.tmp 7) (Operand.tmp 25)) (g := none) (t := 0) 12 w3 rfl (by kernel_rfl) (by kernel_rfl) ?y12 HB3.out ?_
  case y12 => intro o' ho ht; rw [← hw3]; exact store8 ho (by rfl) (by rfl) HF2 ⟨rfl, rfl⟩ (fr_all _ _ _ _ _ _ _ _)
  simp only [Act.put]
  refine wpAnyH_done (by kernel_rfl) ?_ _
  refine NoPanic.normal ?_
  clear HS0 HZR hw2 hfb HB2 HF2 HZ2 hw3
  obtain ⟨e0, e1, e2, e3, e4, e5, e6, e7⟩ := bx8 HF3.out
  go_wp2_with fail
  refine (C23 _).mono ?_
  rintro e w' ⟨rfl, rfl⟩
  cases ob with
  | false =>
    have hbad : bad x = true := by rw [hbo.1, hob]; rfl
    have HQ : Sl (getF (x :: xs) most = (Fr0, 0, 91)) := ⟨getF_bad most hbad⟩
    have HI := fr_info (cs := #[.bool false, .int .i64 0, .bool false, .int .u8 0, .int .u8 0, .int .u8 0, .int .u8 0, .string { data := #[] }]) rfl
    go_wp2_with (refine wpList_store_row rfl 44 (.tmp 4) (.tmp 32) rfl w.heap.size #[.bool false, .int .i64 0, .bool false, .int .u8 0, .int .u8 0, .int .u8 0, .int .u8 0, .string { data := #[] }] rfl rfl 44 #[.bool false, .int .i64 0, .bool false, .int .u8 0, .int .u8 0, .int .u8 0, .int .u8 0, .string { data := #[] }] HZ3.out HI rfl (fr_all _ _ _ _ _ _ _ _) ?_)
    refine bodyPost_ret (ret_fr rfl _ _ w.heap.size 44 _ (0, 0) rfl (setRow_heap _ _ _ _ _ _ HZ3.out) rfl) rfl ?_
    rw [HQ.out]
    exact ⟨rfl, ⟨below_setRow HB3.out (Nat.le_refl _) _⟩⟩
  | true =>
    have hbad : bad x = false := by rw [hbo.1, hob]; rfl
    obtain ⟨l, hl⟩ : ∃ l, xs.length = l := ⟨_, rfl⟩
    rw [hl] at hL1
    obtain ⟨⟨n, k, e⟩, hnke⟩ : ∃ r, lenF o xs = r := ⟨_, rfl⟩
    have hgl := getF_len (xs := xs) most hx256 hbad
    rw [ho, hnke] at hgl
    have hle := lenF_le o xs
    rw [hnke] at hle
    obtain ⟨of1, hof1⟩ : ∃ of1, (if cap = 1 then so else so + 1) = of1 := ⟨_, rfl⟩
    have C24 : ∀ W, Below w.heap.size w W → Calls Tryd.prog 62 #[.int .i64 (o : Int), .slice (some ⟨sb, of1, none⟩) l (cap - 1)] W fun e' w' => e' = .returned (.tuple #[.int .u64 (n : Int), .int .i64 (k : Int), .int .i64 (e : Int)]) ∧ Sl (Below W.heap.size W w') := fun W hW => by
      have hs := src_sub (HV.out.below (Nat.le_refl _) hW) 1 l (cap - 1) of1 (fun _ => by rw [← hof1, if_neg (by omega)]) (by omega) (by omega) hbl
      rw [show (((x :: xs).drop 1).take l) = xs by rw [List.drop_succ_cons, List.drop_zero]; exact List.take_of_length_le (by omega)] at hs
      have := length_any o _ xs W (HG.out.below hW HG.out.size) hs (fun y hy => hsm y (List.mem_cons_of_mem _ hy)) (by omega)
      rw [hnke] at this
      exact this
    go_upto_region 6 with fail
    obtain ⟨Rw, hR⟩ : ∃ Rw, w3.drew = Rw := ⟨_, rfl⟩
    have HS0 : Below w.heap.size w Rw ∧ Rw.heap[fb]? = some (.cells #[.bool fin, .int .i64 (o : Int), .bool false, .int .u8 0, .int .u8 0, .int .u8 0, .int .u8 0, .string { data := #[] }] 44 (0, 0)) := ⟨by rw [← hR]; exact HB3.out.drew, by rw [← hR]; exact HF3.out⟩
    have HZR : Sl (Rw.heap[w.heap.size]? = some (.cells #[.bool false, .int .i64 0, .bool false, .int .u8 0, .int .u8 0, .int .u8 0, .int .u8 0, .string { data := #[] }] 44 (0, 0))) := ⟨by rw [← hR]; exact HZ3.out⟩
    refine wp_region_noPanic ?_
    refine wp_region_held (S := fun W => Below w.heap.size w W ∧ W.heap[fb]? = some (.cells #[.bool fin, .int .i64 (o : Int), .bool false, .int .u8 0, .int .u8 0, .int .u8 0, .int .u8 0, .string { data := #[] }] 44 (0, 0))) (by kernel_rfl) ?_
    change wpAnyH _ _ _ _ _ _ _ _ w3.drew
    rw [hR]
    clear hR HB3 HF3 HZ3
    refine heldTake (d := some 34) (op := .fieldAddr 44 (Operand.tmp 7) 1) (g := none) 0 ?v0z rfl (by kernel_rfl) (by kernel_rfl) (by kernel_rfl) (by kernel_rfl) ?y0z HS0 ?_
    case y0z => intro o' ho W hS; simp only [execOp, ho]; go_simp; try rfl
    simp only [Act.put, List.setIfInBounds_toArray, List.set_cons_zero, List.set_cons_succ]
    refine heldTake (d := some 35) (op := .load 3 (Operand.tmp 34)) (g := none) 1 ?v1z rfl (by kernel_rfl) (by kernel_rfl) (by kernel_rfl) (by kernel_rfl) ?y1z HS0 ?_
    case y1z => intro o' ho W hS; have hco := (bx8 hS.2).2.1; simp only [execOp, ho]; go_simp; try rfl
    simp only [Act.put, List.setIfInBounds_toArray, List.set_cons_zero, List.set_cons_succ]
    refine heldTake (d := some 36) (op := .move (Operand.tmp 0)) (g := none) 2 ?v2z rfl (by kernel_rfl) (by kernel_rfl) (by kernel_rfl) (by kernel_rfl) ?y2z HS0 ?_
    case y2z => intro o' ho W hS; simp only [execOp, ho]; go_simp; try rfl
    simp only [Act.put, List.setIfInBounds_toArray, List.set_cons_zero, List.set_cons_succ]
    refine heldTake (d := some 37) (op := .slice 36 (Operand.tmp 36) (some (Operand.const (Value.int IntKind.i64 1))) none none) (g := none) 3 (.slice (some ⟨sb, of1, none⟩) l (cap - 1)) rfl (by kernel_rfl) (by kernel_rfl) (by kernel_rfl) (by kernel_rfl) ?y3z HS0 ?_
    case y3z => intro o' ho W hS; exact slice_tail of1 hof1 ho (by rfl) hL1 ⟨h0L, hLc⟩ (by rfl)
    simp only [Act.put, List.setIfInBounds_toArray, List.set_cons_zero, List.set_cons_succ]
    refine heldCall (d := some 38) (op := .call { callee := Callee.value (Operand.func 62), args := #[Operand.tmp 35, Operand.tmp 37], argTypes := #[3, 36] }) (g := none) 4 62 #[.int .i64 (o : Int), .slice (some ⟨sb, of1, none⟩) l (cap - 1)] rfl (by kernel_rfl) (by kernel_rfl) ?y4z ?_
    case y4z => intro o' ho; simp only [execOp, ho]; go_simp; try rfl
    refine (C24 Rw HS0.1).mono ?_
    rintro e X ⟨rfl, HXX⟩
    have HS1 : Below w.heap.size w X ∧ X.heap[fb]? = some (.cells #[.bool fin, .int .i64 (o : Int), .bool false, .int .u8 0, .int .u8 0, .int .u8 0, .int .u8 0, .string { data := #[] }] 44 (0, 0)) := ⟨HS0.1.trans (HXX.out.mono HS0.1.size), below_key HS0.2 HXX.out⟩
    have HZX : Sl (X.heap[w.heap.size]? = some (.cells #[.bool false, .int .i64 0, .bool false, .int .u8 0, .int .u8 0, .int .u8 0, .int .u8 0, .string { data := #[] }] 44 (0, 0))) := ⟨below_key HZR.out HXX.out⟩
    refine ⟨_, rfl, HS1, ?_⟩
    simp only [Act.put, List.setIfInBounds_toArray, List.set_cons_zero, List.set_cons_succ]
    refine heldTake (d := some 33) (op := .move (Operand.tmp 38)) (g := none) 5 ?v5z rfl (by kernel_rfl) (by kernel_rfl) (by kernel_rfl) (by kernel_rfl) ?y5z HS1 ?_
    case y5z => intro o' ho W hS; simp only [execOp, ho]; go_simp; try rfl
    simp only [Act.put, List.setIfInBounds_toArray, List.set_cons_zero, List.set_cons_succ]
    refine heldTake (d := some 39) (op := .extract (Operand.tmp 33) 0) (g := none) 6 ?v6z rfl (by kernel_rfl) (by kernel_rfl) (by kernel_rfl) (by kernel_rfl) ?y6z HS1 ?_
    case y6z => intro o' ho W hS; simp only [execOp, ho]; go_simp; try rfl
    simp only [Act.put, List.setIfInBounds_toArray, List.set_cons_zero, List.set_cons_succ]
    refine heldTake (d := some 40) (op := .extract (Operand.tmp 33) 1) (g := none) 7 ?v7z rfl (by kernel_rfl) (by kernel_rfl) (by kernel_rfl) (by kernel_rfl) ?y7z HS1 ?_
    case y7z => intro o' ho W hS; simp only [execOp, ho]; go_simp; try rfl
    simp only [Act.put, List.setIfInBounds_toArray, List.set_cons_zero, List.set_cons_succ]
    refine heldTake (d := some 41) (op := .extract (Operand.tmp 33) 2) (g := none) 8 ?v8z rfl (by kernel_rfl) (by kernel_rfl) (by kernel_rfl) (by kernel_rfl) ?y8z HS1 ?_
    case y8z => intro o' ho W hS; simp only [execOp, ho]; go_simp; try rfl
    simp only [Act.put, List.setIfInBounds_toArray, List.set_cons_zero, List.set_cons_succ]
    refine heldTake (d := some 8) (op := .assign (Operand.tmp 39)) (g := none) 9 ?v9z rfl (by kernel_rfl) (by kernel_rfl) (by kernel_rfl) (by kernel_rfl) ?y9z HS1 ?_
    case y9z => intro o' ho W hS; simp only [execOp, ho]; go_simp; try rfl
    simp only [Act.put, List.setIfInBounds_toArray, List.set_cons_zero, List.set_cons_succ]
    refine heldTake (d := some 9) (op := .assign (Operand.tmp 40)) (g := none) 10 ?v10z rfl (by kernel_rfl) (by kernel_rfl) (by kernel_rfl) (by kernel_rfl) ?y10z HS1 ?_
    case y10z => intro o' ho W hS; simp only [execOp, ho]; go_simp; try rfl
    simp only [Act.put, List.setIfInBounds_toArray, List.set_cons_zero, List.set_cons_succ]
    refine heldTake (d := some 10) (op := .assign (Operand.tmp 41)) (g := none) 11 ?v11z rfl (by kernel_rfl) (by kernel_rfl) (by kernel_rfl) (by kernel_rfl) ?y11z HS1 ?_
    case y11z => intro o' ho W hS; simp only [execOp, ho]; go_simp; try rfl
    simp only [Act.put, List.setIfInBounds_toArray, List.set_cons_zero, List.set_cons_succ]
    refine wpAnyH_done (by kernel_rfl) ?_ _
    refine NoPanic.normal ?_
    have HBX := Sl.mk HS1.1
    have HFX := Sl.mk HS1.2
    clear HS0 HZR HS1 HXX
    by_cases he0 : e = 0
    · subst he0
      have hxs : 0 < l := by
        have := hle.2
        cases xs with
        | nil => exact absurd rfl (this rfl)
        | cons y ys => rw [← hl]; simp
      obtain ⟨y, hy⟩ : ∃ y, xs.getD 0 0 = y := ⟨_, rfl⟩
      have hy256 : y < 256 := by rw [← hy]; exact Small.getD (fun z hz => hsm z (List.mem_cons_of_mem _ hz)) (by omega) 0
      have hc1 : w.cell? ⟨sb, so + 1, none⟩ = some (.int .u8 (y : Int)) := by rw [hcells 1 (by omega), ← hy]; rfl
      have hx16 : x % 16 = o := by have := (hbo.2 hbad).2; omega
      have HGE : Sl (getF (x :: xs) most = if most < (n : Int) then (Fr0, 0, 92) else fillF fin (o : Int) (decide (128 ≤ y)) (1 + k) n ((x :: xs).drop (1 + k))) := ⟨by
        rw [hgl, if_pos rfl, rest_fill, hx16, hfin, hy, show (x :: xs).drop (1 + k) = xs.drop k by rw [Nat.add_comm]; rfl]⟩
      have hkl : k ≤ l := by have := hle.1; omega
      clear hgl hle hnke hcells hc0 hand handn hbo hob C23 C24 hne0 hax hbad hy hx16 hv hw1 hg e0 e1 e2 e3 e4 e5 e6 e7 hl hof1 hfin ho hwo
      by_cases hneg : most < 0
      · have hq1 : (most < 0) = True := eq_true hneg
        have HQ : Sl (getF (x :: xs) most = (Fr0, 0, 92)) := ⟨by rw [HGE.out]; exact if_pos (by omega)⟩
        clear hneg
        have HI := fr_info (cs := #[.bool false, .int .i64 0, .bool false, .int .u8 0, .int .u8 0, .int .u8 0, .int .u8 0, .string { data := #[] }]) rfl
        go_wp2_with (refine wpList_store_row rfl 44 (.tmp 4) (.tmp 54) rfl w.heap.size #[.bool false, .int .i64 0, .bool false, .int .u8 0, .int .u8 0, .int .u8 0, .int .u8 0, .string { data := #[] }] rfl rfl 44 #[.bool false, .int .i64 0, .bool false, .int .u8 0, .int .u8 0, .int .u8 0, .int .u8 0, .string { data := #[] }] HZX.out HI rfl (fr_all _ _ _ _ _ _ _ _) ?_)
        refine bodyPost_ret (ret_fr rfl _ _ w.heap.size 44 _ (0, 0) rfl (setRow_heap _ _ _ _ _ _ HZX.out) rfl) rfl ?_
        rw [HQ.out]
        exact ⟨rfl, ⟨below_setRow HBX.out (Nat.le_refl _) _⟩⟩
      · have hq1 : (most < 0) = False := eq_false hneg
        obtain ⟨mo, rfl⟩ := Int.eq_ofNat_of_zero_le (show 0 ≤ most by omega)
        have hmw : IntKind.u64.wrap (mo : Int) = (mo : Int) := by rw [IntKind.wrap_u64]; omega
        by_cases hov : mo < n
        · have hq2 : ((n : Int) > (mo : Int)) = True := eq_true (by omega)
          have HQ : Sl (getF (x :: xs) (mo : Int) = (Fr0, 0, 92)) := ⟨by rw [HGE.out]; exact if_pos (by omega)⟩
          clear hneg
          have HI := fr_info (cs := #[.bool false, .int .i64 0, .bool false, .int .u8 0, .int .u8 0, .int .u8 0, .int .u8 0, .string { data := #[] }]) rfl
          go_wp2_with (refine wpList_store_row rfl 44 (.tmp 4) (.tmp 54) rfl w.heap.size #[.bool false, .int .i64 0, .bool false, .int .u8 0, .int .u8 0, .int .u8 0, .int .u8 0, .string { data := #[] }] rfl rfl 44 #[.bool false, .int .i64 0, .bool false, .int .u8 0, .int .u8 0, .int .u8 0, .int .u8 0, .string { data := #[] }] HZX.out HI rfl (fr_all _ _ _ _ _ _ _ _) ?_)
          refine bodyPost_ret (ret_fr rfl _ _ w.heap.size 44 _ (0, 0) rfl (setRow_heap _ _ _ _ _ _ HZX.out) rfl) rfl ?_
          rw [HQ.out]
          exact ⟨rfl, ⟨below_setRow HBX.out (Nat.le_refl _) _⟩⟩
        · have hq2 : ((n : Int) > (mo : Int)) = False := eq_false (by omega)
          have HQ : Sl (getF (x :: xs) (mo : Int) = fillF fin (o : Int) (decide (128 ≤ y)) (1 + k) n ((x :: xs).drop (1 + k))) := ⟨by rw [HGE.out, if_neg (by omega)]⟩
          have hk1 : 1 + k ≤ L := by omega
          have hn64 : n ≤ 9223372036854775807 := by omega
          have cy : X.cell? ⟨sb, so + 1, none⟩ = some (.int .u8 (y : Int)) := (HBX.out.cell hsb).trans hc1
          obtain ⟨f0, f1, f2, f3, f4, f5, f6, f7⟩ := bx8 HFX.out
          have z2 : X.frozen? ⟨fb, 2, none⟩ = false := frozen_of_row _ _ _ _ _ HFX.out
          have hwk : IntKind.i64.wrap (1 + (k : Int)) = ((1 + k : Nat) : Int) := by rw [IntKind.wrap_i64]; omega
          obtain ⟨pk, hpk⟩ : ∃ pk, 1 + k = pk := ⟨_, rfl⟩
          rw [hpk] at hwk
          have h1L : 1 < L := by omega
          obtain ⟨mk, hmk⟩ : ∃ mk, decide (128 ≤ y) = mk := ⟨_, rfl⟩
          obtain ⟨w4, hw4⟩ : ∃ W, X.setCell ⟨fb, 2, none⟩ (.bool mk) = W := ⟨_, rfl⟩
          have HB4 : Sl (Below w.heap.size w w4) := ⟨by rw [← hw4]; exact HBX.out.setCell (by show w.heap.size ≤ fb; have := HFB.out; omega) _⟩
          have HF4 : Sl (w4.heap[fb]? = some (.cells #[.bool fin, .int .i64 (o : Int), .bool mk, .int .u8 0, .int .u8 0, .int .u8 0, .int .u8 0, .string { data := #[] }] 44 (0, 0))) := ⟨by rw [← hw4, heap_setCell_same _ _ _ _ _ _ HFX.out]; rfl⟩
          have HZ4 : Sl (w4.heap[w.heap.size]? = some (.cells #[.bool false, .int .i64 0, .bool false, .int .u8 0, .int .u8 0, .int .u8 0, .int .u8 0, .string { data := #[] }] 44 (0, 0))) := ⟨by rw [← hw4, heap_setCell_other _ _ _ _ (by show w.heap.size ≠ fb; have := HFB.out; omega)]; exact HZX.out⟩
          obtain ⟨g0, g1, g2, g3, g4, g5, g6, g7⟩ := bx8 HF4.out
          rw [hmk, hpk] at HQ
          have hand := and_128 y hy256
          have C25 := fun W hW => filled_any fin (o : Int) mk sb so L cap pk n (x :: xs) W hW hbl hsm hm (by omega) hn64
          clear hneg hov hk1 hn64 HGE
          cases mk with
          | true =>
            have hy128 : 128 ≤ y := of_decide_eq_true hmk
            rw [if_pos hy128] at hand
            clear hy128 hmk
            rw [show (((128 : Nat) : Int)) = 128 from rfl] at hand
            go_wp2_with fail
            refine (C25 _ (HV.out.below (Nat.le_refl _) HB4.out)).mono ?_
            rintro e w5 ⟨rfl, HX5⟩
            have HB5 : Sl (Below w.heap.size w w5) := ⟨HB4.out.trans (HX5.out.mono HB4.out.size)⟩
            have HZ5 : Sl (w5.heap[w.heap.size]? = some (.cells #[.bool false, .int .i64 0, .bool false, .int .u8 0, .int .u8 0, .int .u8 0, .int .u8 0, .string { data := #[] }] 44 (0, 0))) := ⟨below_key HZ4.out HX5.out⟩
            clear HX5
            obtain ⟨r, hr⟩ : ∃ r, fillF fin (o : Int) true pk n ((x :: xs).drop pk) = r := ⟨_, rfl⟩
            rw [hr] at HQ ⊢
            clear hr
            obtain ⟨⟨rf, ro, rm, rk, rd⟩, rn, re⟩ := r
            have HI := fr_info (cs := #[.bool rf, .int .i64 ro, .bool rm, .int .u8 ((rk.getD 0 0 : Nat) : Int), .int .u8 ((rk.getD 1 0 : Nat) : Int), .int .u8 ((rk.getD 2 0 : Nat) : Int), .int .u8 ((rk.getD 3 0 : Nat) : Int), .string (strOf rd)]) rfl
            unfold resF valF
            go_wp2_with (refine wpList_store_row rfl 44 (.tmp 4) (.tmp 67) rfl w.heap.size #[.bool rf, .int .i64 ro, .bool rm, .int .u8 ((rk.getD 0 0 : Nat) : Int), .int .u8 ((rk.getD 1 0 : Nat) : Int), .int .u8 ((rk.getD 2 0 : Nat) : Int), .int .u8 ((rk.getD 3 0 : Nat) : Int), .string (strOf rd)] rfl rfl 44 #[.bool false, .int .i64 0, .bool false, .int .u8 0, .int .u8 0, .int .u8 0, .int .u8 0, .string { data := #[] }] HZ5.out HI rfl (fr_all _ _ _ _ _ _ _ _) ?_)
            refine bodyPost_ret (ret_fr rfl _ _ w.heap.size 44 _ (0, 0) rfl (setRow_heap _ _ _ _ _ _ HZ5.out) rfl) rfl ?_
            rw [HQ.out]
            exact ⟨rfl, ⟨below_setRow HB5.out (Nat.le_refl _) _⟩⟩
          | false =>
            have hy128 : ¬ 128 ≤ y := of_decide_eq_false hmk
            rw [if_neg hy128] at hand
            clear hy128 hmk
            rw [show (((0 : Nat) : Int)) = 0 from rfl] at hand
            go_wp2_with fail
            refine (C25 _ (HV.out.below (Nat.le_refl _) HB4.out)).mono ?_
            rintro e w5 ⟨rfl, HX5⟩
            have HB5 : Sl (Below w.heap.size w w5) := ⟨HB4.out.trans (HX5.out.mono HB4.out.size)⟩
            have HZ5 : Sl (w5.heap[w.heap.size]? = some (.cells #[.bool false, .int .i64 0, .bool false, .int .u8 0, .int .u8 0, .int .u8 0, .int .u8 0, .string { data := #[] }] 44 (0, 0))) := ⟨below_key HZ4.out HX5.out⟩
            clear HX5
            obtain ⟨r, hr⟩ : ∃ r, fillF fin (o : Int) false pk n ((x :: xs).drop pk) = r := ⟨_, rfl⟩
            rw [hr] at HQ ⊢
            clear hr
            obtain ⟨⟨rf, ro, rm, rk, rd⟩, rn, re⟩ := r
            have HI := fr_info (cs := #[.bool rf, .int .i64 ro, .bool rm, .int .u8 ((rk.getD 0 0 : Nat) : Int), .int .u8 ((rk.getD 1 0 : Nat) : Int), .int .u8 ((rk.getD 2 0 : Nat) : Int), .int .u8 ((rk.getD 3 0 : Nat) : Int), .string (strOf rd)]) rfl
            unfold resF valF
            go_wp2_with (refine wpList_store_row rfl 44 (.tmp 4) (.tmp 67) rfl w.heap.size #[.bool rf, .int .i64 ro, .bool rm, .int .u8 ((rk.getD 0 0 : Nat) : Int), .int .u8 ((rk.getD 1 0 : Nat) : Int), .int .u8 ((rk.getD 2 0 : Nat) : Int), .int .u8 ((rk.getD 3 0 : Nat) : Int), .string (strOf rd)] rfl rfl 44 #[.bool false, .int .i64 0, .bool false, .int .u8 0, .int .u8 0, .int .u8 0, .int .u8 0, .string { data := #[] }] HZ5.out HI rfl (fr_all _ _ _ _ _ _ _ _) ?_)
            refine bodyPost_ret (ret_fr rfl _ _ w.heap.size 44 _ (0, 0) rfl (setRow_heap _ _ _ _ _ _ HZ5.out) rfl) rfl ?_
            rw [HQ.out]
            exact ⟨rfl, ⟨below_setRow HB5.out (Nat.le_refl _) _⟩⟩
    · have he0' : ((e : Int) != 0) = true := by simp; omega
      have HQ : Sl (getF (x :: xs) most = (Fr0, 0, e)) := ⟨by rw [hgl]; exact if_neg he0⟩
      clear hgl hle hnke hcells hc0 hand handn hbo hob C23 C24 hne0 hax hbad hv hw1 hg e0 e1 e2 e3 e4 e5 e6 e7 hl hof1 hfin ho hwo he0
      have HI := fr_info (cs := #[.bool false, .int .i64 0, .bool false, .int .u8 0, .int .u8 0, .int .u8 0, .int .u8 0, .string { data := #[] }]) rfl
      go_wp2_with (refine wpList_store_row rfl 44 (.tmp 4) (.tmp 44) rfl w.heap.size #[.bool false, .int .i64 0, .bool false, .int .u8 0, .int .u8 0, .int .u8 0, .int .u8 0, .string { data := #[] }] rfl rfl 44 #[.bool false, .int .i64 0, .bool false, .int .u8 0, .int .u8 0, .int .u8 0, .int .u8 0, .string { data := #[] }] HZX.out HI rfl (fr_all _ _ _ _ _ _ _ _) ?_)
      refine bodyPost_ret (ret_fr rfl _ _ w.heap.size 44 _ (0, 0) rfl (setRow_heap _ _ _ _ _ _ HZX.out) rfl) rfl ?_
      rw [HQ.out]
      exact ⟨rfl, ⟨below_setRow HBX.out (Nat.le_refl _) _⟩⟩
end Go.Proofs.YtimndpmbgfoofaaDoor.Fra
/- frame: the contracts in the form in which they are used; awake. -/
set_option maxRecDepth 100000
namespace Go.Proofs.YtimndpmbgfoofaaDoor.Fra
open Go.RowKit MaskPlain FramePlain Mas

theorem putf_no (fin : Bool) (op : Int) (m : Bool) (a b c d : Nat) (s : ByteArray) (k : Nat) (w : World) (hk : Small 256 [a, b, c, d]) (hc : chk (⟨fin, op, m, [a, b, c, d], bytes s⟩ : Fr) = k) (h0 : k ≠ 0) :
    Calls Tryd.prog 34 #[(.agg #[.bool fin, .int .i64 op, .bool m, .int .u8 ((a : Nat) : Int), .int .u8 ((b : Nat) : Int), .int .u8 ((c : Nat) : Int), .int .u8 ((d : Nat) : Int), .string s])] w fun e w' => e = .returned (.tuple #[.slice none 0 0, .int .i64 (k : Int)]) ∧ Sl (Below w.heap.size w w') := by
  have C13 : ∀ W, Calls Tryd.prog 32 #[(.agg #[.bool fin, .int .i64 op, .bool m, .int .u8 ((a : Nat) : Int), .int .u8 ((b : Nat) : Int), .int .u8 ((c : Nat) : Int), .int .u8 ((d : Nat) : Int), .string s])] W fun e w' => e = .returned (.int .i64 (k : Int)) ∧ Sl (Below W.heap.size W w') := fun W => by have := check_any fin op m a b c d s W hk; rw [hc] at this; exact this
  have hne : ((k : Int) != 0) = true := by simp; omega
  obtain ⟨w1, hw1⟩ : ∃ w1, w.alloc (.cells #[.bool fin, .int .i64 op, .bool m, .int .u8 ((a : Nat) : Int), .int .u8 ((b : Nat) : Int), .int .u8 ((c : Nat) : Int), .int .u8 ((d : Nat) : Int), .string s] 44) = w1 := ⟨_, rfl⟩
  have HB1 : Sl (Below w.heap.size w w1) := ⟨by rw [← hw1]; exact (bx_below w _).out⟩
  have HY1 : Sl (w1.heap[w.heap.size]? = some (.cells #[.bool fin, .int .i64 op, .bool m, .int .u8 ((a : Nat) : Int), .int .u8 ((b : Nat) : Int), .int .u8 ((c : Nat) : Int), .int .u8 ((d : Nat) : Int), .string s] 44 (0, 0))) := ⟨by rw [← hw1]; exact bx_new _ _⟩
  obtain ⟨p0, p1, p2, p3, p4, p5, p6, p7⟩ := bx_cells HY1.out
  clear hc h0 hk
  go_enter Tryd.func34, Tryd.ntmps34
  go_wp2_with fail
  refine (C13 _).mono ?_
  rintro e w2 ⟨rfl, HX2⟩
  have HB2 : Sl (Below w.heap.size w w2) := ⟨HB1.out.trans (HX2.out.mono HB1.out.size)⟩
  clear HX2 HB1 HY1 hw1 C13 p0 p1 p2 p3 p4 p5 p6 p7
  go_wp2
  go_ret2
  exact ⟨rfl, HB2⟩
theorem getf_ex (sb so L cap : Nat) (bs : List Nat) (most : Int) (fin : Bool) (op : Int) (m : Bool) (a b c d : Nat) (dt : List Nat) (n k : Nat) (w : World) (hg : Globs w) (hv : SrcAt w (.slice (some ⟨sb, so, none⟩) L cap) bs) (hbl : bs.length = L) (hsm : Small 256 bs) (hm : L ≤ 100000) (hmo : most ≤ 9223372036854775807) (h : getF bs most = (⟨fin, op, m, [a, b, c, d], dt⟩, n, k)) :
    Calls Tryd.prog 54 #[.slice (some ⟨sb, so, none⟩) L cap, .int .i64 most] w fun e w' => e = .returned (.tuple #[.agg #[.bool fin, .int .i64 op, .bool m, .int .u8 ((a : Nat) : Int), .int .u8 ((b : Nat) : Int), .int .u8 ((c : Nat) : Int), .int .u8 ((d : Nat) : Int), .string (strOf dt)], .int .i64 (n : Int), .int .i64 (k : Int)]) ∧ Sl (Below w.heap.size w w') := by
  have := getf_any sb so L cap bs most w hg hv hbl hsm hm hmo
  rw [h] at this
  exact this
/-- Nothing got. -/
theorem getf_err (sb so L cap : Nat) (bs : List Nat) (most : Int) (k : Nat) (w : World) (hg : Globs w) (hv : SrcAt w (.slice (some ⟨sb, so, none⟩) L cap) bs) (hbl : bs.length = L) (hsm : Small 256 bs) (hm : L ≤ 100000) (hmo : most ≤ 9223372036854775807) (h : getF bs most = (Fr0, 0, k)) :
    Calls Tryd.prog 54 #[.slice (some ⟨sb, so, none⟩) L cap, .int .i64 most] w fun e w' => e = .returned (.tuple #[.agg #[.bool false, .int .i64 0, .bool false, .int .u8 0, .int .u8 0, .int .u8 0, .int .u8 0, .string { data := #[] }], .int .i64 0, .int .i64 (k : Int)]) ∧ Sl (Below w.heap.size w w') := by
  have := getf_any sb so L cap bs most w hg hv hbl hsm hm hmo
  rw [h] at this
  exact this
/-- A frame is laid down in a new cell. -/
theorem laid_fr {w W : World} (cs : Array Value) (h : Below w.heap.size w W) : Below w.heap.size w ((W.alloc (.cells #[.bool false, .int .i64 0, .bool false, .int .u8 0, .int .u8 0, .int .u8 0, .int .u8 0, .string { data := #[] }] 44)).setRow W.heap.size cs) ∧ ((W.alloc (.cells #[.bool false, .int .i64 0, .bool false, .int .u8 0, .int .u8 0, .int .u8 0, .int .u8 0, .string { data := #[] }] 44)).setRow W.heap.size cs).heap[W.heap.size]? = some (.cells cs 44 (0, 0)) :=
  ⟨below_setRow (h.alloc h.size _) h.size _, setRow_heap _ _ _ _ _ _ (bx_new W _)⟩
theorem laid_self (W : World) (cs : Array Value) : Below W.heap.size W ((W.alloc (.cells #[.bool false, .int .i64 0, .bool false, .int .u8 0, .int .u8 0, .int .u8 0, .int .u8 0, .string { data := #[] }] 44)).setRow W.heap.size cs) := (laid_fr cs (Below.refl _ _)).1

end Go.Proofs.YtimndpmbgfoofaaDoor.Fra
/- frame: FrameBack's walk. -/
set_option maxRecDepth 100000
namespace Go.Proofs.YtimndpmbgfoofaaDoor.Fra
open Go.RowKit MaskPlain FramePlain Mas

theorem eq_fr0 (W : World) : (Op.equalIn 10000 44 (.agg #[.bool false, .int .i64 0, .bool false, .int .u8 0, .int .u8 0, .int .u8 0, .int .u8 0, .string { data := #[] }]) (.agg #[.bool false, .int .i64 0, .bool false, .int .u8 0, .int .u8 0, .int .u8 0, .int .u8 0, .string { data := #[] }])).run Tryd.prog W = .ok true W :=
  (eq_fr false 0 false 0 0 0 0 { data := #[] } false 0 false 0 0 0 0 { data := #[] } (fun x hx => by simp at hx; omega) (fun x hx => by simp at hx; omega) W).trans (congrArg (fun b => Result.ok b W) (by kernel_rfl))
/-- What is got, part by part. -/
theorem got_parts {bs : List Nat} {most : Int} (hs : Small 256 bs) (hm : most ≤ 65536) : (∃ k, getF bs most = (Fr0, 0, k) ∧ k ≠ 0) ∨
    ∃ fin k m a b c d dt n, getF bs most = (⟨fin, ((k : Nat) : Int), m, [a, b, c, d], dt⟩, n, 0) ∧ chk ⟨fin, ((k : Nat) : Int), m, [a, b, c, d], dt⟩ = 0 ∧ text ⟨fin, ((k : Nat) : Int), m, [a, b, c, d], dt⟩ = bs.take n ∧ size ⟨fin, ((k : Nat) : Int), m, [a, b, c, d], dt⟩ = n ∧ n ≤ bs.length ∧ 2 ≤ n ∧ Small 256 [a, b, c, d] ∧ Small 256 dt := by
  rcases get_err bs most with h | ⟨e, he, hee⟩
  · obtain ⟨⟨f, n, e⟩, hf⟩ : ∃ r, getF bs most = r := ⟨_, rfl⟩
    rw [hf] at h
    simp only at h
    subst h
    obtain ⟨h1, h2, h3, h4, h5, h6, h7, h8⟩ := get_ok hs hf
    obtain ⟨fin, op, m, key, dt⟩ := f
    obtain ⟨k, rfl⟩ := Int.eq_ofNat_of_zero_le (show 0 ≤ op by have := (form_cases h1).1; simp only at this; omega)
    simp only at h5 h6 h7 h8
    have hl := text_length (⟨fin, ((k : Nat) : Int), m, key, dt⟩ : Fr) (by show dt.length ≤ _; omega) h5
    rw [h2, List.length_take] at hl
    match key, h5 with
    | [a, b, c, d], _ => exact .inr ⟨fin, k, m, a, b, c, d, dt, n, hf, chk_of h1 (by show dt.length ≤ _; omega), h2, by omega, h3, h4, h6, h7⟩
  · exact .inl ⟨e, he, by omega⟩

end Go.Proofs.YtimndpmbgfoofaaDoor.Fra
/- frame: FrameTwo's walk. -/
set_option maxRecDepth 100000
namespace Go.Proofs.YtimndpmbgfoofaaDoor.Fra
open Go.RowKit MaskPlain FramePlain Mas

theorem eq_same (fin : Bool) (op : Int) (m : Bool) (a b c d : Nat) (s : ByteArray) (hk : Small 256 [a, b, c, d]) (W : World) : (Op.equalIn 10000 44 (.agg #[.bool fin, .int .i64 (op : Int), .bool m, .int .u8 ((a : Nat) : Int), .int .u8 ((b : Nat) : Int), .int .u8 ((c : Nat) : Int), .int .u8 ((d : Nat) : Int), .string s]) (.agg #[.bool fin, .int .i64 (op : Int), .bool m, .int .u8 ((a : Nat) : Int), .int .u8 ((b : Nat) : Int), .int .u8 ((c : Nat) : Int), .int .u8 ((d : Nat) : Int), .string s])).run Tryd.prog W = .ok true W :=
  (eq_fr fin op m a b c d s fin op m a b c d s hk hk W).trans (congrArg (fun b => Result.ok b W) (by simp))
theorem text_small {f : Fr} (h : chk f = 0) (hk : Small 256 f.key) (hd : Small 256 f.data) : Small 256 (text f) := by
  obtain ⟨h1, h2⟩ := chk_ok h
  have hb := (byte0_facts h1).2.2.2.1
  have hl := lenB_small (n := f.data.length) (by omega)
  have hw := (lenB_low (n := f.data.length) (by omega)).1
  unfold text headB
  by_cases hm : f.masked = true
  · rw [if_pos hm, if_pos hm]
    intro x hx
    simp only [List.mem_append, List.mem_cons] at hx
    rcases hx with ((rfl | rfl | hx) | hx) | hx
    · exact hb
    · omega
    · exact hl x (List.mem_of_mem_drop hx)
    · exact hk x hx
    · exact turn_lt f.key 0 f.data hd (fun i => hk.getD (by omega) i) x hx
  · rw [if_neg hm, if_neg hm]
    intro x hx
    simp only [List.mem_append, List.mem_cons] at hx
    rcases hx with (rfl | hx) | hx
    · exact hb
    · exact hl x hx
    · exact hd x hx

end Go.Proofs.YtimndpmbgfoofaaDoor.Fra
