/- stream: the closure of Feed that reads the next frame. -/
import Derived.Test.YtlgmgalopdfcaaaDoorSC
set_option maxRecDepth 100000
namespace Go.Proofs.YtlgmgalopdfcaaaDoor
open Go.RowKit MaskPlain FramePlain StreamPlain Mas Fra

/-- Where a slice's end from a place on begins. -/
def fromA (a : Option Addr) (r cap : Nat) : Option Addr := if cap = r then a else a.map (·.add r)
theorem slice_from {W : World} {ev : Operand → Value} {o : Oper} {x y : Operand} {a : Option Addr} {L cap r : Nat} (ho : o.op = .slice 32 x (some y) none none) (hx : ev x = .slice a L cap) (hy : ev y = .int .i64 (r : Int)) (h : r ≤ L) :
    (execOp ev o).run Tryd.prog W = .ok (.value (.slice (fromA a r cap) (L - r) (cap - r))) W := by
  have hs := Tryd.underlying32
  obtain ⟨i0, hi, hz0, hz1, hz2⟩ := info5'
  unfold execOp
  simp only [ho, hx, hy, Option.map_none, Option.map_some, Sem.run_bind]
  rw [run_sliceAt_slice (h := hs), run_slice_l (ht := hs) (h0 := by omega) (h1 := by omega)]
  simp [sizeOf, typeInfo, show Tryd.prog.elem 32 = 5 from rfl, hi, hz1, sliced, fromA]
theorem SrcAt.from {W : World} {a : Option Addr} {L cap r : Nat} {bs : List Nat} (h : SrcAt W (.slice a L cap) bs) (hr : r ≤ L) (hl : bs.length = L) : SrcAt W (.slice (fromA a r cap) (L - r) (cap - r)) (bs.drop r) := by
  obtain ⟨a', c', sb, so, he, h1, h2, h3⟩ := h
  injection he with e1 e2 e3
  subst e1 e3
  refine ⟨_, _, sb, so + r, by rw [List.length_drop, hl], by rw [List.length_drop]; omega, fun hp => ?_, fun i hi => ?_⟩
  · rw [List.length_drop] at hp
    unfold fromA
    rw [if_neg (by omega), h2 (by omega), Option.map_some, Addr.add_mid]
  · rw [List.length_drop] at hi
    rw [Nat.add_assoc, h3 (r + i) (by omega)]
    congr 3
    rw [List.getD_eq_getElem?_getD, List.getD_eq_getElem?_getD, List.getElem?_drop]
theorem ret_fr2 {fn : Func} {p u : Tmp} (h : fn.results = #[.cell p 43, .tmp u]) (tmps : Array Value) (w : World) (g : Nat) (t : TypeId) (cs : Array Value) (fr : Nat × Nat)
    (hp : tmps.getD p undef = .pointer (some ⟨g, 0, none⟩)) (hg : w.heap[g]? = some (.cells cs t fr)) (hs : cs.size = 8) :
    (results fn tmps).run Tryd.prog w = .ok (.tuple #[.agg cs, tmps.getD u undef]) w := by
  have hi : (Tryd.prog.info? 43).map (·.size) = some cs.size := fr_info hs
  have hp' : tmps[p]?.getD undef = .pointer (some ⟨g, 0, none⟩) := by simpa using hp
  simp only [results, h]
  simp [Result.andThen, hp', asAddr, run_loadVar_row (P := Tryd.prog) w g t 43 cs fr _ hg Tryd.underlying43 rfl hi]
theorem grown_then {w w1 w2 : World} {r : Option Nat} (h : w.grownBy w1 r) (k : Below w.heap.size w1 w2) : w.grownBy w2 r :=
  ⟨k.os.trans h.os, k.tape.trans h.tape, k.output.trans h.output, Nat.le_trans h.size k.size, fun j hj hne => (k.block j hj).trans (h.block j hj hne)⟩
theorem cell_of_one {W : World} {g : Nat} {v : Value} {t : TypeId} (h : W.heap[g]? = some (.cells #[v] t (0, 0))) : W.cell? ⟨g, 0, none⟩ = some v := by rw [cell_of_row _ _ _ _ _ _ h]; rfl
theorem free_of_one {W : World} {g : Nat} {v : Value} {t : TypeId} (h : W.heap[g]? = some (.cells #[v] t (0, 0))) : W.frozen? ⟨g, 0, none⟩ = false := frozen_of_row _ _ _ _ _ h
theorem one_setCell {W : World} {g : Nat} {v u : Value} {t : TypeId} (h : W.heap[g]? = some (.cells #[v] t (0, 0))) : (W.setCell ⟨g, 0, none⟩ u).heap[g]? = some (.cells #[u] t (0, 0)) := by
  rw [heap_setCell_same _ _ _ _ _ _ h]; rfl
set_option maxHeartbeats 4000000 in
theorem next_any {w0 W : World} {b : Nat} {masked : Bool} {most : Int} {bs : List Nat} {v : Value} (hs : StrmAt w0 W b masked most bs 0 v) (hg : Globs w0) (C R r : Nat) (f : Fr) (n k : Nat) (hC : W.heap[C]? = some (.cells #[.pointer (some ⟨b, 0, none⟩)] 23 (0, 0))) (hR : W.heap[R]? = some (.cells #[.int .i64 (r : Int)] 3 (0, 0)))
    (hr : r ≤ bs.length) (hsm : Small 256 bs) (hm : bs.length ≤ 100000) (hmo : most ≤ 9223372036854775807) (h1 : one (bs.drop r) masked most = (f, n, k)) (hn : r + n ≤ bs.length) :
    Calls Tryd.prog 20 #[.pointer (some ⟨C, 0, none⟩), .pointer (some ⟨R, 0, none⟩)] W fun e w' => e = .returned (.tuple #[valF f, .int .i64 (k : Int)]) ∧ Sl (w'.heap[R]? = some (.cells #[.int .i64 ((r + n : Nat) : Int)] 3 (0, 0))) ∧ Sl (W.grownBy w' (some R)) := by
  have HG := Sl.mk hg
  obtain ⟨rf, ro, rm, ka, kb, kc, kd, rd, hval⟩ := val_parts f
  obtain ⟨a, cap, rfl, hcap⟩ := hs.slice
  obtain ⟨L, hL⟩ : ∃ L, bs.length = L := ⟨_, rfl⟩
  rw [hL] at hs hcap hr hm hn
  obtain ⟨a', ha'⟩ : ∃ a', fromA a r cap = a' := ⟨_, rfl⟩
  obtain ⟨wa, hwa⟩ : ∃ w1, W.alloc (.cells #[.bool false, .int .i64 0, .bool false, .int .u8 0, .int .u8 0, .int .u8 0, .int .u8 0, .string { data := #[] }] 43) = w1 := ⟨_, rfl⟩
  have HB1 : Sl (Below W.heap.size W wa) := ⟨by rw [← hwa]; exact (bx_below W _).out⟩
  have HZ1 : Sl (wa.heap[W.heap.size]? = some (.cells #[.bool false, .int .i64 0, .bool false, .int .u8 0, .int .u8 0, .int .u8 0, .int .u8 0, .string { data := #[] }] 43 (0, 0))) := ⟨by rw [← hwa]; exact bx_new _ _⟩
  have HSW : Sl (wa.heap.size = W.heap.size + 1) := ⟨by rw [← hwa]; exact alloc_size _ _⟩
  have HST1 : Sl (StrmAt w0 wa b masked most bs 0 (.slice a L cap)) := ⟨hs.below HB1.out⟩
  have HR1 : Sl (wa.heap[R]? = some (.cells #[.int .i64 (r : Int)] 3 (0, 0))) := ⟨below_key hR HB1.out⟩
  have HRL : Sl (R < W.heap.size) := ⟨(Array.getElem?_eq_some_iff.1 hR).1⟩
  obtain ⟨_, _, hp1, _⟩ := HST1.out.cells
  have hc1 := cell_of_one (below_key hC HB1.out)
  have hr1 := cell_of_one HR1.out
  have hCl : C < wa.heap.size := block_lt_of_cell hc1
  have hbl : b < wa.heap.size := block_lt_of_cell hp1
  have hRl : R < wa.heap.size := block_lt_of_cell hr1
  have hsl : ∀ (V : World) (ev : Operand → Value) (o : Oper) (x y : Operand), o.op = .slice 32 x (some y) none none → ev x = .slice a L cap → ev y = .int .i64 (r : Int) → (execOp ev o).run Tryd.prog V = .ok (.value (.slice a' (L - r) (cap - r))) V := fun V ev o x y ho hx hy => by
    rw [← ha']; exact slice_from ho hx hy hr
  have CG : ∀ V, Below wa.heap.size wa V → Calls Tryd.prog 21 #[.pointer (some ⟨b, 0, none⟩), .slice a' (L - r) (cap - r)] V fun e w' => e = .returned (.tuple #[.agg #[.bool rf, .int .i64 ro, .bool rm, .int .u8 ((ka : Nat) : Int), .int .u8 ((kb : Nat) : Int), .int .u8 ((kc : Nat) : Int), .int .u8 ((kd : Nat) : Int), .string rd], .int .i64 (n : Int), .int .i64 (k : Int)]) ∧ Sl (Below V.heap.size V w') := fun V hB => by
    have hS := HST1.out.below hB
    have hsrc : SrcAt V (.slice a' (L - r) (cap - r)) (bs.drop r) := by rw [← ha']; exact SrcAt.from hS.src hr hL
    have := get_any hS a' (L - r) (cap - r) (bs.drop r) HG.out hsrc (by rw [List.length_drop, hL]) (hsm.drop r) (by omega) hmo
    rw [h1, resF, hval] at this
    exact this
  clear ha' h1 hs hC hR hsm hmo hg hL hcap
  go_enter Tryd.func20, Tryd.ntmps20
  go_upto_region 1 with fail
  obtain ⟨Rw, hRw⟩ : ∃ R, wa.drew = R := ⟨_, rfl⟩
  have HS0 : Below wa.heap.size wa Rw := by rw [← hRw]; exact (Below.refl _ _).drew
  refine wp_region_noPanic ?_
  refine wp_region_held (S := fun V => Below wa.heap.size wa V) (by kernel_rfl) ?_
  change wpAnyH _ _ _ _ _ _ _ _ wa.drew
  rw [hRw]
  clear hRw
  refine heldTake (d := some 8) (op := .load 23 (Operand.tmp 0)) (g := none) 0 ?v0 rfl (by kernel_rfl) (by kernel_rfl) (by kernel_rfl) (by kernel_rfl) ?y0 HS0 ?_
  case y0 => intro o' ho W hS; have hcx : W.cell? ⟨C, 0, none⟩ = some (.pointer (some ⟨b, 0, none⟩)) := (hS.cell hCl).trans hc1; simp only [execOp, ho]; go_simp; try rfl
  simp only [Act.put, List.setIfInBounds_toArray, List.set_cons_zero, List.set_cons_succ]
  refine heldTake (d := some 9) (op := .load 23 (Operand.tmp 0)) (g := none) 1 ?v1 rfl (by kernel_rfl) (by kernel_rfl) (by kernel_rfl) (by kernel_rfl) ?y1 HS0 ?_
  case y1 => intro o' ho W hS; have hcx : W.cell? ⟨C, 0, none⟩ = some (.pointer (some ⟨b, 0, none⟩)) := (hS.cell hCl).trans hc1; simp only [execOp, ho]; go_simp; try rfl
  simp only [Act.put, List.setIfInBounds_toArray, List.set_cons_zero, List.set_cons_succ]
  refine heldTake (d := some 10) (op := .nilCheck (Operand.tmp 9)) (g := none) 2 ?v2 rfl (by kernel_rfl) (by kernel_rfl) (by kernel_rfl) (by kernel_rfl) ?y2 HS0 ?_
  case y2 => intro o' ho W hS; simp only [execOp, ho]; go_simp; try rfl
  simp only [Act.put, List.setIfInBounds_toArray, List.set_cons_zero, List.set_cons_succ]
  refine heldTake (d := some 11) (op := .fieldAddr 51 (Operand.tmp 10) 2) (g := none) 3 ?v3 rfl (by kernel_rfl) (by kernel_rfl) (by kernel_rfl) (by kernel_rfl) ?y3 HS0 ?_
  case y3 => intro o' ho W hS; simp only [execOp, ho]; go_simp; try rfl
  simp only [Act.put, List.setIfInBounds_toArray, List.set_cons_zero, List.set_cons_succ]
  refine heldTake (d := some 12) (op := .load 32 (Operand.tmp 11)) (g := none) 4 ?v4 rfl (by kernel_rfl) (by kernel_rfl) (by kernel_rfl) (by kernel_rfl) ?y4 HS0 ?_
  case y4 => intro o' ho W hS; have hcx : W.cell? ⟨b, 2, none⟩ = some (.slice a L cap) := (hS.cell hbl).trans hp1; simp only [execOp, ho]; go_simp; try rfl
  simp only [Act.put, List.setIfInBounds_toArray, List.set_cons_zero, List.set_cons_succ]
  refine heldTake (d := some 13) (op := .load 3 (Operand.tmp 1)) (g := none) 5 ?v5 rfl (by kernel_rfl) (by kernel_rfl) (by kernel_rfl) (by kernel_rfl) ?y5 HS0 ?_
  case y5 => intro o' ho W hS; have hcx : W.cell? ⟨R, 0, none⟩ = some (.int .i64 (r : Int)) := (hS.cell hRl).trans hr1; simp only [execOp, ho]; go_simp; try rfl
  simp only [Act.put, List.setIfInBounds_toArray, List.set_cons_zero, List.set_cons_succ]
  refine heldTake (d := some 14) (op := .slice 32 (Operand.tmp 12) (some (Operand.tmp 13)) none none) (g := none) 6 (.slice a' (L - r) (cap - r)) rfl (by kernel_rfl) (by kernel_rfl) (by kernel_rfl) (by kernel_rfl) ?y6 HS0 ?_
  case y6 => intro o' ho W hS; exact hsl W _ o' _ _ ho (by rfl) (by rfl)
  simp only [Act.put, List.setIfInBounds_toArray, List.set_cons_zero, List.set_cons_succ]
  obtain ⟨Aw, hA⟩ : ∃ V, Rw.alloc (.cells #[.bool false, .int .i64 0, .bool false, .int .u8 0, .int .u8 0, .int .u8 0, .int .u8 0, .string { data := #[] }] 43) = V := ⟨_, rfl⟩
  have HSA : Below wa.heap.size wa Aw := by rw [← hA]; exact HS0.alloc HS0.size _
  refine heldCA2 (di := some 4) (opi := .alloc 43) (dj := some 15) (opj := .call { callee := Callee.value (Operand.func 21), args := #[Operand.tmp 8, Operand.tmp 14], argTypes := #[23, 32] }) (ti := 0) (tj := 52) 12 7 (.pointer (some ⟨Rw.heap.size, 0, none⟩)) Aw 21 #[.pointer (some ⟨b, 0, none⟩), .slice a' (L - r) (cap - r)] rfl rfl (by kernel_rfl) ?y12a ?y7a HSA ?first ?second
  case y12a => intro o' ho ht; simp only [execOp, ho]; go_simp; first | done | rw [hA] | rfl
  case y7a => intro o' ho ht; simp only [execOp, ho]; go_simp; try rfl
  case first =>
    simp only [Act.put, List.setIfInBounds_toArray, List.set_cons_zero, List.set_cons_succ]
    refine heldCall (d := some 15) (op := .call { callee := Callee.value (Operand.func 21), args := #[Operand.tmp 8, Operand.tmp 14], argTypes := #[23, 32] }) (g := none) 7 21 #[.pointer (some ⟨b, 0, none⟩), .slice a' (L - r) (cap - r)] rfl (by kernel_rfl) (by kernel_rfl) ?y7p ?_
    case y7p => intro o' ho; simp only [execOp, ho]; go_simp; try rfl
    refine (CG Aw HSA).mono ?_
    rintro e Zf ⟨rfl, HXZ⟩
    have HSZf : Below wa.heap.size wa Zf := HSA.trans (HXZ.out.mono HSA.size)
    refine ⟨_, rfl, HSZf, ?_⟩
    simp only [Act.put, List.setIfInBounds_toArray, List.set_cons_zero, List.set_cons_succ]
    refine heldTake (d := some 7) (op := .move (Operand.tmp 15)) (g := none) 8 ?v8f rfl (by kernel_rfl) (by kernel_rfl) (by kernel_rfl) (by kernel_rfl) ?y8f HSZf ?_
    case y8f => intro o' ho W hS; simp only [execOp, ho]; go_simp; try rfl
    simp only [Act.put, List.setIfInBounds_toArray, List.set_cons_zero, List.set_cons_succ]
    refine heldTake (d := some 16) (op := .extract (Operand.tmp 7) 0) (g := none) 9 ?v9f rfl (by kernel_rfl) (by kernel_rfl) (by kernel_rfl) (by kernel_rfl) ?y9f HSZf ?_
    case y9f => intro o' ho W hS; simp only [execOp, ho]; go_simp; try rfl
    simp only [Act.put, List.setIfInBounds_toArray, List.set_cons_zero, List.set_cons_succ]
    refine heldTake (d := some 17) (op := .extract (Operand.tmp 7) 1) (g := none) 10 ?v10f rfl (by kernel_rfl) (by kernel_rfl) (by kernel_rfl) (by kernel_rfl) ?y10f HSZf ?_
    case y10f => intro o' ho W hS; simp only [execOp, ho]; go_simp; try rfl
    simp only [Act.put, List.setIfInBounds_toArray, List.set_cons_zero, List.set_cons_succ]
    refine heldTake (d := some 18) (op := .extract (Operand.tmp 7) 2) (g := none) 11 ?v11f rfl (by kernel_rfl) (by kernel_rfl) (by kernel_rfl) (by kernel_rfl) ?y11f HSZf ?_
    case y11f => intro o' ho W hS; simp only [execOp, ho]; go_simp; try rfl
    simp only [Act.put, List.setIfInBounds_toArray, List.set_cons_zero, List.set_cons_succ]
    have HQf : wa.heap.size ≤ Rw.heap.size := HS0.size
    have HFf : Zf.heap[Rw.heap.size]? = some (.cells #[.bool false, .int .i64 0, .bool false, .int .u8 0, .int .u8 0, .int .u8 0, .int .u8 0, .string { data := #[] }] 43 (0, 0)) := below_key (by rw [← hA]; exact bx_new _ _) HXZ.out
    clear HXZ hA HSA
    obtain ⟨Yf, hYf⟩ : ∃ Y, Zf.setRow Rw.heap.size #[.bool rf, .int .i64 ro, .bool rm, .int .u8 ((ka : Nat) : Int), .int .u8 ((kb : Nat) : Int), .int .u8 ((kc : Nat) : Int), .int .u8 ((kd : Nat) : Int), .string rd] = Y := ⟨_, rfl⟩
    have HSYf : Below wa.heap.size wa Yf := by rw [← hYf]; exact below_setRow HSZf HQf _
    have HFY : Sl (Yf.heap[Rw.heap.size]? = some (.cells #[.bool rf, .int .i64 ro, .bool rm, .int .u8 ((ka : Nat) : Int), .int .u8 ((kb : Nat) : Int), .int .u8 ((kc : Nat) : Int), .int .u8 ((kd : Nat) : Int), .string rd] 43 (0, 0))) := ⟨by rw [← hYf]; exact setRow_heap _ _ _ _ _ _ HFf⟩
    refine heldStore (d := none) (op := .store 43 (Operand.tmp 4) (Operand.tmp 16)) (g := none) (t := 0) 13 Yf rfl (by kernel_rfl) (by kernel_rfl) ?y13f HSYf ?_
    case y13f => intro o' ho ht; rw [← hYf]; exact store8 ho (by rfl) (by rfl) HFf ⟨rfl, rfl⟩ (fr_all _ _ _ _ _ _ _ _)
    simp only [Act.put]
    refine heldTake (d := some 5) (op := .assign (Operand.tmp 17)) (g := none) 14 ?v14f rfl (by kernel_rfl) (by kernel_rfl) (by kernel_rfl) (by kernel_rfl) ?y14f HSYf ?_
    case y14f => intro o' ho W hS; simp only [execOp, ho]; go_simp; try rfl
    simp only [Act.put, List.setIfInBounds_toArray, List.set_cons_zero, List.set_cons_succ]
    refine heldTake (d := some 6) (op := .assign (Operand.tmp 18)) (g := none) 15 ?v15f rfl (by kernel_rfl) (by kernel_rfl) (by kernel_rfl) (by kernel_rfl) ?y15f HSYf ?_
    case y15f => intro o' ho W hS; simp only [execOp, ho]; go_simp; try rfl
    simp only [Act.put, List.setIfInBounds_toArray, List.set_cons_zero, List.set_cons_succ]
    refine wpAnyH_done (by kernel_rfl) ?_ _
    refine NoPanic.normal ?_
    have HBY : Sl (Below W.heap.size W Yf) := ⟨HB1.out.trans (HSYf.mono HB1.out.size)⟩
    have HZY : Sl (Yf.heap[W.heap.size]? = some (.cells #[.bool false, .int .i64 0, .bool false, .int .u8 0, .int .u8 0, .int .u8 0, .int .u8 0, .string { data := #[] }] 43 (0, 0))) := ⟨below_key HZ1.out HSYf⟩
    have HRY : Sl (Yf.heap[R]? = some (.cells #[.int .i64 (r : Int)] 3 (0, 0))) := ⟨below_key HR1.out HSYf⟩
    have hq : wa.heap.size ≤ Rw.heap.size := HQf
    have hlt : R < W.heap.size := HRL.out
    have hsz : wa.heap.size = W.heap.size + 1 := HSW.out
    clear HS0 HSZf HQf HFf hYf HSYf hc1 hp1 hr1 hCl hbl hRl CG
    have HNE : Sl (Rw.heap.size ≠ R) := ⟨by omega⟩
    obtain ⟨e0, e1, e2, e3, e4, e5, e6, e7⟩ := bx8 HFY.out
    have hne := HNE.out
    have hr2 := cell_of_one HRY.out
    have hf2 := free_of_one HRY.out
    have HI := fr_info (cs := #[.bool rf, .int .i64 ro, .bool rm, .int .u8 ((ka : Nat) : Int), .int .u8 ((kb : Nat) : Int), .int .u8 ((kc : Nat) : Int), .int .u8 ((kd : Nat) : Int), .string rd]) rfl
    have HZ2 : Sl ((Yf.setCell ⟨R, 0, none⟩ (.int .i64 ((r : Int) + (n : Int)))).heap[W.heap.size]? = some (.cells #[.bool false, .int .i64 0, .bool false, .int .u8 0, .int .u8 0, .int .u8 0, .int .u8 0, .string { data := #[] }] 43 (0, 0))) := ⟨by rw [heap_setCell_other _ _ _ _ (by show W.heap.size ≠ R; omega)]; exact HZY.out⟩
    go_wp2_with (refine wpList_store_row rfl 43 (.tmp 2) (.tmp 22) rfl W.heap.size #[.bool rf, .int .i64 ro, .bool rm, .int .u8 ((ka : Nat) : Int), .int .u8 ((kb : Nat) : Int), .int .u8 ((kc : Nat) : Int), .int .u8 ((kd : Nat) : Int), .string rd] rfl rfl 43 #[.bool false, .int .i64 0, .bool false, .int .u8 0, .int .u8 0, .int .u8 0, .int .u8 0, .string { data := #[] }] HZ2.out HI rfl (fr_all _ _ _ _ _ _ _ _) ?_)
    refine bodyPost_ret (ret_fr2 rfl _ _ W.heap.size 43 _ (0, 0) rfl (setRow_heap _ _ _ _ _ _ HZ2.out) rfl) rfl ?_
    refine ⟨by rw [hval]; rfl, ⟨?_⟩, ⟨grown_then (grown_trans (grown_below HBY.out (some R)) (grown_setCell Yf R 0 _)) (below_setRow (Below.refl _ _) (Nat.le_refl _) _)⟩⟩
    rw [setRow_other _ _ _ _ (by omega), one_setCell HRY.out, Int.natCast_add]
  case second =>
    refine (CG Rw HS0).mono ?_
    rintro e Xs ⟨rfl, HXZ⟩
    have HSX : Below wa.heap.size wa Xs := HS0.trans (HXZ.out.mono HS0.size)
    refine ⟨_, rfl, HSX, ?_⟩
    simp only [Act.put, List.setIfInBounds_toArray, List.set_cons_zero, List.set_cons_succ]
    refine heldTake (d := some 7) (op := .move (Operand.tmp 15)) (g := none) 8 ?v8s rfl (by kernel_rfl) (by kernel_rfl) (by kernel_rfl) (by kernel_rfl) ?y8s HSX ?_
    case y8s => intro o' ho W hS; simp only [execOp, ho]; go_simp; try rfl
    simp only [Act.put, List.setIfInBounds_toArray, List.set_cons_zero, List.set_cons_succ]
    refine heldTake (d := some 16) (op := .extract (Operand.tmp 7) 0) (g := none) 9 ?v9s rfl (by kernel_rfl) (by kernel_rfl) (by kernel_rfl) (by kernel_rfl) ?y9s HSX ?_
    case y9s => intro o' ho W hS; simp only [execOp, ho]; go_simp; try rfl
    simp only [Act.put, List.setIfInBounds_toArray, List.set_cons_zero, List.set_cons_succ]
    refine heldTake (d := some 17) (op := .extract (Operand.tmp 7) 1) (g := none) 10 ?v10s rfl (by kernel_rfl) (by kernel_rfl) (by kernel_rfl) (by kernel_rfl) ?y10s HSX ?_
    case y10s => intro o' ho W hS; simp only [execOp, ho]; go_simp; try rfl
    simp only [Act.put, List.setIfInBounds_toArray, List.set_cons_zero, List.set_cons_succ]
    refine heldTake (d := some 18) (op := .extract (Operand.tmp 7) 2) (g := none) 11 ?v11s rfl (by kernel_rfl) (by kernel_rfl) (by kernel_rfl) (by kernel_rfl) ?y11s HSX ?_
    case y11s => intro o' ho W hS; simp only [execOp, ho]; go_simp; try rfl
    simp only [Act.put, List.setIfInBounds_toArray, List.set_cons_zero, List.set_cons_succ]
    obtain ⟨Zs, hZs⟩ : ∃ V, Xs.alloc (.cells #[.bool false, .int .i64 0, .bool false, .int .u8 0, .int .u8 0, .int .u8 0, .int .u8 0, .string { data := #[] }] 43) = V := ⟨_, rfl⟩
    have HSZs : Below wa.heap.size wa Zs := by rw [← hZs]; exact HSX.alloc HSX.size _
    refine heldRunT (d := some 4) (op := .alloc 43) (g := none) (t := 0) 12 (.pointer (some ⟨Xs.heap.size, 0, none⟩)) Zs rfl (by kernel_rfl) (by kernel_rfl) ?y12s HSZs ?_
    case y12s => intro o' ho _; simp only [execOp, ho]; go_simp; first | done | rw [hZs] | rfl
    simp only [Act.put, List.setIfInBounds_toArray, List.set_cons_zero, List.set_cons_succ]
    have HQs : wa.heap.size ≤ Xs.heap.size := HSX.size
    have HFs : Zs.heap[Xs.heap.size]? = some (.cells #[.bool false, .int .i64 0, .bool false, .int .u8 0, .int .u8 0, .int .u8 0, .int .u8 0, .string { data := #[] }] 43 (0, 0)) := by rw [← hZs]; exact bx_new _ _
    clear HXZ HSX hZs
    obtain ⟨Ys, hYs⟩ : ∃ Y, Zs.setRow Xs.heap.size #[.bool rf, .int .i64 ro, .bool rm, .int .u8 ((ka : Nat) : Int), .int .u8 ((kb : Nat) : Int), .int .u8 ((kc : Nat) : Int), .int .u8 ((kd : Nat) : Int), .string rd] = Y := ⟨_, rfl⟩
    have HSYs : Below wa.heap.size wa Ys := by rw [← hYs]; exact below_setRow HSZs HQs _
    have HFY : Sl (Ys.heap[Xs.heap.size]? = some (.cells #[.bool rf, .int .i64 ro, .bool rm, .int .u8 ((ka : Nat) : Int), .int .u8 ((kb : Nat) : Int), .int .u8 ((kc : Nat) : Int), .int .u8 ((kd : Nat) : Int), .string rd] 43 (0, 0))) := ⟨by rw [← hYs]; exact setRow_heap _ _ _ _ _ _ HFs⟩
    refine heldStore (d := none) (op := .store 43 (Operand.tmp 4) (Operand.tmp 16)) (g := none) (t := 0) 13 Ys rfl (by kernel_rfl) (by kernel_rfl) ?y13s HSYs ?_
    case y13s => intro o' ho ht; rw [← hYs]; exact store8 ho (by rfl) (by rfl) HFs ⟨rfl, rfl⟩ (fr_all _ _ _ _ _ _ _ _)
    simp only [Act.put]
    refine heldTake (d := some 5) (op := .assign (Operand.tmp 17)) (g := none) 14 ?v14s rfl (by kernel_rfl) (by kernel_rfl) (by kernel_rfl) (by kernel_rfl) ?y14s HSYs ?_
    case y14s => intro o' ho W hS; simp only [execOp, ho]; go_simp; try rfl
    simp only [Act.put, List.setIfInBounds_toArray, List.set_cons_zero, List.set_cons_succ]
    refine heldTake (d := some 6) (op := .assign (Operand.tmp 18)) (g := none) 15 ?v15s rfl (by kernel_rfl) (by kernel_rfl) (by kernel_rfl) (by kernel_rfl) ?y15s HSYs ?_
    case y15s => intro o' ho W hS; simp only [execOp, ho]; go_simp; try rfl
    simp only [Act.put, List.setIfInBounds_toArray, List.set_cons_zero, List.set_cons_succ]
    refine wpAnyH_done (by kernel_rfl) ?_ _
    refine NoPanic.normal ?_
    have HBY : Sl (Below W.heap.size W Ys) := ⟨HB1.out.trans (HSYs.mono HB1.out.size)⟩
    have HZY : Sl (Ys.heap[W.heap.size]? = some (.cells #[.bool false, .int .i64 0, .bool false, .int .u8 0, .int .u8 0, .int .u8 0, .int .u8 0, .string { data := #[] }] 43 (0, 0))) := ⟨below_key HZ1.out HSYs⟩
    have HRY : Sl (Ys.heap[R]? = some (.cells #[.int .i64 (r : Int)] 3 (0, 0))) := ⟨below_key HR1.out HSYs⟩
    have hq : wa.heap.size ≤ Xs.heap.size := HQs
    have hlt : R < W.heap.size := HRL.out
    have hsz : wa.heap.size = W.heap.size + 1 := HSW.out
    clear HS0 HSZs HQs HFs hYs HSYs hc1 hp1 hr1 hCl hbl hRl CG
    have HNE : Sl (Xs.heap.size ≠ R) := ⟨by omega⟩
    obtain ⟨e0, e1, e2, e3, e4, e5, e6, e7⟩ := bx8 HFY.out
    have hne := HNE.out
    have hr2 := cell_of_one HRY.out
    have hf2 := free_of_one HRY.out
    have HI := fr_info (cs := #[.bool rf, .int .i64 ro, .bool rm, .int .u8 ((ka : Nat) : Int), .int .u8 ((kb : Nat) : Int), .int .u8 ((kc : Nat) : Int), .int .u8 ((kd : Nat) : Int), .string rd]) rfl
    have HZ2 : Sl ((Ys.setCell ⟨R, 0, none⟩ (.int .i64 ((r : Int) + (n : Int)))).heap[W.heap.size]? = some (.cells #[.bool false, .int .i64 0, .bool false, .int .u8 0, .int .u8 0, .int .u8 0, .int .u8 0, .string { data := #[] }] 43 (0, 0))) := ⟨by rw [heap_setCell_other _ _ _ _ (by show W.heap.size ≠ R; omega)]; exact HZY.out⟩
    go_wp2_with (refine wpList_store_row rfl 43 (.tmp 2) (.tmp 22) rfl W.heap.size #[.bool rf, .int .i64 ro, .bool rm, .int .u8 ((ka : Nat) : Int), .int .u8 ((kb : Nat) : Int), .int .u8 ((kc : Nat) : Int), .int .u8 ((kd : Nat) : Int), .string rd] rfl rfl 43 #[.bool false, .int .i64 0, .bool false, .int .u8 0, .int .u8 0, .int .u8 0, .int .u8 0, .string { data := #[] }] HZ2.out HI rfl (fr_all _ _ _ _ _ _ _ _) ?_)
    refine bodyPost_ret (ret_fr2 rfl _ _ W.heap.size 43 _ (0, 0) rfl (setRow_heap _ _ _ _ _ _ HZ2.out) rfl) rfl ?_
    refine ⟨by rw [hval]; rfl, ⟨?_⟩, ⟨grown_then (grown_trans (grown_below HBY.out (some R)) (grown_setCell Ys R 0 _)) (below_setRow (Below.refl _ _) (Nat.le_refl _) _)⟩⟩
    rw [setRow_other _ _ _ _ (by omega), one_setCell HRY.out, Int.natCast_add]
end Go.Proofs.YtlgmgalopdfcaaaDoor
