/- stream: the frame that bytes begin with, masked as it must be. -/
import Derived.Test.YtlgmgalopdfcaaaDoorSB
set_option maxRecDepth 100000
namespace Go.Proofs.YtlgmgalopdfcaaaDoor
open Go.RowKit MaskPlain FramePlain StreamPlain Mas Fra

theorem getf_zero (a : Option Addr) (cap : Nat) (most : Int) (w : World) : Calls Tryd.prog 27 #[.slice a 0 cap, .int .i64 most] w fun e w' => e = .returned (resF (getF [] most)) ∧ Sl (Below w.heap.size w w') := by
  obtain ⟨w1, hw1⟩ : ∃ w1, w.alloc (.cells #[.bool false, .int .i64 0, .bool false, .int .u8 0, .int .u8 0, .int .u8 0, .int .u8 0, .string { data := #[] }] 43) = w1 := ⟨_, rfl⟩
  have HB1 : Sl (Below w.heap.size w w1) := ⟨by rw [← hw1]; exact (bx_below w _).out⟩
  have HZ1 : Sl (w1.heap[w.heap.size]? = some (.cells #[.bool false, .int .i64 0, .bool false, .int .u8 0, .int .u8 0, .int .u8 0, .int .u8 0, .string { data := #[] }] 43 (0, 0))) := ⟨by rw [← hw1]; exact bx_new _ _⟩
  have HQ : Sl (getF [] most = (Fr0, 0, 90)) := ⟨rfl⟩
  go_enter Tryd.func27, Tryd.ntmps27
  have HI := fr_info (cs := #[.bool false, .int .i64 0, .bool false, .int .u8 0, .int .u8 0, .int .u8 0, .int .u8 0, .string { data := #[] }]) rfl
  go_wp2_with (refine wpList_store_row rfl 43 (.tmp 4) (.tmp 14) rfl w.heap.size #[.bool false, .int .i64 0, .bool false, .int .u8 0, .int .u8 0, .int .u8 0, .int .u8 0, .string { data := #[] }] rfl rfl 43 #[.bool false, .int .i64 0, .bool false, .int .u8 0, .int .u8 0, .int .u8 0, .int .u8 0, .string { data := #[] }] HZ1.out HI rfl (fr_all _ _ _ _ _ _ _ _) ?_)
  refine bodyPost_ret (ret_fr rfl _ _ w.heap.size 43 _ (0, 0) rfl (setRow_heap _ _ _ _ _ _ HZ1.out) rfl) rfl ?_
  rw [HQ.out]
  exact ⟨rfl, ⟨below_setRow HB1.out (Nat.le_refl _) _⟩⟩
/-- frame.Get of any slice. -/
theorem fget_any (a : Option Addr) (L cap : Nat) (bs : List Nat) (most : Int) (w : World) (hg : Globs w) (hv : SrcAt w (.slice a L cap) bs) (hbl : bs.length = L) (hsm : Small 256 bs) (hm : L ≤ 100000) (hmo : most ≤ 9223372036854775807) :
    Calls Tryd.prog 27 #[.slice a L cap, .int .i64 most] w fun e w' => e = .returned (resF (getF bs most)) ∧ Sl (Below w.heap.size w w') := by
  by_cases h0 : L = 0
  · subst h0
    obtain rfl : bs = [] := List.eq_nil_of_length_eq_zero hbl
    exact getf_zero a cap most w
  · have hv' := hv
    obtain ⟨a', c', sb, so, he, _, ha, _⟩ := hv'
    injection he with e1 e2 e3
    rw [ha (by omega)] at e1
    subst e1
    exact getf_any sb so L cap bs most w hg hv hbl hsm hm hmo
/-- A slice's beginning. -/
theorem slice_to {W : World} {ev : Operand → Value} {o : Oper} {x : Operand} {sb so L cap : Nat} (ho : o.op = .slice 32 x none (some (.const (.int .i64 1))) none) (hx : ev x = .slice (some ⟨sb, so, none⟩) L cap) (hev : ev (.const (.int .i64 1)) = .int .i64 1) (hc : 1 ≤ cap) :
    (execOp ev o).run Tryd.prog W = .ok (.value (.slice (some ⟨sb, so, none⟩) 1 cap)) W := by
  simp only [execOp, ho, hx, hev, Option.map_some, Option.map_none]
  have hc' : (1 : Int) ≤ (cap : Int) := by omega
  go_simp
theorem one_short {bs : List Nat} (h : bs.length ≤ 1) (masked : Bool) (most : Int) : one bs masked most = getF bs most := by
  match bs, h with
  | [], _ => rfl
  | [x], _ =>
    by_cases hb : bad x = true
    · rw [one_cons, if_pos hb, get_cons, if_pos hb]
    · rw [one_cons, if_neg hb, if_neg (fun hh => absurd hh.1 (by decide))]
theorem one_like {x y : Nat} {ys : List Nat} {masked : Bool} (h : (decide (128 ≤ y) != masked) = false) (most : Int) : one (x :: y :: ys) masked most = getF (x :: y :: ys) most := by
  by_cases hb : bad x = true
  · rw [one_cons, if_pos hb, get_cons, if_pos hb]
  · rw [one_cons, if_neg hb, if_neg (fun hh => hh.2 (by simpa using h))]
theorem one_unlike {x y : Nat} {ys : List Nat} {masked : Bool} (hb : bad x = false) (h : (decide (128 ≤ y) != masked) = true) (most : Int) : one (x :: y :: ys) masked most = (Fr0, 0, 100) := by
  rw [one_cons, if_neg (by rw [hb]; decide), if_pos ⟨by simp, by simpa using h⟩]
theorem val_parts (f : Fr) : ∃ rf ro rm, ∃ ka kb kc kd : Nat, ∃ rd, valF f = (.agg #[.bool rf, .int .i64 ro, .bool rm, .int .u8 ((ka : Nat) : Int), .int .u8 ((kb : Nat) : Int), .int .u8 ((kc : Nat) : Int), .int .u8 ((kd : Nat) : Int), .string rd]) := ⟨_, _, _, _, _, _, _, _, rfl⟩
set_option maxHeartbeats 4000000 in
theorem get_any {w0 W : World} {b : Nat} {masked : Bool} {most : Int} {part : List Nat} {err : Nat} {v : Value} (hs : StrmAt w0 W b masked most part err v) (a : Option Addr) (L cap : Nat) (bs : List Nat) (hg : Globs w0) (hv : SrcAt W (.slice a L cap) bs) (hbl : bs.length = L) (hsm : Small 256 bs) (hm : L ≤ 100000) (hmo : most ≤ 9223372036854775807) :
    Calls Tryd.prog 21 #[.pointer (some ⟨b, 0, none⟩), .slice a L cap] W fun e w' => e = .returned (resF (one bs masked most)) ∧ Sl (Below W.heap.size W w') := by
  have HG := Sl.mk hg
  have HV := Sl.mk hv
  have HST := Sl.mk hs
  obtain ⟨f, n, k, hgf⟩ : ∃ f n k, getF bs most = (f, n, k) := ⟨_, _, _, rfl⟩
  obtain ⟨rf, ro, rm, ka, kb, kc, kd, rd, hval⟩ := val_parts f
  have FW : ∀ V, Globs V → SrcAt V (.slice a L cap) bs → Calls Tryd.prog 27 #[.slice a L cap, .int .i64 most] V fun e w' => e = .returned (.tuple #[.agg #[.bool rf, .int .i64 ro, .bool rm, .int .u8 ((ka : Nat) : Int), .int .u8 ((kb : Nat) : Int), .int .u8 ((kc : Nat) : Int), .int .u8 ((kd : Nat) : Int), .string rd], .int .i64 (n : Int), .int .i64 (k : Int)]) ∧ Sl (Below V.heap.size V w') := fun V h1 h2 => by
    have := fget_any a L cap bs most V h1 h2 hbl hsm hm hmo
    rw [hgf, resF, hval] at this
    exact this
  obtain ⟨wa, hwa⟩ : ∃ w1, W.alloc (.cells #[.bool false, .int .i64 0, .bool false, .int .u8 0, .int .u8 0, .int .u8 0, .int .u8 0, .string { data := #[] }] 43) = w1 := ⟨_, rfl⟩
  have HB1 : Sl (Below W.heap.size W wa) := ⟨by rw [← hwa]; exact (bx_below W _).out⟩
  have HZ1 : Sl (wa.heap[W.heap.size]? = some (.cells #[.bool false, .int .i64 0, .bool false, .int .u8 0, .int .u8 0, .int .u8 0, .int .u8 0, .string { data := #[] }] 43 (0, 0))) := ⟨by rw [← hwa]; exact bx_new _ _⟩
  have HST1 : Sl (StrmAt w0 wa b masked most part err v) := ⟨hs.below HB1.out⟩
  obtain ⟨_, c1, _, _⟩ := HST1.out.cells
  by_cases hL : L ≤ 1
  · have hq : ((L : Int) > 1) = False := eq_false (by omega)
    have HQ : Sl (resF (one bs masked most) = .tuple #[.agg #[.bool rf, .int .i64 ro, .bool rm, .int .u8 ((ka : Nat) : Int), .int .u8 ((kb : Nat) : Int), .int .u8 ((kc : Nat) : Int), .int .u8 ((kd : Nat) : Int), .string rd], .int .i64 (n : Int), .int .i64 (k : Int)]) := ⟨by
      rw [one_short (by omega), hgf, resF, hval]⟩
    clear hgf hval hs hg hv hbl hsm hm hmo hL
    go_enter Tryd.func21, Tryd.ntmps21
    go_wp2_with fail
    refine (FW wa (HG.out.below HST1.out.L HG.out.size) (HV.out.below (Nat.le_refl _) HB1.out)).mono ?_
    rintro e w4 ⟨rfl, HX4⟩
    have HB4 : Sl (Below W.heap.size W w4) := ⟨HB1.out.trans (HX4.out.mono HB1.out.size)⟩
    have HZ4 : Sl (w4.heap[W.heap.size]? = some (.cells #[.bool false, .int .i64 0, .bool false, .int .u8 0, .int .u8 0, .int .u8 0, .int .u8 0, .string { data := #[] }] 43 (0, 0))) := ⟨below_key HZ1.out HX4.out⟩
    clear FW HX4
    have HI := fr_info (cs := #[.bool rf, .int .i64 ro, .bool rm, .int .u8 ((ka : Nat) : Int), .int .u8 ((kb : Nat) : Int), .int .u8 ((kc : Nat) : Int), .int .u8 ((kd : Nat) : Int), .string rd]) rfl
    go_wp2_with (refine wpList_store_row rfl 43 (.tmp 4) (.tmp 42) rfl W.heap.size #[.bool rf, .int .i64 ro, .bool rm, .int .u8 ((ka : Nat) : Int), .int .u8 ((kb : Nat) : Int), .int .u8 ((kc : Nat) : Int), .int .u8 ((kd : Nat) : Int), .string rd] rfl rfl 43 #[.bool false, .int .i64 0, .bool false, .int .u8 0, .int .u8 0, .int .u8 0, .int .u8 0, .string { data := #[] }] HZ4.out HI rfl (fr_all _ _ _ _ _ _ _ _) ?_)
    refine bodyPost_ret (ret_fr rfl _ _ W.heap.size 43 _ (0, 0) rfl (setRow_heap _ _ _ _ _ _ HZ4.out) rfl) rfl ?_
    rw [HQ.out]
    exact ⟨rfl, ⟨below_setRow HB4.out (Nat.le_refl _) _⟩⟩
  · obtain ⟨x, y, ys, rfl⟩ : ∃ x y ys, bs = x :: y :: ys := by
      match bs, hbl with
      | x :: y :: ys, _ => exact ⟨x, y, ys, rfl⟩
      | [x], h => simp at h; omega
      | [], h => simp at h; omega
    have hq : ((L : Int) > 1) = True := eq_true (by omega)
    have hy : y < 256 := hsm y (by simp)
    obtain ⟨sb, so, rfl, hcap, hc1⟩ : ∃ sb so, a = some ⟨sb, so, none⟩ ∧ L ≤ cap ∧ W.cell? ⟨sb, so + 1, none⟩ = some (.int .u8 (y : Int)) := by
      obtain ⟨a', c', sb, so, he, h1, h2, h3⟩ := hv
      injection he with e1 e2 e3
      exact ⟨sb, so, by rw [e1]; exact h2 (by simp), by omega, h3 1 (by simp)⟩
    have hcy : wa.cell? ⟨sb, so + 1, none⟩ = some (.int .u8 (y : Int)) := (HB1.out.cell (block_lt_of_cell hc1)).trans hc1
    have CU := unlike_any HST1.out y hy
    obtain ⟨u, hu⟩ : ∃ u, (decide (128 ≤ y) != masked) = u := ⟨_, rfl⟩
    rw [hu] at CU
    cases u with
    | false =>
      have HQ : Sl (resF (one (x :: y :: ys) masked most) = .tuple #[.agg #[.bool rf, .int .i64 ro, .bool rm, .int .u8 ((ka : Nat) : Int), .int .u8 ((kb : Nat) : Int), .int .u8 ((kc : Nat) : Int), .int .u8 ((kd : Nat) : Int), .string rd], .int .i64 (n : Int), .int .i64 (k : Int)]) := ⟨by
        rw [one_like hu, hgf, resF, hval]⟩
      clear hgf hval hs hg hv hbl hsm hm hmo hL hu hc1 hy
      go_enter Tryd.func21, Tryd.ntmps21
      go_wp2_with fail
      refine CU.mono ?_
      rintro e w2 ⟨rfl, rfl⟩
      go_wp2_with fail
      refine (FW wa (HG.out.below HST1.out.L HG.out.size) (HV.out.below (Nat.le_refl _) HB1.out)).mono ?_
      rintro e w4 ⟨rfl, HX4⟩
      have HB4 : Sl (Below W.heap.size W w4) := ⟨HB1.out.trans (HX4.out.mono HB1.out.size)⟩
      have HZ4 : Sl (w4.heap[W.heap.size]? = some (.cells #[.bool false, .int .i64 0, .bool false, .int .u8 0, .int .u8 0, .int .u8 0, .int .u8 0, .string { data := #[] }] 43 (0, 0))) := ⟨below_key HZ1.out HX4.out⟩
      clear FW HX4
      have HI := fr_info (cs := #[.bool rf, .int .i64 ro, .bool rm, .int .u8 ((ka : Nat) : Int), .int .u8 ((kb : Nat) : Int), .int .u8 ((kc : Nat) : Int), .int .u8 ((kd : Nat) : Int), .string rd]) rfl
      go_wp2_with (refine wpList_store_row rfl 43 (.tmp 4) (.tmp 42) rfl W.heap.size #[.bool rf, .int .i64 ro, .bool rm, .int .u8 ((ka : Nat) : Int), .int .u8 ((kb : Nat) : Int), .int .u8 ((kc : Nat) : Int), .int .u8 ((kd : Nat) : Int), .string rd] rfl rfl 43 #[.bool false, .int .i64 0, .bool false, .int .u8 0, .int .u8 0, .int .u8 0, .int .u8 0, .string { data := #[] }] HZ4.out HI rfl (fr_all _ _ _ _ _ _ _ _) ?_)
      refine bodyPost_ret (ret_fr rfl _ _ W.heap.size 43 _ (0, 0) rfl (setRow_heap _ _ _ _ _ _ HZ4.out) rfl) rfl ?_
      rw [HQ.out]
      exact ⟨rfl, ⟨below_setRow HB4.out (Nat.le_refl _) _⟩⟩
    | true =>
      have HQ : Sl (bad x = true → resF (one (x :: y :: ys) masked most) = .tuple #[.agg #[.bool false, .int .i64 0, .bool false, .int .u8 0, .int .u8 0, .int .u8 0, .int .u8 0, .string { data := #[] }], .int .i64 0, .int .i64 91]) := ⟨fun h => by
        rw [one_cons, if_pos h]; rfl⟩
      have HQ2 : Sl (bad x = false → resF (one (x :: y :: ys) masked most) = .tuple #[.agg #[.bool false, .int .i64 0, .bool false, .int .u8 0, .int .u8 0, .int .u8 0, .int .u8 0, .string { data := #[] }], .int .i64 0, .int .i64 100]) := ⟨fun h => by
        rw [one_unlike h hu]; rfl⟩
      obtain ⟨f1, n1, k1, hg1⟩ : ∃ f n k, getF [x] most = (f, n, k) := ⟨_, _, _, rfl⟩
      clear hval
      obtain ⟨rf, ro, rm, ka, kb, kc, kd, rd, hval⟩ := val_parts f1
      have HK : Sl ((bad x = true ∧ k1 = 91) ∨ (bad x = false ∧ k1 = 90)) := ⟨by
        have := get_first x most
        rw [hg1] at this
        by_cases h : bad x = true
        · rw [if_pos h] at this; exact .inl ⟨h, this⟩
        · rw [if_neg h] at this; exact .inr ⟨by simpa using h, this⟩⟩
      have HV1 : Sl (SrcAt wa (.slice (some ⟨sb, so, none⟩) 1 cap) [x]) := ⟨by
        have h := src_sub (hv.below (Nat.le_refl _) HB1.out) 0 1 cap so (fun _ => rfl) (by omega) (by omega) hbl
        exact h⟩
      have FO : ∀ V, Globs V → SrcAt V (.slice (some ⟨sb, so, none⟩) 1 cap) [x] → Calls Tryd.prog 27 #[.slice (some ⟨sb, so, none⟩) 1 cap, .int .i64 most] V fun e w' => e = .returned (.tuple #[.agg #[.bool rf, .int .i64 ro, .bool rm, .int .u8 ((ka : Nat) : Int), .int .u8 ((kb : Nat) : Int), .int .u8 ((kc : Nat) : Int), .int .u8 ((kd : Nat) : Int), .string rd], .int .i64 (n1 : Int), .int .i64 (k1 : Int)]) ∧ Sl (Below V.heap.size V w') := fun V h1 h2 => by
        have := fget_any (some ⟨sb, so, none⟩) 1 cap [x] most V h1 h2 rfl (fun z hz => hsm z (by simp at hz; simp [hz])) (by omega) hmo
        rw [hg1, resF, hval] at this
        exact this
      have hcap : 1 ≤ cap := by omega
      clear hgf hval hg1 hs hg hv hbl hsm hm hmo hL hu hc1 hy FW
      go_enter Tryd.func21, Tryd.ntmps21
      go_wp2_with fail
      refine CU.mono ?_
      rintro e w2 ⟨rfl, rfl⟩
      clear CU
      go_upto_region 2 with fail
      obtain ⟨R, hR⟩ : ∃ R, wa.drew = R := ⟨_, rfl⟩
      have HS0 : Below wa.heap.size wa R := by rw [← hR]; exact (Below.refl _ _).drew
      refine wp_region_noPanic ?_
      refine wp_region_held (S := fun V => Below wa.heap.size wa V) (by kernel_rfl) ?_
      change wpAnyH _ _ _ _ _ _ _ _ wa.drew
      rw [hR]
      clear hR
      refine heldTake (d := some 21) (op := .move (Operand.tmp 1)) (g := none) 0 ?v0z rfl (by kernel_rfl) (by kernel_rfl) (by kernel_rfl) (by kernel_rfl) ?y0z HS0 ?_
      case y0z => intro o' ho W hS; simp only [execOp, ho]; go_simp; try rfl
      simp only [Act.put, List.setIfInBounds_toArray, List.set_cons_zero, List.set_cons_succ]
      refine heldTake (d := some 22) (op := .slice 32 (Operand.tmp 21) none (some (Operand.const (Value.int IntKind.i64 1))) none) (g := none) 1 (.slice (some ⟨sb, so, none⟩) 1 cap) rfl (by kernel_rfl) (by kernel_rfl) (by kernel_rfl) (by kernel_rfl) ?y1z HS0 ?_
      case y1z => intro o' ho W hS; exact slice_to ho (by rfl) (by rfl) hcap
      simp only [Act.put, List.setIfInBounds_toArray, List.set_cons_zero, List.set_cons_succ]
      refine heldTake (d := some 23) (op := .move (Operand.tmp 0)) (g := none) 2 ?v2z rfl (by kernel_rfl) (by kernel_rfl) (by kernel_rfl) (by kernel_rfl) ?y2z HS0 ?_
      case y2z => intro o' ho W hS; simp only [execOp, ho]; go_simp; try rfl
      simp only [Act.put, List.setIfInBounds_toArray, List.set_cons_zero, List.set_cons_succ]
      refine heldTake (d := some 24) (op := .nilCheck (Operand.tmp 23)) (g := none) 3 ?v3z rfl (by kernel_rfl) (by kernel_rfl) (by kernel_rfl) (by kernel_rfl) ?y3z HS0 ?_
      case y3z => intro o' ho W hS; simp only [execOp, ho]; go_simp; try rfl
      simp only [Act.put, List.setIfInBounds_toArray, List.set_cons_zero, List.set_cons_succ]
      refine heldTake (d := some 25) (op := .fieldAddr 51 (Operand.tmp 24) 1) (g := none) 4 ?v4z rfl (by kernel_rfl) (by kernel_rfl) (by kernel_rfl) (by kernel_rfl) ?y4z HS0 ?_
      case y4z => intro o' ho W hS; simp only [execOp, ho]; go_simp; try rfl
      simp only [Act.put, List.setIfInBounds_toArray, List.set_cons_zero, List.set_cons_succ]
      refine heldTake (d := some 26) (op := .load 3 (Operand.tmp 25)) (g := none) 5 ?v5z rfl (by kernel_rfl) (by kernel_rfl) (by kernel_rfl) (by kernel_rfl) ?y5z HS0 ?_
      case y5z => intro o' ho W hS; obtain ⟨_, d1, _, _⟩ := (HST1.out.below (hS.mono (Nat.le_refl _))).cells; simp only [execOp, ho]; go_simp; try rfl
      simp only [Act.put, List.setIfInBounds_toArray, List.set_cons_zero, List.set_cons_succ]
      obtain ⟨Aw, hA⟩ : ∃ V, R.alloc (.cells #[.bool false, .int .i64 0, .bool false, .int .u8 0, .int .u8 0, .int .u8 0, .int .u8 0, .string { data := #[] }] 43) = V := ⟨_, rfl⟩
      have HSA : Below wa.heap.size wa Aw := by rw [← hA]; exact HS0.alloc HS0.size _
      refine heldCA2 (di := some 7) (opi := .alloc 43) (dj := some 27) (opj := .call { callee := Callee.value (Operand.func 27), args := #[Operand.tmp 22, Operand.tmp 26], argTypes := #[32, 3] }) (ti := 0) (tj := 52) 11 6 (.pointer (some ⟨R.heap.size, 0, none⟩)) Aw 27 #[.slice (some ⟨sb, so, none⟩) 1 cap, .int .i64 most] rfl rfl (by kernel_rfl) ?y11a ?y6a HSA ?first ?second
      case y11a => intro o' ho ht; simp only [execOp, ho]; go_simp; first | done | rw [hA] | rfl
      case y6a => intro o' ho ht; simp only [execOp, ho]; go_simp; try rfl
      case first =>
        simp only [Act.put, List.setIfInBounds_toArray, List.set_cons_zero, List.set_cons_succ]
        refine heldCall (d := some 27) (op := .call { callee := Callee.value (Operand.func 27), args := #[Operand.tmp 22, Operand.tmp 26], argTypes := #[32, 3] }) (g := none) 6 27 #[.slice (some ⟨sb, so, none⟩) 1 cap, .int .i64 most] rfl (by kernel_rfl) (by kernel_rfl) ?y6p ?_
        case y6p => intro o' ho; simp only [execOp, ho]; go_simp; try rfl
        refine (FO Aw (HG.out.below (HST1.out.below HSA).L HG.out.size) (HV1.out.below (Nat.le_refl _) HSA)).mono ?_
        rintro e Zf ⟨rfl, HXZ⟩
        have HSZf : Below wa.heap.size wa Zf := HSA.trans (HXZ.out.mono HSA.size)
        refine ⟨_, rfl, HSZf, ?_⟩
        simp only [Act.put, List.setIfInBounds_toArray, List.set_cons_zero, List.set_cons_succ]
        refine heldTake (d := some 20) (op := .move (Operand.tmp 27)) (g := none) 7 ?v7f rfl (by kernel_rfl) (by kernel_rfl) (by kernel_rfl) (by kernel_rfl) ?y7f HSZf ?_
        case y7f => intro o' ho W hS; simp only [execOp, ho]; go_simp; try rfl
        simp only [Act.put, List.setIfInBounds_toArray, List.set_cons_zero, List.set_cons_succ]
        refine heldTake (d := some 28) (op := .extract (Operand.tmp 20) 0) (g := none) 8 ?v8f rfl (by kernel_rfl) (by kernel_rfl) (by kernel_rfl) (by kernel_rfl) ?y8f HSZf ?_
        case y8f => intro o' ho W hS; simp only [execOp, ho]; go_simp; try rfl
        simp only [Act.put, List.setIfInBounds_toArray, List.set_cons_zero, List.set_cons_succ]
        refine heldTake (d := some 29) (op := .extract (Operand.tmp 20) 1) (g := none) 9 ?v9f rfl (by kernel_rfl) (by kernel_rfl) (by kernel_rfl) (by kernel_rfl) ?y9f HSZf ?_
        case y9f => intro o' ho W hS; simp only [execOp, ho]; go_simp; try rfl
        simp only [Act.put, List.setIfInBounds_toArray, List.set_cons_zero, List.set_cons_succ]
        refine heldTake (d := some 30) (op := .extract (Operand.tmp 20) 2) (g := none) 10 ?v10f rfl (by kernel_rfl) (by kernel_rfl) (by kernel_rfl) (by kernel_rfl) ?y10f HSZf ?_
        case y10f => intro o' ho W hS; simp only [execOp, ho]; go_simp; try rfl
        simp only [Act.put, List.setIfInBounds_toArray, List.set_cons_zero, List.set_cons_succ]
        have HQf : wa.heap.size ≤ R.heap.size := HS0.size
        have HFf : Zf.heap[R.heap.size]? = some (.cells #[.bool false, .int .i64 0, .bool false, .int .u8 0, .int .u8 0, .int .u8 0, .int .u8 0, .string { data := #[] }] 43 (0, 0)) := below_key (by rw [← hA]; exact bx_new _ _) HXZ.out
        clear HXZ hA HSA
        obtain ⟨Yf, hYf⟩ : ∃ Y, Zf.setRow R.heap.size #[.bool rf, .int .i64 ro, .bool rm, .int .u8 ((ka : Nat) : Int), .int .u8 ((kb : Nat) : Int), .int .u8 ((kc : Nat) : Int), .int .u8 ((kd : Nat) : Int), .string rd] = Y := ⟨_, rfl⟩
        have HSYf : Below wa.heap.size wa Yf := by rw [← hYf]; exact below_setRow HSZf HQf _
        refine heldStore (d := none) (op := .store 43 (Operand.tmp 7) (Operand.tmp 28)) (g := none) (t := 0) 12 Yf rfl (by kernel_rfl) (by kernel_rfl) ?y12f HSYf ?_
        case y12f => intro o' ho ht; rw [← hYf]; exact store8 ho (by rfl) (by rfl) HFf ⟨rfl, rfl⟩ (fr_all _ _ _ _ _ _ _ _)
        simp only [Act.put]
        refine heldTake (d := some 8) (op := .assign (Operand.tmp 29)) (g := none) 13 ?v13f rfl (by kernel_rfl) (by kernel_rfl) (by kernel_rfl) (by kernel_rfl) ?y13f HSYf ?_
        case y13f => intro o' ho W hS; simp only [execOp, ho]; go_simp; try rfl
        simp only [Act.put, List.setIfInBounds_toArray, List.set_cons_zero, List.set_cons_succ]
        refine heldTake (d := some 9) (op := .assign (Operand.tmp 30)) (g := none) 14 ?v14f rfl (by kernel_rfl) (by kernel_rfl) (by kernel_rfl) (by kernel_rfl) ?y14f HSYf ?_
        case y14f => intro o' ho W hS; simp only [execOp, ho]; go_simp; try rfl
        simp only [Act.put, List.setIfInBounds_toArray, List.set_cons_zero, List.set_cons_succ]
        refine wpAnyH_done (by kernel_rfl) ?_ _
        refine NoPanic.normal ?_
        have HBY : Sl (Below W.heap.size W Yf) := ⟨HB1.out.trans (HSYf.mono HB1.out.size)⟩
        have HZY : Sl (Yf.heap[W.heap.size]? = some (.cells #[.bool false, .int .i64 0, .bool false, .int .u8 0, .int .u8 0, .int .u8 0, .int .u8 0, .string { data := #[] }] 43 (0, 0))) := ⟨below_key HZ1.out HSYf⟩
        clear HS0 HSZf HQf HFf hYf HSYf
        rcases HK.out with ⟨hb, rfl⟩ | ⟨hb, rfl⟩
        · have hq9 : (((91 : Nat) : Int) == 91) = true := rfl
          have HI := fr_info (cs := #[.bool false, .int .i64 0, .bool false, .int .u8 0, .int .u8 0, .int .u8 0, .int .u8 0, .string { data := #[] }]) rfl
          go_wp2_with (refine wpList_store_row rfl 43 (.tmp 4) (.tmp 33) rfl W.heap.size #[.bool false, .int .i64 0, .bool false, .int .u8 0, .int .u8 0, .int .u8 0, .int .u8 0, .string { data := #[] }] rfl rfl 43 #[.bool false, .int .i64 0, .bool false, .int .u8 0, .int .u8 0, .int .u8 0, .int .u8 0, .string { data := #[] }] HZY.out HI rfl (fr_all _ _ _ _ _ _ _ _) ?_)
          refine bodyPost_ret (ret_fr rfl _ _ W.heap.size 43 _ (0, 0) rfl (setRow_heap _ _ _ _ _ _ HZY.out) rfl) rfl ?_
          rw [HQ.out hb]
          exact ⟨rfl, ⟨below_setRow HBY.out (Nat.le_refl _) _⟩⟩
        · have hq9 : (((90 : Nat) : Int) == 91) = false := rfl
          have HI := fr_info (cs := #[.bool false, .int .i64 0, .bool false, .int .u8 0, .int .u8 0, .int .u8 0, .int .u8 0, .string { data := #[] }]) rfl
          go_wp2_with (refine wpList_store_row rfl 43 (.tmp 4) (.tmp 35) rfl W.heap.size #[.bool false, .int .i64 0, .bool false, .int .u8 0, .int .u8 0, .int .u8 0, .int .u8 0, .string { data := #[] }] rfl rfl 43 #[.bool false, .int .i64 0, .bool false, .int .u8 0, .int .u8 0, .int .u8 0, .int .u8 0, .string { data := #[] }] HZY.out HI rfl (fr_all _ _ _ _ _ _ _ _) ?_)
          refine bodyPost_ret (ret_fr rfl _ _ W.heap.size 43 _ (0, 0) rfl (setRow_heap _ _ _ _ _ _ HZY.out) rfl) rfl ?_
          rw [HQ2.out hb]
          exact ⟨rfl, ⟨below_setRow HBY.out (Nat.le_refl _) _⟩⟩
      case second =>
        refine (FO R (HG.out.below (HST1.out.below HS0).L HG.out.size) (HV1.out.below (Nat.le_refl _) HS0)).mono ?_
        rintro e Xs ⟨rfl, HXZ⟩
        have HSX : Below wa.heap.size wa Xs := HS0.trans (HXZ.out.mono HS0.size)
        refine ⟨_, rfl, HSX, ?_⟩
        simp only [Act.put, List.setIfInBounds_toArray, List.set_cons_zero, List.set_cons_succ]
        refine heldTake (d := some 20) (op := .move (Operand.tmp 27)) (g := none) 7 ?v7s rfl (by kernel_rfl) (by kernel_rfl) (by kernel_rfl) (by kernel_rfl) ?y7s HSX ?_
        case y7s => intro o' ho W hS; simp only [execOp, ho]; go_simp; try rfl
        simp only [Act.put, List.setIfInBounds_toArray, List.set_cons_zero, List.set_cons_succ]
        refine heldTake (d := some 28) (op := .extract (Operand.tmp 20) 0) (g := none) 8 ?v8s rfl (by kernel_rfl) (by kernel_rfl) (by kernel_rfl) (by kernel_rfl) ?y8s HSX ?_
        case y8s => intro o' ho W hS; simp only [execOp, ho]; go_simp; try rfl
        simp only [Act.put, List.setIfInBounds_toArray, List.set_cons_zero, List.set_cons_succ]
        refine heldTake (d := some 29) (op := .extract (Operand.tmp 20) 1) (g := none) 9 ?v9s rfl (by kernel_rfl) (by kernel_rfl) (by kernel_rfl) (by kernel_rfl) ?y9s HSX ?_
        case y9s => intro o' ho W hS; simp only [execOp, ho]; go_simp; try rfl
        simp only [Act.put, List.setIfInBounds_toArray, List.set_cons_zero, List.set_cons_succ]
        refine heldTake (d := some 30) (op := .extract (Operand.tmp 20) 2) (g := none) 10 ?v10s rfl (by kernel_rfl) (by kernel_rfl) (by kernel_rfl) (by kernel_rfl) ?y10s HSX ?_
        case y10s => intro o' ho W hS; simp only [execOp, ho]; go_simp; try rfl
        simp only [Act.put, List.setIfInBounds_toArray, List.set_cons_zero, List.set_cons_succ]
        obtain ⟨Zs, hZs⟩ : ∃ V, Xs.alloc (.cells #[.bool false, .int .i64 0, .bool false, .int .u8 0, .int .u8 0, .int .u8 0, .int .u8 0, .string { data := #[] }] 43) = V := ⟨_, rfl⟩
        have HSZs : Below wa.heap.size wa Zs := by rw [← hZs]; exact HSX.alloc HSX.size _
        refine heldRunT (d := some 7) (op := .alloc 43) (g := none) (t := 0) 11 (.pointer (some ⟨Xs.heap.size, 0, none⟩)) Zs rfl (by kernel_rfl) (by kernel_rfl) ?y11s HSZs ?_
        case y11s => intro o' ho _; simp only [execOp, ho]; go_simp; first | done | rw [hZs] | rfl
        simp only [Act.put, List.setIfInBounds_toArray, List.set_cons_zero, List.set_cons_succ]
        have HQs : wa.heap.size ≤ Xs.heap.size := HSX.size
        have HFs : Zs.heap[Xs.heap.size]? = some (.cells #[.bool false, .int .i64 0, .bool false, .int .u8 0, .int .u8 0, .int .u8 0, .int .u8 0, .string { data := #[] }] 43 (0, 0)) := by rw [← hZs]; exact bx_new _ _
        clear HXZ HSX hZs
        obtain ⟨Ys, hYs⟩ : ∃ Y, Zs.setRow Xs.heap.size #[.bool rf, .int .i64 ro, .bool rm, .int .u8 ((ka : Nat) : Int), .int .u8 ((kb : Nat) : Int), .int .u8 ((kc : Nat) : Int), .int .u8 ((kd : Nat) : Int), .string rd] = Y := ⟨_, rfl⟩
        have HSYs : Below wa.heap.size wa Ys := by rw [← hYs]; exact below_setRow HSZs HQs _
        refine heldStore (d := none) (op := .store 43 (Operand.tmp 7) (Operand.tmp 28)) (g := none) (t := 0) 12 Ys rfl (by kernel_rfl) (by kernel_rfl) ?y12s HSYs ?_
        case y12s => intro o' ho ht; rw [← hYs]; exact store8 ho (by rfl) (by rfl) HFs ⟨rfl, rfl⟩ (fr_all _ _ _ _ _ _ _ _)
        simp only [Act.put]
        refine heldTake (d := some 8) (op := .assign (Operand.tmp 29)) (g := none) 13 ?v13s rfl (by kernel_rfl) (by kernel_rfl) (by kernel_rfl) (by kernel_rfl) ?y13s HSYs ?_
        case y13s => intro o' ho W hS; simp only [execOp, ho]; go_simp; try rfl
        simp only [Act.put, List.setIfInBounds_toArray, List.set_cons_zero, List.set_cons_succ]
        refine heldTake (d := some 9) (op := .assign (Operand.tmp 30)) (g := none) 14 ?v14s rfl (by kernel_rfl) (by kernel_rfl) (by kernel_rfl) (by kernel_rfl) ?y14s HSYs ?_
        case y14s => intro o' ho W hS; simp only [execOp, ho]; go_simp; try rfl
        simp only [Act.put, List.setIfInBounds_toArray, List.set_cons_zero, List.set_cons_succ]
        refine wpAnyH_done (by kernel_rfl) ?_ _
        refine NoPanic.normal ?_
        have HBY : Sl (Below W.heap.size W Ys) := ⟨HB1.out.trans (HSYs.mono HB1.out.size)⟩
        have HZY : Sl (Ys.heap[W.heap.size]? = some (.cells #[.bool false, .int .i64 0, .bool false, .int .u8 0, .int .u8 0, .int .u8 0, .int .u8 0, .string { data := #[] }] 43 (0, 0))) := ⟨below_key HZ1.out HSYs⟩
        clear HS0 HSZs HQs HFs hYs HSYs
        rcases HK.out with ⟨hb, rfl⟩ | ⟨hb, rfl⟩
        · have hq9 : (((91 : Nat) : Int) == 91) = true := rfl
          have HI := fr_info (cs := #[.bool false, .int .i64 0, .bool false, .int .u8 0, .int .u8 0, .int .u8 0, .int .u8 0, .string { data := #[] }]) rfl
          go_wp2_with (refine wpList_store_row rfl 43 (.tmp 4) (.tmp 33) rfl W.heap.size #[.bool false, .int .i64 0, .bool false, .int .u8 0, .int .u8 0, .int .u8 0, .int .u8 0, .string { data := #[] }] rfl rfl 43 #[.bool false, .int .i64 0, .bool false, .int .u8 0, .int .u8 0, .int .u8 0, .int .u8 0, .string { data := #[] }] HZY.out HI rfl (fr_all _ _ _ _ _ _ _ _) ?_)
          refine bodyPost_ret (ret_fr rfl _ _ W.heap.size 43 _ (0, 0) rfl (setRow_heap _ _ _ _ _ _ HZY.out) rfl) rfl ?_
          rw [HQ.out hb]
          exact ⟨rfl, ⟨below_setRow HBY.out (Nat.le_refl _) _⟩⟩
        · have hq9 : (((90 : Nat) : Int) == 91) = false := rfl
          have HI := fr_info (cs := #[.bool false, .int .i64 0, .bool false, .int .u8 0, .int .u8 0, .int .u8 0, .int .u8 0, .string { data := #[] }]) rfl
          go_wp2_with (refine wpList_store_row rfl 43 (.tmp 4) (.tmp 35) rfl W.heap.size #[.bool false, .int .i64 0, .bool false, .int .u8 0, .int .u8 0, .int .u8 0, .int .u8 0, .string { data := #[] }] rfl rfl 43 #[.bool false, .int .i64 0, .bool false, .int .u8 0, .int .u8 0, .int .u8 0, .int .u8 0, .string { data := #[] }] HZY.out HI rfl (fr_all _ _ _ _ _ _ _ _) ?_)
          refine bodyPost_ret (ret_fr rfl _ _ W.heap.size 43 _ (0, 0) rfl (setRow_heap _ _ _ _ _ _ HZY.out) rfl) rfl ?_
          rw [HQ2.out hb]
          exact ⟨rfl, ⟨below_setRow HBY.out (Nat.le_refl _) _⟩⟩
end Go.Proofs.YtlgmgalopdfcaaaDoor
