/- frame: the frame that stands from a place on. -/
import Derived.Test.YtcelhondifaloaaDoorG
set_option maxRecDepth 100000
namespace Go.Proofs.YtcelhondifaloaaDoor
open Go.RowKit MaskPlain FramePlain Mas

theorem bx8 {W : World} {g : Nat} {c0 c1 c2 c3 c4 c5 c6 c7 : Value} (h : W.heap[g]? = some (.cells #[c0, c1, c2, c3, c4, c5, c6, c7] 24 (0, 0))) :
    W.cell? ⟨g, 0, none⟩ = some c0 ∧ W.cell? ⟨g, 1, none⟩ = some c1 ∧ W.cell? ⟨g, 2, none⟩ = some c2 ∧ W.cell? ⟨g, 3, none⟩ = some c3 ∧ W.cell? ⟨g, 4, none⟩ = some c4 ∧ W.cell? ⟨g, 5, none⟩ = some c5 ∧ W.cell? ⟨g, 6, none⟩ = some c6 ∧ W.cell? ⟨g, 7, none⟩ = some c7 := by
  refine ⟨?_, ?_, ?_, ?_, ?_, ?_, ?_, ?_⟩ <;> (rw [cell_of_row _ _ _ _ _ _ h]; rfl)
theorem loadbox8 {W : World} {ev : Operand → Value} {o : Oper} {x : Operand} {g : Nat} {cs : Array Value} (ho : o.op = .load 24 x) (hx : ev x = .pointer (some ⟨g, 0, none⟩)) (hs : cs.size = 8) (h : W.heap[g]? = some (.cells cs 24 (0, 0))) :
    (execOp ev o).run Tryd.prog W = .ok (.value (.agg cs)) W := by
  unfold execOp
  simp only [ho, hx, Instr.loadAt, Instr.sureAddr, Sem.run_bind, Sem.run_pure, Result.andThen_ok, run_loadVar_row W g 24 24 _ (0, 0) _ h Tryd.underlying24 rfl (fr_info hs)]
theorem below_setRow {w W : World} {B g : Nat} (h : Below B w W) (hg : B ≤ g) (cs : Array Value) : Below B w (W.setRow g cs) :=
  ⟨h.os, h.tape, h.output, by simpa [World.setRow] using h.size, fun k hk => by rw [setRow_other _ _ _ _ (by omega)]; exact h.block k hk⟩
theorem src_sub {W : World} {sb so L cap : Nat} {bs : List Nat} (h : SrcAt W (.slice (some ⟨sb, so, none⟩) L cap) bs) (i k c of : Nat) (hof : 0 < k → so + i = of) (hk : i + k ≤ L) (hc : k ≤ c) (hl : bs.length = L) : SrcAt W (.slice (some ⟨sb, of, none⟩) k c) ((bs.drop i).take k) := by
  obtain ⟨a, c', sb', so', he, h1, h2, h3⟩ := h
  have hlen : ((bs.drop i).take k).length = k := by rw [List.length_take, List.length_drop]; omega
  injection he with ea eb ec
  refine ⟨_, c, sb, of, by rw [hlen], by rw [hlen]; exact hc, fun _ => rfl, fun j hj => ?_⟩
  rw [hlen] at hj
  have := h2 (by omega)
  rw [this] at ea
  injection ea with ea
  injection ea with e1 e2
  subst e1 e2
  have h4 := h3 (i + j) (by omega)
  rw [← hof (by omega), show so + i + j = so + (i + j) by omega, h4]
  simp only [List.getD_eq_getElem?_getD, List.getElem?_take_of_lt hj, List.getElem?_drop]
theorem fr_all (f : Bool) (o : Int) (m : Bool) (a b c d : Int) (s : ByteArray) : (#[.bool f, .int .i64 o, .bool m, .int .u8 a, .int .u8 b, .int .u8 c, .int .u8 d, .string s] : Array Value).all (·.oneCell') = true := by simp [Value.oneCell']
theorem four_of (l : List Nat) (h : 4 ≤ l.length) : ∃ a b c d, l.take 4 = [a, b, c, d] := by
  match l, h with
  | a :: b :: c :: d :: _, _ => exact ⟨a, b, c, d, rfl⟩
theorem slice_run {W : World} {ev : Operand → Value} {o : Oper} {x y z : Operand} {sb so L cap i j k : Nat} (of : Nat) (hof : (if cap = i then so else so + i) = of) (ho : o.op = .slice 26 x (some y) (some z) none) (hx : ev x = .slice (some ⟨sb, so, none⟩) L cap) (hy : ev y = .int .i64 (i : Int)) (hz : ev z = .int .i64 (j : Int)) (hk : j - i = k) (hij : i ≤ j) (hj : j ≤ cap) :
    (execOp ev o).run Tryd.prog W = .ok (.value (.slice (some ⟨sb, of, none⟩) k (cap - i))) W := by
  subst hk hof
  simp only [execOp, ho, hx, hy, hz, Option.map_some, Option.map_none]
  by_cases hc : cap = i
  · subst hc
    rw [if_pos rfl]
    go_simp
  · rw [if_neg hc]
    go_simp
theorem copy_key {W : World} {B sb of c4 : Nat} {fin m : Bool} {op : Int} {s : ByteArray} {a b c d : Nat} (h : W.heap[B]? = some (.cells #[.bool fin, .int .i64 op, .bool m, .int .u8 0, .int .u8 0, .int .u8 0, .int .u8 0, .string s] 24 (0, 0))) (hs : SrcAt W (.slice (some ⟨sb, of, none⟩) 4 c4) [a, b, c, d]) :
    (Builtin.copy_ #[26, 26] 3 #[.slice (some ⟨B, 3, none⟩) 4 4, .slice (some ⟨sb, of, none⟩) 4 c4]).run Tryd.prog W = .ok (.int .i64 4) (W.setRow B #[.bool fin, .int .i64 op, .bool m, .int .u8 (a : Int), .int .u8 (b : Int), .int .u8 (c : Int), .int .u8 (d : Int), .string s]) := by
  obtain ⟨ad, c', sb', so', he, h1, h2, h3⟩ := hs
  injection he with ea eb ec
  rw [h2 (by simp)] at ea
  injection ea with ea
  injection ea with e1 e2
  subst e1 e2
  have := run_copy_row (P := Tryd.prog) W 26 26 3 5 B 3 4 4 ⟨sb, of, none⟩ 4 c4 _ 24 (u8s [a, b, c, d]) Tryd.underlying26 size5 h (by rfl) (fun j v hv => by
    have hj : j < 4 := (List.getElem?_eq_some_iff.1 hv).1
    rw [Addr.add_mid, h3 j hj, ← hv, u8s_get _ _ hj]) (by simp) (u8s_one _)
  exact this
theorem copy_none {W : World} {B sb of c4 : Nat} : (Builtin.copy_ #[26, 26] 3 #[.slice (some ⟨B, 3, none⟩) 4 4, .slice (some ⟨sb, of, none⟩) 0 c4]).run Tryd.prog W = .ok (.int .i64 0) W :=
  run_copy_none (P := Tryd.prog) W 26 26 3 5 _ _ 4 4 0 c4 Tryd.underlying26 size5 rfl

set_option maxHeartbeats 4000000 in
theorem filled_any (fin : Bool) (op : Int) (m : Bool) (sb so L cap p n : Nat) (bs : List Nat) (w : World) (hv : SrcAt w (.slice (some ⟨sb, so, none⟩) L cap) bs) (hl : bs.length = L) (hsm : Small 256 bs) (hm : L ≤ 100000) (hp : p ≤ L) (hn : n ≤ 9223372036854775807) :
    Calls Tryd.prog 25 #[.agg #[.bool fin, .int .i64 op, .bool m, .int .u8 0, .int .u8 0, .int .u8 0, .int .u8 0, .string { data := #[] }], .slice (some ⟨sb, so, none⟩) L cap, .int .i64 (p : Int), .int .u64 (n : Int)] w fun e w' => e = .returned (resF (fillF fin op m p n (bs.drop p))) ∧ Sl (Below w.heap.size w w') := by
  have HV := Sl.mk hv
  have hLc : L ≤ cap := by obtain ⟨_, c', _, _, he, h1, _⟩ := hv; injection he with _ _ ec; omega
  clear hv
  cases m with
  | true =>
    obtain ⟨w1, hw1⟩ : ∃ w1, w.alloc (.cells #[.bool fin, .int .i64 op, .bool true, .int .u8 0, .int .u8 0, .int .u8 0, .int .u8 0, .string { data := #[] }] 24) = w1 := ⟨_, rfl⟩
    have h1s : w1.heap.size = w.heap.size + 1 := by rw [← hw1]; exact alloc_size _ _
    obtain ⟨w2, hw2⟩ : ∃ w2, w1.alloc (.cells #[.bool false, .int .i64 0, .bool false, .int .u8 0, .int .u8 0, .int .u8 0, .int .u8 0, .string { data := #[] }] 24) = w2 := ⟨_, rfl⟩
    have HB2 : Sl (Below w.heap.size w w2) := ⟨by rw [← hw2, ← hw1]; exact (bx_below w _).out.alloc (by rw [alloc_size]; omega) _⟩
    have HY2 : Sl (w2.heap[w.heap.size]? = some (.cells #[.bool fin, .int .i64 op, .bool true, .int .u8 0, .int .u8 0, .int .u8 0, .int .u8 0, .string { data := #[] }] 24 (0, 0))) := ⟨by rw [← hw2, alloc_old _ _ _ (by omega), ← hw1]; exact bx_new _ _⟩
    have HZ2 : Sl (w2.heap[w.heap.size + 1]? = some (.cells #[.bool false, .int .i64 0, .bool false, .int .u8 0, .int .u8 0, .int .u8 0, .int .u8 0, .string { data := #[] }] 24 (0, 0))) := ⟨by rw [← hw2, ← h1s]; exact bx_new _ _⟩
    obtain ⟨p0, p1, p2, p3, p4, p5, p6, p7⟩ := bx8 HY2.out
    obtain ⟨q, hq⟩ : ∃ q, p + 4 = q := ⟨_, rfl⟩
    have C1 := fun W => keysize_n fin op true 0 0 0 0 { data := #[] } 4 W rfl
    have z1 : IntKind.i64.wrap ((p : Int) + 4) = (q : Int) := by rw [IntKind.wrap_i64]; omega
    rw [show ((4 : Nat) : Int) = 4 from rfl] at C1
    go_enter Tryd.func25, Tryd.ntmps25
    go_wp2_with fail
    refine (C1 _).mono ?_
    rintro e w3 ⟨rfl, HX3⟩
    have HB3 : Sl (Below w.heap.size w w3) := ⟨HB2.out.trans (HX3.out.mono HB2.out.size)⟩
    have HY3 : Sl (w3.heap[w.heap.size]? = some (.cells #[.bool fin, .int .i64 op, .bool true, .int .u8 0, .int .u8 0, .int .u8 0, .int .u8 0, .string { data := #[] }] 24 (0, 0))) := ⟨below_key HY2.out HX3.out⟩
    have HZ3 : Sl (w3.heap[w.heap.size + 1]? = some (.cells #[.bool false, .int .i64 0, .bool false, .int .u8 0, .int .u8 0, .int .u8 0, .int .u8 0, .string { data := #[] }] 24 (0, 0))) := ⟨below_key HZ2.out HX3.out⟩
    have HV3 : Sl (SrcAt w3 (.slice (some ⟨sb, so, none⟩) L cap) bs) := ⟨HV.out.below (Nat.le_refl _) HB3.out⟩
    clear HX3 HB2 HY2 HZ2 C1 p0 p1 p2 p3 p4 p5 p6 p7
    by_cases hL : L < q
    · have hLq : ((L : Int) < (q : Int)) = True := eq_true (by omega)
      have HQ : Sl (fillF fin op true p n (bs.drop p) = (Fr0, 0, 90)) := ⟨by unfold fillF; rw [if_pos rfl, if_pos (by rw [List.length_drop]; omega)]⟩
      clear hL
      have HI := fr_info (cs := #[.bool false, .int .i64 0, .bool false, .int .u8 0, .int .u8 0, .int .u8 0, .int .u8 0, .string { data := #[] }]) rfl
      go_wp2_with (refine wpList_store_row rfl 24 (.tmp 8) (.tmp 30) rfl (w.heap.size + 1) #[.bool false, .int .i64 0, .bool false, .int .u8 0, .int .u8 0, .int .u8 0, .int .u8 0, .string { data := #[] }] rfl rfl 24 #[.bool false, .int .i64 0, .bool false, .int .u8 0, .int .u8 0, .int .u8 0, .int .u8 0, .string { data := #[] }] HZ3.out HI rfl (fr_all _ _ _ _ _ _ _ _) ?_)
      go_wp2
      refine bodyPost_ret (ret_fr rfl _ _ (w.heap.size + 1) 24 _ (0, 0) rfl (setRow_heap _ _ _ _ _ _ HZ3.out) rfl) rfl ?_
      rw [HQ.out]
      exact ⟨rfl, ⟨below_setRow HB3.out (by omega) _⟩⟩
    · have hLq : ((L : Int) < (q : Int)) = False := eq_false (by omega)
      obtain ⟨r, hr⟩ : ∃ r, L - q = r := ⟨_, rfl⟩
      have z2 : IntKind.i64.wrap ((L : Int) - (q : Int)) = (r : Int) := by rw [IntKind.wrap_i64]; omega
      have z3 : IntKind.u64.wrap (r : Int) = (r : Int) := by rw [IntKind.wrap_u64]; omega
      by_cases hrn : r < n
      · have hrn' : ((r : Int) < (n : Int)) = True := eq_true (by omega)
        have HQ : Sl (fillF fin op true p n (bs.drop p) = (Fr0, 0, 90)) := ⟨by unfold fillF; rw [if_pos rfl, if_pos (by rw [List.length_drop]; omega)]⟩
        clear hrn hL
        have HI := fr_info (cs := #[.bool false, .int .i64 0, .bool false, .int .u8 0, .int .u8 0, .int .u8 0, .int .u8 0, .string { data := #[] }]) rfl
        go_wp2_with (refine wpList_store_row rfl 24 (.tmp 8) (.tmp 30) rfl (w.heap.size + 1) #[.bool false, .int .i64 0, .bool false, .int .u8 0, .int .u8 0, .int .u8 0, .int .u8 0, .string { data := #[] }] rfl rfl 24 #[.bool false, .int .i64 0, .bool false, .int .u8 0, .int .u8 0, .int .u8 0, .int .u8 0, .string { data := #[] }] HZ3.out HI rfl (fr_all _ _ _ _ _ _ _ _) ?_)
        go_wp2
        refine bodyPost_ret (ret_fr rfl _ _ (w.heap.size + 1) 24 _ (0, 0) rfl (setRow_heap _ _ _ _ _ _ HZ3.out) rfl) rfl ?_
        rw [HQ.out]
        exact ⟨rfl, ⟨below_setRow HB3.out (by omega) _⟩⟩
      · have hrn' : ((r : Int) < (n : Int)) = False := eq_false (by omega)
        obtain ⟨en, hen⟩ : ∃ en, q + n = en := ⟨_, rfl⟩
        have hpq : p ≤ q := by omega
        have hqc : q ≤ cap := by omega
        have hqe : q ≤ en := by omega
        have hec : en ≤ cap := by omega
        obtain ⟨of4, hof4⟩ : ∃ of4, (if cap = p then so else so + p) = of4 := ⟨_, rfl⟩
        obtain ⟨of6, hof6⟩ : ∃ of6, (if cap = q then so else so + q) = of6 := ⟨_, rfl⟩
        have z4 : IntKind.i64.wrap (n : Int) = (n : Int) := by rw [IntKind.wrap_i64]; omega
        have z5 : IntKind.i64.wrap ((q : Int) + (n : Int)) = (en : Int) := by rw [IntKind.wrap_i64]; omega
        go_upto_region 4 with fail
        obtain ⟨Rw, hR⟩ : ∃ Rw, w3.drew = Rw := ⟨_, rfl⟩
        have HBR : Sl (Below w.heap.size w Rw) := ⟨by rw [← hR]; exact HB3.out.drew⟩
        have HYR : Sl (Rw.heap[w.heap.size]? = some (.cells #[.bool fin, .int .i64 op, .bool true, .int .u8 0, .int .u8 0, .int .u8 0, .int .u8 0, .string { data := #[] }] 24 (0, 0))) := ⟨by rw [← hR]; exact HY3.out⟩
        have HZR : Sl (Rw.heap[w.heap.size + 1]? = some (.cells #[.bool false, .int .i64 0, .bool false, .int .u8 0, .int .u8 0, .int .u8 0, .int .u8 0, .string { data := #[] }] 24 (0, 0))) := ⟨by rw [← hR]; exact HZ3.out⟩
        have HVR : Sl (SrcAt Rw (.slice (some ⟨sb, so, none⟩) L cap) bs) := ⟨HV.out.below (Nat.le_refl _) HBR.out⟩
        have HS0 : Below w.heap.size w Rw := HBR.out
        refine wp_region_noPanic ?_
        refine wp_region_held (S := fun W => Below w.heap.size w W) (by kernel_rfl) ?_
        change wpAnyH _ _ _ _ _ _ _ _ w3.drew
        rw [hR]
        clear hR HB3 HY3 HZ3 HV3
        refine heldTake (d := some 31) (op := .fieldAddr 24 (Operand.tmp 4) 3) (g := none) 0 ?v0rs rfl (by kernel_rfl) (by kernel_rfl) (by kernel_rfl) (by kernel_rfl) ?y0rs HS0 ?_
        case y0rs => intro o' ho W hS; simp only [execOp, ho]; go_simp; try rfl
        simp only [Act.put, List.setIfInBounds_toArray, List.set_cons_zero, List.set_cons_succ]
        refine heldTake (d := some 32) (op := .slice 22 (Operand.tmp 31) none none none) (g := none) 1 ?v1rs rfl (by kernel_rfl) (by kernel_rfl) (by kernel_rfl) (by kernel_rfl) ?y1rs HS0 ?_
        case y1rs => intro o' ho W hS; simp only [execOp, ho]; go_simp; try rfl
        simp only [Act.put, List.setIfInBounds_toArray, List.set_cons_zero, List.set_cons_succ]
        refine heldTake (d := some 33) (op := .move (Operand.tmp 1)) (g := none) 2 ?v2rs rfl (by kernel_rfl) (by kernel_rfl) (by kernel_rfl) (by kernel_rfl) ?y2rs HS0 ?_
        case y2rs => intro o' ho W hS; simp only [execOp, ho]; go_simp; try rfl
        simp only [Act.put, List.setIfInBounds_toArray, List.set_cons_zero, List.set_cons_succ]
        refine heldTake (d := some 34) (op := .move (Operand.tmp 2)) (g := none) 3 ?v3rs rfl (by kernel_rfl) (by kernel_rfl) (by kernel_rfl) (by kernel_rfl) ?y3rs HS0 ?_
        case y3rs => intro o' ho W hS; simp only [execOp, ho]; go_simp; try rfl
        simp only [Act.put, List.setIfInBounds_toArray, List.set_cons_zero, List.set_cons_succ]
        refine heldTake (d := some 35) (op := .move (Operand.tmp 11)) (g := none) 4 ?v4rs rfl (by kernel_rfl) (by kernel_rfl) (by kernel_rfl) (by kernel_rfl) ?y4rs HS0 ?_
        case y4rs => intro o' ho W hS; simp only [execOp, ho]; go_simp; try rfl
        simp only [Act.put, List.setIfInBounds_toArray, List.set_cons_zero, List.set_cons_succ]
        refine heldTake (d := some 36) (op := .slice 26 (Operand.tmp 33) (some (Operand.tmp 34)) (some (Operand.tmp 35)) none) (g := none) 5 (.slice (some ⟨sb, of4, none⟩) 4 (cap - p)) rfl (by kernel_rfl) (by kernel_rfl) (by kernel_rfl) (by kernel_rfl) ?y5rs HS0 ?_
        case y5rs => intro o' ho W hS; exact slice_run of4 hof4 ho (by rfl) (by rfl) (by rfl) (by omega) hpq hqc
        simp only [Act.put, List.setIfInBounds_toArray, List.set_cons_zero, List.set_cons_succ]
        obtain ⟨a, b, c, d, hkey⟩ := four_of (bs.drop p) (by rw [List.length_drop]; omega)
        have HKS : Small 256 [a, b, c, d] := by rw [← hkey]; exact (hsm.drop p).take 4
        obtain ⟨w4, hw4⟩ : ∃ W, Rw.setRow w.heap.size #[.bool fin, .int .i64 op, .bool true, .int .u8 (a : Int), .int .u8 (b : Int), .int .u8 (c : Int), .int .u8 (d : Int), .string { data := #[] }] = W := ⟨_, rfl⟩
        have hcp : (Builtin.copy_ #[26, 26] 3 #[.slice (some ⟨w.heap.size, 3, none⟩) 4 4, .slice (some ⟨sb, of4, none⟩) 4 (cap - p)]).run Tryd.prog Rw = .ok (.int .i64 4) w4 := by
          rw [← hw4]
          exact copy_key HYR.out (by rw [← hkey]; exact src_sub HVR.out p 4 _ of4 (fun _ => by rw [← hof4, if_neg (by omega)]) (by omega) (by omega) hl)
        have HB4 : Sl (Below w.heap.size w w4) := ⟨by rw [← hw4]; exact below_setRow HBR.out (Nat.le_refl _) _⟩
        have HY4 : Sl (w4.heap[w.heap.size]? = some (.cells #[.bool fin, .int .i64 op, .bool true, .int .u8 (a : Int), .int .u8 (b : Int), .int .u8 (c : Int), .int .u8 (d : Int), .string { data := #[] }] 24 (0, 0))) := ⟨by rw [← hw4]; exact setRow_heap _ _ _ _ _ _ HYR.out⟩
        have HZ4 : Sl (w4.heap[w.heap.size + 1]? = some (.cells #[.bool false, .int .i64 0, .bool false, .int .u8 0, .int .u8 0, .int .u8 0, .int .u8 0, .string { data := #[] }] 24 (0, 0))) := ⟨by rw [← hw4, setRow_other _ _ _ _ (by omega)]; exact HZR.out⟩
        refine heldRunT (d := some 37) (op := .call { callee := Callee.builtin Builtin.copy, args := #[Operand.tmp 32, Operand.tmp 36], argTypes := #[26, 26] }) (g := none) (t := 3) 6 (.int .i64 4) w4 rfl (by kernel_rfl) (by kernel_rfl) ?y6cs HB4.out ?_
        case y6cs => intro o' ho ht; simp only [execOp, ho, ht, resolve, invoke, builtin, Sem.run_bind, Sem.run_pure, Result.andThen_ok, List.map_toArray, List.map_cons, List.map_nil]; refine (congrArg (fun r => Result.andThen r _) hcp).trans ?_; rfl
        simp only [Act.put, List.setIfInBounds_toArray, List.set_cons_zero, List.set_cons_succ]
        refine wpAnyH_done (by kernel_rfl) ?_ _
        refine NoPanic.normal ?_
        clear HBR HYR HZR HVR HS0 hcp hw4
        have HV4 : Sl (SrcAt w4 (.slice (some ⟨sb, so, none⟩) L cap) bs) := ⟨HV.out.below (Nat.le_refl _) HB4.out⟩
        go_upto_region 6 with fail
        obtain ⟨Rw, hR⟩ : ∃ Rw, w4.drew = Rw := ⟨_, rfl⟩
        have HS0 : Below w.heap.size w Rw := by rw [← hR]; exact HB4.out.drew
        have HYR : Rw.heap[w.heap.size]? = some (.cells #[.bool fin, .int .i64 op, .bool true, .int .u8 (a : Int), .int .u8 (b : Int), .int .u8 (c : Int), .int .u8 (d : Int), .string { data := #[] }] 24 (0, 0)) := by rw [← hR]; exact HY4.out
        have HZR : Sl (Rw.heap[w.heap.size + 1]? = some (.cells #[.bool false, .int .i64 0, .bool false, .int .u8 0, .int .u8 0, .int .u8 0, .int .u8 0, .string { data := #[] }] 24 (0, 0))) := ⟨by rw [← hR]; exact HZ4.out⟩
        have HVR : Sl (SrcAt Rw (.slice (some ⟨sb, so, none⟩) L cap) bs) := ⟨HV.out.below (Nat.le_refl _) HS0⟩
        refine wp_region_noPanic ?_
        refine wp_region_held (S := fun W => Below w.heap.size w W) (by kernel_rfl) ?_
        change wpAnyH _ _ _ _ _ _ _ _ w4.drew
        rw [hR]
        clear hR HB4 HY4 HZ4 HV4
        refine heldTake (d := some 43) (op := .move (Operand.tmp 1)) (g := none) 1 ?v1s rfl (by kernel_rfl) (by kernel_rfl) (by kernel_rfl) (by kernel_rfl) ?y1s HS0 ?_
        case y1s => intro o' ho W hS; simp only [execOp, ho]; go_simp; try rfl
        simp only [Act.put, List.setIfInBounds_toArray, List.set_cons_zero, List.set_cons_succ]
        refine heldTake (d := some 44) (op := .move (Operand.tmp 11)) (g := none) 2 ?v2s rfl (by kernel_rfl) (by kernel_rfl) (by kernel_rfl) (by kernel_rfl) ?y2s HS0 ?_
        case y2s => intro o' ho W hS; simp only [execOp, ho]; go_simp; try rfl
        simp only [Act.put, List.setIfInBounds_toArray, List.set_cons_zero, List.set_cons_succ]
        refine heldTake (d := some 45) (op := .move (Operand.tmp 12)) (g := none) 3 ?v3s rfl (by kernel_rfl) (by kernel_rfl) (by kernel_rfl) (by kernel_rfl) ?y3s HS0 ?_
        case y3s => intro o' ho W hS; simp only [execOp, ho]; go_simp; try rfl
        simp only [Act.put, List.setIfInBounds_toArray, List.set_cons_zero, List.set_cons_succ]
        refine heldTake (d := some 46) (op := .slice 26 (Operand.tmp 43) (some (Operand.tmp 44)) (some (Operand.tmp 45)) none) (g := none) 4 (.slice (some ⟨sb, of6, none⟩) n (cap - q)) rfl (by kernel_rfl) (by kernel_rfl) (by kernel_rfl) (by kernel_rfl) ?y4s HS0 ?_
        case y4s => intro o' ho W hS; exact slice_run of6 hof6 ho (by rfl) (by rfl) (by rfl) (by omega) hqe hec
        simp only [Act.put, List.setIfInBounds_toArray, List.set_cons_zero, List.set_cons_succ]
        refine heldRunT (d := some 42) (op := .load 24 (Operand.tmp 4)) (g := none) (t := 24) 0 (.agg #[.bool fin, .int .i64 op, .bool true, .int .u8 (a : Int), .int .u8 (b : Int), .int .u8 (c : Int), .int .u8 (d : Int), .string { data := #[] }]) Rw rfl (by kernel_rfl) (by kernel_rfl) ?y0s HS0 ?_
        case y0s => intro o' ho _; exact loadbox8 ho (by rfl) rfl HYR
        simp only [Act.put, List.setIfInBounds_toArray, List.set_cons_zero, List.set_cons_succ]
        refine heldCall (d := some 47) (op := .call { callee := Callee.value (Operand.func 21), args := #[Operand.tmp 42, Operand.tmp 46], argTypes := #[24, 26] }) (g := none) 5 21 #[.agg #[.bool fin, .int .i64 op, .bool true, .int .u8 (a : Int), .int .u8 (b : Int), .int .u8 (c : Int), .int .u8 (d : Int), .string { data := #[] }], .slice (some ⟨sb, of6, none⟩) n (cap - q)] rfl (by kernel_rfl) (by kernel_rfl) ?y5s ?_
        case y5s => intro o' ho; simp only [execOp, ho]; go_simp; try rfl
        refine (turned_any fin op true a b c d { data := #[] } sb of6 n (cap - q) ((bs.drop q).take n) Rw HKS (src_sub HVR.out q n (cap - q) of6 (fun _ => by rw [← hof6, if_neg (by omega)]) (by omega) (by omega) hl) ((hsm.drop q).take n) (by rw [List.length_take, List.length_drop]; omega) (by omega)).mono ?_
        rintro e X ⟨gt, ot, ct, rfl, HSX, HXX⟩
        have HS1 : Below w.heap.size w X := HS0.trans (HXX.out.mono HS0.size)
        have HYX : X.heap[w.heap.size]? = some (.cells #[.bool fin, .int .i64 op, .bool true, .int .u8 (a : Int), .int .u8 (b : Int), .int .u8 (c : Int), .int .u8 (d : Int), .string { data := #[] }] 24 (0, 0)) := below_key HYR HXX.out
        have HZX : Sl (X.heap[w.heap.size + 1]? = some (.cells #[.bool false, .int .i64 0, .bool false, .int .u8 0, .int .u8 0, .int .u8 0, .int .u8 0, .string { data := #[] }] 24 (0, 0))) := ⟨below_key HZR.out HXX.out⟩
        obtain ⟨DT, hDT⟩ : ∃ DT, tb true [a, b, c, d] ((bs.drop q).take n) = DT := ⟨_, rfl⟩
        have HQ : Sl (fillF fin op true p n (bs.drop p) = (⟨fin, op, true, [a, b, c, d], DT⟩, en, 0)) := ⟨by unfold fillF; rw [if_pos rfl, if_neg (by rw [List.length_drop]; omega), hkey, ← hDT, List.drop_drop, hq, hen]; rfl⟩
        rw [hDT] at HSX
        have hcv := HSX.out.conv
        obtain ⟨w5, hw5⟩ : ∃ W, X.setCell ⟨w.heap.size, 7, none⟩ (.string (strOf DT)) = W := ⟨_, rfl⟩
        have hfz : X.frozen? ⟨w.heap.size, 7, none⟩ = false := frozen_of_row _ _ _ _ _ HYX
        have hc7 : X.cell? ⟨w.heap.size, 7, none⟩ = some (.string { data := #[] }) := (bx8 HYX).2.2.2.2.2.2.2
        have HY5 : Sl (w5.heap[w.heap.size]? = some (.cells #[.bool fin, .int .i64 op, .bool true, .int .u8 (a : Int), .int .u8 (b : Int), .int .u8 (c : Int), .int .u8 (d : Int), .string (strOf DT)] 24 (0, 0))) := ⟨by rw [← hw5, heap_setCell_same _ _ _ _ _ _ HYX]; rfl⟩
        have HZ5 : Sl (w5.heap[w.heap.size + 1]? = some (.cells #[.bool false, .int .i64 0, .bool false, .int .u8 0, .int .u8 0, .int .u8 0, .int .u8 0, .string { data := #[] }] 24 (0, 0))) := ⟨by rw [← hw5, heap_setCell_other _ _ _ _ (by show w.heap.size + 1 ≠ w.heap.size; omega)]; exact HZX.out⟩
        have HB5 : Sl (Below w.heap.size w w5) := ⟨by rw [← hw5]; exact HS1.setCell (Nat.le_refl _) _⟩
        refine ⟨_, rfl, HS1, ?_⟩
        simp only [Act.put, List.setIfInBounds_toArray, List.set_cons_zero, List.set_cons_succ]
        refine heldRunT (d := some 48) (op := .convert 26 9 (Operand.tmp 47)) (g := none) (t := 9) 6 (.string (strOf DT)) X rfl (by kernel_rfl) (by kernel_rfl) ?y6s HS1 ?_
        case y6s => intro o' ho _; simp only [execOp, ho]; simp only [Sem.run_bind, Sem.run_pure]; refine (congrArg (fun r => Result.andThen r _) hcv).trans ?_; rfl
        simp only [Act.put, List.setIfInBounds_toArray, List.set_cons_zero, List.set_cons_succ]
        refine heldTake (d := some 49) (op := .fieldAddr 24 (Operand.tmp 4) 4) (g := none) 7 ?v7s rfl (by kernel_rfl) (by kernel_rfl) (by kernel_rfl) (by kernel_rfl) ?y7s HS1 ?_
        case y7s => intro o' ho W hS; simp only [execOp, ho]; go_simp; try rfl
        simp only [Act.put, List.setIfInBounds_toArray, List.set_cons_zero, List.set_cons_succ]
        refine heldStore (d := none) (op := .store 9 (Operand.tmp 49) (Operand.tmp 48)) (g := none) (t := 0) 8 w5 rfl (by kernel_rfl) (by kernel_rfl) ?y8s HB5.out ?_
        case y8s => intro o' ho ht; simp only [execOp, ho]; go_simp; first | done | rw [hw5] | rfl
        simp only [Act.put]
        refine wpAnyH_done (by kernel_rfl) ?_ _
        refine NoPanic.normal ?_
        have HI := fr_info (cs := #[.bool fin, .int .i64 op, .bool true, .int .u8 (a : Int), .int .u8 (b : Int), .int .u8 (c : Int), .int .u8 (d : Int), .string (strOf DT)]) rfl
        obtain ⟨h0, h1, h2, h3, h4, h5, h6, h7⟩ := bx8 HY5.out
        clear HSX hcv hfz hc7 hw5 HZX HYX HS1 HXX
        go_wp2_with (refine wpList_store_row rfl 24 (.tmp 8) (.tmp 50) rfl (w.heap.size + 1) #[.bool fin, .int .i64 op, .bool true, .int .u8 (a : Int), .int .u8 (b : Int), .int .u8 (c : Int), .int .u8 (d : Int), .string (strOf DT)] rfl rfl 24 #[.bool false, .int .i64 0, .bool false, .int .u8 0, .int .u8 0, .int .u8 0, .int .u8 0, .string { data := #[] }] HZ5.out HI rfl (fr_all _ _ _ _ _ _ _ _) ?_)
        go_wp2
        refine bodyPost_ret (ret_fr rfl _ _ (w.heap.size + 1) 24 _ (0, 0) rfl (setRow_heap _ _ _ _ _ _ HZ5.out) rfl) rfl ?_
        rw [HQ.out]
        exact ⟨rfl, ⟨below_setRow HB5.out (by omega) _⟩⟩
  | false =>
    obtain ⟨w1, hw1⟩ : ∃ w1, w.alloc (.cells #[.bool fin, .int .i64 op, .bool false, .int .u8 0, .int .u8 0, .int .u8 0, .int .u8 0, .string { data := #[] }] 24) = w1 := ⟨_, rfl⟩
    have h1s : w1.heap.size = w.heap.size + 1 := by rw [← hw1]; exact alloc_size _ _
    obtain ⟨w2, hw2⟩ : ∃ w2, w1.alloc (.cells #[.bool false, .int .i64 0, .bool false, .int .u8 0, .int .u8 0, .int .u8 0, .int .u8 0, .string { data := #[] }] 24) = w2 := ⟨_, rfl⟩
    have HB2 : Sl (Below w.heap.size w w2) := ⟨by rw [← hw2, ← hw1]; exact (bx_below w _).out.alloc (by rw [alloc_size]; omega) _⟩
    have HY2 : Sl (w2.heap[w.heap.size]? = some (.cells #[.bool fin, .int .i64 op, .bool false, .int .u8 0, .int .u8 0, .int .u8 0, .int .u8 0, .string { data := #[] }] 24 (0, 0))) := ⟨by rw [← hw2, alloc_old _ _ _ (by omega), ← hw1]; exact bx_new _ _⟩
    have HZ2 : Sl (w2.heap[w.heap.size + 1]? = some (.cells #[.bool false, .int .i64 0, .bool false, .int .u8 0, .int .u8 0, .int .u8 0, .int .u8 0, .string { data := #[] }] 24 (0, 0))) := ⟨by rw [← hw2, ← h1s]; exact bx_new _ _⟩
    obtain ⟨p0, p1, p2, p3, p4, p5, p6, p7⟩ := bx8 HY2.out
    have C1 := fun W => keysize_n fin op false 0 0 0 0 { data := #[] } 0 W rfl
    have z1 : IntKind.i64.wrap (p : Int) = (p : Int) := by rw [IntKind.wrap_i64]; omega
    rw [show ((0 : Nat) : Int) = 0 from rfl] at C1
    go_enter Tryd.func25, Tryd.ntmps25
    go_wp2_with fail
    refine (C1 _).mono ?_
    rintro e w3 ⟨rfl, HX3⟩
    have HB3 : Sl (Below w.heap.size w w3) := ⟨HB2.out.trans (HX3.out.mono HB2.out.size)⟩
    have HY3 : Sl (w3.heap[w.heap.size]? = some (.cells #[.bool fin, .int .i64 op, .bool false, .int .u8 0, .int .u8 0, .int .u8 0, .int .u8 0, .string { data := #[] }] 24 (0, 0))) := ⟨below_key HY2.out HX3.out⟩
    have HZ3 : Sl (w3.heap[w.heap.size + 1]? = some (.cells #[.bool false, .int .i64 0, .bool false, .int .u8 0, .int .u8 0, .int .u8 0, .int .u8 0, .string { data := #[] }] 24 (0, 0))) := ⟨below_key HZ2.out HX3.out⟩
    have HV3 : Sl (SrcAt w3 (.slice (some ⟨sb, so, none⟩) L cap) bs) := ⟨HV.out.below (Nat.le_refl _) HB3.out⟩
    clear HX3 HB2 HY2 HZ2 C1 p0 p1 p2 p3 p4 p5 p6 p7
    by_cases hL : L < p
    · have hLq : ((L : Int) < (p : Int)) = True := eq_true (by omega)
      have HQ : Sl (fillF fin op false p n (bs.drop p) = (Fr0, 0, 90)) := ⟨by unfold fillF; rw [if_neg (by decide), if_pos (by rw [List.length_drop]; omega)]⟩
      clear hL
      have HI := fr_info (cs := #[.bool false, .int .i64 0, .bool false, .int .u8 0, .int .u8 0, .int .u8 0, .int .u8 0, .string { data := #[] }]) rfl
      go_wp2_with (refine wpList_store_row rfl 24 (.tmp 8) (.tmp 30) rfl (w.heap.size + 1) #[.bool false, .int .i64 0, .bool false, .int .u8 0, .int .u8 0, .int .u8 0, .int .u8 0, .string { data := #[] }] rfl rfl 24 #[.bool false, .int .i64 0, .bool false, .int .u8 0, .int .u8 0, .int .u8 0, .int .u8 0, .string { data := #[] }] HZ3.out HI rfl (fr_all _ _ _ _ _ _ _ _) ?_)
      go_wp2
      refine bodyPost_ret (ret_fr rfl _ _ (w.heap.size + 1) 24 _ (0, 0) rfl (setRow_heap _ _ _ _ _ _ HZ3.out) rfl) rfl ?_
      rw [HQ.out]
      exact ⟨rfl, ⟨below_setRow HB3.out (by omega) _⟩⟩
    · have hLq : ((L : Int) < (p : Int)) = False := eq_false (by omega)
      obtain ⟨r, hr⟩ : ∃ r, L - p = r := ⟨_, rfl⟩
      have z2 : IntKind.i64.wrap ((L : Int) - (p : Int)) = (r : Int) := by rw [IntKind.wrap_i64]; omega
      have z3 : IntKind.u64.wrap (r : Int) = (r : Int) := by rw [IntKind.wrap_u64]; omega
      by_cases hrn : r < n
      · have hrn' : ((r : Int) < (n : Int)) = True := eq_true (by omega)
        have HQ : Sl (fillF fin op false p n (bs.drop p) = (Fr0, 0, 90)) := ⟨by unfold fillF; rw [if_neg (by decide), if_pos (by rw [List.length_drop]; omega)]⟩
        clear hrn hL
        have HI := fr_info (cs := #[.bool false, .int .i64 0, .bool false, .int .u8 0, .int .u8 0, .int .u8 0, .int .u8 0, .string { data := #[] }]) rfl
        go_wp2_with (refine wpList_store_row rfl 24 (.tmp 8) (.tmp 30) rfl (w.heap.size + 1) #[.bool false, .int .i64 0, .bool false, .int .u8 0, .int .u8 0, .int .u8 0, .int .u8 0, .string { data := #[] }] rfl rfl 24 #[.bool false, .int .i64 0, .bool false, .int .u8 0, .int .u8 0, .int .u8 0, .int .u8 0, .string { data := #[] }] HZ3.out HI rfl (fr_all _ _ _ _ _ _ _ _) ?_)
        go_wp2
        refine bodyPost_ret (ret_fr rfl _ _ (w.heap.size + 1) 24 _ (0, 0) rfl (setRow_heap _ _ _ _ _ _ HZ3.out) rfl) rfl ?_
        rw [HQ.out]
        exact ⟨rfl, ⟨below_setRow HB3.out (by omega) _⟩⟩
      · have hrn' : ((r : Int) < (n : Int)) = False := eq_false (by omega)
        obtain ⟨en, hen⟩ : ∃ en, p + n = en := ⟨_, rfl⟩
        have hpq : p ≤ p := by omega
        have hqc : p ≤ cap := by omega
        have hqe : p ≤ en := by omega
        have hec : en ≤ cap := by omega
        obtain ⟨of4, hof4⟩ : ∃ of4, (if cap = p then so else so + p) = of4 := ⟨_, rfl⟩
        obtain ⟨of6, hof6⟩ : ∃ of6, (if cap = p then so else so + p) = of6 := ⟨_, rfl⟩
        have z4 : IntKind.i64.wrap (n : Int) = (n : Int) := by rw [IntKind.wrap_i64]; omega
        have z5 : IntKind.i64.wrap ((p : Int) + (n : Int)) = (en : Int) := by rw [IntKind.wrap_i64]; omega
        go_upto_region 4 with fail
        obtain ⟨Rw, hR⟩ : ∃ Rw, w3.drew = Rw := ⟨_, rfl⟩
        have HBR : Sl (Below w.heap.size w Rw) := ⟨by rw [← hR]; exact HB3.out.drew⟩
        have HYR : Sl (Rw.heap[w.heap.size]? = some (.cells #[.bool fin, .int .i64 op, .bool false, .int .u8 0, .int .u8 0, .int .u8 0, .int .u8 0, .string { data := #[] }] 24 (0, 0))) := ⟨by rw [← hR]; exact HY3.out⟩
        have HZR : Sl (Rw.heap[w.heap.size + 1]? = some (.cells #[.bool false, .int .i64 0, .bool false, .int .u8 0, .int .u8 0, .int .u8 0, .int .u8 0, .string { data := #[] }] 24 (0, 0))) := ⟨by rw [← hR]; exact HZ3.out⟩
        have HVR : Sl (SrcAt Rw (.slice (some ⟨sb, so, none⟩) L cap) bs) := ⟨HV.out.below (Nat.le_refl _) HBR.out⟩
        have HS0 : Below w.heap.size w Rw := HBR.out
        refine wp_region_noPanic ?_
        refine wp_region_held (S := fun W => Below w.heap.size w W) (by kernel_rfl) ?_
        change wpAnyH _ _ _ _ _ _ _ _ w3.drew
        rw [hR]
        clear hR HB3 HY3 HZ3 HV3
        refine heldTake (d := some 31) (op := .fieldAddr 24 (Operand.tmp 4) 3) (g := none) 0 ?v0rt rfl (by kernel_rfl) (by kernel_rfl) (by kernel_rfl) (by kernel_rfl) ?y0rt HS0 ?_
        case y0rt => intro o' ho W hS; simp only [execOp, ho]; go_simp; try rfl
        simp only [Act.put, List.setIfInBounds_toArray, List.set_cons_zero, List.set_cons_succ]
        refine heldTake (d := some 32) (op := .slice 22 (Operand.tmp 31) none none none) (g := none) 1 ?v1rt rfl (by kernel_rfl) (by kernel_rfl) (by kernel_rfl) (by kernel_rfl) ?y1rt HS0 ?_
        case y1rt => intro o' ho W hS; simp only [execOp, ho]; go_simp; try rfl
        simp only [Act.put, List.setIfInBounds_toArray, List.set_cons_zero, List.set_cons_succ]
        refine heldTake (d := some 33) (op := .move (Operand.tmp 1)) (g := none) 2 ?v2rt rfl (by kernel_rfl) (by kernel_rfl) (by kernel_rfl) (by kernel_rfl) ?y2rt HS0 ?_
        case y2rt => intro o' ho W hS; simp only [execOp, ho]; go_simp; try rfl
        simp only [Act.put, List.setIfInBounds_toArray, List.set_cons_zero, List.set_cons_succ]
        refine heldTake (d := some 34) (op := .move (Operand.tmp 2)) (g := none) 3 ?v3rt rfl (by kernel_rfl) (by kernel_rfl) (by kernel_rfl) (by kernel_rfl) ?y3rt HS0 ?_
        case y3rt => intro o' ho W hS; simp only [execOp, ho]; go_simp; try rfl
        simp only [Act.put, List.setIfInBounds_toArray, List.set_cons_zero, List.set_cons_succ]
        refine heldTake (d := some 35) (op := .move (Operand.tmp 11)) (g := none) 4 ?v4rt rfl (by kernel_rfl) (by kernel_rfl) (by kernel_rfl) (by kernel_rfl) ?y4rt HS0 ?_
        case y4rt => intro o' ho W hS; simp only [execOp, ho]; go_simp; try rfl
        simp only [Act.put, List.setIfInBounds_toArray, List.set_cons_zero, List.set_cons_succ]
        refine heldTake (d := some 36) (op := .slice 26 (Operand.tmp 33) (some (Operand.tmp 34)) (some (Operand.tmp 35)) none) (g := none) 5 (.slice (some ⟨sb, of4, none⟩) 0 (cap - p)) rfl (by kernel_rfl) (by kernel_rfl) (by kernel_rfl) (by kernel_rfl) ?y5rt HS0 ?_
        case y5rt => intro o' ho W hS; exact slice_run of4 hof4 ho (by rfl) (by rfl) (by rfl) (by omega) hpq hqc
        simp only [Act.put, List.setIfInBounds_toArray, List.set_cons_zero, List.set_cons_succ]
        obtain ⟨w4, hw4⟩ : ∃ W, Rw = W := ⟨_, rfl⟩
        have hcp : (Builtin.copy_ #[26, 26] 3 #[.slice (some ⟨w.heap.size, 3, none⟩) 4 4, .slice (some ⟨sb, of4, none⟩) 0 (cap - p)]).run Tryd.prog Rw = .ok (.int .i64 0) w4 := by
          rw [← hw4]
          exact copy_none
        have HB4 : Sl (Below w.heap.size w w4) := ⟨by rw [← hw4]; exact HBR.out⟩
        have HY4 : Sl (w4.heap[w.heap.size]? = some (.cells #[.bool fin, .int .i64 op, .bool false, .int .u8 0, .int .u8 0, .int .u8 0, .int .u8 0, .string { data := #[] }] 24 (0, 0))) := ⟨by rw [← hw4]; exact HYR.out⟩
        have HZ4 : Sl (w4.heap[w.heap.size + 1]? = some (.cells #[.bool false, .int .i64 0, .bool false, .int .u8 0, .int .u8 0, .int .u8 0, .int .u8 0, .string { data := #[] }] 24 (0, 0))) := ⟨by rw [← hw4]; exact HZR.out⟩
        refine heldRunT (d := some 37) (op := .call { callee := Callee.builtin Builtin.copy, args := #[Operand.tmp 32, Operand.tmp 36], argTypes := #[26, 26] }) (g := none) (t := 3) 6 (.int .i64 0) w4 rfl (by kernel_rfl) (by kernel_rfl) ?y6ct HB4.out ?_
        case y6ct => intro o' ho ht; simp only [execOp, ho, ht, resolve, invoke, builtin, Sem.run_bind, Sem.run_pure, Result.andThen_ok, List.map_toArray, List.map_cons, List.map_nil]; refine (congrArg (fun r => Result.andThen r _) hcp).trans ?_; rfl
        simp only [Act.put, List.setIfInBounds_toArray, List.set_cons_zero, List.set_cons_succ]
        refine wpAnyH_done (by kernel_rfl) ?_ _
        refine NoPanic.normal ?_
        clear HBR HYR HZR HVR HS0 hcp hw4
        have HV4 : Sl (SrcAt w4 (.slice (some ⟨sb, so, none⟩) L cap) bs) := ⟨HV.out.below (Nat.le_refl _) HB4.out⟩
        go_upto_region 6 with fail
        obtain ⟨Rw, hR⟩ : ∃ Rw, w4.drew = Rw := ⟨_, rfl⟩
        have HS0 : Below w.heap.size w Rw := by rw [← hR]; exact HB4.out.drew
        have HYR : Rw.heap[w.heap.size]? = some (.cells #[.bool fin, .int .i64 op, .bool false, .int .u8 0, .int .u8 0, .int .u8 0, .int .u8 0, .string { data := #[] }] 24 (0, 0)) := by rw [← hR]; exact HY4.out
        have HZR : Sl (Rw.heap[w.heap.size + 1]? = some (.cells #[.bool false, .int .i64 0, .bool false, .int .u8 0, .int .u8 0, .int .u8 0, .int .u8 0, .string { data := #[] }] 24 (0, 0))) := ⟨by rw [← hR]; exact HZ4.out⟩
        have HVR : Sl (SrcAt Rw (.slice (some ⟨sb, so, none⟩) L cap) bs) := ⟨HV.out.below (Nat.le_refl _) HS0⟩
        refine wp_region_noPanic ?_
        refine wp_region_held (S := fun W => Below w.heap.size w W) (by kernel_rfl) ?_
        change wpAnyH _ _ _ _ _ _ _ _ w4.drew
        rw [hR]
        clear hR HB4 HY4 HZ4 HV4
        refine heldTake (d := some 43) (op := .move (Operand.tmp 1)) (g := none) 1 ?v1t rfl (by kernel_rfl) (by kernel_rfl) (by kernel_rfl) (by kernel_rfl) ?y1t HS0 ?_
        case y1t => intro o' ho W hS; simp only [execOp, ho]; go_simp; try rfl
        simp only [Act.put, List.setIfInBounds_toArray, List.set_cons_zero, List.set_cons_succ]
        refine heldTake (d := some 44) (op := .move (Operand.tmp 11)) (g := none) 2 ?v2t rfl (by kernel_rfl) (by kernel_rfl) (by kernel_rfl) (by kernel_rfl) ?y2t HS0 ?_
        case y2t => intro o' ho W hS; simp only [execOp, ho]; go_simp; try rfl
        simp only [Act.put, List.setIfInBounds_toArray, List.set_cons_zero, List.set_cons_succ]
        refine heldTake (d := some 45) (op := .move (Operand.tmp 12)) (g := none) 3 ?v3t rfl (by kernel_rfl) (by kernel_rfl) (by kernel_rfl) (by kernel_rfl) ?y3t HS0 ?_
        case y3t => intro o' ho W hS; simp only [execOp, ho]; go_simp; try rfl
        simp only [Act.put, List.setIfInBounds_toArray, List.set_cons_zero, List.set_cons_succ]
        refine heldTake (d := some 46) (op := .slice 26 (Operand.tmp 43) (some (Operand.tmp 44)) (some (Operand.tmp 45)) none) (g := none) 4 (.slice (some ⟨sb, of6, none⟩) n (cap - p)) rfl (by kernel_rfl) (by kernel_rfl) (by kernel_rfl) (by kernel_rfl) ?y4t HS0 ?_
        case y4t => intro o' ho W hS; exact slice_run of6 hof6 ho (by rfl) (by rfl) (by rfl) (by omega) hqe hec
        simp only [Act.put, List.setIfInBounds_toArray, List.set_cons_zero, List.set_cons_succ]
        refine heldRunT (d := some 42) (op := .load 24 (Operand.tmp 4)) (g := none) (t := 24) 0 (.agg #[.bool fin, .int .i64 op, .bool false, .int .u8 0, .int .u8 0, .int .u8 0, .int .u8 0, .string { data := #[] }]) Rw rfl (by kernel_rfl) (by kernel_rfl) ?y0t HS0 ?_
        case y0t => intro o' ho _; exact loadbox8 ho (by rfl) rfl HYR
        simp only [Act.put, List.setIfInBounds_toArray, List.set_cons_zero, List.set_cons_succ]
        refine heldCall (d := some 47) (op := .call { callee := Callee.value (Operand.func 21), args := #[Operand.tmp 42, Operand.tmp 46], argTypes := #[24, 26] }) (g := none) 5 21 #[.agg #[.bool fin, .int .i64 op, .bool false, .int .u8 0, .int .u8 0, .int .u8 0, .int .u8 0, .string { data := #[] }], .slice (some ⟨sb, of6, none⟩) n (cap - p)] rfl (by kernel_rfl) (by kernel_rfl) ?y5t ?_
        case y5t => intro o' ho; simp only [execOp, ho]; go_simp; try rfl
        refine (turned_any fin op false 0 0 0 0 { data := #[] } sb of6 n (cap - p) ((bs.drop p).take n) Rw (fun x hx => by simp at hx; omega) (src_sub HVR.out p n (cap - p) of6 (fun _ => by rw [← hof6, if_neg (by omega)]) (by omega) (by omega) hl) ((hsm.drop p).take n) (by rw [List.length_take, List.length_drop]; omega) (by omega)).mono ?_
        rintro e X ⟨gt, ot, ct, rfl, HSX, HXX⟩
        have HS1 : Below w.heap.size w X := HS0.trans (HXX.out.mono HS0.size)
        have HYX : X.heap[w.heap.size]? = some (.cells #[.bool fin, .int .i64 op, .bool false, .int .u8 0, .int .u8 0, .int .u8 0, .int .u8 0, .string { data := #[] }] 24 (0, 0)) := below_key HYR HXX.out
        have HZX : Sl (X.heap[w.heap.size + 1]? = some (.cells #[.bool false, .int .i64 0, .bool false, .int .u8 0, .int .u8 0, .int .u8 0, .int .u8 0, .string { data := #[] }] 24 (0, 0))) := ⟨below_key HZR.out HXX.out⟩
        obtain ⟨DT, hDT⟩ : ∃ DT, tb false [0, 0, 0, 0] ((bs.drop p).take n) = DT := ⟨_, rfl⟩
        have HQ : Sl (fillF fin op false p n (bs.drop p) = (⟨fin, op, false, zero4, DT⟩, en, 0)) := ⟨by unfold fillF; rw [if_neg (by decide), if_neg (by rw [List.length_drop]; omega), ← hDT, hen]; rfl⟩
        rw [hDT] at HSX
        have hcv := HSX.out.conv
        obtain ⟨w5, hw5⟩ : ∃ W, X.setCell ⟨w.heap.size, 7, none⟩ (.string (strOf DT)) = W := ⟨_, rfl⟩
        have hfz : X.frozen? ⟨w.heap.size, 7, none⟩ = false := frozen_of_row _ _ _ _ _ HYX
        have hc7 : X.cell? ⟨w.heap.size, 7, none⟩ = some (.string { data := #[] }) := (bx8 HYX).2.2.2.2.2.2.2
        have HY5 : Sl (w5.heap[w.heap.size]? = some (.cells #[.bool fin, .int .i64 op, .bool false, .int .u8 0, .int .u8 0, .int .u8 0, .int .u8 0, .string (strOf DT)] 24 (0, 0))) := ⟨by rw [← hw5, heap_setCell_same _ _ _ _ _ _ HYX]; rfl⟩
        have HZ5 : Sl (w5.heap[w.heap.size + 1]? = some (.cells #[.bool false, .int .i64 0, .bool false, .int .u8 0, .int .u8 0, .int .u8 0, .int .u8 0, .string { data := #[] }] 24 (0, 0))) := ⟨by rw [← hw5, heap_setCell_other _ _ _ _ (by show w.heap.size + 1 ≠ w.heap.size; omega)]; exact HZX.out⟩
        have HB5 : Sl (Below w.heap.size w w5) := ⟨by rw [← hw5]; exact HS1.setCell (Nat.le_refl _) _⟩
        refine ⟨_, rfl, HS1, ?_⟩
        simp only [Act.put, List.setIfInBounds_toArray, List.set_cons_zero, List.set_cons_succ]
        refine heldRunT (d := some 48) (op := .convert 26 9 (Operand.tmp 47)) (g := none) (t := 9) 6 (.string (strOf DT)) X rfl (by kernel_rfl) (by kernel_rfl) ?y6t HS1 ?_
        case y6t => intro o' ho _; simp only [execOp, ho]; simp only [Sem.run_bind, Sem.run_pure]; refine (congrArg (fun r => Result.andThen r _) hcv).trans ?_; rfl
        simp only [Act.put, List.setIfInBounds_toArray, List.set_cons_zero, List.set_cons_succ]
        refine heldTake (d := some 49) (op := .fieldAddr 24 (Operand.tmp 4) 4) (g := none) 7 ?v7t rfl (by kernel_rfl) (by kernel_rfl) (by kernel_rfl) (by kernel_rfl) ?y7t HS1 ?_
        case y7t => intro o' ho W hS; simp only [execOp, ho]; go_simp; try rfl
        simp only [Act.put, List.setIfInBounds_toArray, List.set_cons_zero, List.set_cons_succ]
        refine heldStore (d := none) (op := .store 9 (Operand.tmp 49) (Operand.tmp 48)) (g := none) (t := 0) 8 w5 rfl (by kernel_rfl) (by kernel_rfl) ?y8t HB5.out ?_
        case y8t => intro o' ho ht; simp only [execOp, ho]; go_simp; first | done | rw [hw5] | rfl
        simp only [Act.put]
        refine wpAnyH_done (by kernel_rfl) ?_ _
        refine NoPanic.normal ?_
        have HI := fr_info (cs := #[.bool fin, .int .i64 op, .bool false, .int .u8 0, .int .u8 0, .int .u8 0, .int .u8 0, .string (strOf DT)]) rfl
        obtain ⟨h0, h1, h2, h3, h4, h5, h6, h7⟩ := bx8 HY5.out
        clear HSX hcv hfz hc7 hw5 HZX HYX HS1 HXX
        go_wp2_with (refine wpList_store_row rfl 24 (.tmp 8) (.tmp 50) rfl (w.heap.size + 1) #[.bool fin, .int .i64 op, .bool false, .int .u8 0, .int .u8 0, .int .u8 0, .int .u8 0, .string (strOf DT)] rfl rfl 24 #[.bool false, .int .i64 0, .bool false, .int .u8 0, .int .u8 0, .int .u8 0, .int .u8 0, .string { data := #[] }] HZ5.out HI rfl (fr_all _ _ _ _ _ _ _ _) ?_)
        go_wp2
        refine bodyPost_ret (ret_fr rfl _ _ (w.heap.size + 1) 24 _ (0, 0) rfl (setRow_heap _ _ _ _ _ _ HZ5.out) rfl) rfl ?_
        rw [HQ.out]
        exact ⟨rfl, ⟨below_setRow HB5.out (by omega) _⟩⟩
end Go.Proofs.YtcelhondifaloaaDoor
