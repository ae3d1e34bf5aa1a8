/- shake: ShakeAnswer's walk. -/
import Derived.Test.YthlagngpllahkaaGreatDoorW20
import Derived.Test.YthlagngpllahkaaGreatDoorW21
import Derived.Test.YthlagngpllahkaaGreatDoorS16
set_option maxRecDepth 100000
namespace Go.Proofs.YthlagngpllahkaaGreatDoor
open Go.RowKit HeadPlain Nam

theorem run_app5 {a : Act} {o : Oper} {x y : Operand} {Z w1 : World} {v0 src v1 : Value} (ho : o.op = .call { callee := .builtin .append, args := #[x, y], argTypes := #[28, 28] }) (ht : o.type = 28) (hs : a.eval x = v0) (hx : a.eval y = src)
    (hap : (Builtin.append_ #[28, 28] 28 #[v0, src]).run Tryz.prog Z = .ok v1 w1) : (execOp a.eval o).run Tryz.prog Z = .ok (.value v1) w1 := by
  unfold execOp
  simp only [ho, ht, resolve, invoke, builtin, Sem.run_bind, Sem.run_pure, Result.andThen_ok, List.map_toArray, List.map_cons, List.map_nil, hs, hx, hap]
set_option maxHeartbeats 1000000 in
theorem answer_bad_key (key p : ByteArray) (st : Int) (origin : ByteArray) (v : Value) (w : World) (hg : GlobA w) (hk : 300 < key.size) :
    Calls Tryz.prog 4 #[.string key, .string p, .int .i64 st, .string origin, v] w fun e w' => e = .returned (.bool true) ∧ Sl (Below w.heap.size w w') := by
  have HG := Sl.mk hg
  have hkeyx : ((300 : Int) < (key.size : Int)) = True := eq_true (by omega)
  clear hg hk
  go_enter Tryz.func4, Tryz.ntmps4
  go_wp2_with fail
  refine (awake_ex (below0 w) HG.out).mono ?_
  rintro e w1 ⟨rfl, _, HB1⟩
  go_wp2_with fail
  refine (awake_ex HB1.out HG.out).mono ?_
  rintro e w3 ⟨rfl, _, HB3⟩
  go_wp2
  go_ret
  exact ⟨rfl, HB3⟩
set_option maxHeartbeats 1000000 in
theorem answer_bad_p (key p : ByteArray) (st : Int) (origin : ByteArray) (v : Value) (w : World) (hg : GlobA w) (hk : key.size ≤ 300) (hp : 300 < p.size) :
    Calls Tryz.prog 4 #[.string key, .string p, .int .i64 st, .string origin, v] w fun e w' => e = .returned (.bool true) ∧ Sl (Below w.heap.size w w') := by
  have HG := Sl.mk hg
  have hkeyx : ((300 : Int) < (key.size : Int)) = False := eq_false (by omega)
  have hpx : ((300 : Int) < (p.size : Int)) = True := eq_true (by omega)
  clear hg hk hp
  go_enter Tryz.func4, Tryz.ntmps4
  go_wp2_with fail
  refine (awake_ex (below0 w) HG.out).mono ?_
  rintro e w1 ⟨rfl, _, HB1⟩
  go_wp2_with fail
  refine (awake_ex HB1.out HG.out).mono ?_
  rintro e w3 ⟨rfl, _, HB3⟩
  go_wp2
  go_ret
  exact ⟨rfl, HB3⟩
set_option maxHeartbeats 1000000 in
theorem answer_bad_origin (key p : ByteArray) (st : Int) (origin : ByteArray) (v : Value) (w : World) (hg : GlobA w) (hk : key.size ≤ 300) (hp : p.size ≤ 300) (ho : 300 < origin.size) :
    Calls Tryz.prog 4 #[.string key, .string p, .int .i64 st, .string origin, v] w fun e w' => e = .returned (.bool true) ∧ Sl (Below w.heap.size w w') := by
  have HG := Sl.mk hg
  have hkeyx : ((300 : Int) < (key.size : Int)) = False := eq_false (by omega)
  have hpx : ((300 : Int) < (p.size : Int)) = False := eq_false (by omega)
  have horiginx : ((300 : Int) < (origin.size : Int)) = True := eq_true (by omega)
  clear hg hk hp ho
  go_enter Tryz.func4, Tryz.ntmps4
  go_wp2_with fail
  refine (awake_ex (below0 w) HG.out).mono ?_
  rintro e w1 ⟨rfl, _, HB1⟩
  go_wp2_with fail
  refine (awake_ex HB1.out HG.out).mono ?_
  rintro e w3 ⟨rfl, _, HB3⟩
  go_wp2
  go_ret
  exact ⟨rfl, HB3⟩
set_option maxHeartbeats 1000000 in
theorem answer_bad_few (key p : ByteArray) (st : Int) (origin : ByteArray) (v : Value) (w : World) (hg : GlobA w) (l : List ByteArray) (hv : StrA w v l) (hl : l.length ≤ maxLen) (hs : ∀ s ∈ l, s.size ≤ maxLen) (hk : key.size ≤ 300) (hp : p.size ≤ 300) (ho : origin.size ≤ 300) (x : fewB l = false) :
    Calls Tryz.prog 4 #[.string key, .string p, .int .i64 st, .string origin, v] w fun e w' => e = .returned (.bool true) ∧ Sl (Below w.heap.size w w') := by
  have HG := Sl.mk hg
  have hkeyx : ((300 : Int) < (key.size : Int)) = False := eq_false (by omega)
  have hpx : ((300 : Int) < (p.size : Int)) = False := eq_false (by omega)
  have horiginx : ((300 : Int) < (origin.size : Int)) = False := eq_false (by omega)
  have HFW : Sl (∀ V, Below w.heap.size w V → Calls Tryz.prog 17 #[v] V fun e w' => e = .returned (.bool false) ∧ V = w') := ⟨fun V hB => few_ex x (hv.below hB) hl hs⟩
  clear hg hk hp ho x hv hl hs
  go_enter Tryz.func4, Tryz.ntmps4
  go_wp2_with fail
  refine (awake_ex (below0 w) HG.out).mono ?_
  rintro e w1 ⟨rfl, _, HB1⟩
  go_wp2_with fail
  refine (HFW.out _ HB1.out).mono ?_
  rintro e w2 ⟨rfl, rfl⟩
  go_wp2_with fail
  refine (awake_ex HB1.out HG.out).mono ?_
  rintro e w3 ⟨rfl, _, HB3⟩
  go_wp2
  go_ret
  exact ⟨rfl, HB3⟩
set_option maxHeartbeats 8000000 in
theorem answer_good (key p : ByteArray) (st : Int) (origin : ByteArray) (v : Value) (l : List ByteArray) (w : World) (hg : GlobA w) (hv : StrA w v l) (h1 : key.size ≤ 300) (h2 : p.size ≤ 300) (h3 : origin.size ≤ 300) (hf : fewB l = true) :
    Calls Tryz.prog 4 #[.string key, .string p, .int .i64 st, .string origin, v] w fun e w' => e = .returned (.bool true) ∧ Sl (Below w.heap.size w w') := by
  have HG := Sl.mk hg
  obtain ⟨hf1, hf2⟩ := fewB_yes hf
  have HFW : Sl (∀ V, Below w.heap.size w V → Calls Tryz.prog 17 #[v] V fun e w' => e = .returned (.bool true) ∧ V = w') := ⟨fun V hB => few_ex hf (hv.below hB) (by unfold maxLen; omega) (fun s h => Nat.le_trans (hf1 s h) (by unfold maxLen; omega))⟩
  have hkeyx : ((300 : Int) < (key.size : Int)) = False := eq_false (by omega)
  have hpx : ((300 : Int) < (p.size : Int)) = False := eq_false (by omega)
  have horiginx : ((300 : Int) < (origin.size : Int)) = False := eq_false (by omega)
  have HXA : Sl (∀ V, Below w.heap.size w V → StrA (V.alloc (.cells #[] 9)) v l) := ⟨fun V hB => hv.below (hB.alloc hB.size _)⟩
  have HLA : Sl (l.length ≤ 30) := ⟨hf2⟩
  have C18 : Sl (∀ V, Below w.heap.size w V → Calls Tryz.prog 18 #[.int .i64 st] V fun e w' => (∃ a c, e = .returned (.agg #[.string (refuseV st).a, .string (refuseV st).b, .string (refuseV st).c, .slice a (refuseV st).fs.length c]) ∧ Sl (FieldsAt w' (.slice a (refuseV st).fs.length c) (refuseV st).fs)) ∧ Sl (Below V.heap.size V w')) := ⟨fun V hB => (refusal_any st V (hg.of hB)).mono fun e w' ⟨h1, h2⟩ => by
    obtain ⟨a, c, he, hF⟩ := h1.out
    exact ⟨⟨a, c, he, ⟨hF⟩⟩, h2⟩⟩
  have C24 : Sl (∀ V, Calls Tryz.prog 24 #[.int .i64 st] V fun e w' => (∃ a c, e = .returned (.agg #[.string (refuseV st).a, .string (refuseV st).b, .string (refuseV st).c, .slice a (refuseV st).fs.length c]) ∧ Sl (FieldsAt w' (.slice a (refuseV st).fs.length c) (refuseV st).fs)) ∧ Sl (Below V.heap.size V w')) := ⟨fun V => (refusalD_any st V).mono fun e w' ⟨h1, h2⟩ => by
    obtain ⟨a, c, he, hF⟩ := h1.out
    exact ⟨⟨a, c, he, ⟨hF⟩⟩, h2⟩⟩
  have C22 : Sl (∀ V, Below w.heap.size w V → Calls Tryz.prog 22 #[.string key, .string p] V fun e w' => (∃ a c, e = .returned (.agg #[.string (grantV key p).a, .string (grantV key p).b, .string (grantV key p).c, .slice a (grantV key p).fs.length c]) ∧ Sl (FieldsAt w' (.slice a (grantV key p).fs.length c) (grantV key p).fs)) ∧ Sl (Below V.heap.size V w')) := ⟨fun V hB => (answer_any key p V (hg.of hB) (by omega) (by omega)).mono fun e w' ⟨h1, h2⟩ => by
    obtain ⟨a, c, he, hF⟩ := h1.out
    exact ⟨⟨a, c, he, ⟨hF⟩⟩, h2⟩⟩
  have C23 : Sl (∀ V, Calls Tryz.prog 23 #[.string key, .string p] V fun e w' => (∃ a c, e = .returned (.agg #[.string (grantV key p).a, .string (grantV key p).b, .string (grantV key p).c, .slice a (grantV key p).fs.length c]) ∧ Sl (FieldsAt w' (.slice a (grantV key p).fs.length c) (grantV key p).fs)) ∧ Sl (Below V.heap.size V w')) := ⟨fun V => (answerD_any key p V h1 h2).mono fun e w' ⟨h1, h2⟩ => by
    obtain ⟨a, c, he, hF⟩ := h1.out
    exact ⟨⟨a, c, he, ⟨hF⟩⟩, h2⟩⟩
  have C19 : Sl (∀ V, Below w.heap.size w V → Calls Tryz.prog 19 #[.string key] V fun e w' => e = .returned (.string (accS key)) ∧ Sl (Below V.heap.size V w')) := ⟨fun V hB => accept_any key V (hg.of hB) (by omega)⟩
  have C20 : Sl (∀ V, Calls Tryz.prog 20 #[.string key] V fun e w' => e = .returned (.string (accS key)) ∧ Sl (Below V.heap.size V w')) := ⟨fun V => acceptR_any key V h1⟩
  have C21 : Sl (∀ V (h : HdV) x y, FieldsAt V x h.fs → FieldsAt V y h.fs → Calls Tryz.prog 21 #[.agg #[.string h.a, .string h.b, .string h.c, x], .agg #[.string h.a, .string h.b, .string h.c, y]] V fun e w' => e = .returned (.bool true) ∧ Sl (Below V.heap.size V w')) := ⟨fun V h x y hx hy => (alike_any h h x y V hx hy).mono fun e w' ⟨h1, h2⟩ => ⟨by rw [h1, alike_iff.2 rfl], h2⟩⟩
  have C25 : Sl (∀ V x, FieldsAt V x (refuseV st).fs → Calls Tryz.prog 25 #[.agg #[.string (refuseV st).a, .string (refuseV st).b, .string (refuseV st).c, x]] V fun e w' => e = .returned (.int .i64 0) ∧ Sl (Below V.heap.size V w')) := ⟨fun V x hx => by
    have hc := refuse_chk st
    have ht := (text_le _ hc).2.2
    have hw : (whyV st).1.size ≤ maxLen ∧ (whyV st).2.size ≤ maxLen := by
      have h1 : ∀ s : ByteArray, (bytes s).length ≤ (text (refuseV st).hd).length → s.size ≤ maxLen := fun s h => by rw [bytes_length] at h; unfold maxLen; omega
      have hl := text_length (refuseV st).hd
      have h2 : (line1 (refuseV st).hd).length = (bytes bH11).length + 1 + (bytes (whyV st).1).length + 1 + (bytes (whyV st).2).length := by
        show (line1 ⟨bytes bH11, bytes (whyV st).1, bytes (whyV st).2, _⟩).length = _
        unfold line1
        simp
        omega
      exact ⟨h1 _ (by omega), h1 _ (by omega)⟩
    have h := checkR_any (refuseV st) x V hx ⟨show bH11.size ≤ maxLen by decide, hw.1, hw.2⟩ (by omega)
    rw [hc] at h
    exact h⟩
  obtain ⟨al, hal⟩ : ∃ b, allowB origin l = b := ⟨_, rfl⟩
  obtain ⟨ib, hib⟩ : ∃ b, inB l origin = b := ⟨_, rfl⟩
  have HAL : Sl (al = (decide (l.length = 0) || ib)) := ⟨by rw [← hal, ← hib]; rfl⟩
  have C26 : Sl (∀ V u, StrA V u l → Calls Tryz.prog 26 #[.string origin, u] V fun e w' => e = .returned (.bool al) ∧ V = w') := ⟨fun V u hS => allowed_any origin l u V al hal hS (by omega)⟩
  have C27 : Sl (∀ V, Below w.heap.size w V → Calls Tryz.prog 27 #[.string origin, v] V fun e w' => e = .returned (.bool ib) ∧ V = w') := ⟨fun V hB => (in_any origin l v V (hv.below hB) (by omega)).mono fun e w' ⟨h1, h2⟩ => ⟨by rw [h1, ← hib, inB_eq], h2⟩⟩
  obtain ⟨x, hx⟩ : ∃ x, accS key = x := ⟨_, rfl⟩
  obtain ⟨r, hr⟩ : ∃ r, refuseV st = r := ⟨_, rfl⟩
  obtain ⟨g, hgr⟩ : ∃ g, grantV key p = g := ⟨_, rfl⟩
  rw [hr] at C18 C24 C25
  rw [hgr] at C22 C23
  rw [hx] at C19 C20
  have hxx : (x.toList == x.toList) = true := by simp
  clear hx hr hgr hal hib hg hf hf1 hf2 h1 h2 h3
  obtain ⟨vd, vc, _, _, rfl, _⟩ := hv
  obtain ⟨n, hn⟩ : ∃ n, l.length = n := ⟨_, rfl⟩
  rw [hn] at HFW HXA C27 HAL ⊢
  have HN := Sl.mk hn
  clear hn
  go_enter Tryz.func4, Tryz.ntmps4
  go_wp2_with fail
  refine (awake_ex (below0 w) HG.out).mono ?_
  rintro e w1 ⟨rfl, _, HB1⟩
  go_wp2_with fail
  refine (HFW.out _ HB1.out).mono ?_
  rintro e w2 ⟨rfl, rfl⟩
  go_wp2_with fail
  refine (C18.out _ HB1.out).mono ?_
  rintro e w3 ⟨⟨a3, c3, rfl, HF3⟩, HE3⟩
  have HB3 := Sl.mk (below_trans HB1.out HE3.out)
  clear HE3 C18 HFW HB1 HG
  obtain ⟨w4, hw4⟩ : ∃ V, w3.alloc (.cells #[.string r.a, .string r.b, .string r.c, .slice a3 r.fs.length c3] 25) = V := ⟨_, rfl⟩
  have HE4 : Sl (Below w3.heap.size w3 w4) := ⟨by rw [← hw4]; exact (Below.refl _ _).alloc (Nat.le_refl _) _⟩
  have HB4 := Sl.mk (below_trans HB3.out HE4.out)
  have HF4 := Sl.mk (HF3.out.below HE4.out)
  have HX4 : Sl (w4.heap[w3.heap.size]? = some (.cells #[.string r.a, .string r.b, .string r.c, .slice a3 r.fs.length c3] 25 (0, 0))) := ⟨by rw [← hw4]; exact alloc_new _ _ _ rfl⟩
  clear HE4 HF3 HB3
  go_upto_region 4 with fail
  obtain ⟨R, hR⟩ : ∃ R, w4.drew = R := ⟨_, rfl⟩
  have HER : Sl (Below w4.heap.size w4 R) := ⟨by rw [← hR]; exact (Below.refl _ _).drew⟩
  have HBR := Sl.mk (below_trans HB4.out HER.out)
  have HXR := Sl.mk (box_below HX4.out HER.out)
  have HFR := Sl.mk (HF4.out.below HER.out)
  have HS0 : Below w.heap.size w R ∧ R.heap[w3.heap.size]? = some (.cells #[.string r.a, .string r.b, .string r.c, .slice a3 r.fs.length c3] 25 (0, 0)) := ⟨HBR.out, HXR.out⟩
  clear HER HB4 HX4 HF4
  refine wp_region_noPanic ?_
  refine wp_region_held (S := fun V => Below w.heap.size w V ∧ V.heap[w3.heap.size]? = some (.cells #[.string r.a, .string r.b, .string r.c, .slice a3 r.fs.length c3] 25 (0, 0))) (by kernel_rfl) ?_
  change wpAnyH _ _ _ _ _ _ _ _ w4.drew
  rw [hR]
  clear hR hw4 HXR
  refine heldTake (d := some 37) (op := Go.Op.move (Go.Operand.tmp 0)) (g := none) 0 ?v0 rfl (by kernel_rfl) (by kernel_rfl) (by kernel_rfl) (by kernel_rfl) ?y0 HS0 ?_
  case y0 => intro o ho w hS; simp only [execOp, ho]; go_simp; try rfl
  simp only [Act.put, List.setIfInBounds_toArray, List.set_cons_zero, List.set_cons_succ]
  refine heldTake (d := some 39) (op := Go.Op.move (Go.Operand.tmp 0)) (g := none) 2 ?v2 rfl (by kernel_rfl) (by kernel_rfl) (by kernel_rfl) (by kernel_rfl) ?y2 HS0 ?_
  case y2 => intro o ho w hS; simp only [execOp, ho]; go_simp; try rfl
  simp only [Act.put, List.setIfInBounds_toArray, List.set_cons_zero, List.set_cons_succ]
  refine heldCall (d := some 38) (op := Go.Op.call { callee := Go.Callee.value (Go.Operand.func 19), args := #[Go.Operand.tmp 37], argTypes := #[9] }) (g := none) 1 19 ?a1 rfl (by kernel_rfl) (by kernel_rfl) ?y1 ?_
  case y1 => intro o ho; simp only [execOp, ho]; go_simp; try rfl
  refine (C19.out _ HBR.out).mono ?_
  rintro e R101 ⟨rfl, HE101⟩
  have HB101 := Sl.mk (below_trans HBR.out HE101.out)
  have HS101 : Below w.heap.size w R101 ∧ R101.heap[w3.heap.size]? = some (.cells #[.string r.a, .string r.b, .string r.c, .slice a3 r.fs.length c3] 25 (0, 0)) := ⟨HB101.out, box_below HS0.2 HE101.out⟩
  have HFR101 := Sl.mk (HFR.out.below HE101.out)
  refine ⟨_, rfl, HS101, ?_⟩
  clear HS0 HBR HFR HE101
  simp only [Act.put, List.setIfInBounds_toArray, List.set_cons_zero, List.set_cons_succ]
  refine heldCall (d := some 40) (op := Go.Op.call { callee := Go.Callee.value (Go.Operand.func 20), args := #[Go.Operand.tmp 39], argTypes := #[9] }) (g := none) 3 20 ?a3 rfl (by kernel_rfl) (by kernel_rfl) ?y3 ?_
  case y3 => intro o ho; simp only [execOp, ho]; go_simp; try rfl
  refine (C20.out _).mono ?_
  rintro e R102 ⟨rfl, HE102⟩
  have HB102 := Sl.mk (below_trans HB101.out HE102.out)
  have HS102 : Below w.heap.size w R102 ∧ R102.heap[w3.heap.size]? = some (.cells #[.string r.a, .string r.b, .string r.c, .slice a3 r.fs.length c3] 25 (0, 0)) := ⟨HB102.out, box_below HS101.2 HE102.out⟩
  have HFR102 := Sl.mk (HFR101.out.below HE102.out)
  refine ⟨_, rfl, HS102, ?_⟩
  clear HS101 HB101 HFR101 HE102
  simp only [Act.put, List.setIfInBounds_toArray, List.set_cons_zero, List.set_cons_succ]
  refine heldTake (d := some 41) (op := Go.Op.binOp Go.BinOp.eql 9 (Go.Operand.tmp 38) (Go.Operand.tmp 40) 9) (g := none) 4 ?v4 rfl (by kernel_rfl) (by kernel_rfl) (by kernel_rfl) (by kernel_rfl) ?y4 HS102 ?_
  case y4 => intro o ho w hS; simp only [execOp, ho]; go_simp; try rfl
  simp only [Act.put, List.setIfInBounds_toArray, List.set_cons_zero, List.set_cons_succ]
  refine heldTake (d := some 42) (op := Go.Op.move (Go.Operand.tmp 41)) (g := none) 5 ?v5 rfl (by kernel_rfl) (by kernel_rfl) (by kernel_rfl) (by kernel_rfl) ?y5 HS102 ?_
  case y5 => intro o ho w hS; simp only [execOp, ho]; go_simp; try rfl
  simp only [Act.put, List.setIfInBounds_toArray, List.set_cons_zero, List.set_cons_succ]
  refine heldTake (d := some 43) (op := Go.Op.move (Go.Operand.tmp 0)) (g := some (5, true)) 6 ?v6 rfl (by kernel_rfl) (by kernel_rfl) (by kernel_rfl) (by kernel_rfl) ?y6 HS102 ?_
  case y6 => intro o ho w hS; simp only [execOp, ho]; go_simp; try rfl
  simp only [Act.put, List.setIfInBounds_toArray, List.set_cons_zero, List.set_cons_succ]
  refine heldTake (d := some 44) (op := Go.Op.move (Go.Operand.tmp 1)) (g := some (5, true)) 7 ?v7 rfl (by kernel_rfl) (by kernel_rfl) (by kernel_rfl) (by kernel_rfl) ?y7 HS102 ?_
  case y7 => intro o ho w hS; simp only [execOp, ho]; go_simp; try rfl
  simp only [Act.put, List.setIfInBounds_toArray, List.set_cons_zero, List.set_cons_succ]
  refine heldTake (d := some 46) (op := Go.Op.move (Go.Operand.tmp 0)) (g := some (5, true)) 9 ?v9 rfl (by kernel_rfl) (by kernel_rfl) (by kernel_rfl) (by kernel_rfl) ?y9 HS102 ?_
  case y9 => intro o ho w hS; simp only [execOp, ho]; go_simp; try rfl
  simp only [Act.put, List.setIfInBounds_toArray, List.set_cons_zero, List.set_cons_succ]
  refine heldTake (d := some 47) (op := Go.Op.move (Go.Operand.tmp 1)) (g := some (5, true)) 10 ?v10 rfl (by kernel_rfl) (by kernel_rfl) (by kernel_rfl) (by kernel_rfl) ?y10 HS102 ?_
  case y10 => intro o ho w hS; simp only [execOp, ho]; go_simp; try rfl
  simp only [Act.put, List.setIfInBounds_toArray, List.set_cons_zero, List.set_cons_succ]
  refine heldCall (d := some 45) (op := Go.Op.call { callee := Go.Callee.value (Go.Operand.func 22), args := #[Go.Operand.tmp 43, Go.Operand.tmp 44], argTypes := #[9, 9] }) (g := some (5, true)) 8 22 ?a8 rfl (by kernel_rfl) (by kernel_rfl) ?y8 ?_
  case y8 => intro o ho; simp only [execOp, ho]; go_simp; try rfl
  refine (C22.out _ HB102.out).mono ?_
  rintro e R103 ⟨⟨xa103, xc103, rfl, HF103⟩, HE103⟩
  have HB103 := Sl.mk (below_trans HB102.out HE103.out)
  have HS103 : Below w.heap.size w R103 ∧ R103.heap[w3.heap.size]? = some (.cells #[.string r.a, .string r.b, .string r.c, .slice a3 r.fs.length c3] 25 (0, 0)) := ⟨HB103.out, box_below HS102.2 HE103.out⟩
  have HFR103 := Sl.mk (HFR102.out.below HE103.out)
  refine ⟨_, rfl, HS103, ?_⟩
  clear HS102 HB102 HFR102 HE103
  simp only [Act.put, List.setIfInBounds_toArray, List.set_cons_zero, List.set_cons_succ]
  refine heldCall (d := some 48) (op := Go.Op.call { callee := Go.Callee.value (Go.Operand.func 23), args := #[Go.Operand.tmp 46, Go.Operand.tmp 47], argTypes := #[9, 9] }) (g := some (5, true)) 11 23 ?a11 rfl (by kernel_rfl) (by kernel_rfl) ?y11 ?_
  case y11 => intro o ho; simp only [execOp, ho]; go_simp; try rfl
  refine (C23.out _).mono ?_
  rintro e R104 ⟨⟨xa104, xc104, rfl, HF104⟩, HE104⟩
  have HB104 := Sl.mk (below_trans HB103.out HE104.out)
  have HS104 : Below w.heap.size w R104 ∧ R104.heap[w3.heap.size]? = some (.cells #[.string r.a, .string r.b, .string r.c, .slice a3 r.fs.length c3] 25 (0, 0)) := ⟨HB104.out, box_below HS103.2 HE104.out⟩
  have HFR104 := Sl.mk (HFR103.out.below HE104.out)
  have HK104 := Sl.mk (HF103.out.below HE104.out)
  refine ⟨_, rfl, HS104, ?_⟩
  clear HS103 HB103 HFR103 HE104
  simp only [Act.put, List.setIfInBounds_toArray, List.set_cons_zero, List.set_cons_succ]
  refine heldCall (d := some 49) (op := Go.Op.call { callee := Go.Callee.value (Go.Operand.func 21), args := #[Go.Operand.tmp 45, Go.Operand.tmp 48], argTypes := #[25, 25] }) (g := some (5, true)) 12 21 ?a12 rfl (by kernel_rfl) (by kernel_rfl) ?y12 ?_
  case y12 => intro o ho; simp only [execOp, ho]; go_simp; try rfl
  refine (C21.out _ _ _ _ HK104.out HF104.out).mono ?_
  rintro e R105 ⟨rfl, HE105⟩
  have HB105 := Sl.mk (below_trans HB104.out HE105.out)
  have HS105 : Below w.heap.size w R105 ∧ R105.heap[w3.heap.size]? = some (.cells #[.string r.a, .string r.b, .string r.c, .slice a3 r.fs.length c3] 25 (0, 0)) := ⟨HB105.out, box_below HS104.2 HE105.out⟩
  have HFR105 := Sl.mk (HFR104.out.below HE105.out)
  refine ⟨_, rfl, HS105, ?_⟩
  clear HS104 HB104 HFR104 HE105
  simp only [Act.put, List.setIfInBounds_toArray, List.set_cons_zero, List.set_cons_succ]
  refine heldTake (d := some 50) (op := Go.Op.pick (Go.Operand.tmp 42) (Go.Operand.tmp 49) (Go.Operand.const (Go.Value.bool false))) (g := none) 13 ?v13 rfl (by kernel_rfl) (by kernel_rfl) (by kernel_rfl) (by kernel_rfl) ?y13 HS105 ?_
  case y13 => intro o ho w hS; simp only [execOp, ho]; go_simp; try rfl
  simp only [Act.put, List.setIfInBounds_toArray, List.set_cons_zero, List.set_cons_succ]
  refine heldTake (d := some 51) (op := Go.Op.move (Go.Operand.tmp 50)) (g := none) 14 ?v14 rfl (by kernel_rfl) (by kernel_rfl) (by kernel_rfl) (by kernel_rfl) ?y14 HS105 ?_
  case y14 => intro o ho w hS; simp only [execOp, ho]; go_simp; try rfl
  simp only [Act.put, List.setIfInBounds_toArray, List.set_cons_zero, List.set_cons_succ]
  refine heldTake (d := some 52) (op := Go.Op.load 25 (Go.Operand.tmp 11)) (g := some (14, true)) 15 ?v15 rfl (by kernel_rfl) (by kernel_rfl) (by kernel_rfl) (by kernel_rfl) ?y15 HS105 ?_
  case y15 => intro o ho w hS; obtain ⟨p0, p1, p2, p3⟩ := head_cells hS.2; simp only [execOp, ho]; go_simp; try rfl
  simp only [Act.put, List.setIfInBounds_toArray, List.set_cons_zero, List.set_cons_succ]
  refine heldTake (d := some 53) (op := Go.Op.move (Go.Operand.tmp 2)) (g := some (14, true)) 16 ?v16 rfl (by kernel_rfl) (by kernel_rfl) (by kernel_rfl) (by kernel_rfl) ?y16 HS105 ?_
  case y16 => intro o ho w hS; simp only [execOp, ho]; go_simp; try rfl
  simp only [Act.put, List.setIfInBounds_toArray, List.set_cons_zero, List.set_cons_succ]
  refine heldCall (d := some 54) (op := Go.Op.call { callee := Go.Callee.value (Go.Operand.func 24), args := #[Go.Operand.tmp 53], argTypes := #[3] }) (g := some (14, true)) 17 24 ?a17 rfl (by kernel_rfl) (by kernel_rfl) ?y17 ?_
  case y17 => intro o ho; simp only [execOp, ho]; go_simp; try rfl
  refine (C24.out _).mono ?_
  rintro e R106 ⟨⟨xa106, xc106, rfl, HF106⟩, HE106⟩
  have HB106 := Sl.mk (below_trans HB105.out HE106.out)
  have HS106 : Below w.heap.size w R106 ∧ R106.heap[w3.heap.size]? = some (.cells #[.string r.a, .string r.b, .string r.c, .slice a3 r.fs.length c3] 25 (0, 0)) := ⟨HB106.out, box_below HS105.2 HE106.out⟩
  have HFR106 := Sl.mk (HFR105.out.below HE106.out)
  refine ⟨_, rfl, HS106, ?_⟩
  clear HS105 HB105 HFR105 HE106
  simp only [Act.put, List.setIfInBounds_toArray, List.set_cons_zero, List.set_cons_succ]
  refine heldCall (d := some 55) (op := Go.Op.call { callee := Go.Callee.value (Go.Operand.func 21), args := #[Go.Operand.tmp 52, Go.Operand.tmp 54], argTypes := #[25, 25] }) (g := some (14, true)) 18 21 ?a18 rfl (by kernel_rfl) (by kernel_rfl) ?y18 ?_
  case y18 => intro o ho; simp only [execOp, ho]; go_simp; try rfl
  refine (C21.out _ _ _ _ HFR106.out HF106.out).mono ?_
  rintro e R107 ⟨rfl, HE107⟩
  have HB107 := Sl.mk (below_trans HB106.out HE107.out)
  have HS107 : Below w.heap.size w R107 ∧ R107.heap[w3.heap.size]? = some (.cells #[.string r.a, .string r.b, .string r.c, .slice a3 r.fs.length c3] 25 (0, 0)) := ⟨HB107.out, box_below HS106.2 HE107.out⟩
  have HFR107 := Sl.mk (HFR106.out.below HE107.out)
  refine ⟨_, rfl, HS107, ?_⟩
  clear HS106 HB106 HFR106 HE107
  simp only [Act.put, List.setIfInBounds_toArray, List.set_cons_zero, List.set_cons_succ]
  refine heldTake (d := some 56) (op := Go.Op.pick (Go.Operand.tmp 51) (Go.Operand.tmp 55) (Go.Operand.const (Go.Value.bool false))) (g := none) 19 ?v19 rfl (by kernel_rfl) (by kernel_rfl) (by kernel_rfl) (by kernel_rfl) ?y19 HS107 ?_
  case y19 => intro o ho w hS; simp only [execOp, ho]; go_simp; try rfl
  simp only [Act.put, List.setIfInBounds_toArray, List.set_cons_zero, List.set_cons_succ]
  refine heldTake (d := some 57) (op := Go.Op.move (Go.Operand.tmp 56)) (g := none) 20 ?v20 rfl (by kernel_rfl) (by kernel_rfl) (by kernel_rfl) (by kernel_rfl) ?y20 HS107 ?_
  case y20 => intro o ho w hS; simp only [execOp, ho]; go_simp; try rfl
  simp only [Act.put, List.setIfInBounds_toArray, List.set_cons_zero, List.set_cons_succ]
  refine heldTake (d := some 58) (op := Go.Op.load 25 (Go.Operand.tmp 11)) (g := some (20, true)) 21 ?v21 rfl (by kernel_rfl) (by kernel_rfl) (by kernel_rfl) (by kernel_rfl) ?y21 HS107 ?_
  case y21 => intro o ho w hS; obtain ⟨p0, p1, p2, p3⟩ := head_cells hS.2; simp only [execOp, ho]; go_simp; try rfl
  simp only [Act.put, List.setIfInBounds_toArray, List.set_cons_zero, List.set_cons_succ]
  refine heldCall (d := some 59) (op := Go.Op.call { callee := Go.Callee.value (Go.Operand.func 25), args := #[Go.Operand.tmp 58], argTypes := #[25] }) (g := some (20, true)) 22 25 ?a22 rfl (by kernel_rfl) (by kernel_rfl) ?y22 ?_
  case y22 => intro o ho; simp only [execOp, ho]; go_simp; try rfl
  refine (C25.out _ _ HFR107.out).mono ?_
  rintro e R108 ⟨rfl, HE108⟩
  have HB108 := Sl.mk (below_trans HB107.out HE108.out)
  have HS108 : Below w.heap.size w R108 ∧ R108.heap[w3.heap.size]? = some (.cells #[.string r.a, .string r.b, .string r.c, .slice a3 r.fs.length c3] 25 (0, 0)) := ⟨HB108.out, box_below HS107.2 HE108.out⟩
  have HFR108 := Sl.mk (HFR107.out.below HE108.out)
  refine ⟨_, rfl, HS108, ?_⟩
  clear HS107 HB107 HFR107 HE108
  simp only [Act.put, List.setIfInBounds_toArray, List.set_cons_zero, List.set_cons_succ]
  refine heldTake (d := some 60) (op := Go.Op.binOp Go.BinOp.eql 39 (Go.Operand.tmp 59) (Go.Operand.const (Go.Value.int Go.IntKind.i64 0)) 39) (g := some (20, true)) 23 ?v23 rfl (by kernel_rfl) (by kernel_rfl) (by kernel_rfl) (by kernel_rfl) ?y23 HS108 ?_
  case y23 => intro o ho w hS; simp only [execOp, ho]; go_simp; try rfl
  simp only [Act.put, List.setIfInBounds_toArray, List.set_cons_zero, List.set_cons_succ]
  refine heldTake (d := some 61) (op := Go.Op.pick (Go.Operand.tmp 57) (Go.Operand.tmp 60) (Go.Operand.const (Go.Value.bool false))) (g := none) 24 ?v24 rfl (by kernel_rfl) (by kernel_rfl) (by kernel_rfl) (by kernel_rfl) ?y24 HS108 ?_
  case y24 => intro o ho w hS; simp only [execOp, ho]; go_simp; try rfl
  simp only [Act.put, List.setIfInBounds_toArray, List.set_cons_zero, List.set_cons_succ]
  refine heldTake (d := some 62) (op := Go.Op.move (Go.Operand.tmp 61)) (g := none) 25 ?v25 rfl (by kernel_rfl) (by kernel_rfl) (by kernel_rfl) (by kernel_rfl) ?y25 HS108 ?_
  case y25 => intro o ho w hS; simp only [execOp, ho]; go_simp; try rfl
  simp only [Act.put, List.setIfInBounds_toArray, List.set_cons_zero, List.set_cons_succ]
  refine heldTake (d := some 63) (op := Go.Op.move (Go.Operand.tmp 3)) (g := some (25, true)) 26 ?v26 rfl (by kernel_rfl) (by kernel_rfl) (by kernel_rfl) (by kernel_rfl) ?y26 HS108 ?_
  case y26 => intro o ho w hS; simp only [execOp, ho]; go_simp; try rfl
  simp only [Act.put, List.setIfInBounds_toArray, List.set_cons_zero, List.set_cons_succ]
  refine heldTake (d := some 65) (op := Go.Op.move (Go.Operand.tmp 4)) (g := some (25, true)) 28 ?v28 rfl (by kernel_rfl) (by kernel_rfl) (by kernel_rfl) (by kernel_rfl) ?y28 HS108 ?_
  case y28 => intro o ho w hS; simp only [execOp, ho]; go_simp; try rfl
  simp only [Act.put, List.setIfInBounds_toArray, List.set_cons_zero, List.set_cons_succ]
  refine heldTake (d := some 68) (op := Go.Op.move (Go.Operand.tmp 4)) (g := some (25, true)) 31 ?v31 rfl (by kernel_rfl) (by kernel_rfl) (by kernel_rfl) (by kernel_rfl) ?y31 HS108 ?_
  case y31 => intro o ho w hS; simp only [execOp, ho]; go_simp; try rfl
  simp only [Act.put, List.setIfInBounds_toArray, List.set_cons_zero, List.set_cons_succ]
  refine heldTake (d := some 69) (op := Go.Op.call { callee := Go.Callee.builtin Go.Builtin.len, args := #[Go.Operand.tmp 68], argTypes := #[28] }) (g := some (25, true)) 32 ?v32 rfl (by kernel_rfl) (by kernel_rfl) (by kernel_rfl) (by kernel_rfl) ?y32 HS108 ?_
  case y32 => intro o ho w hS; simp only [execOp, ho]; go_simp; try rfl
  simp only [Act.put, List.setIfInBounds_toArray, List.set_cons_zero, List.set_cons_succ]
  by_cases hn0 : n = 0
  · have hn1 : ((n : Int) == 0) = true := by simp [hn0]
    have hal : al = true := by rw [HAL.out, decide_eq_true hn0]; rfl
    subst hal
    refine heldTake (d := some 70) (op := Go.Op.binOp Go.BinOp.eql 3 (Go.Operand.tmp 69) (Go.Operand.const (Go.Value.int Go.IntKind.i64 0)) 3) (g := some (25, true)) 33 ?v33z rfl (by kernel_rfl) (by kernel_rfl) (by kernel_rfl) (by kernel_rfl) ?y33z HS108 ?_
    case y33z => intro o ho w hS; simp only [execOp, ho]; go_simp; try rfl
    simp only [Act.put, List.setIfInBounds_toArray, List.set_cons_zero, List.set_cons_succ]
    obtain ⟨A, hA⟩ : ∃ A, R108.alloc (.cells #[] 9) = A := ⟨_, rfl⟩
    have HBA : Sl (Below R108.heap.size R108 A) := ⟨by rw [← hA]; exact (Below.refl _ _).alloc (Nat.le_refl _) _⟩
    have HSA : Below w.heap.size w A ∧ A.heap[w3.heap.size]? = some (.cells #[.string r.a, .string r.b, .string r.c, .slice a3 r.fs.length c3] 25 (0, 0)) := ⟨below_trans HB108.out HBA.out, box_below HS108.2 HBA.out⟩
    have HOA : Sl (OwnS A R108.heap.size (.slice (some ⟨R108.heap.size, 0, none⟩) 0 0) []) := ⟨by rw [← hA]; exact own_lit R108⟩
    have HVA : Sl (StrA A (.slice vd n vc) l) := ⟨by rw [← hA]; exact HXA.out _ HB108.out⟩
    refine heldRunT (d := some 64) (op := Go.Op.buildSlice 28 0 #[]) (g := some (25, true)) 27 (.slice (some ⟨R108.heap.size, 0, none⟩) 0 0) A rfl (by kernel_rfl) (by kernel_rfl) ?y27z HSA ?_
    case y27z => intro o ho ht; simp only [execOp, ho]; go_simp; first | done | rw [hA] | rfl
    simp only [Act.put, List.setIfInBounds_toArray, List.set_cons_zero, List.set_cons_succ]
    obtain ⟨v1, R9, hap, ho9, hg9⟩ := add_all HOA.out HVA.out (by have := HLA.out; have := HN.out; simp; omega) HBA.out.size 28
    rw [List.nil_append] at ho9
    obtain ⟨HB9', HB9⟩ := app_below HB108.out (own_lit R108) (by rw [hA]; exact hg9)
    have HS9 : Below w.heap.size w R9 ∧ R9.heap[w3.heap.size]? = some (.cells #[.string r.a, .string r.b, .string r.c, .slice a3 r.fs.length c3] 25 (0, 0)) := ⟨HB9.out, box_below HS108.2 HB9'.out⟩
    have HO9 := Sl.mk ho9.strA
    refine heldRunT (d := some 66) (op := Go.Op.call { callee := Go.Callee.builtin Go.Builtin.append, args := #[Go.Operand.tmp 64, Go.Operand.tmp 65], argTypes := #[28, 28] }) (g := some (25, true)) 29 v1 R9 rfl (by kernel_rfl) (by kernel_rfl) ?y29z HS9 ?_
    case y29z => intro o ho ht; exact run_app5 ho ht rfl rfl hap
    simp only [Act.put, List.setIfInBounds_toArray, List.set_cons_zero, List.set_cons_succ]
    clear hap hg9 hA HOA HVA HBA HSA ho9 HB9'
    refine heldCall (d := some 67) (op := Go.Op.call { callee := Go.Callee.value (Go.Operand.func 26), args := #[Go.Operand.tmp 63, Go.Operand.tmp 66], argTypes := #[9, 28] }) (g := some (25, true)) 30 26 ?a30z rfl (by kernel_rfl) (by kernel_rfl) ?y30z ?_
    case y30z => intro o ho; simp only [execOp, ho]; go_simp; try rfl
    refine (C26.out _ v1 HO9.out).mono ?_
    rintro e wz ⟨rfl, rfl⟩
    refine ⟨_, rfl, HS9, ?_⟩
    simp only [Act.put, List.setIfInBounds_toArray, List.set_cons_zero, List.set_cons_succ]
    refine heldTake (d := some 71) (op := Go.Op.move (Go.Operand.tmp 70)) (g := some (25, true)) 34 ?v34z rfl (by kernel_rfl) (by kernel_rfl) (by kernel_rfl) (by kernel_rfl) ?y34z HS9 ?_
    case y34z => intro o ho w hS; simp only [execOp, ho]; go_simp; try rfl
    simp only [Act.put, List.setIfInBounds_toArray, List.set_cons_zero, List.set_cons_succ]
    refine heldSkip (d := some 72) (op := Go.Op.move (Go.Operand.tmp 3)) (g := some (34, false)) 35 rfl (by kernel_rfl) (by kernel_rfl) (by kernel_rfl) (by kernel_rfl) HS9 ?_
    simp only [Act.put, List.setIfInBounds_toArray, List.set_cons_zero, List.set_cons_succ]
    refine heldSkip (d := some 73) (op := Go.Op.move (Go.Operand.tmp 4)) (g := some (34, false)) 36 rfl (by kernel_rfl) (by kernel_rfl) (by kernel_rfl) (by kernel_rfl) HS9 ?_
    simp only [Act.put, List.setIfInBounds_toArray, List.set_cons_zero, List.set_cons_succ]
    refine heldSkip (d := some 74) (op := Go.Op.call { callee := Go.Callee.value (Go.Operand.func 27), args := #[Go.Operand.tmp 72, Go.Operand.tmp 73], argTypes := #[9, 28] }) (g := some (34, false)) 37 rfl (by kernel_rfl) (by kernel_rfl) (by kernel_rfl) (by kernel_rfl) HS9 ?_
    simp only [Act.put, List.setIfInBounds_toArray, List.set_cons_zero, List.set_cons_succ]
    refine heldTake (d := some 75) (op := Go.Op.pick (Go.Operand.tmp 71) (Go.Operand.const (Go.Value.bool true)) (Go.Operand.tmp 74)) (g := some (25, true)) 38 ?v38z rfl (by kernel_rfl) (by kernel_rfl) (by kernel_rfl) (by kernel_rfl) ?y38z HS9 ?_
    case y38z => intro o ho w hS; simp only [execOp, ho]; go_simp; try rfl
    simp only [Act.put, List.setIfInBounds_toArray, List.set_cons_zero, List.set_cons_succ]
    refine heldTake (d := some 76) (op := Go.Op.binOp Go.BinOp.eql 4 (Go.Operand.tmp 67) (Go.Operand.tmp 75) 4) (g := some (25, true)) 39 ?v39z rfl (by kernel_rfl) (by kernel_rfl) (by kernel_rfl) (by kernel_rfl) ?y39z HS9 ?_
    case y39z => intro o ho w hS; simp only [execOp, ho]; go_simp; try rfl
    simp only [Act.put, List.setIfInBounds_toArray, List.set_cons_zero, List.set_cons_succ]
    refine heldTake (d := some 77) (op := Go.Op.pick (Go.Operand.tmp 62) (Go.Operand.tmp 76) (Go.Operand.const (Go.Value.bool false))) (g := none) 40 ?v40z rfl (by kernel_rfl) (by kernel_rfl) (by kernel_rfl) (by kernel_rfl) ?y40z HS9 ?_
    case y40z => intro o ho w hS; simp only [execOp, ho]; go_simp; try rfl
    simp only [Act.put, List.setIfInBounds_toArray, List.set_cons_zero, List.set_cons_succ]
    refine heldTake (d := some 10) (op := Go.Op.assign (Go.Operand.tmp 77)) (g := none) 41 ?v41z rfl (by kernel_rfl) (by kernel_rfl) (by kernel_rfl) (by kernel_rfl) ?y41z HS9 ?_
    case y41z => intro o ho w hS; simp only [execOp, ho]; go_simp; try rfl
    simp only [Act.put, List.setIfInBounds_toArray, List.set_cons_zero, List.set_cons_succ]
    refine wpAnyH_done (by kernel_rfl) ?_ _
    refine NoPanic.normal ?_
    go_wp2
    go_ret
    exact ⟨rfl, HB9⟩
  · have hn1 : ((n : Int) == 0) = false := by simp; omega
    have hal : al = ib := by rw [HAL.out, decide_eq_false hn0]; rfl
    subst hal
    refine heldTake (d := some 70) (op := Go.Op.binOp Go.BinOp.eql 3 (Go.Operand.tmp 69) (Go.Operand.const (Go.Value.int Go.IntKind.i64 0)) 3) (g := some (25, true)) 33 ?v33u rfl (by kernel_rfl) (by kernel_rfl) (by kernel_rfl) (by kernel_rfl) ?y33u HS108 ?_
    case y33u => intro o ho w hS; simp only [execOp, ho]; go_simp; try rfl
    simp only [Act.put, List.setIfInBounds_toArray, List.set_cons_zero, List.set_cons_succ]
    obtain ⟨A, hA⟩ : ∃ A, R108.alloc (.cells #[] 9) = A := ⟨_, rfl⟩
    have HBA : Sl (Below R108.heap.size R108 A) := ⟨by rw [← hA]; exact (Below.refl _ _).alloc (Nat.le_refl _) _⟩
    have HSA : Below w.heap.size w A ∧ A.heap[w3.heap.size]? = some (.cells #[.string r.a, .string r.b, .string r.c, .slice a3 r.fs.length c3] 25 (0, 0)) := ⟨below_trans HB108.out HBA.out, box_below HS108.2 HBA.out⟩
    have HOA : Sl (OwnS A R108.heap.size (.slice (some ⟨R108.heap.size, 0, none⟩) 0 0) []) := ⟨by rw [← hA]; exact own_lit R108⟩
    have HVA : Sl (StrA A (.slice vd n vc) l) := ⟨by rw [← hA]; exact HXA.out _ HB108.out⟩
    refine heldRunT (d := some 64) (op := Go.Op.buildSlice 28 0 #[]) (g := some (25, true)) 27 (.slice (some ⟨R108.heap.size, 0, none⟩) 0 0) A rfl (by kernel_rfl) (by kernel_rfl) ?y27u HSA ?_
    case y27u => intro o ho ht; simp only [execOp, ho]; go_simp; first | done | rw [hA] | rfl
    simp only [Act.put, List.setIfInBounds_toArray, List.set_cons_zero, List.set_cons_succ]
    obtain ⟨v1, R9, hap, ho9, hg9⟩ := add_all HOA.out HVA.out (by have := HLA.out; have := HN.out; simp; omega) HBA.out.size 28
    rw [List.nil_append] at ho9
    obtain ⟨HB9', HB9⟩ := app_below HB108.out (own_lit R108) (by rw [hA]; exact hg9)
    have HS9 : Below w.heap.size w R9 ∧ R9.heap[w3.heap.size]? = some (.cells #[.string r.a, .string r.b, .string r.c, .slice a3 r.fs.length c3] 25 (0, 0)) := ⟨HB9.out, box_below HS108.2 HB9'.out⟩
    have HO9 := Sl.mk ho9.strA
    refine heldRunT (d := some 66) (op := Go.Op.call { callee := Go.Callee.builtin Go.Builtin.append, args := #[Go.Operand.tmp 64, Go.Operand.tmp 65], argTypes := #[28, 28] }) (g := some (25, true)) 29 v1 R9 rfl (by kernel_rfl) (by kernel_rfl) ?y29u HS9 ?_
    case y29u => intro o ho ht; exact run_app5 ho ht rfl rfl hap
    simp only [Act.put, List.setIfInBounds_toArray, List.set_cons_zero, List.set_cons_succ]
    clear hap hg9 hA HOA HVA HBA HSA ho9 HB9'
    refine heldCall (d := some 67) (op := Go.Op.call { callee := Go.Callee.value (Go.Operand.func 26), args := #[Go.Operand.tmp 63, Go.Operand.tmp 66], argTypes := #[9, 28] }) (g := some (25, true)) 30 26 ?a30u rfl (by kernel_rfl) (by kernel_rfl) ?y30u ?_
    case y30u => intro o ho; simp only [execOp, ho]; go_simp; try rfl
    refine (C26.out _ v1 HO9.out).mono ?_
    rintro e wz ⟨rfl, rfl⟩
    refine ⟨_, rfl, HS9, ?_⟩
    simp only [Act.put, List.setIfInBounds_toArray, List.set_cons_zero, List.set_cons_succ]
    refine heldTake (d := some 71) (op := Go.Op.move (Go.Operand.tmp 70)) (g := some (25, true)) 34 ?v34u rfl (by kernel_rfl) (by kernel_rfl) (by kernel_rfl) (by kernel_rfl) ?y34u HS9 ?_
    case y34u => intro o ho w hS; simp only [execOp, ho]; go_simp; try rfl
    simp only [Act.put, List.setIfInBounds_toArray, List.set_cons_zero, List.set_cons_succ]
    refine heldTake (d := some 72) (op := Go.Op.move (Go.Operand.tmp 3)) (g := some (34, false)) 35 ?v35u rfl (by kernel_rfl) (by kernel_rfl) (by kernel_rfl) (by kernel_rfl) ?y35u HS9 ?_
    case y35u => intro o ho w hS; simp only [execOp, ho]; go_simp; try rfl
    simp only [Act.put, List.setIfInBounds_toArray, List.set_cons_zero, List.set_cons_succ]
    refine heldTake (d := some 73) (op := Go.Op.move (Go.Operand.tmp 4)) (g := some (34, false)) 36 ?v36u rfl (by kernel_rfl) (by kernel_rfl) (by kernel_rfl) (by kernel_rfl) ?y36u HS9 ?_
    case y36u => intro o ho w hS; simp only [execOp, ho]; go_simp; try rfl
    simp only [Act.put, List.setIfInBounds_toArray, List.set_cons_zero, List.set_cons_succ]
    refine heldCall (d := some 74) (op := Go.Op.call { callee := Go.Callee.value (Go.Operand.func 27), args := #[Go.Operand.tmp 72, Go.Operand.tmp 73], argTypes := #[9, 28] }) (g := some (34, false)) 37 27 ?a37u rfl (by kernel_rfl) (by kernel_rfl) ?y37u ?_
    case y37u => intro o ho; simp only [execOp, ho]; go_simp; try rfl
    refine (C27.out _ HB9.out).mono ?_
    rintro e wz ⟨rfl, rfl⟩
    refine ⟨_, rfl, HS9, ?_⟩
    simp only [Act.put, List.setIfInBounds_toArray, List.set_cons_zero, List.set_cons_succ]
    refine heldTake (d := some 75) (op := Go.Op.pick (Go.Operand.tmp 71) (Go.Operand.const (Go.Value.bool true)) (Go.Operand.tmp 74)) (g := some (25, true)) 38 ?v38u rfl (by kernel_rfl) (by kernel_rfl) (by kernel_rfl) (by kernel_rfl) ?y38u HS9 ?_
    case y38u => intro o ho w hS; simp only [execOp, ho]; go_simp; try rfl
    simp only [Act.put, List.setIfInBounds_toArray, List.set_cons_zero, List.set_cons_succ]
    have hbb : (al == al) = true := by simp
    refine heldTake (d := some 76) (op := Go.Op.binOp Go.BinOp.eql 4 (Go.Operand.tmp 67) (Go.Operand.tmp 75) 4) (g := some (25, true)) 39 ?v39u rfl (by kernel_rfl) (by kernel_rfl) (by kernel_rfl) (by kernel_rfl) ?y39u HS9 ?_
    case y39u => intro o ho w hS; simp only [execOp, ho]; go_simp; try rfl
    simp only [Act.put, List.setIfInBounds_toArray, List.set_cons_zero, List.set_cons_succ]
    refine heldTake (d := some 77) (op := Go.Op.pick (Go.Operand.tmp 62) (Go.Operand.tmp 76) (Go.Operand.const (Go.Value.bool false))) (g := none) 40 ?v40u rfl (by kernel_rfl) (by kernel_rfl) (by kernel_rfl) (by kernel_rfl) ?y40u HS9 ?_
    case y40u => intro o ho w hS; simp only [execOp, ho]; go_simp; try rfl
    simp only [Act.put, List.setIfInBounds_toArray, List.set_cons_zero, List.set_cons_succ]
    refine heldTake (d := some 10) (op := Go.Op.assign (Go.Operand.tmp 77)) (g := none) 41 ?v41u rfl (by kernel_rfl) (by kernel_rfl) (by kernel_rfl) (by kernel_rfl) ?y41u HS9 ?_
    case y41u => intro o ho w hS; simp only [execOp, ho]; go_simp; try rfl
    simp only [Act.put, List.setIfInBounds_toArray, List.set_cons_zero, List.set_cons_succ]
    refine wpAnyH_done (by kernel_rfl) ?_ _
    refine NoPanic.normal ?_
    go_wp2
    go_ret
    exact ⟨rfl, HB9⟩
theorem answer_walk (key p : ByteArray) (st : Int) (origin : ByteArray) (v : Value) (l : List ByteArray) (w : World) (hg : GlobA w) (_ : key.size ≤ maxLen) (_ : p.size ≤ maxLen) (_ : origin.size ≤ maxLen) (hv : StrA w v l) (hl : l.length ≤ maxLen) (hs : ∀ s ∈ l, s.size ≤ maxLen) (_ : -9223372036854775808 ≤ st ∧ st ≤ 9223372036854775807) :
    Calls Tryz.prog 4 #[.string key, .string p, .int .i64 st, .string origin, v] w fun e w' => e = .returned (.bool true) ∧ Below w.heap.size w w' := by
  have h : Calls Tryz.prog 4 #[.string key, .string p, .int .i64 st, .string origin, v] w fun e w' => e = .returned (.bool true) ∧ Sl (Below w.heap.size w w') := by
    by_cases h1 : key.size ≤ 300
    · by_cases h2 : p.size ≤ 300
      · by_cases h3 : origin.size ≤ 300
        · cases hf : fewB l with
          | false => exact answer_bad_few key p st origin v w hg l hv hl hs h1 h2 h3 hf
          | true => exact answer_good key p st origin v l w hg hv h1 h2 h3 hf
        · exact answer_bad_origin key p st origin v w hg h1 h2 (by omega)
      · exact answer_bad_p key p st origin v w hg h1 (by omega)
    · exact answer_bad_key key p st origin v w hg (by omega)
  exact h.mono fun _ _ ⟨h1, h2⟩ => ⟨h1, h2.out⟩
end Go.Proofs.YthlagngpllahkaaGreatDoor
