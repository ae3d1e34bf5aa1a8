/- route: which route goes ahead; one of its own; whether a route may be one of a configuration's. -/
import Derived.Test.YtdndpicfnlcgjaaDoorRC
import Derived.Lib.BufferWrite
import Derived.Lib.UnsafeStr
import Derived.Deep.DeepCutAuto
import Derived.StillTailTactics
import Derived.Deep.Strs
import Derived.Test.YtdndpicfnlcgjaaDoorMore
set_option maxRecDepth 100000
namespace Go.Proofs.YtdndpicfnlcgjaaDoor.Rou
open Go.RowKit
open HeadPlain (token)
open RoutePlain (Rt stem stem_cons stem_le stem_take stem_no stem_self stem_at stem_before below better)

theorem below_key {w w' : World} {g : Nat} {o : Obj} (h : w.heap[g]? = some o) (k : Below w.heap.size w w') : w'.heap[g]? = some o := by
  rw [k.block g (Array.getElem?_eq_some_iff.1 h).1]; exact h
theorem nil_beq (s : ByteArray) : (s.toList == ([] : List UInt8)) = decide (bytes s = []) := beq_bytes s []
theorem nil_emp (s : ByteArray) : s.toList.isEmpty = decide (bytes s = []) := by rw [← nil_beq]; cases s.toList <;> rfl
theorem nil_yes {s : ByteArray} (h : decide (bytes s = []) = true) : (s.toList == ([] : List UInt8)) = true ∧ s.toList.isEmpty = true ∧ (s.toList = []) = True := by
  refine ⟨by rw [nil_beq, h], by rw [nil_emp, h], eq_true ?_⟩
  have := nil_beq s
  rw [h] at this
  exact eq_of_beq this
theorem nil_no {s : ByteArray} (h : decide (bytes s = []) = false) : (s.toList == ([] : List UInt8)) = false ∧ s.toList.isEmpty = false ∧ (s.toList = []) = False := by
  refine ⟨by rw [nil_beq, h], by rw [nil_emp, h], eq_false ?_⟩
  intro e
  have := nil_beq s
  rw [h, e] at this
  cases this
theorem nil_str {s : ByteArray} (h : s.size = 0) : s = { data := #[] } := ByteArray.ext (Array.eq_empty_of_size_eq_zero h)
theorem newClone_any (s : ByteArray) (w : World) (hm : s.size ≤ 1000000) : Calls Tryd.prog 54 #[.string s] w fun e w' => e = .returned (.string s) ∧ Sl (Below w.heap.size w w') := by
  by_cases h0 : s.size = 0
  · obtain rfl := nil_str h0
    clear h0 hm
    go_enter Tryd.func54, Tryd.ntmps54
    go_wp2
    go_ret
    exact ⟨rfl, ⟨Below.refl _ _⟩⟩
  · have hq : (((s.size : Nat) : Int) == 0) = false := beq_eq_false_iff_ne.2 (by omega)
    have hi5 : (Tryd.prog.info? 5).map (·.size) = some 1 := size5
    have hc5 : Tryd.prog.cellsOf 5 = 1 := by kernel_rfl
    have mk := make_u8 (s.size : Int) s.size rfl hm
    obtain ⟨M, hM⟩ : ∃ M, (u8s (zs s.size)).toArray = M := ⟨_, rfl⟩
    rw [hM] at mk
    have hMs : M.size = s.size := by rw [← hM, List.size_toArray, u8s_length]; simp [zs]
    obtain ⟨wa, hwa⟩ : ∃ w1, w.alloc (.cells M 5) = w1 := ⟨_, rfl⟩
    have ha : wa.heap[w.heap.size]? = some (.cells M 5 (0, 0)) := by rw [← hwa]; exact alloc_new _ _ _ rfl
    have hmk : (Instr.makeSlice 77 (.int .i64 (s.size : Int)) (.int .i64 (s.size : Int))).run Tryd.prog w = .ok (.slice (some ⟨w.heap.size, 0, none⟩) s.size s.size) wa := by rw [← hwa]; exact mk w
    have hcp := Lib.run_copy_row_string (P := Tryd.prog) wa 77 9 3 5 w.heap.size 0 s.size s.size s M 5 Tryd.underlying77 hi5 ha (Nat.le_refl _) (by omega)
    rw [List.take_zero, List.nil_append, List.drop_of_length_le (by rw [Array.length_toList]; omega), List.append_nil] at hcp
    obtain ⟨wb, hwb⟩ : ∃ w1, wa.setRow w.heap.size (Lib.byteCells s.data.toList).toArray = w1 := ⟨_, rfl⟩
    rw [hwb] at hcp
    have hb : wb.heap[w.heap.size]? = some (.cells (Lib.byteCells s.data.toList).toArray 5 (0, 0)) := by rw [← hwb]; exact setRow_heap _ _ M _ 5 (0, 0) ha
    have hne : s.data.toList ≠ [] := fun e => h0 (by rw [Lib.size_eq, e]; rfl)
    have hus := Lib.run_unsafeString_row (P := Tryd.prog) wb 78 3 9 5 Tryd.underlying78 hc5 w.heap.size s.size (by unfold World.shape?; rw [hb]; simp [Lib.byteCells_length]) s.data.toList hne (by rw [← Lib.size_eq]; omega) (by rw [← Lib.size_eq]; omega)
      (fun j x hx => by
        rw [Addr.add_mid, Nat.zero_add, cell_of_row _ _ _ _ _ _ hb, List.getElem?_toArray]
        simp [Lib.byteCells, hx])
    rw [← Lib.size_eq] at hus
    have HB : Sl (Below w.heap.size w (wb.freeze ⟨w.heap.size, 0, none⟩ s.size)) := ⟨by
      refine Lib.below_freeze (p := ⟨w.heap.size, 0, none⟩) ?_ (Nat.le_refl _) _
      have h1 : Below w.heap.size w wa := by rw [← hwa]; exact (Below.refl _ _).alloc (Nat.le_refl _) _
      refine h1.trans ?_
      rw [← hwb]
      exact ⟨rfl, rfl, rfl, by simp, fun k hk => setRow_other _ _ _ _ (by omega)⟩⟩
    clear hwa hwb ha hb hM hMs mk hne
    go_enter Tryd.func54, Tryd.ntmps54
    go_wp2
    go_ret
    exact ⟨rfl, HB⟩
theorem clone_any (s : ByteArray) (w : World) (hm : s.size ≤ 1000000) : Calls Tryd.prog 44 #[.string s] w fun e w' => e = .returned (.string s) ∧ Sl (Below w.heap.size w w') := by
  have C := newClone_any s w hm
  clear hm
  go_enter Tryd.func44, Tryd.ntmps44
  go_wp2_with fail
  refine C.mono ?_
  rintro e w1 ⟨rfl, HB⟩
  clear C
  go_wp2
  go_ret
  exact ⟨rfl, HB⟩


set_option maxHeartbeats 1000000 in
theorem ahead_any (a b c d e f : ByteArray) (W : World) (r : Bool) (hr : better ⟨bytes d, bytes e, bytes f⟩ ⟨bytes a, bytes b, bytes c⟩ = r) :
    Calls Tryd.prog 33 #[.agg #[.string a, .string b, .string c], .agg #[.string d, .string e, .string f]] W fun en w' => en = .returned (.bool r) ∧ Sl (Below W.heap.size W w') := by
  unfold better at hr
  simp only at hr
  rw [bytes_length, bytes_length] at hr
  have HR := Sl.mk hr
  clear hr
  have HB0 : ∀ o p, Sl (Below W.heap.size W ((W.alloc o).alloc p)) := fun o p => ⟨((Below.refl _ _).alloc (Nat.le_refl _) _).alloc (by rw [alloc_size]; omega) _⟩
  by_cases h0 : a.size = d.size
  · have h0' : ((a.size : Int) != (d.size : Int)) = false := by rw [h0]; exact bne_self_eq_false _
    have h0'' : ((a.size : Int) = (d.size : Int)) := by omega
    have HR2 : Sl ((decide (bytes e = []) && !decide (bytes b = [])) = r) := ⟨by rw [← HR.out, decide_eq_false (show ¬ d.size < a.size by omega), decide_eq_true h0, Bool.false_or, Bool.true_and, ← decide_not]⟩
    clear HR h0
    cases hx : decide (bytes b = []) with
    | true =>
      obtain ⟨e1, e2, e3⟩ := nil_yes hx
      rw [hx, Bool.not_true, Bool.and_false] at HR2
      go_enter Tryd.func33, Tryd.ntmps33
      go_wp2
      go_ret
      exact ⟨ret_bool HR2.out, HB0 _ _⟩
    | false =>
      obtain ⟨e1, e2, e3⟩ := nil_no hx
      rw [hx, Bool.not_false, Bool.and_true] at HR2
      clear hx
      cases hy : decide (bytes e = []) with
      | true =>
        obtain ⟨f1, f2, f3⟩ := nil_yes hy
        rw [hy] at HR2
        clear hy
        go_enter Tryd.func33, Tryd.ntmps33
        go_wp2
        go_ret
        exact ⟨ret_bool HR2.out, HB0 _ _⟩
      | false =>
        obtain ⟨f1, f2, f3⟩ := nil_no hy
        rw [hy] at HR2
        clear hy
        go_enter Tryd.func33, Tryd.ntmps33
        go_wp2
        go_ret
        exact ⟨ret_bool HR2.out, HB0 _ _⟩
  · have h0' : ((a.size : Int) != (d.size : Int)) = true := bne_iff_ne.2 (by omega)
    have HR2 : Sl (decide (d.size < a.size) = r) := ⟨by rw [← HR.out, decide_eq_false h0, Bool.false_and, Bool.or_false]⟩
    by_cases h1 : d.size < a.size
    · have h1' : ((a.size : Int) > (d.size : Int)) = True := eq_true (by omega)
      rw [decide_eq_true h1] at HR2
      clear HR h0
      go_enter Tryd.func33, Tryd.ntmps33
      go_wp2
      go_ret
      exact ⟨ret_bool HR2.out, HB0 _ _⟩
    · have h1' : ((a.size : Int) > (d.size : Int)) = False := eq_false (by omega)
      rw [decide_eq_false h1] at HR2
      clear HR h0
      go_enter Tryd.func33, Tryd.ntmps33
      go_wp2
      go_ret
      exact ⟨ret_bool HR2.out, HB0 _ _⟩
theorem box_of (W : World) (a b c : ByteArray) : ∃ V, W.alloc (.cells #[.string a, .string b, .string c] 34) = V ∧ Sl (Below W.heap.size W V) ∧ V.heap[W.heap.size]? = some (.cells #[.string a, .string b, .string c] 34 (0, 0)) :=
  ⟨_, rfl, ⟨(Below.refl _ _).alloc (Nat.le_refl _) _⟩, alloc_new _ _ _ rfl⟩
theorem store_rt {W : World} {ev : Operand → Value} {o : Oper} {x y : Operand} {g : Nat} {a b c : ByteArray} {c0 c1 c2 : Value} (ho : o.op = .store 34 x y) (hx : ev x = .pointer (some ⟨g, 0, none⟩)) (hy : ev y = .agg #[.string a, .string b, .string c])
    (hg : W.heap[g]? = some (.cells #[c0, c1, c2] 34 (0, 0))) : (execOp ev o).run Tryd.prog W = .ok .skip (W.setRow g #[.string a, .string b, .string c]) := by
  have hi : (Tryd.prog.info? 34).map (·.size) = some 3 := by kernel_rfl
  have hst := run_storeCells_at Tryd.prog g 0 34 [.string a, .string b, .string c] 0 _ W hg (by simp) (fun v hv => by
    simp only [List.mem_cons, List.not_mem_nil, or_false] at hv
    rcases hv with rfl | rfl | rfl <;> rfl)
  cases hq : Tryd.prog.info? 34 with
  | none => rw [hq] at hi; cases hi
  | some i =>
    have hs : i.size = 3 := by rw [hq] at hi; simpa using hi
    unfold execOp
    simp only [ho, hx, hy, Instr.storeAt, Instr.sureAddr, Sem.run_bind, Sem.run_pure, Result.andThen_ok, storeVar, sizeOf, typeInfo]
    simp [Value.cells, hq, hs]
    refine (congrArg (fun r => Result.andThen r _) hst).trans ?_
    rfl
set_option maxHeartbeats 2000000 in
theorem own_any (a b c : ByteArray) (W : World) (ha : a.size ≤ 1000000) (hb : b.size ≤ 1000000) (hc : c.size ≤ 1000000) :
    Calls Tryd.prog 34 #[.agg #[.string a, .string b, .string c]] W fun en w' => en = .returned (.agg #[.string a, .string b, .string c]) ∧ Sl (Below W.heap.size W w') := by
  have CA : Sl (∀ V, Calls Tryd.prog 44 #[.string a] V fun e w' => e = .returned (.string a) ∧ Sl (Below V.heap.size V w')) := ⟨fun V => clone_any a V ha⟩
  have CB : Sl (∀ V, Calls Tryd.prog 44 #[.string b] V fun e w' => e = .returned (.string b) ∧ Sl (Below V.heap.size V w')) := ⟨fun V => clone_any b V hb⟩
  have CC : Sl (∀ V, Calls Tryd.prog 44 #[.string c] V fun e w' => e = .returned (.string c) ∧ Sl (Below V.heap.size V w')) := ⟨fun V => clone_any c V hc⟩
  clear ha hb hc
  obtain ⟨wa, hwa, HBa, ha⟩ := box_of W a b c
  obtain ⟨wb, hwb, HBb, hb⟩ := box_rt wa
  have HA := Sl.mk (below_key ha HBb.out)
  have HBB := Sl.mk hb
  have HB0 : Sl (Below W.heap.size W wb) := ⟨HBa.out.trans (HBb.out.mono HBa.out.size)⟩
  have HLT : Sl (W.heap.size < wa.heap.size) := ⟨(Array.getElem?_eq_some_iff.1 ha).1⟩
  obtain ⟨g, hg⟩ : ∃ g, W.heap.size = g := ⟨_, rfl⟩
  obtain ⟨x, hx⟩ : ∃ g, wa.heap.size = g := ⟨_, rfl⟩
  rw [hg] at HA HB0 HLT ha HBa
  rw [hx] at HBB HLT hb HBb
  clear ha hb
  go_enter Tryd.func34, Tryd.ntmps34
  go_upto_region 1 with fail
  (try rw [hwa, hwb, hx])
  (try rw [hg])
  clear hwa hwb HBb HBa
  obtain ⟨Rw, hRw⟩ : ∃ R, wb.drew = R := ⟨_, rfl⟩
  have HBR : Below wb.heap.size wb Rw := by rw [← hRw]; exact (Below.refl _ _).drew
  refine wp_region_noPanic ?_
  refine wp_region_held (S := fun V => V.heap[g]? = some (.cells #[.string a, .string b, .string c] 34 (0, 0))) (by kernel_rfl) ?_
  change wpAnyH _ _ _ _ _ _ _ _ wb.drew
  rw [hRw]
  clear hRw
  have HS0 : Rw.heap[g]? = some (.cells #[.string a, .string b, .string c] 34 (0, 0)) := below_key HA.out HBR
  have HX0 := Sl.mk (below_key HBB.out HBR)
  have HB1 : Sl (Below g W Rw) := ⟨HB0.out.trans (HBR.mono (hg ▸ HB0.out.size))⟩
  clear HBB HB0
  refine heldTake (d := some 3) (op := .fieldAddr 34 (Operand.tmp 1) 0) (g := none) 0 ?v0 rfl (by kernel_rfl) (by kernel_rfl) (by kernel_rfl) (by kernel_rfl) ?y0 HS0 ?_
  case y0 => intro o' ho W hS; simp only [execOp, ho]; go_simp; try rfl
  simp only [Act.put, List.setIfInBounds_toArray, List.set_cons_zero, List.set_cons_succ]
  refine heldTake (d := some 4) (op := .load 9 (Operand.tmp 3)) (g := none) 1 ?v1 rfl (by kernel_rfl) (by kernel_rfl) (by kernel_rfl) (by kernel_rfl) ?y1 HS0 ?_
  case y1 => intro o' ho W hS; obtain ⟨f0, f1, f2⟩ := rt_cells hS; simp only [execOp, ho]; go_simp; try rfl
  simp only [Act.put, List.setIfInBounds_toArray, List.set_cons_zero, List.set_cons_succ]
  refine heldTake (d := some 6) (op := .fieldAddr 34 (Operand.tmp 1) 1) (g := none) 3 ?v3 rfl (by kernel_rfl) (by kernel_rfl) (by kernel_rfl) (by kernel_rfl) ?y3 HS0 ?_
  case y3 => intro o' ho W hS; simp only [execOp, ho]; go_simp; try rfl
  simp only [Act.put, List.setIfInBounds_toArray, List.set_cons_zero, List.set_cons_succ]
  refine heldTake (d := some 7) (op := .load 9 (Operand.tmp 6)) (g := none) 4 ?v4 rfl (by kernel_rfl) (by kernel_rfl) (by kernel_rfl) (by kernel_rfl) ?y4 HS0 ?_
  case y4 => intro o' ho W hS; obtain ⟨f0, f1, f2⟩ := rt_cells hS; simp only [execOp, ho]; go_simp; try rfl
  simp only [Act.put, List.setIfInBounds_toArray, List.set_cons_zero, List.set_cons_succ]
  refine heldTake (d := some 9) (op := .fieldAddr 34 (Operand.tmp 1) 2) (g := none) 6 ?v6 rfl (by kernel_rfl) (by kernel_rfl) (by kernel_rfl) (by kernel_rfl) ?y6 HS0 ?_
  case y6 => intro o' ho W hS; simp only [execOp, ho]; go_simp; try rfl
  simp only [Act.put, List.setIfInBounds_toArray, List.set_cons_zero, List.set_cons_succ]
  refine heldTake (d := some 10) (op := .load 9 (Operand.tmp 9)) (g := none) 7 ?v7 rfl (by kernel_rfl) (by kernel_rfl) (by kernel_rfl) (by kernel_rfl) ?y7 HS0 ?_
  case y7 => intro o' ho W hS; obtain ⟨f0, f1, f2⟩ := rt_cells hS; simp only [execOp, ho]; go_simp; try rfl
  simp only [Act.put, List.setIfInBounds_toArray, List.set_cons_zero, List.set_cons_succ]
  refine heldCall (d := some 5) (op := .call { callee := Callee.value (Operand.func 44), args := #[Operand.tmp 4], argTypes := #[9] }) (g := none) 2 44 #[.string a] rfl (by kernel_rfl) (by kernel_rfl) ?y2 ?_
  case y2 => intro o' ho; simp only [execOp, ho]; go_simp; try rfl
  refine (CA.out _).mono ?_
  rintro e w1 ⟨rfl, HQ1⟩
  have HS1 : w1.heap[g]? = some (.cells #[.string a, .string b, .string c] 34 (0, 0)) := below_key HS0 HQ1.out
  have HX1 := Sl.mk (below_key HX0.out HQ1.out)
  have HB2 : Sl (Below g W w1) := ⟨HB1.out.trans (HQ1.out.mono (hg ▸ HB1.out.size))⟩
  clear HS0 HX0 HB1 HQ1
  refine ⟨_, rfl, HS1, ?_⟩
  simp only [Act.put, List.setIfInBounds_toArray, List.set_cons_zero, List.set_cons_succ]
  refine heldCall (d := some 8) (op := .call { callee := Callee.value (Operand.func 44), args := #[Operand.tmp 7], argTypes := #[9] }) (g := none) 5 44 #[.string b] rfl (by kernel_rfl) (by kernel_rfl) ?y5 ?_
  case y5 => intro o' ho; simp only [execOp, ho]; go_simp; try rfl
  refine (CB.out _).mono ?_
  rintro e w2 ⟨rfl, HQ2⟩
  have HS2 : w2.heap[g]? = some (.cells #[.string a, .string b, .string c] 34 (0, 0)) := below_key HS1 HQ2.out
  have HX2 := Sl.mk (below_key HX1.out HQ2.out)
  have HB3 : Sl (Below g W w2) := ⟨HB2.out.trans (HQ2.out.mono (hg ▸ HB2.out.size))⟩
  clear HS1 HX1 HB2 HQ2
  refine ⟨_, rfl, HS2, ?_⟩
  simp only [Act.put, List.setIfInBounds_toArray, List.set_cons_zero, List.set_cons_succ]
  refine heldCall (d := some 11) (op := .call { callee := Callee.value (Operand.func 44), args := #[Operand.tmp 10], argTypes := #[9] }) (g := none) 8 44 #[.string c] rfl (by kernel_rfl) (by kernel_rfl) ?y8 ?_
  case y8 => intro o' ho; simp only [execOp, ho]; go_simp; try rfl
  refine (CC.out _).mono ?_
  rintro e w3 ⟨rfl, HQ3⟩
  have HS3 : w3.heap[g]? = some (.cells #[.string a, .string b, .string c] 34 (0, 0)) := below_key HS2 HQ3.out
  have HX3 := Sl.mk (below_key HX2.out HQ3.out)
  have HB4 : Sl (Below g W w3) := ⟨HB3.out.trans (HQ3.out.mono (hg ▸ HB3.out.size))⟩
  clear HS2 HX2 HB3 HQ3
  refine ⟨_, rfl, HS3, ?_⟩
  simp only [Act.put, List.setIfInBounds_toArray, List.set_cons_zero, List.set_cons_succ]
  refine heldTake (d := some 12) (op := .build 34 #[(0, Operand.tmp 5), (1, Operand.tmp 8), (2, Operand.tmp 11)]) (g := none) 9 ?v9 rfl (by kernel_rfl) (by kernel_rfl) (by kernel_rfl) (by kernel_rfl) ?y9 HS3 ?_
  case y9 => intro o' ho W hS; simp only [execOp, ho]; go_simp; try rfl
  simp only [Act.put, List.setIfInBounds_toArray, List.set_cons_zero, List.set_cons_succ]
  obtain ⟨we, hwe, HBe, HCe⟩ := set_rt HX3.out HB4.out (Nat.le_of_lt HLT.out) #[.string a, .string b, .string c]
  have HSE : we.heap[g]? = some (.cells #[.string a, .string b, .string c] 34 (0, 0)) := by
    rw [← hwe, setRow_other _ _ _ _ (Nat.ne_of_lt HLT.out)]; exact HS3
  have HI : (Tryd.prog.info? 34).map (·.size) = some (#[.string a, .string b, .string c] : Array Value).size := rt_info rfl
  refine heldStore (d := none) (op := .store 34 (Operand.tmp 2) (Operand.tmp 12)) (g := none) (t := 0) 10 we rfl (by kernel_rfl) (by kernel_rfl) ?y10 HSE ?_
  case y10 => intro o' ho ht; exact (store_rt ho rfl rfl HX3.out).trans (by rw [hwe])
  simp only [Act.put]
  refine wpAnyH_done (by kernel_rfl) ?_ _
  refine NoPanic.normal ?_
  (try simp only [Exit.then])
  go_wp2_with fail
  refine bodyPost_ret (ret_rt1 rfl _ _ x _ rfl HCe.out rfl) rfl ?_
  exact ⟨rfl, by rw [hg]; exact HBe⟩
end Go.Proofs.YtdndpicfnlcgjaaDoor.Rou
