/- HeadFields, the walk: whatever head, field and name come in, the law's Go text returns true, and nothing that was in memory changes. -/
import Derived.Test.YtcohecghibndhaaDoorV0
import Derived.Deep.DeepCutAuto
import Derived.IntWalk
namespace Go.Proofs.YtcohecghibndhaaDoor
open Go.RowKit HeadPlain

theorem field_cells {W : World} {g : Nat} {a b : ByteArray} (h : W.heap[g]? = some (.cells #[.string a, .string b] 48 (0, 0))) :
    W.cell? ⟨g, 0, none⟩ = some (.string a) ∧ W.cell? ⟨g, 1, none⟩ = some (.string b) :=
  ⟨by rw [cell_of_row _ _ _ _ _ _ h]; rfl, by rw [cell_of_row _ _ _ _ _ _ h]; rfl⟩
theorem getV_snoc (fs : List FV) (f : FV) (name : ByteArray) : getV (fs ++ [f]) name = if same (bytes f.1) (bytes name) = true then getV fs name ++ [f.2] else getV fs name := by
  unfold getV
  rw [List.filter_append, List.map_append]
  by_cases h : same (bytes f.1) (bytes name) = true <;> simp [h]
theorem get_n (w0 W : World) (h : HdV) (v : Value) (name : ByteArray) (l : List ByteArray) (n : Nat) (hl : getV h.fs name = l) (hn : l.length = n) (hB : Below w0.heap.size w0 W) (hv : FieldsAt W v h.fs) (hL : h.fs.length ≤ 100000) :
    Calls Tryd.prog 21 #[.agg #[.string h.a, .string h.b, .string h.c, v], .string name] W fun e w' => ∃ a c, e = .returned (.slice a n c) ∧ Sl (StrA w' (.slice a n c) l) ∧ Sl (Below W.heap.size W w') ∧ Sl (Below w0.heap.size w0 w') := by
  subst hl
  subst hn
  exact get_ex w0 W h v name hB hv hL
theorem strA_take {W : World} {a : Option Addr} {c : Nat} {l : List ByteArray} {x : ByteArray} {n m : Nat} (h : StrA W (.slice a m c) (l ++ [x])) (hm : l.length + 1 = m) (hn : l.length = n) :
    ∃ sb so, a = some ⟨sb, so, none⟩ ∧ n + 1 ≤ c ∧ StrA W (.slice (some ⟨sb, so, none⟩) n c) l ∧ W.cell? ⟨sb, so + n, none⟩ = some (.string x) := by
  subst hm
  subst hn
  obtain ⟨ad, cap, sb, so, h1, h2, h3, h4⟩ := h
  rw [List.length_append] at h1 h2 h3 h4
  simp only [List.length_cons, List.length_nil, Nat.zero_add] at h1 h2 h3 h4
  injection h1 with e1 e2 e3
  subst e3
  have h5 := h3 (by omega)
  rw [← e1] at h5
  subst h5
  refine ⟨sb, so, rfl, h2, ⟨_, _, sb, so, rfl, by omega, fun _ => rfl, fun i hi => ?_⟩, ?_⟩
  · rw [h4 i (by omega)]
    simp only [List.getD_eq_getElem?_getD]; rw [List.getElem?_append_left hi]
  · rw [h4 l.length (by omega)]
    simp [List.getD_eq_getElem?_getD]

set_option maxHeartbeats 8000000 in
set_option maxRecDepth 100000 in
theorem fields_walk (h : HdV) (bx : Value) (fn fv name : ByteArray) (w : World) (hg : Globs w) (hf : h.Fit) (hv : FieldsAt w bx h.fs) (hfn : fn.size ≤ maxLen) (hfv : fv.size ≤ maxLen) (hn : name.size ≤ maxLen) :
    Calls Tryd.prog 9 #[.agg #[.string h.a, .string h.b, .string h.c, bx], .agg #[.string fn, .string fv], .string name] w fun e w' => e = .returned (.bool true) ∧ Below w.heap.size w w' := by
  obtain ⟨vad, vn, vc, hvv, hvn⟩ : ∃ a n c, bx = .slice a n c ∧ n = h.fs.length := by obtain ⟨a, cap, _, _, h1, _⟩ := hv; exact ⟨_, _, _, h1, rfl⟩
  subst hvv
  subst hvn
  have HG := Sl.mk hg
  have HV := Sl.mk hv
  have HF := Sl.mk hf
  have HFNm := Sl.mk hfn
  have HFVm := Sl.mk hfv
  unfold maxLen at hn hfn
  clear hg hv hf hfv
  obtain ⟨w1, hw1⟩ : ∃ w1, (w.alloc (.cells #[.string h.a, .string h.b, .string h.c, .slice vad h.fs.length vc] 25)).alloc (.cells #[.string fn, .string fv] 48) = w1 := ⟨_, rfl⟩
  have HB1 : Sl (Below w.heap.size w w1) := ⟨by rw [← hw1]; exact ((Below.refl _ _).alloc (Nat.le_refl _) _).alloc (by rw [alloc_size]; omega) _⟩
  have HX1 : Sl (w1.heap[w.heap.size]? = some (.cells #[.string h.a, .string h.b, .string h.c, .slice vad h.fs.length vc] 25 (0, 0))) := ⟨by rw [← hw1, alloc_old _ _ _ (by rw [alloc_size]; omega)]; exact alloc_new _ _ _ rfl⟩
  have HY1 : Sl (w1.heap[w.heap.size + 1]? = some (.cells #[.string fn, .string fv] 48 (0, 0))) := ⟨by rw [← hw1]; exact alloc_new _ _ _ (by rw [alloc_size])⟩
  go_enter Tryd.func9, Tryd.ntmps9
  go_wp2_with fail
  refine (awake_ex w _ HB1.out HG.out).mono ?_
  rintro e w2 ⟨rfl, HX2, HB2⟩
  have HC2 := Sl.mk (box_below HX1.out HX2.out)
  have HD2 := Sl.mk (box_below HY1.out HX2.out)
  have HFD2 := Sl.mk (HV.out.below HB2.out)
  clear HX1 HY1 HX2 HB1 hw1
  obtain ⟨p0, p1, p2, p3⟩ := head_cells HC2.out
  go_wp2_with fail
  refine (few_ex w _ h _ HB2.out HFD2.out HF.out).mono ?_
  rintro e w3 ⟨HR3, HX3, HB3⟩
  have HC3 := Sl.mk (box_below HC2.out HX3.out)
  have HD3 := Sl.mk (box_below HD2.out HX3.out)
  have HFD3 := Sl.mk (HV.out.below HB3.out)
  clear HX3 HC2 HD2 HFD2 HB2 p0 p1 p2 p3
  rcases HR3.out with ⟨rfl, hF⟩ | ⟨rfl, hN⟩
  case inr =>
    clear HR3 hN
    go_wp2_with fail
    refine (awake_ex w _ HB3.out HG.out).mono ?_
    rintro e w4 ⟨rfl, HX4, HB4⟩
    go_wp2
    go_ret
    exact ⟨rfl, HB4.out⟩
  obtain ⟨q0, q1⟩ := field_cells HD3.out
  by_cases h1 : 300 < fn.size
  · have h1' : (fn.size : Int) > 300 := by omega
    clear HR3 hF
    go_wp2_with fail
    refine (awake_ex w _ HB3.out HG.out).mono ?_
    rintro e w4 ⟨rfl, HX4, HB4⟩
    go_wp2
    go_ret
    exact ⟨rfl, HB4.out⟩
  have h1' : ((fn.size : Int) > 300) = False := eq_false (by omega)
  by_cases h2 : 300 < name.size
  · have h2' : (name.size : Int) > 300 := by omega
    clear HR3 hF
    go_wp2_with fail
    refine (awake_ex w _ HB3.out HG.out).mono ?_
    rintro e w4 ⟨rfl, HX4, HB4⟩
    go_wp2
    go_ret
    exact ⟨rfl, HB4.out⟩
  have h2' : ((name.size : Int) > 300) = False := eq_false (by omega)
  have HL1 : Sl (h.fs.length ≤ 1000) := ⟨by have := hF.n; omega⟩
  clear HR3 hF
  obtain ⟨p0, p1, p2, p3⟩ := head_cells HC3.out
  obtain ⟨w4, hw4⟩ : ∃ w4, w3.alloc (.cells #[.string h.a, .string h.b, .string h.c, .slice vad h.fs.length vc] 25) = w4 := ⟨_, rfl⟩
  have HBA4 : Sl (Below w3.heap.size w3 w4) := ⟨by rw [← hw4]; exact (Below.refl _ _).alloc (Nat.le_refl _) _⟩
  have HB4 : Sl (Below w.heap.size w w4) := ⟨below_trans HB3.out HBA4.out⟩
  have HC4 := Sl.mk (box_below HC3.out HBA4.out)
  have HD4 := Sl.mk (box_below HD3.out HBA4.out)
  have HE4 : Sl (w4.heap[w3.heap.size]? = some (.cells #[.string h.a, .string h.b, .string h.c, .slice vad h.fs.length vc] 25 (0, 0))) := ⟨by rw [← hw4]; exact alloc_new _ _ _ rfl⟩
  have h17 : w.heap.size ≠ w3.heap.size := fun e => by have := lt_of_block HC3.out; omega
  have hf7 : w.heap.size + 1 ≠ w3.heap.size := fun e => by have := lt_of_block HD3.out; omega
  have hw7 : w.heap.size ≤ w3.heap.size := HB3.out.size
  go_upto_region 4 with fail
  go_cut [6] (fun s6 wx => s6 = .bool false ∧ FieldsRel w w.heap.size (w.heap.size + 1) w3.heap.size h (.slice vad h.fs.length vc) fn fv wx)
  case first =>
    clear p0 p1 p2 p3 q0 q1 h1' h2'
    obtain ⟨R, hR⟩ : ∃ R, w4.drew = R := ⟨_, rfl⟩
    have HBR : Sl (Below w.heap.size w R) := ⟨by rw [← hR]; exact HB4.out.drew⟩
    have HC1R : Sl (R.heap[w.heap.size]? = some (.cells #[.string h.a, .string h.b, .string h.c, .slice vad h.fs.length vc] 25 (0, 0))) := ⟨by rw [← hR]; exact HC4.out⟩
    have HCFR : Sl (R.heap[w.heap.size + 1]? = some (.cells #[.string fn, .string fv] 48 (0, 0))) := ⟨by rw [← hR]; exact HD4.out⟩
    have HC7R : Sl (R.heap[w3.heap.size]? = some (.cells #[.string h.a, .string h.b, .string h.c, .slice vad h.fs.length vc] 25 (0, 0))) := ⟨by rw [← hR]; exact HE4.out⟩
    have HFDR : Sl (FieldsAt R (.slice vad h.fs.length vc) h.fs) := ⟨HV.out.below HBR.out⟩
    have hS4 : ∀ W, Below R.heap.size R W → Below w.heap.size w W ∧ W.heap[w.heap.size]? = some (.cells #[.string h.a, .string h.b, .string h.c, .slice vad h.fs.length vc] 25 (0, 0)) ∧ W.heap[(w.heap.size + 1)]? = some (.cells #[.string fn, .string fv] 48 (0, 0)) := fun W hb => ⟨below_trans HBR.out hb, box_below HC1R.out hb, box_below HCFR.out hb⟩
    have c7_of : ∀ {W}, Below R.heap.size R W → W.cell? ⟨w3.heap.size, 3, none⟩ = some (.slice vad h.fs.length vc) := fun hb => (head_cells (box_below HC7R.out hb)).2.2.2
    have f7_of : ∀ {W}, Below R.heap.size R W → W.frozen? ⟨w3.heap.size, 3, none⟩ = false := fun hb => frozen_of_row _ _ _ _ _ (box_below HC7R.out hb)
    have HS0 := hS4 R (Below.refl _ _)
    have HBA : Below R.heap.size R (R.alloc (.cells #[] 48)) := (Below.refl _ _).alloc (Nat.le_refl _) _
    have HBY : Below R.heap.size R (R.alloc (.cells #[.string fn, .string fv] 48)) := (Below.refl _ _).alloc (Nat.le_refl _) _
    have HLA : R.heap.size ≤ (R.alloc (.cells #[] 48)).heap.size := HBA.size
    have HBAB : Below R.heap.size R ((R.alloc (.cells #[] 48)).alloc (.cells #[.string fn, .string fv] 48)) := HBA.alloc HBA.size _
    have HBYB : Below R.heap.size R ((R.alloc (.cells #[.string fn, .string fv] 48)).alloc (.cells #[] 48)) := HBY.alloc HBY.size _
    have HLAB := HBAB.size
    have HLYB := HBYB.size
    have HOA : (R.alloc (.cells #[] 48)).ownsRow R.heap.size 48 2 (.slice (some ⟨R.heap.size, 0, none⟩) 0 0) 0 [] := World.ownsRow_lit R #[] 0 (Nat.le_refl _) (by decide) rfl
    have HOAB : ((R.alloc (.cells #[] 48)).alloc (.cells #[.string fn, .string fv] 48)).ownsRow R.heap.size 48 2 (.slice (some ⟨R.heap.size, 0, none⟩) 0 0) 0 [] := HOA.alloc _
    have HOB : ((R.alloc (.cells #[.string fn, .string fv] 48)).alloc (.cells #[] 48)).ownsRow R.heap.size 48 2 (.slice (some ⟨R.heap.size + 1, 0, none⟩) 0 0) 0 [] := by
      have := World.ownsRow_lit (base := R.heap.size) (e := 48) (size := 2) (R.alloc (.cells #[.string fn, .string fv] 48)) #[] 0 (by rw [alloc_size]; omega) (by decide) rfl
      rwa [alloc_size] at this
    refine wp_region_noPanic ?_
    refine wp_region_held (S := fun W => Below w.heap.size w W ∧ W.heap[w.heap.size]? = some (.cells #[.string h.a, .string h.b, .string h.c, .slice vad h.fs.length vc] 25 (0, 0)) ∧ W.heap[(w.heap.size + 1)]? = some (.cells #[.string fn, .string fv] 48 (0, 0))) (by kernel_rfl) ?_
    change wpAnyH _ _ _ _ _ _ _ _ w4.drew
    rw [hR]
    clear hR hw4
    refine heldTake (d := some 31) (op := Go.Op.fieldAddr 25 (Go.Operand.tmp 3) 1) (g := none) 1 ?v1 rfl (by kernel_rfl) (by kernel_rfl) (by kernel_rfl) (by kernel_rfl) ?y1 HS0 ?_
    case y1 => intro o ho w _; simp only [execOp, ho]; go_simp; try rfl
    simp only [Act.put, List.setIfInBounds_toArray, List.set_cons_zero, List.set_cons_succ]
    refine heldTake (d := some 32) (op := Go.Op.load 23 (Go.Operand.tmp 31)) (g := none) 2 ?v2 rfl (by kernel_rfl) (by kernel_rfl) (by kernel_rfl) (by kernel_rfl) ?y2 HS0 ?_
    case y2 => intro o ho w hS; obtain ⟨p0, p1, p2, p3⟩ := head_cells hS.2.1; simp only [execOp, ho]; go_simp; try rfl
    simp only [Act.put, List.setIfInBounds_toArray, List.set_cons_zero, List.set_cons_succ]
    refine heldTake (d := some 34) (op := Go.Op.load 48 (Go.Operand.tmp 4)) (g := none) 4 ?v4 rfl (by kernel_rfl) (by kernel_rfl) (by kernel_rfl) (by kernel_rfl) ?y4 HS0 ?_
    case y4 => intro o ho w hS; obtain ⟨q0, q1⟩ := field_cells hS.2.2; simp only [execOp, ho]; go_simp; try rfl
    simp only [Act.put, List.setIfInBounds_toArray, List.set_cons_zero, List.set_cons_succ]
    refine heldTwo (di := some 30) (opi := Go.Op.buildSlice 23 0 #[]) (gi := none) (dj := some 35) (opj := Go.Op.buildSlice 23 1 #[(0, Go.Operand.tmp 34)]) (gj := none) 0 5 (.slice (some ⟨R.heap.size, 0, none⟩) 0 0) (R.alloc (.cells #[] 48)) (.slice (some ⟨R.heap.size, 0, none⟩) 1 1) (R.alloc (.cells #[.string fn, .string fv] 48)) rfl rfl (by kernel_rfl) (by kernel_rfl) (by kernel_rfl) ?y0 ?y5 (hS4 _ HBA) (hS4 _ HBY) ?n0 ?n5
    case y0 => intro o ho ht; simp only [execOp, ho]; go_simp; try rfl
    case y5 => intro o ho ht; simp only [execOp, ho]; go_simp; try rfl
    case n0 =>
      simp only [Act.put, List.setIfInBounds_toArray, List.set_cons_zero, List.set_cons_succ]
      obtain ⟨v1, w1', hr3, ho3, hg3⟩ := add_all HOA (HFDR.out.below ((Below.refl _ _).alloc (Nat.le_refl _) _)) HL1.out HLA
      have HB3 : Below R.heap.size R w1' := HBA.grown hg3 HLA (fun k hk => (HOA.lt k hk).1)
      refine heldTwo (di := some 33) (opi := Go.Op.call { callee := Go.Callee.builtin Go.Builtin.append, args := #[Go.Operand.tmp 30, Go.Operand.tmp 32], argTypes := #[23, 23] }) (gi := none) (dj := some 35) (opj := Go.Op.buildSlice 23 1 #[(0, Go.Operand.tmp 34)]) (gj := none) 3 5 v1 w1' (.slice (some ⟨R.heap.size + 1, 0, none⟩) 1 1) ((R.alloc (.cells #[] 48)).alloc (.cells #[.string fn, .string fv] 48)) rfl rfl (by kernel_rfl) (by kernel_rfl) (by kernel_rfl) ?y3a ?y5a (hS4 _ HB3) (hS4 _ HBAB) ?n3a ?n5a
      case y3a => intro o ho ht; simp only [execOp, ho, ht, resolve, invoke, builtin, Sem.run_bind, Sem.run_pure, Result.andThen_ok, List.map_toArray, List.map_cons, List.map_nil]; refine (congrArg (fun r => Result.andThen r _) hr3).trans ?_; rfl
      case y5a => intro o ho ht; simp only [execOp, ho]; go_simp; try rfl; try (rw [alloc_size]; rfl)
      case n3a =>
        simp only [Act.put, List.setIfInBounds_toArray, List.set_cons_zero, List.set_cons_succ]
        have HBZ : Below R.heap.size R (w1'.alloc (.cells #[.string fn, .string fv] 48)) := HB3.alloc HB3.size _
        refine heldRunT (d := some 35) (op := Go.Op.buildSlice 23 1 #[(0, Go.Operand.tmp 34)]) (g := none) 5 (.slice (some ⟨w1'.heap.size, 0, none⟩) 1 1) (w1'.alloc (.cells #[.string fn, .string fv] 48)) rfl (by kernel_rfl) (by kernel_rfl) ?y5a1 (hS4 _ HBZ) ?_
        case y5a1 => intro o ho ht; simp only [execOp, ho]; go_simp; try rfl
        simp only [Act.put, List.setIfInBounds_toArray, List.set_cons_zero, List.set_cons_succ]
        have HOZ : ((w1'.alloc (.cells #[.string fn, .string fv] 48))).ownsRow R.heap.size 48 2 v1 h.fs.length (cellsF h.fs) := ho3.alloc _
        obtain ⟨v2, w2, hr6, ho6, hg6⟩ := add_one HOZ HL1.out HBZ.size (alloc_new _ _ _ rfl)
        have HB6 : Below R.heap.size R w2 := (HBZ).grown hg6 HBZ.size (fun k hk => ((HOZ).lt k hk).1)
        obtain ⟨av, nv, cv, rfl⟩ := owns_slice ho6
        refine heldRunT (d := some 36) (op := Go.Op.call { callee := Go.Callee.builtin Go.Builtin.append, args := #[Go.Operand.tmp 33, Go.Operand.tmp 35], argTypes := #[23, 23] }) (g := none) 6 (.slice av nv cv) w2 rfl (by kernel_rfl) (by kernel_rfl) ?y6a1 (hS4 _ HB6) ?_
        case y6a1 => intro o ho ht; simp only [execOp, ho, ht, resolve, invoke, builtin, Sem.run_bind, Sem.run_pure, Result.andThen_ok, List.map_toArray, List.map_cons, List.map_nil]; refine (congrArg (fun r => Result.andThen r _) hr6).trans ?_; rfl
        simp only [Act.put, List.setIfInBounds_toArray, List.set_cons_zero, List.set_cons_succ]
        refine heldTake (d := some 37) (op := Go.Op.fieldAddr 25 (Go.Operand.tmp 7) 1) (g := none) 7 ?v7a1 rfl (by kernel_rfl) (by kernel_rfl) (by kernel_rfl) (by kernel_rfl) ?y7a1 (hS4 _ HB6) ?_
        case y7a1 => intro o ho w _; simp only [execOp, ho]; go_simp; try rfl
        simp only [Act.put, List.setIfInBounds_toArray, List.set_cons_zero, List.set_cons_succ]
        have HREL := fields_rel HBR.out HC1R.out HCFR.out HC7R.out h17 hf7 hw7 HB6 ho6 HFDR.out HFNm.out HFVm.out HL1.out
        refine heldStore (d := none) (op := Go.Op.store 23 (Go.Operand.tmp 37) (Go.Operand.tmp 36)) (g := none) 8 (w2.setCell ⟨w3.heap.size, 3, none⟩ (.slice av nv cv)) rfl (by kernel_rfl) (by kernel_rfl) ?y8a1 ⟨HREL.b, HREL.h1, HREL.hf⟩ ?_
        case y8a1 => intro o ho ht; have c0 := c7_of (HB6); have f0 := f7_of (HB6); simp only [execOp, ho]; go_simp; try rfl
        simp only [Act.put]
        refine wpAnyH_done (by kernel_rfl) ?_ _
        refine NoPanic.normal ?_
        go_wp2_with fail
        go_meet
        exact ⟨rfl, HREL⟩
      case n5a =>
        simp only [Act.put, List.setIfInBounds_toArray, List.set_cons_zero, List.set_cons_succ]
        obtain ⟨v1, w1', hr3, ho3, hg3⟩ := add_all HOAB (HFDR.out.below (((Below.refl _ _).alloc (Nat.le_refl _) _).alloc (by rw [alloc_size]; omega) _)) HL1.out HLAB
        have HB3 : Below R.heap.size R w1' := HBAB.grown hg3 HLAB (fun k hk => (HOAB.lt k hk).1)
        refine heldRunT (d := some 33) (op := Go.Op.call { callee := Go.Callee.builtin Go.Builtin.append, args := #[Go.Operand.tmp 30, Go.Operand.tmp 32], argTypes := #[23, 23] }) (g := none) 3 v1 w1' rfl (by kernel_rfl) (by kernel_rfl) ?y3a2 (hS4 _ HB3) ?_
        case y3a2 => intro o ho ht; simp only [execOp, ho, ht, resolve, invoke, builtin, Sem.run_bind, Sem.run_pure, Result.andThen_ok, List.map_toArray, List.map_cons, List.map_nil]; refine (congrArg (fun r => Result.andThen r _) hr3).trans ?_; rfl
        simp only [Act.put, List.setIfInBounds_toArray, List.set_cons_zero, List.set_cons_succ]
        have hg5 : w1'.heap[R.heap.size + 1]? = some (.cells #[.string fn, .string fv] 48 (0, 0)) := by
          rw [hg3.block _ (by rw [alloc_size, alloc_size]; omega) (fun e => by simp [Value.ownBlock] at e)]
          exact alloc_new _ _ _ (by rw [alloc_size])
        obtain ⟨v2, w2, hr6, ho6, hg6⟩ := add_one ho3 HL1.out HB3.size hg5
        have HB6 : Below R.heap.size R w2 := (HB3).grown hg6 HB3.size (fun k hk => ((ho3).lt k hk).1)
        obtain ⟨av, nv, cv, rfl⟩ := owns_slice ho6
        refine heldRunT (d := some 36) (op := Go.Op.call { callee := Go.Callee.builtin Go.Builtin.append, args := #[Go.Operand.tmp 33, Go.Operand.tmp 35], argTypes := #[23, 23] }) (g := none) 6 (.slice av nv cv) w2 rfl (by kernel_rfl) (by kernel_rfl) ?y6a2 (hS4 _ HB6) ?_
        case y6a2 => intro o ho ht; simp only [execOp, ho, ht, resolve, invoke, builtin, Sem.run_bind, Sem.run_pure, Result.andThen_ok, List.map_toArray, List.map_cons, List.map_nil]; refine (congrArg (fun r => Result.andThen r _) hr6).trans ?_; rfl
        simp only [Act.put, List.setIfInBounds_toArray, List.set_cons_zero, List.set_cons_succ]
        refine heldTake (d := some 37) (op := Go.Op.fieldAddr 25 (Go.Operand.tmp 7) 1) (g := none) 7 ?v7a2 rfl (by kernel_rfl) (by kernel_rfl) (by kernel_rfl) (by kernel_rfl) ?y7a2 (hS4 _ HB6) ?_
        case y7a2 => intro o ho w _; simp only [execOp, ho]; go_simp; try rfl
        simp only [Act.put, List.setIfInBounds_toArray, List.set_cons_zero, List.set_cons_succ]
        have HREL := fields_rel HBR.out HC1R.out HCFR.out HC7R.out h17 hf7 hw7 HB6 ho6 HFDR.out HFNm.out HFVm.out HL1.out
        refine heldStore (d := none) (op := Go.Op.store 23 (Go.Operand.tmp 37) (Go.Operand.tmp 36)) (g := none) 8 (w2.setCell ⟨w3.heap.size, 3, none⟩ (.slice av nv cv)) rfl (by kernel_rfl) (by kernel_rfl) ?y8a2 ⟨HREL.b, HREL.h1, HREL.hf⟩ ?_
        case y8a2 => intro o ho ht; have c0 := c7_of (HB6); have f0 := f7_of (HB6); simp only [execOp, ho]; go_simp; try rfl
        simp only [Act.put]
        refine wpAnyH_done (by kernel_rfl) ?_ _
        refine NoPanic.normal ?_
        go_wp2_with fail
        go_meet
        exact ⟨rfl, HREL⟩
    case n5 =>
      simp only [Act.put, List.setIfInBounds_toArray, List.set_cons_zero, List.set_cons_succ]
      refine heldRunT (d := some 30) (op := Go.Op.buildSlice 23 0 #[]) (g := none) 0 (.slice (some ⟨R.heap.size + 1, 0, none⟩) 0 0) ((R.alloc (.cells #[.string fn, .string fv] 48)).alloc (.cells #[] 48)) rfl (by kernel_rfl) (by kernel_rfl) ?y0b (hS4 _ HBYB) ?_
      case y0b => intro o ho ht; simp only [execOp, ho]; go_simp; try rfl; try (rw [alloc_size]; rfl)
      simp only [Act.put, List.setIfInBounds_toArray, List.set_cons_zero, List.set_cons_succ]
      obtain ⟨v1, w1', hr3, ho3, hg3⟩ := add_all HOB (HFDR.out.below (((Below.refl _ _).alloc (Nat.le_refl _) _).alloc (by rw [alloc_size]; omega) _)) HL1.out HLYB
      have HB3 : Below R.heap.size R w1' := HBYB.grown hg3 HLYB (fun k hk => (HOB.lt k hk).1)
      refine heldRunT (d := some 33) (op := Go.Op.call { callee := Go.Callee.builtin Go.Builtin.append, args := #[Go.Operand.tmp 30, Go.Operand.tmp 32], argTypes := #[23, 23] }) (g := none) 3 v1 w1' rfl (by kernel_rfl) (by kernel_rfl) ?y3b (hS4 _ HB3) ?_
      case y3b => intro o ho ht; simp only [execOp, ho, ht, resolve, invoke, builtin, Sem.run_bind, Sem.run_pure, Result.andThen_ok, List.map_toArray, List.map_cons, List.map_nil]; refine (congrArg (fun r => Result.andThen r _) hr3).trans ?_; rfl
      simp only [Act.put, List.setIfInBounds_toArray, List.set_cons_zero, List.set_cons_succ]
      have hg5 : w1'.heap[R.heap.size]? = some (.cells #[.string fn, .string fv] 48 (0, 0)) := by
        rw [hg3.block _ (by rw [alloc_size, alloc_size]; omega) (fun e => by simp [Value.ownBlock] at e)]
        rw [alloc_old _ _ _ (by rw [alloc_size]; omega)]; exact alloc_new _ _ _ rfl
      obtain ⟨v2, w2, hr6, ho6, hg6⟩ := add_one ho3 HL1.out HB3.size hg5
      have HB6 : Below R.heap.size R w2 := (HB3).grown hg6 HB3.size (fun k hk => ((ho3).lt k hk).1)
      obtain ⟨av, nv, cv, rfl⟩ := owns_slice ho6
      refine heldRunT (d := some 36) (op := Go.Op.call { callee := Go.Callee.builtin Go.Builtin.append, args := #[Go.Operand.tmp 33, Go.Operand.tmp 35], argTypes := #[23, 23] }) (g := none) 6 (.slice av nv cv) w2 rfl (by kernel_rfl) (by kernel_rfl) ?y6b (hS4 _ HB6) ?_
      case y6b => intro o ho ht; simp only [execOp, ho, ht, resolve, invoke, builtin, Sem.run_bind, Sem.run_pure, Result.andThen_ok, List.map_toArray, List.map_cons, List.map_nil]; refine (congrArg (fun r => Result.andThen r _) hr6).trans ?_; rfl
      simp only [Act.put, List.setIfInBounds_toArray, List.set_cons_zero, List.set_cons_succ]
      refine heldTake (d := some 37) (op := Go.Op.fieldAddr 25 (Go.Operand.tmp 7) 1) (g := none) 7 ?v7b rfl (by kernel_rfl) (by kernel_rfl) (by kernel_rfl) (by kernel_rfl) ?y7b (hS4 _ HB6) ?_
      case y7b => intro o ho w _; simp only [execOp, ho]; go_simp; try rfl
      simp only [Act.put, List.setIfInBounds_toArray, List.set_cons_zero, List.set_cons_succ]
      have HREL := fields_rel HBR.out HC1R.out HCFR.out HC7R.out h17 hf7 hw7 HB6 ho6 HFDR.out HFNm.out HFVm.out HL1.out
      refine heldStore (d := none) (op := Go.Op.store 23 (Go.Operand.tmp 37) (Go.Operand.tmp 36)) (g := none) 8 (w2.setCell ⟨w3.heap.size, 3, none⟩ (.slice av nv cv)) rfl (by kernel_rfl) (by kernel_rfl) ?y8b ⟨HREL.b, HREL.h1, HREL.hf⟩ ?_
      case y8b => intro o ho ht; have c0 := c7_of (HB6); have f0 := f7_of (HB6); simp only [execOp, ho]; go_simp; try rfl
      simp only [Act.put]
      refine wpAnyH_done (by kernel_rfl) ?_ _
      refine NoPanic.normal ?_
      go_wp2_with fail
      go_meet
      exact ⟨rfl, HREL⟩
  case rest =>
    obtain ⟨rfl, HRL⟩ := hcut
    obtain ⟨hBc, hC1, hCF, a7, c7, hC7, hF7⟩ := HRL
    have HBc := Sl.mk hBc
    have HC1 := Sl.mk hC1
    have HCF := Sl.mk hCF
    have HC7 := Sl.mk hC7
    have HF7c := Sl.mk hF7
    clear hBc hC1 hCF hC7 hF7 p0 p1 p2 p3 q0 q1 h1' h2' hw4 HC4 HD4 HE4 HB4 HBA4 HFD3 HD3 HC3
    obtain ⟨r, hr⟩ : ∃ r, same (bytes fn) (bytes name) = r := ⟨_, rfl⟩
    obtain ⟨l1, hl1⟩ : ∃ l, getV h.fs name = l := ⟨_, rfl⟩
    obtain ⟨l2, hl2⟩ : ∃ l, getV (h.fs ++ [(fn, fv)]) name = l := ⟨_, rfl⟩
    obtain ⟨n, hn1⟩ : ∃ n, l1.length = n := ⟨_, rfl⟩
    obtain ⟨m, hm1⟩ : ∃ n, l2.length = n := ⟨_, rfl⟩
    have HR := Sl.mk hr
    have L1 := Sl.mk hl1
    have L2 := Sl.mk hl2
    have N1 := Sl.mk hn1
    have N2 := Sl.mk hm1
    have HSN : Sl (l2 = if r = true then l1 ++ [fv] else l1) := ⟨by rw [← hl2, getV_snoc, hl1]; simp only [hr]⟩
    have hnb : n ≤ 1000 := by rw [← hn1, ← hl1]; exact Nat.le_trans (getV_le _ _) HL1.out
    have HLL : Sl (l1.length ≤ 1000000) := ⟨by rw [hn1]; omega⟩
    have HLA : Sl (h.fs.length ≤ 100000) := ⟨by have := HL1.out; omega⟩
    have HLB : Sl ((h.fs ++ [(fn, fv)]).length ≤ 100000) := ⟨by have := HL1.out; rw [List.length_append]; simp only [List.length_cons, List.length_nil]; omega⟩
    clear hr hl1 hl2 hn1 hm1
    have HS0 : Below w.heap.size w wc.drew ∧ wc.drew.heap[w.heap.size]? = some (.cells #[.string h.a, .string h.b, .string h.c, .slice vad h.fs.length vc] 25 (0, 0)) ∧ wc.drew.heap[w3.heap.size]? = some (.cells #[.string h.a, .string h.b, .string h.c, .slice a7 (h.fs.length + 1) c7] 25 (0, 0)) := ⟨HBc.out.drew, HC1.out, HC7.out⟩
    have HB0 : Sl (Below w.heap.size w wc.drew) := ⟨HBc.out.drew⟩
    have HFD0 : Sl (FieldsAt wc.drew (.slice vad h.fs.length vc) h.fs) := ⟨HV.out.below HB0.out⟩
    have HF70 : Sl (FieldsAt wc.drew (.slice a7 (h.fs.length + 1) c7) (h.fs ++ [(fn, fv)])) := ⟨HF7c.out.below (Below.refl _ _).drew⟩
    have HXD : Sl (Below wc.heap.size wc wc.drew) := ⟨(Below.refl _ _).drew⟩
    go_wp2
    refine wp_region_noPanic ?_
    refine wp_region_held (S := fun W => Below w.heap.size w W ∧ W.heap[w.heap.size]? = some (.cells #[.string h.a, .string h.b, .string h.c, .slice vad h.fs.length vc] 25 (0, 0)) ∧ W.heap[w3.heap.size]? = some (.cells #[.string h.a, .string h.b, .string h.c, .slice a7 (h.fs.length + 1) c7] 25 (0, 0))) (by kernel_rfl) ?_
    change wpAnyH _ _ _ _ _ _ _ _ wc.drew
    refine heldTake (d := some 38) (op := Go.Op.load 25 (Go.Operand.tmp 3)) (g := none) 0 ?v0r5 rfl (by kernel_rfl) (by kernel_rfl) (by kernel_rfl) (by kernel_rfl) ?y0r5 HS0 ?_
    case y0r5 => intro o ho w hS; obtain ⟨p0, p1, p2, p3⟩ := head_cells hS.2.1; simp only [execOp, ho]; go_simp; try rfl
    simp only [Act.put, List.setIfInBounds_toArray, List.set_cons_zero, List.set_cons_succ]
    refine heldTake (d := some 39) (op := Go.Op.move (Go.Operand.tmp 2)) (g := none) 1 ?v1r5 rfl (by kernel_rfl) (by kernel_rfl) (by kernel_rfl) (by kernel_rfl) ?y1r5 HS0 ?_
    case y1r5 => intro o ho w _; simp only [execOp, ho]; go_simp; try rfl
    simp only [Act.put, List.setIfInBounds_toArray, List.set_cons_zero, List.set_cons_succ]
    refine heldTake (d := some 41) (op := Go.Op.load 25 (Go.Operand.tmp 7)) (g := none) 3 ?v3r5 rfl (by kernel_rfl) (by kernel_rfl) (by kernel_rfl) (by kernel_rfl) ?y3r5 HS0 ?_
    case y3r5 => intro o ho w hS; obtain ⟨q0, q1, q2, q3⟩ := head_cells hS.2.2; simp only [execOp, ho]; go_simp; try rfl
    simp only [Act.put, List.setIfInBounds_toArray, List.set_cons_zero, List.set_cons_succ]
    refine heldTake (d := some 42) (op := Go.Op.move (Go.Operand.tmp 2)) (g := none) 4 ?v4r5 rfl (by kernel_rfl) (by kernel_rfl) (by kernel_rfl) (by kernel_rfl) ?y4r5 HS0 ?_
    case y4r5 => intro o ho w _; simp only [execOp, ho]; go_simp; try rfl
    simp only [Act.put, List.setIfInBounds_toArray, List.set_cons_zero, List.set_cons_succ]
    refine heldCall (d := some 40) (op := Go.Op.call { callee := Go.Callee.value (Go.Operand.func 21), args := #[Go.Operand.tmp 38, Go.Operand.tmp 39], argTypes := #[25, 9] }) (g := none) 2 21 ?a2r5 rfl (by kernel_rfl) (by kernel_rfl) ?y2r5 ?_
    case y2r5 => intro o ho; simp only [execOp, ho]; go_simp; try rfl
    refine (get_n w _ h _ name l1 n L1.out N1.out HB0.out HFD0.out HLA.out).mono ?_
    rintro e w5 ⟨a5, c5, rfl, HG5, HX5, HB5⟩
    have HS5 : Below w.heap.size w w5 ∧ w5.heap[w.heap.size]? = some (.cells #[.string h.a, .string h.b, .string h.c, .slice vad h.fs.length vc] 25 (0, 0)) ∧ w5.heap[w3.heap.size]? = some (.cells #[.string h.a, .string h.b, .string h.c, .slice a7 (h.fs.length + 1) c7] 25 (0, 0)) := ⟨HB5.out, box_below HS0.2.1 HX5.out, box_below HS0.2.2 HX5.out⟩
    have HF7 := Sl.mk (HF70.out.below HX5.out)
    refine ⟨_, rfl, HS5, ?_⟩
    simp only [Act.put, List.setIfInBounds_toArray, List.set_cons_zero, List.set_cons_succ]
    refine heldCall (d := some 43) (op := Go.Op.call { callee := Go.Callee.value (Go.Operand.func 21), args := #[Go.Operand.tmp 41, Go.Operand.tmp 42], argTypes := #[25, 9] }) (g := none) 5 21 ?a5r5 rfl (by kernel_rfl) (by kernel_rfl) ?y5r5 ?_
    case y5r5 => intro o ho; simp only [execOp, ho]; go_simp; try rfl
    refine (get_n w _ ⟨h.a, h.b, h.c, h.fs ++ [(fn, fv)]⟩ _ name l2 m L2.out N2.out HB5.out HF7.out HLB.out).mono ?_
    rintro e w6 ⟨a6, c6, rfl, HG6, HX6, HB6⟩
    have HS6 : Below w.heap.size w w6 ∧ w6.heap[w.heap.size]? = some (.cells #[.string h.a, .string h.b, .string h.c, .slice vad h.fs.length vc] 25 (0, 0)) ∧ w6.heap[w3.heap.size]? = some (.cells #[.string h.a, .string h.b, .string h.c, .slice a7 (h.fs.length + 1) c7] 25 (0, 0)) := ⟨HB6.out, box_below HS5.2.1 HX6.out, box_below HS5.2.2 HX6.out⟩
    have HG56 := Sl.mk (HG5.out.below HX6.out)
    have HXC : Sl (Below wc.heap.size wc w6) := ⟨below_trans HXD.out (below_trans HX5.out HX6.out)⟩
    refine ⟨_, rfl, HS6, ?_⟩
    simp only [Act.put, List.setIfInBounds_toArray, List.set_cons_zero, List.set_cons_succ]
    refine heldTake (d := some 8) (op := Go.Op.assign (Go.Operand.tmp 40)) (g := none) 6 ?v6r5 rfl (by kernel_rfl) (by kernel_rfl) (by kernel_rfl) (by kernel_rfl) ?y6r5 HS6 ?_
    case y6r5 => intro o ho w _; simp only [execOp, ho]; go_simp; try rfl
    simp only [Act.put, List.setIfInBounds_toArray, List.set_cons_zero, List.set_cons_succ]
    refine heldTake (d := some 9) (op := Go.Op.assign (Go.Operand.tmp 43)) (g := none) 7 ?v7r5 rfl (by kernel_rfl) (by kernel_rfl) (by kernel_rfl) (by kernel_rfl) ?y7r5 HS6 ?_
    case y7r5 => intro o ho w _; simp only [execOp, ho]; go_simp; try rfl
    simp only [Act.put, List.setIfInBounds_toArray, List.set_cons_zero, List.set_cons_succ]
    refine wpAnyH_done (by kernel_rfl) ?_ _
    refine NoPanic.normal ?_
    have HCF6 := Sl.mk (box_below HCF.out HXC.out)
    obtain ⟨q0, q1⟩ := field_cells HCF6.out
    clear HS0 HS5 HS6 HB0 HFD0 HF70 HXD HX5 HX6 HF7 HB5
    go_wp2_with fail
    refine (same_ex w _ fn name r HR.out HB6.out HFNm.out).mono ?_
    rintro e w7 ⟨rfl, HX7, HB7⟩
    have HSA := Sl.mk (HG56.out.below HX7.out)
    have HSB := Sl.mk (HG6.out.below HX7.out)
    have HCF7 := Sl.mk (box_below HCF6.out HX7.out)
    clear q0 q1 HG56 HG6 HG5 HCF6 HX7 HXC
    cases r with
    | false =>
      have e2 : l2 = l1 := by rw [HSN.out]; rfl
      subst e2
      go_wp2_with fail
      refine (row_ex w _ l2 l2 _ _ true (decide_eq_true rfl) HB7.out HSA.out HSB.out HLL.out).mono ?_
      rintro e w8 ⟨rfl, HX8, HB8⟩
      go_wp2
      go_ret
      exact ⟨rfl, HB8.out⟩
    | true =>
      have e2 : l2 = l1 ++ [fv] := by rw [HSN.out]; rfl
      subst e2
      have hmn : n + 1 = m := by have h1 := N1.out; have h2 := N2.out; rw [List.length_append] at h2; simp only [List.length_cons, List.length_nil] at h2; omega
      obtain ⟨sb, so, rfl, hnc, hst, hce⟩ := strA_take HSB.out (by rw [N1.out]; exact hmn) N1.out
      have HST := Sl.mk (StrA.below hst (Below.refl w7.heap.size w7).drew)
      have HSA := Sl.mk (StrA.below HSA.out (Below.refl w7.heap.size w7).drew)
      have HBD : Sl (Below w.heap.size w w7.drew) := ⟨HB7.out.drew⟩
      have HS8 : Below w.heap.size w w7.drew ∧ w7.drew.heap[w.heap.size + 1]? = some (.cells #[.string fn, .string fv] 48 (0, 0)) ∧ w7.drew.cell? ⟨sb, so + n, none⟩ = some (.string fv) := ⟨HBD.out, HCF7.out, hce⟩
      clear hst HSB hce
      have z1 : IntKind.i64.wrap ((n : Int) + 1) = (m : Int) := by rw [IntWalk.i64_in _ (by omega)]; omega
      have z2 : (0 : Int) ≤ (n : Int) := by omega
      have z3 : (n : Int) ≤ (c6 : Int) := by omega
      have z4 : (n : Int) < (m : Int) := by omega
      have qf : (fv.toList == fv.toList) = true := by simp
      go_wp2
      refine wp_region_noPanic ?_
      refine wp_region_held (S := fun W => Below w.heap.size w W ∧ W.heap[w.heap.size + 1]? = some (.cells #[.string fn, .string fv] 48 (0, 0)) ∧ W.cell? ⟨sb, so + n, none⟩ = some (.string fv)) (by kernel_rfl) ?_
      change wpAnyH _ _ _ _ _ _ _ _ w7.drew
      refine heldTake (d := some 52) (op := Go.Op.move (Go.Operand.tmp 9)) (g := none) 0 ?v0r8 rfl (by kernel_rfl) (by kernel_rfl) (by kernel_rfl) (by kernel_rfl) ?y0r8 HS8 ?_
      case y0r8 => intro o ho w _; simp only [execOp, ho]; go_simp; try rfl
      simp only [Act.put, List.setIfInBounds_toArray, List.set_cons_zero, List.set_cons_succ]
      refine heldTake (d := some 53) (op := Go.Op.call { callee := Go.Callee.builtin Go.Builtin.len, args := #[Go.Operand.tmp 52], argTypes := #[43] }) (g := none) 1 ?v1r8 rfl (by kernel_rfl) (by kernel_rfl) (by kernel_rfl) (by kernel_rfl) ?y1r8 HS8 ?_
      case y1r8 => intro o ho w _; simp only [execOp, ho]; go_simp; try rfl
      simp only [Act.put, List.setIfInBounds_toArray, List.set_cons_zero, List.set_cons_succ]
      refine heldTake (d := some 54) (op := Go.Op.move (Go.Operand.tmp 8)) (g := none) 2 ?v2r8 rfl (by kernel_rfl) (by kernel_rfl) (by kernel_rfl) (by kernel_rfl) ?y2r8 HS8 ?_
      case y2r8 => intro o ho w _; simp only [execOp, ho]; go_simp; try rfl
      simp only [Act.put, List.setIfInBounds_toArray, List.set_cons_zero, List.set_cons_succ]
      refine heldTake (d := some 55) (op := Go.Op.call { callee := Go.Callee.builtin Go.Builtin.len, args := #[Go.Operand.tmp 54], argTypes := #[43] }) (g := none) 3 ?v3r8 rfl (by kernel_rfl) (by kernel_rfl) (by kernel_rfl) (by kernel_rfl) ?y3r8 HS8 ?_
      case y3r8 => intro o ho w _; simp only [execOp, ho]; go_simp; try rfl
      simp only [Act.put, List.setIfInBounds_toArray, List.set_cons_zero, List.set_cons_succ]
      refine heldTake (d := some 56) (op := Go.Op.binOp Go.BinOp.add 3 (Go.Operand.tmp 55) (Go.Operand.const (Go.Value.int Go.IntKind.i64 1)) 3) (g := none) 4 ?v4r8 rfl (by kernel_rfl) (by kernel_rfl) (by kernel_rfl) (by kernel_rfl) ?y4r8 HS8 ?_
      case y4r8 => intro o ho w _; simp only [execOp, ho]; go_simp; try rfl
      simp only [Act.put, List.setIfInBounds_toArray, List.set_cons_zero, List.set_cons_succ]
      refine heldTake (d := some 57) (op := Go.Op.binOp Go.BinOp.eql 3 (Go.Operand.tmp 53) (Go.Operand.tmp 56) 3) (g := none) 5 ?v5r8 rfl (by kernel_rfl) (by kernel_rfl) (by kernel_rfl) (by kernel_rfl) ?y5r8 HS8 ?_
      case y5r8 => intro o ho w _; simp only [execOp, ho]; go_simp; try rfl
      simp only [Act.put, List.setIfInBounds_toArray, List.set_cons_zero, List.set_cons_succ]
      refine heldTake (d := some 58) (op := Go.Op.move (Go.Operand.tmp 57)) (g := none) 6 ?v6r8 rfl (by kernel_rfl) (by kernel_rfl) (by kernel_rfl) (by kernel_rfl) ?y6r8 HS8 ?_
      case y6r8 => intro o ho w _; simp only [execOp, ho]; go_simp; try rfl
      simp only [Act.put, List.setIfInBounds_toArray, List.set_cons_zero, List.set_cons_succ]
      refine heldTake (d := some 59) (op := Go.Op.move (Go.Operand.tmp 9)) (g := some (6, true)) 7 ?v7r8 rfl (by kernel_rfl) (by kernel_rfl) (by kernel_rfl) (by kernel_rfl) ?y7r8 HS8 ?_
      case y7r8 => intro o ho w _; simp only [execOp, ho]; go_simp; try rfl
      simp only [Act.put, List.setIfInBounds_toArray, List.set_cons_zero, List.set_cons_succ]
      refine heldTake (d := some 60) (op := Go.Op.move (Go.Operand.tmp 8)) (g := some (6, true)) 8 ?v8r8 rfl (by kernel_rfl) (by kernel_rfl) (by kernel_rfl) (by kernel_rfl) ?y8r8 HS8 ?_
      case y8r8 => intro o ho w _; simp only [execOp, ho]; go_simp; try rfl
      simp only [Act.put, List.setIfInBounds_toArray, List.set_cons_zero, List.set_cons_succ]
      refine heldTake (d := some 61) (op := Go.Op.call { callee := Go.Callee.builtin Go.Builtin.len, args := #[Go.Operand.tmp 60], argTypes := #[43] }) (g := some (6, true)) 9 ?v9r8 rfl (by kernel_rfl) (by kernel_rfl) (by kernel_rfl) (by kernel_rfl) ?y9r8 HS8 ?_
      case y9r8 => intro o ho w _; simp only [execOp, ho]; go_simp; try rfl
      simp only [Act.put, List.setIfInBounds_toArray, List.set_cons_zero, List.set_cons_succ]
      refine heldTake (d := some 62) (op := Go.Op.slice 43 (Go.Operand.tmp 59) none (some (Go.Operand.tmp 61)) none) (g := some (6, true)) 10 ?v10r8 rfl (by kernel_rfl) (by kernel_rfl) (by kernel_rfl) (by kernel_rfl) ?y10r8 HS8 ?_
      case y10r8 => intro o ho w _; simp only [execOp, ho]; go_simp; try rfl
      simp only [Act.put, List.setIfInBounds_toArray, List.set_cons_zero, List.set_cons_succ]
      refine heldTake (d := some 63) (op := Go.Op.move (Go.Operand.tmp 8)) (g := some (6, true)) 11 ?v11r8 rfl (by kernel_rfl) (by kernel_rfl) (by kernel_rfl) (by kernel_rfl) ?y11r8 HS8 ?_
      case y11r8 => intro o ho w _; simp only [execOp, ho]; go_simp; try rfl
      simp only [Act.put, List.setIfInBounds_toArray, List.set_cons_zero, List.set_cons_succ]
      refine heldCall (d := some 64) (op := Go.Op.call { callee := Go.Callee.value (Go.Operand.func 20), args := #[Go.Operand.tmp 62, Go.Operand.tmp 63], argTypes := #[43, 43] }) (g := some (6, true)) 12 20 ?a12r8 rfl (by kernel_rfl) (by kernel_rfl) ?y12r8 ?_
      case y12r8 => intro o ho; simp only [execOp, ho]; go_simp; try rfl
      refine (row_ex w _ l1 l1 _ _ true (decide_eq_true rfl) HBD.out HST.out HSA.out HLL.out).mono ?_
      rintro e w9 ⟨rfl, HX9, HB9⟩
      have HS9 : Below w.heap.size w w9 ∧ w9.heap[w.heap.size + 1]? = some (.cells #[.string fn, .string fv] 48 (0, 0)) ∧ w9.cell? ⟨sb, so + n, none⟩ = some (.string fv) := ⟨HB9.out, box_below HS8.2.1 HX9.out, by rw [HX9.out.cell (p := ⟨sb, so + n, none⟩) (block_lt_of_cell HS8.2.2)]; exact HS8.2.2⟩
      refine ⟨_, rfl, HS9, ?_⟩
      simp only [Act.put, List.setIfInBounds_toArray, List.set_cons_zero, List.set_cons_succ]
      refine heldTake (d := some 65) (op := Go.Op.pick (Go.Operand.tmp 58) (Go.Operand.tmp 64) (Go.Operand.const (Go.Value.bool false))) (g := none) 13 ?v13r8 rfl (by kernel_rfl) (by kernel_rfl) (by kernel_rfl) (by kernel_rfl) ?y13r8 HS9 ?_
      case y13r8 => intro o ho w _; simp only [execOp, ho]; go_simp; try rfl
      simp only [Act.put, List.setIfInBounds_toArray, List.set_cons_zero, List.set_cons_succ]
      refine heldTake (d := some 66) (op := Go.Op.move (Go.Operand.tmp 65)) (g := none) 14 ?v14r8 rfl (by kernel_rfl) (by kernel_rfl) (by kernel_rfl) (by kernel_rfl) ?y14r8 HS9 ?_
      case y14r8 => intro o ho w _; simp only [execOp, ho]; go_simp; try rfl
      simp only [Act.put, List.setIfInBounds_toArray, List.set_cons_zero, List.set_cons_succ]
      refine heldTake (d := some 67) (op := Go.Op.move (Go.Operand.tmp 9)) (g := some (14, true)) 15 ?v15r8 rfl (by kernel_rfl) (by kernel_rfl) (by kernel_rfl) (by kernel_rfl) ?y15r8 HS9 ?_
      case y15r8 => intro o ho w _; simp only [execOp, ho]; go_simp; try rfl
      simp only [Act.put, List.setIfInBounds_toArray, List.set_cons_zero, List.set_cons_succ]
      refine heldTake (d := some 68) (op := Go.Op.move (Go.Operand.tmp 8)) (g := some (14, true)) 16 ?v16r8 rfl (by kernel_rfl) (by kernel_rfl) (by kernel_rfl) (by kernel_rfl) ?y16r8 HS9 ?_
      case y16r8 => intro o ho w _; simp only [execOp, ho]; go_simp; try rfl
      simp only [Act.put, List.setIfInBounds_toArray, List.set_cons_zero, List.set_cons_succ]
      refine heldTake (d := some 69) (op := Go.Op.call { callee := Go.Callee.builtin Go.Builtin.len, args := #[Go.Operand.tmp 68], argTypes := #[43] }) (g := some (14, true)) 17 ?v17r8 rfl (by kernel_rfl) (by kernel_rfl) (by kernel_rfl) (by kernel_rfl) ?y17r8 HS9 ?_
      case y17r8 => intro o ho w _; simp only [execOp, ho]; go_simp; try rfl
      simp only [Act.put, List.setIfInBounds_toArray, List.set_cons_zero, List.set_cons_succ]
      refine heldTake (d := some 70) (op := Go.Op.indexAddr 43 (Go.Operand.tmp 67) (Go.Operand.tmp 69)) (g := some (14, true)) 18 ?v18r8 rfl (by kernel_rfl) (by kernel_rfl) (by kernel_rfl) (by kernel_rfl) ?y18r8 HS9 ?_
      case y18r8 => intro o ho w _; simp only [execOp, ho]; go_simp; try rfl
      simp only [Act.put, List.setIfInBounds_toArray, List.set_cons_zero, List.set_cons_succ]
      refine heldTake (d := some 71) (op := Go.Op.load 9 (Go.Operand.tmp 70)) (g := some (14, true)) 19 ?v19r8 rfl (by kernel_rfl) (by kernel_rfl) (by kernel_rfl) (by kernel_rfl) ?y19r8 HS9 ?_
      case y19r8 => intro o ho w hS; have hc8 := hS.2.2; simp only [execOp, ho]; go_simp; try rfl
      simp only [Act.put, List.setIfInBounds_toArray, List.set_cons_zero, List.set_cons_succ]
      refine heldTake (d := some 72) (op := Go.Op.fieldAddr 48 (Go.Operand.tmp 4) 1) (g := some (14, true)) 20 ?v20r8 rfl (by kernel_rfl) (by kernel_rfl) (by kernel_rfl) (by kernel_rfl) ?y20r8 HS9 ?_
      case y20r8 => intro o ho w _; simp only [execOp, ho]; go_simp; try rfl
      simp only [Act.put, List.setIfInBounds_toArray, List.set_cons_zero, List.set_cons_succ]
      refine heldTake (d := some 73) (op := Go.Op.load 9 (Go.Operand.tmp 72)) (g := some (14, true)) 21 ?v21r8 rfl (by kernel_rfl) (by kernel_rfl) (by kernel_rfl) (by kernel_rfl) ?y21r8 HS9 ?_
      case y21r8 => intro o ho w hS; obtain ⟨q0, q1⟩ := field_cells hS.2.1; simp only [execOp, ho]; go_simp; try rfl
      simp only [Act.put, List.setIfInBounds_toArray, List.set_cons_zero, List.set_cons_succ]
      refine heldTake (d := some 74) (op := Go.Op.binOp Go.BinOp.eql 9 (Go.Operand.tmp 71) (Go.Operand.tmp 73) 9) (g := some (14, true)) 22 ?v22r8 rfl (by kernel_rfl) (by kernel_rfl) (by kernel_rfl) (by kernel_rfl) ?y22r8 HS9 ?_
      case y22r8 => intro o ho w _; simp only [execOp, ho]; go_simp; try rfl
      simp only [Act.put, List.setIfInBounds_toArray, List.set_cons_zero, List.set_cons_succ]
      refine heldTake (d := some 75) (op := Go.Op.pick (Go.Operand.tmp 66) (Go.Operand.tmp 74) (Go.Operand.const (Go.Value.bool false))) (g := none) 23 ?v23r8 rfl (by kernel_rfl) (by kernel_rfl) (by kernel_rfl) (by kernel_rfl) ?y23r8 HS9 ?_
      case y23r8 => intro o ho w _; simp only [execOp, ho]; go_simp; try rfl
      simp only [Act.put, List.setIfInBounds_toArray, List.set_cons_zero, List.set_cons_succ]
      refine heldTake (d := some 6) (op := Go.Op.assign (Go.Operand.tmp 75)) (g := none) 24 ?v24r8 rfl (by kernel_rfl) (by kernel_rfl) (by kernel_rfl) (by kernel_rfl) ?y24r8 HS9 ?_
      case y24r8 => intro o ho w _; simp only [execOp, ho]; go_simp; try rfl
      simp only [Act.put, List.setIfInBounds_toArray, List.set_cons_zero, List.set_cons_succ]
      refine wpAnyH_done (by kernel_rfl) ?_ _
      refine NoPanic.normal ?_
      go_wp2
      go_ret
      exact ⟨rfl, HB9.out⟩
end Go.Proofs.YtcohecghibndhaaDoor
