/- shake: Ask: the head that one asks by, or an error. -/
import Derived.Test.YthlagngpllahkaaGreatDoorS7
import Derived.Test.YthlagngpllahkaaGreatDoorHdD
set_option maxRecDepth 100000
namespace Go.Proofs.YthlagngpllahkaaGreatDoor
open Go.RowKit HeadPlain

theorem add_flds {Z : World} {base : Nat} {v0 : Value} {fs gs : List FV} {g k : Nat} {vs : Array Value} (hown : OwnF Z base v0 fs) (hk : gs.length = k) (hg : Z.heap[g]? = some (.cells vs 60 (0, 0))) (hvs : vs = (cellsF gs).toArray) (hl : fs.length + gs.length ≤ 1000) (hbase : base ≤ Z.heap.size) :
    ∃ v' w', (Builtin.append_ #[23, 23] 23 #[v0, .slice (some ⟨g, 0, none⟩) k k]).run Tryz.prog Z = .ok v' w' ∧ OwnF w' base v' (fs ++ gs) ∧ Z.grownBy w' v0.ownBlock := by
  subst hk hvs
  obtain ⟨i0, hi0, hz0, hz1, hz2⟩ := info48
  obtain ⟨v', w', h1, h2, h3, _⟩ := run_append_own (P := Tryz.prog) Z base 23 23 60 i0 _ 2 32 Tryz.underlying23 hi0 hz0 hz1 hz2 rfl (by decide) v0 fs.length (cellsF fs) hown ⟨g, 0, none⟩ gs.length gs.length (cellsF gs) (cellsF_length gs) (fun j u hu => by
    rw [Addr.add_mid, Nat.zero_add, cell_of_row _ _ _ _ _ _ hg, List.getElem?_toArray]; exact hu) cellsF_oneCell (by unfold maxLen; omega) (by omega) hbase
  refine ⟨v', w', h1, ?_, h3⟩
  unfold OwnF
  rw [List.length_append, cellsF_append]
  exact h2
/-- What stands behind the head is made. -/
structure AskRel (w : World) (q : Nat) (path : ByteArray) (fs : List FV) (n : Nat) (wx : World) : Prop where
  b : Below w.heap.size w wx
  r : wx.heap[w.heap.size]? = some (.cells #[.string { data := #[] }, .string { data := #[] }, .string { data := #[] }, .slice none 0 0] 25 (0, 0))
  h : ∃ a c, wx.heap[q]? = some (.cells #[.string { data := #[71, 69, 84] }, .string path, .string { data := #[72, 84, 84, 80, 47, 49, 46, 49] }, .slice a n c] 25 (0, 0)) ∧ FieldsAt wx (.slice a n c) fs ∧ (Value.slice a n c).ownBlock ≠ some w.heap.size
theorem fields_nil (W : World) : FieldsAt W (.slice none 0 0) [] := ⟨none, 0, 0, 0, rfl, by simp, by simp, fun h => by simp at h, fun i hi => by simp at hi⟩
theorem ask_rel {w W : World} {q n : Nat} {path : ByteArray} {v0 : Value} {a : Option Addr} {c base : Nat} {fs : List FV} (hq : W.heap[q]? = some (.cells #[.string { data := #[71, 69, 84] }, .string path, .string { data := #[72, 84, 84, 80, 47, 49, 46, 49] }, v0] 25 (0, 0)))
    (hr : W.heap[w.heap.size]? = some (.cells #[.string { data := #[] }, .string { data := #[] }, .string { data := #[] }, .slice none 0 0] 25 (0, 0))) (hne : w.heap.size ≠ q) (hB : Below w.heap.size w W) (hg : w.heap.size ≤ q)
    (hO : OwnF W base (.slice a n c) fs) (hs : ∀ f ∈ fs, f.1.size ≤ 100000 ∧ f.2.size ≤ 100000) (hl : fs.length < 100000) : AskRel w q path fs n (W.setCell ⟨q, 3, none⟩ (.slice a n c)) where
  b := hB.grown (grown_setCell W q 3 _) hB.size (fun k hk => by injection hk with hk; omega)
  r := by rw [heap_setCell_other _ _ _ _ hne]; exact hr
  h := ⟨a, c, agg_setCell _ hq, (hO.fields (fun f hf => by have := hs f hf; unfold maxLen; omega) hl).grown (grown_setCell W q 3 _) (ownF_kind hO hq (by decide)), ownF_kind hO hr (by decide)⟩
set_option maxHeartbeats 2000000 in
theorem ask_some (path host key : ByteArray) (l : List ByteArray) (v : Value) (w : World) (ok : AskOk path host key l) (hg : GlobA w) (hv : StrA w v l) (hne : 0 < l.length) (hA : askB path host key = true) (hO : offerB l = true) :
    Calls Tryz.prog 28 #[.string path, .string host, .string key, v] w fun e w' => Sl (AskR w' path host key l e) ∧ Sl (Below w.heap.size w w') := by
  have hl16 : l.length ≤ 16 := by
    unfold offerB at hO
    rw [Bool.and_eq_true] at hO
    exact of_decide_eq_true hO.1
  have hsl : ∀ x ∈ l, x.size ≤ maxLen := fun x hx => Nat.le_trans (ok.s x hx) (by unfold maxLen; omega)
  have C1 : Sl (∀ V, Calls Tryz.prog 52 #[.string path, .string host, .string key] V fun e w' => e = .returned (.bool true) ∧ Sl (Below V.heap.size V w')) := ⟨fun V => mayAsk_any path host key V true hA (by have := ok.p; unfold maxLen; omega) (by have := ok.h; unfold maxLen; omega) (by have := ok.k; omega)⟩
  have C2 : Sl (∀ V, Below w.heap.size w V → Calls Tryz.prog 53 #[v] V fun e w' => e = .returned (.bool true) ∧ Sl (Below V.heap.size V w')) := ⟨fun V hB => mayOffer_any l v V true hO (hg.of hB).h (hv.below hB) (by omega) hsl⟩
  have CJ : Sl (∀ V, Below w.heap.size w V → Calls Tryz.prog 54 #[v, .string { data := #[44, 32] }] V fun e w' => e = .returned (.string (joinS l)) ∧ Sl (Below V.heap.size V w')) := ⟨fun V hB => join_any l v V (hv.below hB) hne (by omega) (fun x hx => Nat.le_trans (ok.s x hx) (by omega))⟩
  have HFS := Sl.mk (askF_ok ok hl16)
  have CC : Sl (∀ V a c, Below w.heap.size w V → FieldsAt V (.slice a 6 c) (askF host key ++ [(bProt, joinS l)]) → Calls Tryz.prog 55 #[.agg #[.string { data := #[71, 69, 84] }, .string path, .string { data := #[72, 84, 84, 80, 47, 49, 46, 49] }, .slice a 6 c]] V fun e w' => e = .returned (.int .i64 (chk (askV path host key l) : Nat)) ∧ Sl (Below V.heap.size V w')) := ⟨fun V a c hB hF => by
    have e : askV path host key l = ⟨bGET, path, bH11, askF host key ++ [(bProt, joinS l)]⟩ := by unfold askV; rw [if_neg (by omega)]
    have ht := ask_text ok hl16
    rw [e] at ht ⊢
    exact check_any ⟨bGET, path, bH11, askF host key ++ [(bProt, joinS l)]⟩ _ V (hg.of hB).h hF ⟨by show bGET.size ≤ maxLen; decide, by show path.size ≤ maxLen; have := ok.p; unfold maxLen; omega, by show bH11.size ≤ maxLen; decide⟩ ht⟩
  have HK : Sl (askOkB path host key l = decide (chk (askV path host key l) = 0)) := ⟨by unfold askOkB; rw [hA, hO]; rfl⟩
  have HV : Sl (askV path host key l = ⟨bGET, path, bH11, askF host key ++ [(bProt, joinS l)]⟩) := ⟨by unfold askV; rw [if_neg (by omega)]⟩
  obtain ⟨x, hx⟩ : ∃ x, joinS l = x := ⟨_, rfl⟩
  obtain ⟨cc, hcc⟩ : ∃ cc, chk (askV path host key l) = cc := ⟨_, rfl⟩
  rw [hx] at CJ HFS CC HV
  rw [hcc] at CC HK
  have HCC := Sl.mk hcc
  clear hx hcc hA hO hsl ok hg hl16
  obtain ⟨ad, ca, sa, oa, rfl, _⟩ := hv
  obtain ⟨n, hn⟩ : ∃ n, l.length = n := ⟨_, rfl⟩
  rw [hn] at C2 CJ hne ⊢
  have hgt : (n : Int) > 0 := by omega
  clear hn
  obtain ⟨w0, hw0⟩ : ∃ w0, w.alloc (.cells #[.string { data := #[] }, .string { data := #[] }, .string { data := #[] }, .slice none 0 0] 25) = w0 := ⟨_, rfl⟩
  have HR0 : Sl (w0.heap[w.heap.size]? = some (.cells #[.string { data := #[] }, .string { data := #[] }, .string { data := #[] }, .slice none 0 0] 25 (0, 0))) := ⟨by rw [← hw0]; exact alloc_new _ _ _ rfl⟩
  have HB0 : Sl (Below w.heap.size w w0) := ⟨by rw [← hw0]; exact (Below.refl _ _).alloc (Nat.le_refl _) _⟩
  have HZ0 : Sl (w0.heap.size = w.heap.size + 1) := ⟨by rw [← hw0, alloc_size]⟩
  go_enter Tryz.func28, Tryz.ntmps28
  go_wp2_with fail
  clear hw0
  refine (C1.out _).mono ?_
  rintro e w1 ⟨rfl, HB1'⟩
  go_wp2_with fail
  refine (C2.out _ (below_trans HB0.out HB1'.out)).mono ?_
  rintro e w2 ⟨rfl, HB2'⟩
  have HB02 := Sl.mk (below_trans HB1'.out HB2'.out)
  have HB2 := Sl.mk (below_trans HB0.out HB02.out)
  have HR2 := Sl.mk (box_below HR0.out HB02.out)
  have HZ2 : Sl (w.heap.size < w2.heap.size) := ⟨by have h1 := HB02.out.size; have h2 := HZ0.out; omega⟩
  clear C1 C2 HB1' HB2'
  have HO := Sl.mk (ownF_lit w2 w0.heap.size [(bHost, host), (bUp, bWs), (bConn, bUp), (bKey, key), (bVer, b13)] _ HB02.out.size rfl (show 5 ≤ 1000 by omega))
  obtain ⟨A1, hA1⟩ : ∃ A, w2.alloc (.cells #[.string { data := #[72, 111, 115, 116] }, .string host, .string { data := #[85, 112, 103, 114, 97, 100, 101] }, .string { data := #[119, 101, 98, 115, 111, 99, 107, 101, 116] }, .string { data := #[67, 111, 110, 110, 101, 99, 116, 105, 111, 110] }, .string { data := #[85, 112, 103, 114, 97, 100, 101] }, .string { data := #[83, 101, 99, 45, 87, 101, 98, 83, 111, 99, 107, 101, 116, 45, 75, 101, 121] }, .string key, .string { data := #[83, 101, 99, 45, 87, 101, 98, 83, 111, 99, 107, 101, 116, 45, 86, 101, 114, 115, 105, 111, 110] }, .string { data := #[49, 51] }] 60) = A := ⟨_, rfl⟩
  obtain ⟨A2, hA2⟩ : ∃ A, A1.alloc (.cells #[.string { data := #[71, 69, 84] }, .string path, .string { data := #[72, 84, 84, 80, 47, 49, 46, 49] }, .slice (some ⟨w2.heap.size, 0, none⟩) 5 5] 25) = A := ⟨_, rfl⟩
  have hZ1 : A1.heap.size = w2.heap.size + 1 := by rw [← hA1, alloc_size]
  have BA : Sl (Below w2.heap.size w2 A2) := ⟨by rw [← hA2, ← hA1]; exact ((Below.refl _ _).alloc (Nat.le_refl _) _).alloc (by rw [alloc_size]; omega) _⟩
  have HO2 : Sl (OwnF A2 w0.heap.size (.slice (some ⟨w2.heap.size, 0, none⟩) 5 5) [(bHost, host), (bUp, bWs), (bConn, bUp), (bKey, key), (bVer, b13)]) := ⟨by
    rw [← hA2]
    have h : OwnF (w2.alloc (.cells #[.string { data := #[72, 111, 115, 116] }, .string host, .string { data := #[85, 112, 103, 114, 97, 100, 101] }, .string { data := #[119, 101, 98, 115, 111, 99, 107, 101, 116] }, .string { data := #[67, 111, 110, 110, 101, 99, 116, 105, 111, 110] }, .string { data := #[85, 112, 103, 114, 97, 100, 101] }, .string { data := #[83, 101, 99, 45, 87, 101, 98, 83, 111, 99, 107, 101, 116, 45, 75, 101, 121] }, .string key, .string { data := #[83, 101, 99, 45, 87, 101, 98, 83, 111, 99, 107, 101, 116, 45, 86, 101, 114, 115, 105, 111, 110] }, .string { data := #[49, 51] }] 60)) w0.heap.size (.slice (some ⟨w2.heap.size, 0, none⟩) 5 5) [(bHost, host), (bUp, bWs), (bConn, bUp), (bKey, key), (bVer, b13)] := HO.out
    rw [hA1] at h
    exact h.below ((Below.refl _ _).alloc (Nat.le_refl _) _)⟩
  have HH2 : Sl (A2.heap[A1.heap.size]? = some (.cells #[.string { data := #[71, 69, 84] }, .string path, .string { data := #[72, 84, 84, 80, 47, 49, 46, 49] }, .slice (some ⟨w2.heap.size, 0, none⟩) 5 5] 25 (0, 0))) := ⟨by
    rw [← hA2]; exact alloc_new _ _ _ rfl⟩
  have HR2A := Sl.mk (box_below HR2.out BA.out)
  have HB2A := Sl.mk (below_trans HB2.out BA.out)
  have HS2A : Sl (w0.heap.size ≤ A2.heap.size) := ⟨Nat.le_trans HB02.out.size BA.out.size⟩
  have HZ1 := Sl.mk hZ1
  clear HO HR2 HB2 BA hZ1
  go_upto_region 5 with fail
  go_cut [] (fun wx => AskRel w A1.heap.size path ([(bHost, host), (bUp, bWs), (bConn, bUp), (bKey, key), (bVer, b13)] ++ [(bProt, x)]) 6 wx)
  case first =>
    obtain ⟨R, hR⟩ : ∃ R, A2.drew = R := ⟨_, rfl⟩
    have HBR : Sl (Below w.heap.size w R) := ⟨by rw [← hR]; exact HB2A.out.drew⟩
    have HHR : Sl (R.heap[A1.heap.size]? = some (.cells #[.string { data := #[71, 69, 84] }, .string path, .string { data := #[72, 84, 84, 80, 47, 49, 46, 49] }, .slice (some ⟨w2.heap.size, 0, none⟩) 5 5] 25 (0, 0))) := ⟨by rw [← hR]; exact HH2.out⟩
    have HRR : Sl (R.heap[w.heap.size]? = some (.cells #[.string { data := #[] }, .string { data := #[] }, .string { data := #[] }, .slice none 0 0] 25 (0, 0))) := ⟨by rw [← hR]; exact HR2A.out⟩
    have HOR : Sl (OwnF R w0.heap.size (.slice (some ⟨w2.heap.size, 0, none⟩) 5 5) [(bHost, host), (bUp, bWs), (bConn, bUp), (bKey, key), (bVer, b13)]) := ⟨by rw [← hR]; exact HO2.out.below (Below.refl _ _).drew⟩
    have HSR : Sl (w0.heap.size ≤ R.heap.size) := ⟨by rw [← hR]; exact HS2A.out⟩
    have HFS6 : Sl (∀ f ∈ [(bHost, host), (bUp, bWs), (bConn, bUp), (bKey, key), (bVer, b13)] ++ [(bProt, x)], f.1.size ≤ 100000 ∧ f.2.size ≤ 100000) := HFS
    have cR : R.cell? ⟨A1.heap.size, 3, none⟩ = some (.slice (some ⟨w2.heap.size, 0, none⟩) 5 5) := (head_cells HHR.out).2.2.2
    refine wp_region_noPanic ?_
    refine wp_region_held (S := fun W => Below w.heap.size w W) (by kernel_rfl) ?_
    change wpAnyH _ _ _ _ _ _ _ _ A2.drew
    rw [hR]
    clear hR hA1 hA2
    refine heldTake (d := some 36) (op := Go.Op.fieldAddr 25 (Go.Operand.tmp 10) 1) (g := none) 0 ?v0 rfl (by kernel_rfl) (by kernel_rfl) (by kernel_rfl) (by kernel_rfl) ?y0 HBR.out ?_
    case y0 => intro o ho w _; simp only [execOp, ho]; go_simp; try rfl
    simp only [Act.put, List.setIfInBounds_toArray, List.set_cons_zero, List.set_cons_succ]
    refine heldTake (d := some 38) (op := Go.Op.move (Go.Operand.tmp 3)) (g := none) 2 ?v2 rfl (by kernel_rfl) (by kernel_rfl) (by kernel_rfl) (by kernel_rfl) ?y2 HBR.out ?_
    case y2 => intro o ho w _; simp only [execOp, ho]; go_simp; try rfl
    simp only [Act.put, List.setIfInBounds_toArray, List.set_cons_zero, List.set_cons_succ]
    refine heldLC (di := some 37) (opi := Go.Op.load 23 (Go.Operand.tmp 36)) (gi := none) (dj := some 39) (opj := Go.Op.call { callee := Go.Callee.value (Go.Operand.func 54), args := #[Go.Operand.tmp 38, Go.Operand.const (Go.Value.string { data := #[44, 32] })], argTypes := #[28, 9] }) (gj := none) 1 3 (.slice (some ⟨w2.heap.size, 0, none⟩) 5 5) 54 ?a13 rfl rfl (by kernel_rfl) (by kernel_rfl) (by kernel_rfl) ?y1 ?y3 HBR.out ?n1 ?n3
    case y1 => intro o ho; simp only [execOp, ho]; go_simp; try rfl
    case y3 => intro o ho; simp only [execOp, ho]; go_simp; try rfl
    case n1 =>
      simp only [Act.put, List.setIfInBounds_toArray, List.set_cons_zero, List.set_cons_succ]
      refine heldCall (d := some 39) (op := Go.Op.call { callee := Go.Callee.value (Go.Operand.func 54), args := #[Go.Operand.tmp 38, Go.Operand.const (Go.Value.string { data := #[44, 32] })], argTypes := #[28, 9] }) (g := none) 3 54 ?a3p rfl (by kernel_rfl) (by kernel_rfl) ?y3p ?_
      case y3p => intro o ho; simp only [execOp, ho]; go_simp; try rfl
      refine (CJ.out _ HBR.out).mono ?_
      rintro e w3 ⟨rfl, HB3'⟩
      have HBX := below_trans HBR.out HB3'.out
      refine ⟨_, rfl, HBX, ?_⟩
      simp only [Act.put, List.setIfInBounds_toArray, List.set_cons_zero, List.set_cons_succ]
      have HL4 : Sl ((w3.alloc (.cells #[.string { data := #[83, 101, 99, 45, 87, 101, 98, 83, 111, 99, 107, 101, 116, 45, 80, 114, 111, 116, 111, 99, 111, 108] }, .string x] 60)).heap[w3.heap.size]? = some (.cells #[.string { data := #[83, 101, 99, 45, 87, 101, 98, 83, 111, 99, 107, 101, 116, 45, 80, 114, 111, 116, 111, 99, 111, 108] }, .string x] 60 (0, 0))) := ⟨alloc_new _ _ _ rfl⟩
      have HB34 : Below R.heap.size R (w3.alloc (.cells #[.string { data := #[83, 101, 99, 45, 87, 101, 98, 83, 111, 99, 107, 101, 116, 45, 80, 114, 111, 116, 111, 99, 111, 108] }, .string x] 60)) := HB3'.out.alloc HB3'.out.size _
      have HB4 : Sl (Below w.heap.size w (w3.alloc (.cells #[.string { data := #[83, 101, 99, 45, 87, 101, 98, 83, 111, 99, 107, 101, 116, 45, 80, 114, 111, 116, 111, 99, 111, 108] }, .string x] 60))) := ⟨below_trans HBR.out HB34⟩
      have HH4 := Sl.mk (box_below HHR.out HB34)
      have HR4 := Sl.mk (box_below HRR.out HB34)
      have HO4 := Sl.mk (HOR.out.below HB34)
      have HS4 : Sl (w0.heap.size ≤ (w3.alloc (.cells #[.string { data := #[83, 101, 99, 45, 87, 101, 98, 83, 111, 99, 107, 101, 116, 45, 80, 114, 111, 116, 111, 99, 111, 108] }, .string x] 60)).heap.size) := ⟨Nat.le_trans HSR.out HB34.size⟩
      have c3 : w3.cell? ⟨A1.heap.size, 3, none⟩ = some (.slice (some ⟨w2.heap.size, 0, none⟩) 5 5) := (head_cells (box_below HHR.out HB3'.out)).2.2.2
      have c4 : (w3.alloc (.cells #[.string { data := #[83, 101, 99, 45, 87, 101, 98, 83, 111, 99, 107, 101, 116, 45, 80, 114, 111, 116, 111, 99, 111, 108] }, .string x] 60)).cell? ⟨A1.heap.size, 3, none⟩ = some (.slice (some ⟨w2.heap.size, 0, none⟩) 5 5) := (head_cells HH4.out).2.2.2
      refine heldTake (d := some 40) (op := Go.Op.build 60 #[(0, Go.Operand.const (Go.Value.string { data := #[83, 101, 99, 45, 87, 101, 98, 83, 111, 99, 107, 101, 116, 45, 80, 114, 111, 116, 111, 99, 111, 108] })), (1, Go.Operand.tmp 39)]) (g := none) 4 ?v4p rfl (by kernel_rfl) (by kernel_rfl) (by kernel_rfl) (by kernel_rfl) ?y4p HBX ?_
      case y4p => intro o ho w _; simp only [execOp, ho]; go_simp; try rfl
      simp only [Act.put, List.setIfInBounds_toArray, List.set_cons_zero, List.set_cons_succ]
      refine heldRunT (d := some 41) (op := Go.Op.buildSlice 23 1 #[(0, Go.Operand.tmp 40)]) (g := none) 5 (.slice (some ⟨w3.heap.size, 0, none⟩) 1 1) (w3.alloc (.cells #[.string { data := #[83, 101, 99, 45, 87, 101, 98, 83, 111, 99, 107, 101, 116, 45, 80, 114, 111, 116, 111, 99, 111, 108] }, .string x] 60)) rfl (by kernel_rfl) (by kernel_rfl) ?y5p HB4.out ?_
      case y5p => intro o ho ht; simp only [execOp, ho]; go_simp; try rfl
      simp only [Act.put, List.setIfInBounds_toArray, List.set_cons_zero, List.set_cons_succ]
      obtain ⟨v2, w5, hr6, ho6, hg6⟩ := add_flds (gs := [(bProt, x)]) (k := 1) HO4.out rfl HL4.out rfl (show 5 + 1 ≤ 1000 by omega) HS4.out
      have HB5 : Below w.heap.size w w5 := HB4.out.grown hg6 HB4.out.size (fun k hk => by have := ownF_ge HO4.out hk; have := HZ0.out; omega)
      have HH5 := staysF HO4.out hg6 HH4.out (by decide)
      have HR5 := staysF HO4.out hg6 HR4.out (by decide)
      obtain ⟨av, cv, hv2⟩ := OwnF.slice ho6
      subst hv2
      refine heldRunT (d := some 42) (op := Go.Op.call { callee := Go.Callee.builtin Go.Builtin.append, args := #[Go.Operand.tmp 37, Go.Operand.tmp 41], argTypes := #[23, 23] }) (g := none) 6 (.slice av 6 cv) w5 rfl (by kernel_rfl) (by kernel_rfl) ?y6p HB5 ?_
      case y6p => intro o ho ht; simp only [execOp, ho, ht, resolve, invoke, builtin, Sem.run_bind, Sem.run_pure, Result.andThen_ok, List.map_toArray, List.map_cons, List.map_nil]; refine (congrArg (fun r => Result.andThen r _) hr6).trans ?_; rfl
      simp only [Act.put, List.setIfInBounds_toArray, List.set_cons_zero, List.set_cons_succ]
      refine heldTake (d := some 43) (op := Go.Op.fieldAddr 25 (Go.Operand.tmp 10) 1) (g := none) 7 ?v7p rfl (by kernel_rfl) (by kernel_rfl) (by kernel_rfl) (by kernel_rfl) ?y7p HB5 ?_
      case y7p => intro o ho w _; simp only [execOp, ho]; go_simp; try rfl
      simp only [Act.put, List.setIfInBounds_toArray, List.set_cons_zero, List.set_cons_succ]
      have HREL := ask_rel (path := path) HH5 HR5 (by have := HZ2.out; have := HZ1.out; omega) HB5 (by have := HZ2.out; have := HZ1.out; omega) ho6 HFS6.out (show 6 < 100000 by omega)
      have c0 := (head_cells HH5).2.2.2
      have f0 : w5.frozen? ⟨A1.heap.size, 3, none⟩ = false := frozen_of_row _ _ _ _ _ HH5
      refine heldStore (d := none) (op := Go.Op.store 23 (Go.Operand.tmp 43) (Go.Operand.tmp 42)) (g := none) 8 (w5.setCell ⟨A1.heap.size, 3, none⟩ (.slice av 6 cv)) rfl (by kernel_rfl) (by kernel_rfl) ?y8p HREL.b ?_
      case y8p => intro o ho ht; simp only [execOp, ho]; go_simp; try rfl
      simp only [Act.put]
      refine wpAnyH_done (by kernel_rfl) ?_ _
      refine NoPanic.normal ?_
      go_wp2_with fail
      go_meet
      exact HREL
    case n3 =>
      refine (CJ.out _ HBR.out).mono ?_
      rintro e w3 ⟨rfl, HB3'⟩
      have HBX := below_trans HBR.out HB3'.out
      refine ⟨_, rfl, HBX, ?_⟩
      simp only [Act.put, List.setIfInBounds_toArray, List.set_cons_zero, List.set_cons_succ]
      have HL4 : Sl ((w3.alloc (.cells #[.string { data := #[83, 101, 99, 45, 87, 101, 98, 83, 111, 99, 107, 101, 116, 45, 80, 114, 111, 116, 111, 99, 111, 108] }, .string x] 60)).heap[w3.heap.size]? = some (.cells #[.string { data := #[83, 101, 99, 45, 87, 101, 98, 83, 111, 99, 107, 101, 116, 45, 80, 114, 111, 116, 111, 99, 111, 108] }, .string x] 60 (0, 0))) := ⟨alloc_new _ _ _ rfl⟩
      have HB34 : Below R.heap.size R (w3.alloc (.cells #[.string { data := #[83, 101, 99, 45, 87, 101, 98, 83, 111, 99, 107, 101, 116, 45, 80, 114, 111, 116, 111, 99, 111, 108] }, .string x] 60)) := HB3'.out.alloc HB3'.out.size _
      have HB4 : Sl (Below w.heap.size w (w3.alloc (.cells #[.string { data := #[83, 101, 99, 45, 87, 101, 98, 83, 111, 99, 107, 101, 116, 45, 80, 114, 111, 116, 111, 99, 111, 108] }, .string x] 60))) := ⟨below_trans HBR.out HB34⟩
      have HH4 := Sl.mk (box_below HHR.out HB34)
      have HR4 := Sl.mk (box_below HRR.out HB34)
      have HO4 := Sl.mk (HOR.out.below HB34)
      have HS4 : Sl (w0.heap.size ≤ (w3.alloc (.cells #[.string { data := #[83, 101, 99, 45, 87, 101, 98, 83, 111, 99, 107, 101, 116, 45, 80, 114, 111, 116, 111, 99, 111, 108] }, .string x] 60)).heap.size) := ⟨Nat.le_trans HSR.out HB34.size⟩
      have c3 : w3.cell? ⟨A1.heap.size, 3, none⟩ = some (.slice (some ⟨w2.heap.size, 0, none⟩) 5 5) := (head_cells (box_below HHR.out HB3'.out)).2.2.2
      have c4 : (w3.alloc (.cells #[.string { data := #[83, 101, 99, 45, 87, 101, 98, 83, 111, 99, 107, 101, 116, 45, 80, 114, 111, 116, 111, 99, 111, 108] }, .string x] 60)).cell? ⟨A1.heap.size, 3, none⟩ = some (.slice (some ⟨w2.heap.size, 0, none⟩) 5 5) := (head_cells HH4.out).2.2.2
      refine heldTake (d := some 40) (op := Go.Op.build 60 #[(0, Go.Operand.const (Go.Value.string { data := #[83, 101, 99, 45, 87, 101, 98, 83, 111, 99, 107, 101, 116, 45, 80, 114, 111, 116, 111, 99, 111, 108] })), (1, Go.Operand.tmp 39)]) (g := none) 4 ?v4q rfl (by kernel_rfl) (by kernel_rfl) (by kernel_rfl) (by kernel_rfl) ?y4q HBX ?_
      case y4q => intro o ho w _; simp only [execOp, ho]; go_simp; try rfl
      simp only [Act.put, List.setIfInBounds_toArray, List.set_cons_zero, List.set_cons_succ]
      refine heldTwo (di := some 37) (opi := Go.Op.load 23 (Go.Operand.tmp 36)) (gi := none) (dj := some 41) (opj := Go.Op.buildSlice 23 1 #[(0, Go.Operand.tmp 40)]) (gj := none) 1 5 (.slice (some ⟨w2.heap.size, 0, none⟩) 5 5) w3 (.slice (some ⟨w3.heap.size, 0, none⟩) 1 1) (w3.alloc (.cells #[.string { data := #[83, 101, 99, 45, 87, 101, 98, 83, 111, 99, 107, 101, 116, 45, 80, 114, 111, 116, 111, 99, 111, 108] }, .string x] 60)) rfl rfl (by kernel_rfl) (by kernel_rfl) (by kernel_rfl) ?y1q ?y5q HBX HB4.out ?n1q ?n5q
      case y1q => intro o ho ht; simp only [execOp, ho]; go_simp; try rfl
      case y5q => intro o ho ht; simp only [execOp, ho]; go_simp; try rfl
      case n1q =>
        simp only [Act.put, List.setIfInBounds_toArray, List.set_cons_zero, List.set_cons_succ]
        refine heldRunT (d := some 41) (op := Go.Op.buildSlice 23 1 #[(0, Go.Operand.tmp 40)]) (g := none) 5 (.slice (some ⟨w3.heap.size, 0, none⟩) 1 1) (w3.alloc (.cells #[.string { data := #[83, 101, 99, 45, 87, 101, 98, 83, 111, 99, 107, 101, 116, 45, 80, 114, 111, 116, 111, 99, 111, 108] }, .string x] 60)) rfl (by kernel_rfl) (by kernel_rfl) ?y5qa HB4.out ?_
        case y5qa => intro o ho ht; simp only [execOp, ho]; go_simp; try rfl
        simp only [Act.put, List.setIfInBounds_toArray, List.set_cons_zero, List.set_cons_succ]
        obtain ⟨v2, w5, hr6, ho6, hg6⟩ := add_flds (gs := [(bProt, x)]) (k := 1) HO4.out rfl HL4.out rfl (show 5 + 1 ≤ 1000 by omega) HS4.out
        have HB5 : Below w.heap.size w w5 := HB4.out.grown hg6 HB4.out.size (fun k hk => by have := ownF_ge HO4.out hk; have := HZ0.out; omega)
        have HH5 := staysF HO4.out hg6 HH4.out (by decide)
        have HR5 := staysF HO4.out hg6 HR4.out (by decide)
        obtain ⟨av, cv, hv2⟩ := OwnF.slice ho6
        subst hv2
        refine heldRunT (d := some 42) (op := Go.Op.call { callee := Go.Callee.builtin Go.Builtin.append, args := #[Go.Operand.tmp 37, Go.Operand.tmp 41], argTypes := #[23, 23] }) (g := none) 6 (.slice av 6 cv) w5 rfl (by kernel_rfl) (by kernel_rfl) ?y6qa HB5 ?_
        case y6qa => intro o ho ht; simp only [execOp, ho, ht, resolve, invoke, builtin, Sem.run_bind, Sem.run_pure, Result.andThen_ok, List.map_toArray, List.map_cons, List.map_nil]; refine (congrArg (fun r => Result.andThen r _) hr6).trans ?_; rfl
        simp only [Act.put, List.setIfInBounds_toArray, List.set_cons_zero, List.set_cons_succ]
        refine heldTake (d := some 43) (op := Go.Op.fieldAddr 25 (Go.Operand.tmp 10) 1) (g := none) 7 ?v7qa rfl (by kernel_rfl) (by kernel_rfl) (by kernel_rfl) (by kernel_rfl) ?y7qa HB5 ?_
        case y7qa => intro o ho w _; simp only [execOp, ho]; go_simp; try rfl
        simp only [Act.put, List.setIfInBounds_toArray, List.set_cons_zero, List.set_cons_succ]
        have HREL := ask_rel (path := path) HH5 HR5 (by have := HZ2.out; have := HZ1.out; omega) HB5 (by have := HZ2.out; have := HZ1.out; omega) ho6 HFS6.out (show 6 < 100000 by omega)
        have c0 := (head_cells HH5).2.2.2
        have f0 : w5.frozen? ⟨A1.heap.size, 3, none⟩ = false := frozen_of_row _ _ _ _ _ HH5
        refine heldStore (d := none) (op := Go.Op.store 23 (Go.Operand.tmp 43) (Go.Operand.tmp 42)) (g := none) 8 (w5.setCell ⟨A1.heap.size, 3, none⟩ (.slice av 6 cv)) rfl (by kernel_rfl) (by kernel_rfl) ?y8qa HREL.b ?_
        case y8qa => intro o ho ht; simp only [execOp, ho]; go_simp; try rfl
        simp only [Act.put]
        refine wpAnyH_done (by kernel_rfl) ?_ _
        refine NoPanic.normal ?_
        go_wp2_with fail
        go_meet
        exact HREL
      case n5q =>
        simp only [Act.put, List.setIfInBounds_toArray, List.set_cons_zero, List.set_cons_succ]
        refine heldRunT (d := some 37) (op := Go.Op.load 23 (Go.Operand.tmp 36)) (g := none) 1 (.slice (some ⟨w2.heap.size, 0, none⟩) 5 5) (w3.alloc (.cells #[.string { data := #[83, 101, 99, 45, 87, 101, 98, 83, 111, 99, 107, 101, 116, 45, 80, 114, 111, 116, 111, 99, 111, 108] }, .string x] 60)) rfl (by kernel_rfl) (by kernel_rfl) ?y1qb HB4.out ?_
        case y1qb => intro o ho ht; simp only [execOp, ho]; go_simp; try rfl
        simp only [Act.put, List.setIfInBounds_toArray, List.set_cons_zero, List.set_cons_succ]
        obtain ⟨v2, w5, hr6, ho6, hg6⟩ := add_flds (gs := [(bProt, x)]) (k := 1) HO4.out rfl HL4.out rfl (show 5 + 1 ≤ 1000 by omega) HS4.out
        have HB5 : Below w.heap.size w w5 := HB4.out.grown hg6 HB4.out.size (fun k hk => by have := ownF_ge HO4.out hk; have := HZ0.out; omega)
        have HH5 := staysF HO4.out hg6 HH4.out (by decide)
        have HR5 := staysF HO4.out hg6 HR4.out (by decide)
        obtain ⟨av, cv, hv2⟩ := OwnF.slice ho6
        subst hv2
        refine heldRunT (d := some 42) (op := Go.Op.call { callee := Go.Callee.builtin Go.Builtin.append, args := #[Go.Operand.tmp 37, Go.Operand.tmp 41], argTypes := #[23, 23] }) (g := none) 6 (.slice av 6 cv) w5 rfl (by kernel_rfl) (by kernel_rfl) ?y6qb HB5 ?_
        case y6qb => intro o ho ht; simp only [execOp, ho, ht, resolve, invoke, builtin, Sem.run_bind, Sem.run_pure, Result.andThen_ok, List.map_toArray, List.map_cons, List.map_nil]; refine (congrArg (fun r => Result.andThen r _) hr6).trans ?_; rfl
        simp only [Act.put, List.setIfInBounds_toArray, List.set_cons_zero, List.set_cons_succ]
        refine heldTake (d := some 43) (op := Go.Op.fieldAddr 25 (Go.Operand.tmp 10) 1) (g := none) 7 ?v7qb rfl (by kernel_rfl) (by kernel_rfl) (by kernel_rfl) (by kernel_rfl) ?y7qb HB5 ?_
        case y7qb => intro o ho w _; simp only [execOp, ho]; go_simp; try rfl
        simp only [Act.put, List.setIfInBounds_toArray, List.set_cons_zero, List.set_cons_succ]
        have HREL := ask_rel (path := path) HH5 HR5 (by have := HZ2.out; have := HZ1.out; omega) HB5 (by have := HZ2.out; have := HZ1.out; omega) ho6 HFS6.out (show 6 < 100000 by omega)
        have c0 := (head_cells HH5).2.2.2
        have f0 : w5.frozen? ⟨A1.heap.size, 3, none⟩ = false := frozen_of_row _ _ _ _ _ HH5
        refine heldStore (d := none) (op := Go.Op.store 23 (Go.Operand.tmp 43) (Go.Operand.tmp 42)) (g := none) 8 (w5.setCell ⟨A1.heap.size, 3, none⟩ (.slice av 6 cv)) rfl (by kernel_rfl) (by kernel_rfl) ?y8qb HREL.b ?_
        case y8qb => intro o ho ht; simp only [execOp, ho]; go_simp; try rfl
        simp only [Act.put]
        refine wpAnyH_done (by kernel_rfl) ?_ _
        refine NoPanic.normal ?_
        go_wp2_with fail
        go_meet
        exact HREL
  case rest =>
    obtain ⟨hB, hR, a, c, hH, hF, hN⟩ := hcut
    have HN := Sl.mk hN
    have HBc := Sl.mk hB
    have HRc := Sl.mk hR
    have HHc := Sl.mk hH
    have HFc := Sl.mk hF
    clear hB hR hH hF hN hA1 hA2 HH2 HR2A HB2A HS2A HO2 CJ
    obtain ⟨p0, p1, p2, p3⟩ := head_cells HHc.out
    go_wp2_with fail
    refine (CC.out _ a c HBc.out HFc.out).mono ?_
    rintro e w6 ⟨rfl, HB6⟩
    have HR6 := Sl.mk (box_below HRc.out HB6.out)
    have HH6 := Sl.mk (box_below HHc.out HB6.out)
    have HF6 := Sl.mk (HFc.out.below HB6.out)
    have HBW := Sl.mk (below_trans HBc.out HB6.out)
    have HQ : Sl (w.heap.size ≠ A1.heap.size) := ⟨by have := HZ1.out; have := HZ2.out; omega⟩
    clear p0 p1 p2 p3 HFc HHc HRc HBc CC HB6
    obtain ⟨⟨r0, r1, r2, r3⟩, ⟨q0, q1, q2, q3⟩⟩ := zero_cells HR6.out
    have hz6 : w.heap.size < w6.heap.size := lt_of_block HR6.out
    by_cases hc0 : cc = 0
    · have hq : ((cc : Int) == 0) = true := by simp [hc0]
      have hq2 : ((cc : Int) != 0) = false := by simp [hc0]
      have HKT : Sl (askOkB path host key l = true) := ⟨by rw [HK.out]; exact decide_eq_true hc0⟩
      clear hc0
      obtain ⟨p0, p1, p2, p3⟩ := head_cells HH6.out
      go_wp2
      obtain ⟨D1, D2, D3⟩ := head_done (w0 := w) (h := ⟨bGET, path, bH11, [(bHost, host), (bUp, bWs), (bConn, bUp), (bKey, key), (bVer, b13)] ++ [(bProt, x)]⟩) (v := .slice a 6 c) HR6.out HBW.out (Nat.le_refl _) HF6.out HN.out
      refine bodyPost_ret (ret_head rfl _ _ w.heap.size 25 _ (0, 0) rfl (four_cells _ _ _ _ _ _ _ _ _ _ HR6.out) rfl) rfl ?_
      refine ⟨⟨.inl ⟨HKT.out, ?_⟩⟩, D3⟩
      rw [HV.out]
      exact ⟨_, _, rfl, D2.out⟩
    · have hq : ((cc : Int) == 0) = false := by simp [hc0]
      have hq2 : ((cc : Int) != 0) = true := by simp [hc0]
      have HKT : Sl (askOkB path host key l = false) := ⟨by rw [HK.out]; exact decide_eq_false hc0⟩
      clear hc0
      go_wp2
      refine bodyPost_ret (ret_head rfl _ _ w.heap.size 25 _ (0, 0) rfl (four_cells _ _ _ _ _ _ _ _ _ _ HR6.out) rfl) rfl ?_
      exact ⟨⟨.inr ⟨HKT.out, rfl⟩⟩, ⟨(head_done (w0 := w) (h := ⟨e0, e0, e0, []⟩) (v := .slice none 0 0) HR6.out HBW.out (Nat.le_refl _) (fields_nil _) (fun e => by cases e)).2.2.out⟩⟩
end Go.Proofs.YthlagngpllahkaaGreatDoor
