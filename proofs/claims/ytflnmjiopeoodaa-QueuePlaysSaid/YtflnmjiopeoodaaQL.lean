/- queue: the document's Put. -/
import Derived.Test.YtflnmjiopeoodaaQK
set_option maxRecDepth 100000
namespace Go.Proofs.Ytflnmjiopeoodaa.Que
open Go.RowKit Evt QueuePlain
open MsgPlain (Ev)

theorem q_info (a b : Int) (L : Value) : (Try.prog.info? 30).map (·.size) = some (#[Value.int .i64 a, .int .i64 b, L]).size := by
  show _ = some 3
  kernel_rfl
theorem ret_q {fn : Func} {p u : Tmp} (h : fn.results = #[.cell p 30, .tmp u]) (tmps : Array Value) (w : World) (g : Nat) (cs : Array Value)
    (hp : tmps.getD p undef = .pointer (some ⟨g, 0, none⟩)) (hg : w.heap[g]? = some (.cells cs 30 (0, 0))) (hs : cs.size = 3) :
    (results fn tmps).run Try.prog w = .ok (.tuple #[.agg cs, tmps.getD u undef]) w := by
  have hi : (Try.prog.info? 30).map (·.size) = some cs.size := by rw [hs]; kernel_rfl
  have hp' : tmps[p]?.getD undef = .pointer (some ⟨g, 0, none⟩) := by simpa using hp
  simp only [results, h]
  simp [Result.andThen, hp', asAddr, run_loadVar_row (P := Try.prog) w g 30 30 cs (0, 0) _ hg Try.underlying30 rfl hi]
theorem set_q {W : World} {g : Nat} {B : Nat} {w0 : World} {c0 : Array Value} (h : W.heap[g]? = some (.cells c0 30 (0, 0))) (hB : Below B w0 W) (hb : B ≤ g) (cs : Array Value) : ∃ V, W.setRow g cs = V ∧ Sl (Below B w0 V) ∧ Sl (V.heap[g]? = some (.cells cs 30 (0, 0))) :=
  ⟨_, rfl, ⟨below_setRow hB hb _⟩, ⟨setRow_heap _ _ _ _ _ _ h⟩⟩
theorem q_all (a b : Int) (x : Option Addr) (n c : Nat) : (#[.int .i64 a, .int .i64 b, .slice x n c] : Array Value).all (·.oneCell') = true := by simp [Value.oneCell']
/-- What is known behind the append: its row is laid in the queue's box, and this in the result's. -/
theorem put_end {W Z : World} {base b0 b2 : Nat} {count bytes' : Int} {L u : Value} {l : List Ev} (ho : OwnE Z base u l) (h0 : Z.heap[b0]? = some (.cells #[.int .i64 count, .int .i64 bytes', L] 30 (0, 0))) (h2 : Z.heap[b2]? = some (.cells #[.int .i64 0, .int .i64 0, .slice none 0 0] 30 (0, 0)))
    (hB : Below W.heap.size W Z) (c0 : W.heap.size ≤ b0) (c2 : b0 < b2) (c3 : b2 < base) :
    ∃ Z2, Z.setCell ⟨b0, 2, none⟩ u = Z2 ∧ Z.cell? ⟨b0, 2, none⟩ = some L ∧ Z.frozen? ⟨b0, 2, none⟩ = false ∧ Sl (Z2.heap[b0]? = some (.cells #[.int .i64 count, .int .i64 bytes', u] 30 (0, 0))) ∧ Sl (Z2.heap[b2]? = some (.cells #[.int .i64 0, .int .i64 0, .slice none 0 0] 30 (0, 0))) ∧ Sl (Below W.heap.size W Z2) ∧ Sl (OwnE Z2 base u l) := by
  have hk := grown_setCell Z b0 2 u
  have hX : (Z.setCell ⟨b0, 2, none⟩ u).heap[b0]? = some (.cells #[.int .i64 count, .int .i64 bytes', u] 30 (0, 0)) := by
    rw [heap_setCell_same _ _ _ _ _ _ h0]; simp
  refine ⟨_, rfl, by rw [cell_of_row _ _ _ _ _ _ h0]; rfl, frozen_of_row _ _ _ _ _ h0, ⟨hX⟩, ⟨?_⟩, ⟨hB.grown hk hB.size (fun k e => by injection e with e; omega)⟩, ⟨OwnE.kept ho hk (fun k e e2 => ?_)⟩⟩
  · rw [heap_setCell_other _ _ _ _ (by show b2 ≠ b0; omega)]; exact h2
  · injection e with e
    have := (ho.heap e2).1
    omega
/-- Blocks of a list. -/
def From (W : World) (L : Value) (W' : World) (L' : Value) : Prop := ∀ g, L'.ownBlock = some g → (L.ownBlock = some g ∨ W.heap.size ≤ g) ∧ g < W'.heap.size
set_option maxHeartbeats 16000000 in
theorem refput_any (l l' : List Ev) (L : Value) (count bytes' : Int) (o c : Int) (s : ByteArray) (r : Bool) (W : World) (hL : EvsAt W L l) (hB : ∀ g, L.ownBlock = some g → g < W.heap.size) (hl : l.length ≤ 900000) (hz : size l ≤ 1000000000) (hb : bytes' ≤ 1000000000) (hp : put count bytes' l ⟨o, c, bytes s⟩ = (l', r)) :
    Calls Try.prog 10 #[.agg #[.int .i64 count, .int .i64 bytes', L], .agg #[.int .i64 o, .int .i64 c, .string s]] W fun e w' => ∃ L', e = .returned (.tuple #[.agg #[.int .i64 count, .int .i64 bytes', L'], .bool r]) ∧ Sl (EvsAt w' L' l') ∧ Sl (From W L w' L') ∧ Sl (Below W.heap.size W w') := by
  obtain ⟨hr, hf, ht⟩ := put_fst hp
  rw [show ((⟨o, c, bytes s⟩ : Ev).data.length : Int) = (s.size : Int) from congrArg Nat.cast (bytes_length s)] at hr
  obtain ⟨a, n, cp, rfl⟩ : ∃ a n c, L = .slice a n c := by obtain ⟨a, c, h⟩ := hL.slice; exact ⟨a, _, c, h⟩
  obtain ⟨wa, hwa, HBa, ha⟩ := box_q W count bytes' (.slice a n cp)
  obtain ⟨wb, hwb⟩ : ∃ V, wa.alloc (.cells #[.int .i64 o, .int .i64 c, .string s] 32) = V := ⟨_, rfl⟩
  have kb : Below wa.heap.size wa wb := by rw [← hwb]; exact (Below.refl _ _).alloc (Nat.le_refl _) _
  have hb1 : wb.heap[wa.heap.size]? = some (.cells #[.int .i64 o, .int .i64 c, .string s] 32 (0, 0)) := by rw [← hwb]; exact alloc_new _ _ _ rfl
  obtain ⟨wc, hwc, HBc, hc2⟩ := box_q wb 0 0 (.slice none 0 0)
  have k1 : Below W.heap.size W wc := HBa.out.trans ((kb.trans (HBc.out.mono kb.size)).mono HBa.out.size)
  have s1 : wa.heap.size = W.heap.size + 1 := by rw [← hwa]; exact alloc_size _ _
  have s2 : wb.heap.size = wa.heap.size + 1 := by rw [← hwb]; exact alloc_size _ _
  have H0 : Sl (wc.heap[W.heap.size]? = some (.cells #[.int .i64 count, .int .i64 bytes', .slice a n cp] 30 (0, 0))) := ⟨below_key (below_key ha kb) HBc.out⟩
  have H1 : Sl (wc.heap[wa.heap.size]? = some (.cells #[.int .i64 o, .int .i64 c, .string s] 32 (0, 0))) := ⟨below_key hb1 HBc.out⟩
  have H2 := Sl.mk hc2
  obtain ⟨b1, e1⟩ : ∃ b, wa.heap.size = b := ⟨_, rfl⟩
  obtain ⟨b2, e2⟩ : ∃ b, wb.heap.size = b := ⟨_, rfl⟩
  have HSZ : Sl (W.heap.size < b1 ∧ b1 < b2 ∧ b2 < wc.heap.size) := ⟨by omega, by omega, by have := (Array.getElem?_eq_some_iff.1 hc2).1; omega⟩
  rw [e1] at H1
  rw [e2] at H2
  have HLc := Sl.mk (hL.below k1)
  have HK := Sl.mk k1
  have HBL := Sl.mk hB
  have HF := Sl.mk hf
  have HT := Sl.mk ht
  have HL9 := Sl.mk hl
  have RR := refroom_any l (.slice a n cp) count bytes' (s.size : Int) r wc HLc.out (by omega) hz hb hr
  obtain ⟨d0, d1, d2⟩ := q_cells H0.out
  obtain ⟨-, -, f2⟩ := ev_cells H1.out
  clear hL hB ha kb hb1 hc2 k1 s1 s2 hf ht hr hp hl
  go_enter Try.func10, Try.ntmps10
  go_upto_region 1 with fail
  (try rw [e1])
  (try rw [e2])
  go_wp2_with fail
  refine RR.mono ?_
  rintro e w2 ⟨rfl, HB2⟩
  clear RR
  clear d0 d1 d2 f2
  have H20 := Sl.mk (below_key H0.out HB2.out)
  have H21 := Sl.mk (below_key H1.out HB2.out)
  have H22 := Sl.mk (below_key H2.out HB2.out)
  have HL2 := Sl.mk (HLc.out.below HB2.out)
  have HK2 : Sl (Below W.heap.size W w2) := ⟨HK.out.trans (HB2.out.mono HK.out.size)⟩
  have HSZ2 : Sl (W.heap.size < b1 ∧ b1 < b2 ∧ b2 < w2.heap.size) := ⟨HSZ.out.1, HSZ.out.2.1, Nat.lt_of_lt_of_le HSZ.out.2.2 HB2.out.size⟩
  clear H0 H1 H2 HLc HK HSZ HB2
  cases r with
  | false =>
    have hll : l' = l := by simpa using HF.out
    obtain ⟨d0, d1, d2⟩ := q_cells H20.out
    have h22 := H22.out
    obtain ⟨we, hwe, HBe, HCe⟩ := set_q h22 HK2.out (by have := HSZ2.out; omega) #[.int .i64 count, .int .i64 bytes', .slice a n cp]
    have HI := q_info count bytes' (.slice a n cp)
    have HL3 : Sl (EvsAt we (.slice a n cp) l') := ⟨by
      rw [hll, ← hwe]
      exact HL2.out.grown (grown_setRow w2 b2 _) (fun g hg e => by injection e with e; have := HBL.out g hg; have := HSZ2.out; omega)⟩
    have HFR : Sl (From W (.slice a n cp) we (.slice a n cp)) := ⟨fun g hg => ⟨.inl hg, Nat.lt_of_lt_of_le (HBL.out g hg) HBe.out.size⟩⟩
    clear hll
    go_wp2_with (refine wpList_store_row rfl 30 (.tmp 4) (.tmp 12) rfl b2 #[.int .i64 count, .int .i64 bytes', .slice a n cp] rfl rfl 30 #[.int .i64 0, .int .i64 0, .slice none 0 0] h22 HI rfl (q_all _ _ _ _ _) ?_)
    (try simp only [Exit.inBlock, Exit.then])
    refine bodyPost_ret (ret_q rfl _ _ b2 _ rfl HCe.out rfl) rfl ?_
    exact ⟨_, rfl, HL3, HFR, HBe⟩
  | true =>
    have hll : l' = l ++ [⟨o, c, bytes s⟩] := by simpa using HT.out
    have HLL := Sl.mk hll
    clear hll
    go_upto_region 3 with fail
    obtain ⟨Rw, hRw⟩ : ∃ R, w2.drew = R := ⟨_, rfl⟩
    have HBR : Below w2.heap.size w2 Rw := by rw [← hRw]; exact (Below.refl _ _).drew
    refine wp_region_noPanic ?_
    refine last_begin (S := fun V => V.heap[W.heap.size]? = some (.cells #[.int .i64 count, .int .i64 bytes', .slice a n cp] 30 (0, 0)) ∧ V.heap[b1]? = some (.cells #[.int .i64 o, .int .i64 c, .string s] 32 (0, 0))) (D := fun k => k == 8) (by kernel_rfl) ?_
    change wpAnyL _ _ _ _ _ _ _ _ _ w2.drew
    rw [hRw]
    clear hRw
    have HS0 : Rw.heap[W.heap.size]? = some (.cells #[.int .i64 count, .int .i64 bytes', .slice a n cp] 30 (0, 0)) ∧ Rw.heap[b1]? = some (.cells #[.int .i64 o, .int .i64 c, .string s] 32 (0, 0)) := ⟨below_key H20.out HBR, below_key H21.out HBR⟩
    have h2R := below_key H22.out HBR
    have hLR := HL2.out.below HBR
    have hKR : Below W.heap.size W Rw := HK2.out.trans (HBR.mono HK2.out.size)
    have hbs : b2 < Rw.heap.size := Nat.lt_of_lt_of_le HSZ2.out.2.2 HBR.size
    have hl9 := HL9.out
    refine last_pure (d := some 14) (op := .fieldAddr 30 (Operand.tmp 2) 2) (g := none) 1 ?v1 rfl (by kernel_rfl) (by kernel_rfl) (by kernel_rfl) (by kernel_rfl) rfl ?y1 HS0 ?_
    case y1 => intro o' ho W; simp only [execOp, ho]; go_simp; try rfl
    simp only [Act.put, List.setIfInBounds_toArray, List.set_cons_zero, List.set_cons_succ]
    refine last_take (d := some 15) (op := .load 28 (Operand.tmp 14)) (g := none) 2 ?v2 rfl (by kernel_rfl) (by kernel_rfl) (by kernel_rfl) (by kernel_rfl) (by kernel_rfl) ?y2 HS0 ?_
    case y2 => intro o' ho W hS; obtain ⟨d0, d1, d2⟩ := q_cells hS.1; simp only [execOp, ho]; go_simp; try rfl
    simp only [Act.put, List.setIfInBounds_toArray, List.set_cons_zero, List.set_cons_succ]
    refine last_take (d := some 17) (op := .load 32 (Operand.tmp 3)) (g := none) 4 ?v4 rfl (by kernel_rfl) (by kernel_rfl) (by kernel_rfl) (by kernel_rfl) (by kernel_rfl) ?y4 HS0 ?_
    case y4 => intro o' ho W hS; obtain ⟨f0, f1, f2⟩ := ev_cells hS.2; simp only [execOp, ho]; go_simp; try rfl
    simp only [Act.put, List.setIfInBounds_toArray, List.set_cons_zero, List.set_cons_succ]
    obtain ⟨X0, hX0⟩ : ∃ V, Rw.alloc (.cells #[] 32) = V := ⟨_, rfl⟩
    have kX0 : Below Rw.heap.size Rw X0 := by rw [← hX0]; exact (Below.refl _ _).alloc (Nat.le_refl _) _
    have sX0 : X0.heap.size = Rw.heap.size + 1 := by rw [← hX0]; exact alloc_size _ _
    have oX0 : OwnE X0 Rw.heap.size (.slice (some ⟨Rw.heap.size, 0, none⟩) 0 0) [] := by rw [← hX0]; exact ownE_made Rw _ (Nat.le_refl _)
    have SX0 : X0.heap[W.heap.size]? = some (.cells #[.int .i64 count, .int .i64 bytes', .slice a n cp] 30 (0, 0)) ∧ X0.heap[b1]? = some (.cells #[.int .i64 o, .int .i64 c, .string s] 32 (0, 0)) := ⟨below_key HS0.1 kX0, below_key HS0.2 kX0⟩
    obtain ⟨Y0, hY0⟩ : ∃ V, Rw.alloc (.cells #[.int .i64 o, .int .i64 c, .string s] 32) = V := ⟨_, rfl⟩
    have kY0 : Below Rw.heap.size Rw Y0 := by rw [← hY0]; exact (Below.refl _ _).alloc (Nat.le_refl _) _
    have sY0 : Y0.heap.size = Rw.heap.size + 1 := by rw [← hY0]; exact alloc_size _ _
    have xY0 : Y0.heap[Rw.heap.size]? = some (.cells #[.int .i64 o, .int .i64 c, .string s] 32 (0, 0)) := by rw [← hY0]; exact alloc_new _ _ _ rfl
    have SY0 : Y0.heap[W.heap.size]? = some (.cells #[.int .i64 count, .int .i64 bytes', .slice a n cp] 30 (0, 0)) ∧ Y0.heap[b1]? = some (.cells #[.int .i64 o, .int .i64 c, .string s] 32 (0, 0)) := ⟨below_key HS0.1 kY0, below_key HS0.2 kY0⟩
    refine last_two (di := some 13) (dj := some 18) (opi := .buildSlice 28 0 #[]) (opj := .buildSlice 28 1 #[(0, Operand.tmp 17)]) (gi := none) (gj := none) (ti := 28) (tj := 28) 0 5 (.slice (some ⟨Rw.heap.size, 0, none⟩) 0 0) X0 (.slice (some ⟨Rw.heap.size, 0, none⟩) 1 1) Y0 rfl rfl (by kernel_rfl) (by kernel_rfl) (by kernel_rfl) ?y0 ?y5 SX0 SY0 ?t1 ?t2
    case y0 => intro o' ho ht; simp only [execOp, ho]; go_simp; first | done | (rw [hX0]; done) | rfl
    case y5 => intro o' ho ht; simp only [execOp, ho]; go_simp; first | done | (rw [hY0]; done) | rfl
    case t1 =>
      simp only [Act.put, List.setIfInBounds_toArray, List.set_cons_zero, List.set_cons_succ]
      obtain ⟨v16p, X1p, hpp, hwp, hxp, _⟩ := add_evs oX0 (hLR.below kX0) (by simp; omega) kX0.size
      rw [List.nil_append] at hwp
      have kqp : Below Rw.heap.size Rw X1p := OwnE.keeps oX0 kX0 hxp (Nat.le_refl _) kX0.size
      have SWp : X1p.heap[W.heap.size]? = some (.cells #[.int .i64 count, .int .i64 bytes', .slice a n cp] 30 (0, 0)) ∧ X1p.heap[b1]? = some (.cells #[.int .i64 o, .int .i64 c, .string s] 32 (0, 0)) := ⟨below_key HS0.1 kqp, below_key HS0.2 kqp⟩
      obtain ⟨a6, n6, c6, rfl⟩ : ∃ a n c, v16p = .slice a n c := by
        obtain ⟨a, c, h⟩ := OwnE.slice hwp
        exact ⟨a, _, c, h⟩
      obtain ⟨Y1, hY1⟩ : ∃ V, X0.alloc (.cells #[.int .i64 o, .int .i64 c, .string s] 32) = V := ⟨_, rfl⟩
      have kY1 : Below X0.heap.size X0 Y1 := by rw [← hY1]; exact (Below.refl _ _).alloc (Nat.le_refl _) _
      have xY1 : Y1.heap[X0.heap.size]? = some (.cells #[.int .i64 o, .int .i64 c, .string s] 32 (0, 0)) := by rw [← hY1]; exact alloc_new _ _ _ rfl
      have kY1R : Below Rw.heap.size Rw Y1 := kX0.trans (kY1.mono kX0.size)
      have SY1 : Y1.heap[W.heap.size]? = some (.cells #[.int .i64 count, .int .i64 bytes', .slice a n cp] 30 (0, 0)) ∧ Y1.heap[b1]? = some (.cells #[.int .i64 o, .int .i64 c, .string s] 32 (0, 0)) := ⟨below_key HS0.1 kY1R, below_key HS0.2 kY1R⟩
      refine last_two (di := some 16) (dj := some 18) (opi := .call { callee := Callee.builtin Builtin.append, args := #[Operand.tmp 13, Operand.tmp 15], argTypes := #[28, 28] }) (opj := .buildSlice 28 1 #[(0, Operand.tmp 17)]) (gi := none) (gj := none) (ti := 28) (tj := 28) 3 5 (.slice a6 n6 c6) X1p (.slice (some ⟨X0.heap.size, 0, none⟩) 1 1) Y1 rfl rfl (by kernel_rfl) (by kernel_rfl) (by kernel_rfl) ?y3p ?y5p SWp SY1 ?t1p ?t2p
      case y3p => intro o' ho ht; exact run_appB ho ht (by rfl) (by rfl) hpp
      case y5p => intro o' ho ht; simp only [execOp, ho]; go_simp; first | done | (rw [hY1]; done) | rfl
      case t1p =>
        simp only [Act.put, List.setIfInBounds_toArray, List.set_cons_zero, List.set_cons_succ]
        obtain ⟨Y2, hY2⟩ : ∃ V, X1p.alloc (.cells #[.int .i64 o, .int .i64 c, .string s] 32) = V := ⟨_, rfl⟩
        have kY2 : Below X1p.heap.size X1p Y2 := by rw [← hY2]; exact (Below.refl _ _).alloc (Nat.le_refl _) _
        have xY2 : Y2.heap[X1p.heap.size]? = some (.cells #[.int .i64 o, .int .i64 c, .string s] 32 (0, 0)) := by rw [← hY2]; exact alloc_new _ _ _ rfl
        have kY2R : Below Rw.heap.size Rw Y2 := kqp.trans (kY2.mono kqp.size)
        have SY2 : Y2.heap[W.heap.size]? = some (.cells #[.int .i64 count, .int .i64 bytes', .slice a n cp] 30 (0, 0)) ∧ Y2.heap[b1]? = some (.cells #[.int .i64 o, .int .i64 c, .string s] 32 (0, 0)) := ⟨below_key HS0.1 kY2R, below_key HS0.2 kY2R⟩
        refine last_run (d := some 18) (op := .buildSlice 28 1 #[(0, Operand.tmp 17)]) (g := none) (t := 28) 5 (.slice (some ⟨X1p.heap.size, 0, none⟩) 1 1) Y2 rfl (by kernel_rfl) (by kernel_rfl) ?y5pa SY2 ?_
        case y5pa => intro o' ho ht; simp only [execOp, ho]; go_simp; first | done | (rw [hY2]; done) | rfl
        simp only [Act.put, List.setIfInBounds_toArray, List.set_cons_zero, List.set_cons_succ]
        obtain ⟨v19pa, Z1pa, happa, hopa, hgpa, _⟩ := add_evs (hwp.below kY2) (evs_one (e := ⟨o, c, bytes s⟩) xY2 (by simp [ec, strOf_bytes])) (by rw [List.length_singleton]; omega) kY2R.size
        have kgpa : Below Rw.heap.size Rw Z1pa := OwnE.keeps (hwp.below kY2) kY2R hgpa (Nat.le_refl _) kY2R.size
        have SZpa : Z1pa.heap[W.heap.size]? = some (.cells #[.int .i64 count, .int .i64 bytes', .slice a n cp] 30 (0, 0)) ∧ Z1pa.heap[b1]? = some (.cells #[.int .i64 o, .int .i64 c, .string s] 32 (0, 0)) := ⟨below_key HS0.1 kgpa, below_key HS0.2 kgpa⟩
        obtain ⟨a9, n9, c9, rfl⟩ : ∃ a n c, v19pa = .slice a n c := by
          obtain ⟨a, c, h⟩ := OwnE.slice hopa
          exact ⟨a, _, c, h⟩
        refine last_run (d := some 19) (op := .call { callee := Callee.builtin Builtin.append, args := #[Operand.tmp 16, Operand.tmp 18], argTypes := #[28, 28] }) (g := none) (t := 28) 6 (.slice a9 n9 c9) Z1pa rfl (by kernel_rfl) (by kernel_rfl) ?y6pa SZpa ?_
        case y6pa => intro o' ho ht; exact run_appB ho ht (by rfl) (by rfl) happa
        simp only [Act.put, List.setIfInBounds_toArray, List.set_cons_zero, List.set_cons_succ]
        refine last_pure (d := some 20) (op := .fieldAddr 30 (Operand.tmp 2) 2) (g := none) 7 ?v7pa rfl (by kernel_rfl) (by kernel_rfl) (by kernel_rfl) (by kernel_rfl) rfl ?y7pa SZpa ?_
        case y7pa => intro o' ho W; simp only [execOp, ho]; go_simp; try rfl
        simp only [Act.put, List.setIfInBounds_toArray, List.set_cons_zero, List.set_cons_succ]
        obtain ⟨Z2, hZ2, hcc, hff, HE0, HE2, HEB, HEO⟩ := put_end hopa SZpa.1 (below_key h2R kgpa) (hKR.trans (kgpa.mono hKR.size)) (Nat.le_refl _) (Nat.lt_trans HSZ2.out.1 HSZ2.out.2.1) hbs
        refine last_store (d := none) (op := .store 28 (Operand.tmp 20) (Operand.tmp 19)) (g := none) (t := 0) 8 Z2 rfl (by kernel_rfl) (by kernel_rfl) ?y8pa (by kernel_rfl) ?_
        case y8pa => intro o' ho ht; simp only [execOp, ho]; go_simp; first | done | (rw [hZ2]; done) | rfl
        simp only [Act.put]
        refine last_done (by kernel_rfl) ?_ _
        refine NoPanic.normal ?_
        clear hcc hff
        obtain ⟨d0, d1, d2⟩ := q_cells HE0.out
        have h22 := HE2.out
        obtain ⟨we, hwe, HBe, HCe⟩ := set_q h22 HEB.out (by have := HSZ2.out; omega) #[.int .i64 count, .int .i64 bytes', .slice a9 n9 c9]
        have HI := q_info count bytes' (.slice a9 n9 c9)
        have HO9 : Sl (OwnE we Rw.heap.size (.slice a9 n9 c9) (l ++ [⟨o, c, bytes s⟩])) := ⟨by
          rw [← hwe]
          refine OwnE.kept HEO.out (grown_setRow Z2 b2 _) (fun k e e2 => ?_)
          injection e with e
          have := (HEO.out.heap e2).1
          omega⟩
        have HL3 : Sl (EvsAt we (.slice a9 n9 c9) l') := ⟨by rw [HLL.out]; exact HO9.out.evs⟩
        have HFR : Sl (From W (.slice a n cp) we (.slice a9 n9 c9)) := ⟨fun g hg => ⟨.inr (Nat.le_trans hKR.size (HO9.out.heap hg).1), OwnE.lt HO9.out hg⟩⟩
        go_wp2_with (refine wpList_store_row rfl 30 (.tmp 4) (.tmp 21) rfl b2 #[.int .i64 count, .int .i64 bytes', .slice a9 n9 c9] rfl rfl 30 #[.int .i64 0, .int .i64 0, .slice none 0 0] h22 HI rfl (q_all _ _ _ _ _) ?_)
        (try simp only [Exit.inBlock, Exit.then])
        refine bodyPost_ret (ret_q rfl _ _ b2 _ rfl HCe.out rfl) rfl ?_
        exact ⟨_, rfl, HL3, HFR, HBe⟩
      case t2p =>
        simp only [Act.put, List.setIfInBounds_toArray, List.set_cons_zero, List.set_cons_succ]
        obtain ⟨v16r, X1r, hpr, hwr, hxr, _⟩ := add_evs (oX0.below kY1) (hLR.below kY1R) (by simp; omega) kY1R.size
        rw [List.nil_append] at hwr
        have kqr : Below Rw.heap.size Rw X1r := OwnE.keeps (oX0.below kY1) kY1R hxr (Nat.le_refl _) kY1R.size
        have SWr : X1r.heap[W.heap.size]? = some (.cells #[.int .i64 count, .int .i64 bytes', .slice a n cp] 30 (0, 0)) ∧ X1r.heap[b1]? = some (.cells #[.int .i64 o, .int .i64 c, .string s] 32 (0, 0)) := ⟨below_key HS0.1 kqr, below_key HS0.2 kqr⟩
        obtain ⟨a7, n7, c7, rfl⟩ : ∃ a n c, v16r = .slice a n c := by
          obtain ⟨a, c, h⟩ := OwnE.slice hwr
          exact ⟨a, _, c, h⟩
        refine last_run (d := some 16) (op := .call { callee := Callee.builtin Builtin.append, args := #[Operand.tmp 13, Operand.tmp 15], argTypes := #[28, 28] }) (g := none) (t := 28) 3 (.slice a7 n7 c7) X1r rfl (by kernel_rfl) (by kernel_rfl) ?y3pb SWr ?_
        case y3pb => intro o' ho ht; exact run_appB ho ht (by rfl) (by rfl) hpr
        simp only [Act.put, List.setIfInBounds_toArray, List.set_cons_zero, List.set_cons_succ]
        have xr : X1r.heap[X0.heap.size]? = some (.cells #[.int .i64 o, .int .i64 c, .string s] 32 (0, 0)) := by
          rw [hxr.block _ (Array.getElem?_eq_some_iff.1 xY1).1 (fun e => by simp [Value.ownBlock] at e; omega)]; exact xY1
        obtain ⟨v19pb, Z1pb, happb, hopb, hgpb, _⟩ := add_evs hwr (evs_one (e := ⟨o, c, bytes s⟩) xr (by simp [ec, strOf_bytes])) (by rw [List.length_singleton]; omega) kqr.size
        have kgpb : Below Rw.heap.size Rw Z1pb := OwnE.keeps hwr kqr hgpb (Nat.le_refl _) kqr.size
        have SZpb : Z1pb.heap[W.heap.size]? = some (.cells #[.int .i64 count, .int .i64 bytes', .slice a n cp] 30 (0, 0)) ∧ Z1pb.heap[b1]? = some (.cells #[.int .i64 o, .int .i64 c, .string s] 32 (0, 0)) := ⟨below_key HS0.1 kgpb, below_key HS0.2 kgpb⟩
        obtain ⟨a9, n9, c9, rfl⟩ : ∃ a n c, v19pb = .slice a n c := by
          obtain ⟨a, c, h⟩ := OwnE.slice hopb
          exact ⟨a, _, c, h⟩
        refine last_run (d := some 19) (op := .call { callee := Callee.builtin Builtin.append, args := #[Operand.tmp 16, Operand.tmp 18], argTypes := #[28, 28] }) (g := none) (t := 28) 6 (.slice a9 n9 c9) Z1pb rfl (by kernel_rfl) (by kernel_rfl) ?y6pb SZpb ?_
        case y6pb => intro o' ho ht; exact run_appB ho ht (by rfl) (by rfl) happb
        simp only [Act.put, List.setIfInBounds_toArray, List.set_cons_zero, List.set_cons_succ]
        refine last_pure (d := some 20) (op := .fieldAddr 30 (Operand.tmp 2) 2) (g := none) 7 ?v7pb rfl (by kernel_rfl) (by kernel_rfl) (by kernel_rfl) (by kernel_rfl) rfl ?y7pb SZpb ?_
        case y7pb => intro o' ho W; simp only [execOp, ho]; go_simp; try rfl
        simp only [Act.put, List.setIfInBounds_toArray, List.set_cons_zero, List.set_cons_succ]
        obtain ⟨Z2, hZ2, hcc, hff, HE0, HE2, HEB, HEO⟩ := put_end hopb SZpb.1 (below_key h2R kgpb) (hKR.trans (kgpb.mono hKR.size)) (Nat.le_refl _) (Nat.lt_trans HSZ2.out.1 HSZ2.out.2.1) hbs
        refine last_store (d := none) (op := .store 28 (Operand.tmp 20) (Operand.tmp 19)) (g := none) (t := 0) 8 Z2 rfl (by kernel_rfl) (by kernel_rfl) ?y8pb (by kernel_rfl) ?_
        case y8pb => intro o' ho ht; simp only [execOp, ho]; go_simp; first | done | (rw [hZ2]; done) | rfl
        simp only [Act.put]
        refine last_done (by kernel_rfl) ?_ _
        refine NoPanic.normal ?_
        clear hcc hff
        obtain ⟨d0, d1, d2⟩ := q_cells HE0.out
        have h22 := HE2.out
        obtain ⟨we, hwe, HBe, HCe⟩ := set_q h22 HEB.out (by have := HSZ2.out; omega) #[.int .i64 count, .int .i64 bytes', .slice a9 n9 c9]
        have HI := q_info count bytes' (.slice a9 n9 c9)
        have HO9 : Sl (OwnE we Rw.heap.size (.slice a9 n9 c9) (l ++ [⟨o, c, bytes s⟩])) := ⟨by
          rw [← hwe]
          refine OwnE.kept HEO.out (grown_setRow Z2 b2 _) (fun k e e2 => ?_)
          injection e with e
          have := (HEO.out.heap e2).1
          omega⟩
        have HL3 : Sl (EvsAt we (.slice a9 n9 c9) l') := ⟨by rw [HLL.out]; exact HO9.out.evs⟩
        have HFR : Sl (From W (.slice a n cp) we (.slice a9 n9 c9)) := ⟨fun g hg => ⟨.inr (Nat.le_trans hKR.size (HO9.out.heap hg).1), OwnE.lt HO9.out hg⟩⟩
        go_wp2_with (refine wpList_store_row rfl 30 (.tmp 4) (.tmp 21) rfl b2 #[.int .i64 count, .int .i64 bytes', .slice a9 n9 c9] rfl rfl 30 #[.int .i64 0, .int .i64 0, .slice none 0 0] h22 HI rfl (q_all _ _ _ _ _) ?_)
        (try simp only [Exit.inBlock, Exit.then])
        refine bodyPost_ret (ret_q rfl _ _ b2 _ rfl HCe.out rfl) rfl ?_
        exact ⟨_, rfl, HL3, HFR, HBe⟩
    case t2 =>
      simp only [Act.put, List.setIfInBounds_toArray, List.set_cons_zero, List.set_cons_succ]
      obtain ⟨X2, hX2⟩ : ∃ V, Y0.alloc (.cells #[] 32) = V := ⟨_, rfl⟩
      have kX2 : Below Y0.heap.size Y0 X2 := by rw [← hX2]; exact (Below.refl _ _).alloc (Nat.le_refl _) _
      have oX2 : OwnE X2 Rw.heap.size (.slice (some ⟨Y0.heap.size, 0, none⟩) 0 0) [] := by rw [← hX2]; exact ownE_made Y0 _ kY0.size
      have kX2R : Below Rw.heap.size Rw X2 := kY0.trans (kX2.mono kY0.size)
      have SX2 : X2.heap[W.heap.size]? = some (.cells #[.int .i64 count, .int .i64 bytes', .slice a n cp] 30 (0, 0)) ∧ X2.heap[b1]? = some (.cells #[.int .i64 o, .int .i64 c, .string s] 32 (0, 0)) := ⟨below_key HS0.1 kX2R, below_key HS0.2 kX2R⟩
      refine last_run (d := some 13) (op := .buildSlice 28 0 #[]) (g := none) (t := 28) 0 (.slice (some ⟨Y0.heap.size, 0, none⟩) 0 0) X2 rfl (by kernel_rfl) (by kernel_rfl) ?y0q SX2 ?_
      case y0q => intro o' ho ht; simp only [execOp, ho]; go_simp; first | done | (rw [hX2]; done) | rfl
      simp only [Act.put, List.setIfInBounds_toArray, List.set_cons_zero, List.set_cons_succ]
      obtain ⟨v16q, X1q, hpq, hwq, hxq, _⟩ := add_evs oX2 (hLR.below kX2R) (by simp; omega) kX2R.size
      rw [List.nil_append] at hwq
      have kqq : Below Rw.heap.size Rw X1q := OwnE.keeps oX2 kX2R hxq (Nat.le_refl _) kX2R.size
      have SWq : X1q.heap[W.heap.size]? = some (.cells #[.int .i64 count, .int .i64 bytes', .slice a n cp] 30 (0, 0)) ∧ X1q.heap[b1]? = some (.cells #[.int .i64 o, .int .i64 c, .string s] 32 (0, 0)) := ⟨below_key HS0.1 kqq, below_key HS0.2 kqq⟩
      obtain ⟨a6, n6, c6, rfl⟩ : ∃ a n c, v16q = .slice a n c := by
        obtain ⟨a, c, h⟩ := OwnE.slice hwq
        exact ⟨a, _, c, h⟩
      refine last_run (d := some 16) (op := .call { callee := Callee.builtin Builtin.append, args := #[Operand.tmp 13, Operand.tmp 15], argTypes := #[28, 28] }) (g := none) (t := 28) 3 (.slice a6 n6 c6) X1q rfl (by kernel_rfl) (by kernel_rfl) ?y3q SWq ?_
      case y3q => intro o' ho ht; exact run_appB ho ht (by rfl) (by rfl) hpq
      simp only [Act.put, List.setIfInBounds_toArray, List.set_cons_zero, List.set_cons_succ]
      have xq : X1q.heap[Rw.heap.size]? = some (.cells #[.int .i64 o, .int .i64 c, .string s] 32 (0, 0)) := by
        rw [hxq.block _ (Array.getElem?_eq_some_iff.1 (below_key xY0 kX2)).1 (fun e => by simp [Value.ownBlock] at e; omega)]; exact below_key xY0 kX2
      obtain ⟨v19q, Z1q, hapq, hoq, hgq, _⟩ := add_evs hwq (evs_one (e := ⟨o, c, bytes s⟩) xq (by simp [ec, strOf_bytes])) (by rw [List.length_singleton]; omega) kqq.size
      have kgq : Below Rw.heap.size Rw Z1q := OwnE.keeps hwq kqq hgq (Nat.le_refl _) kqq.size
      have SZq : Z1q.heap[W.heap.size]? = some (.cells #[.int .i64 count, .int .i64 bytes', .slice a n cp] 30 (0, 0)) ∧ Z1q.heap[b1]? = some (.cells #[.int .i64 o, .int .i64 c, .string s] 32 (0, 0)) := ⟨below_key HS0.1 kgq, below_key HS0.2 kgq⟩
      obtain ⟨a9, n9, c9, rfl⟩ : ∃ a n c, v19q = .slice a n c := by
        obtain ⟨a, c, h⟩ := OwnE.slice hoq
        exact ⟨a, _, c, h⟩
      refine last_run (d := some 19) (op := .call { callee := Callee.builtin Builtin.append, args := #[Operand.tmp 16, Operand.tmp 18], argTypes := #[28, 28] }) (g := none) (t := 28) 6 (.slice a9 n9 c9) Z1q rfl (by kernel_rfl) (by kernel_rfl) ?y6q SZq ?_
      case y6q => intro o' ho ht; exact run_appB ho ht (by rfl) (by rfl) hapq
      simp only [Act.put, List.setIfInBounds_toArray, List.set_cons_zero, List.set_cons_succ]
      refine last_pure (d := some 20) (op := .fieldAddr 30 (Operand.tmp 2) 2) (g := none) 7 ?v7q rfl (by kernel_rfl) (by kernel_rfl) (by kernel_rfl) (by kernel_rfl) rfl ?y7q SZq ?_
      case y7q => intro o' ho W; simp only [execOp, ho]; go_simp; try rfl
      simp only [Act.put, List.setIfInBounds_toArray, List.set_cons_zero, List.set_cons_succ]
      obtain ⟨Z2, hZ2, hcc, hff, HE0, HE2, HEB, HEO⟩ := put_end hoq SZq.1 (below_key h2R kgq) (hKR.trans (kgq.mono hKR.size)) (Nat.le_refl _) (Nat.lt_trans HSZ2.out.1 HSZ2.out.2.1) hbs
      refine last_store (d := none) (op := .store 28 (Operand.tmp 20) (Operand.tmp 19)) (g := none) (t := 0) 8 Z2 rfl (by kernel_rfl) (by kernel_rfl) ?y8q (by kernel_rfl) ?_
      case y8q => intro o' ho ht; simp only [execOp, ho]; go_simp; first | done | (rw [hZ2]; done) | rfl
      simp only [Act.put]
      refine last_done (by kernel_rfl) ?_ _
      refine NoPanic.normal ?_
      clear hcc hff
      obtain ⟨d0, d1, d2⟩ := q_cells HE0.out
      have h22 := HE2.out
      obtain ⟨we, hwe, HBe, HCe⟩ := set_q h22 HEB.out (by have := HSZ2.out; omega) #[.int .i64 count, .int .i64 bytes', .slice a9 n9 c9]
      have HI := q_info count bytes' (.slice a9 n9 c9)
      have HO9 : Sl (OwnE we Rw.heap.size (.slice a9 n9 c9) (l ++ [⟨o, c, bytes s⟩])) := ⟨by
        rw [← hwe]
        refine OwnE.kept HEO.out (grown_setRow Z2 b2 _) (fun k e e2 => ?_)
        injection e with e
        have := (HEO.out.heap e2).1
        omega⟩
      have HL3 : Sl (EvsAt we (.slice a9 n9 c9) l') := ⟨by rw [HLL.out]; exact HO9.out.evs⟩
      have HFR : Sl (From W (.slice a n cp) we (.slice a9 n9 c9)) := ⟨fun g hg => ⟨.inr (Nat.le_trans hKR.size (HO9.out.heap hg).1), OwnE.lt HO9.out hg⟩⟩
      go_wp2_with (refine wpList_store_row rfl 30 (.tmp 4) (.tmp 21) rfl b2 #[.int .i64 count, .int .i64 bytes', .slice a9 n9 c9] rfl rfl 30 #[.int .i64 0, .int .i64 0, .slice none 0 0] h22 HI rfl (q_all _ _ _ _ _) ?_)
      (try simp only [Exit.inBlock, Exit.then])
      refine bodyPost_ret (ret_q rfl _ _ b2 _ rfl HCe.out rfl) rfl ?_
      exact ⟨_, rfl, HL3, HFR, HBe⟩
end Go.Proofs.Ytflnmjiopeoodaa.Que
