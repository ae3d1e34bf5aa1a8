/- queue: the document's Take. -/
import Derived.Test.YtflnmjiopeoodaaQL
set_option maxRecDepth 100000
namespace Go.Proofs.Ytflnmjiopeoodaa.Que
open Go.RowKit Evt QueuePlain
open MsgPlain (Ev)

theorem ret_qe {fn : Func} {p p2 u : Tmp} (h : fn.results = #[.cell p 30, .cell p2 32, .tmp u]) (tmps : Array Value) (w : World) (g g2 : Nat) (cs cs2 : Array Value)
    (hp : tmps.getD p undef = .pointer (some ⟨g, 0, none⟩)) (hg : w.heap[g]? = some (.cells cs 30 (0, 0))) (hs : cs.size = 3)
    (hp2 : tmps.getD p2 undef = .pointer (some ⟨g2, 0, none⟩)) (hg2 : w.heap[g2]? = some (.cells cs2 32 (0, 0))) (hs2 : cs2.size = 3) :
    (results fn tmps).run Try.prog w = .ok (.tuple #[.agg cs, .agg cs2, tmps.getD u undef]) w := by
  have hi : (Try.prog.info? 30).map (·.size) = some cs.size := by rw [hs]; kernel_rfl
  have hi2 : (Try.prog.info? 32).map (·.size) = some cs2.size := ev_info hs2
  have hp' : tmps[p]?.getD undef = .pointer (some ⟨g, 0, none⟩) := by simpa using hp
  have hp2' : tmps[p2]?.getD undef = .pointer (some ⟨g2, 0, none⟩) := by simpa using hp2
  simp only [results, h]
  simp [Result.andThen, hp', hp2', asAddr, run_loadVar_row (P := Try.prog) w g 30 30 cs (0, 0) _ hg Try.underlying30 rfl hi, run_loadVar_row (P := Try.prog) w g2 32 32 cs2 (0, 0) _ hg2 Try.underlying32 rfl hi2]
theorem from_own {a : Option Addr} {k cap x y n c g : Nat} (h : (Value.slice (fromE a k cap) x y).ownBlock = some g) : (Value.slice a n c).ownBlock = some g := by
  unfold fromE at h
  split at h
  · cases a with
    | none => cases h
    | some p => exact h
  · cases a with
    | none => cases h
    | some p =>
      rw [← h]
      simp only [Option.map_some, Value.ownBlock]
      congr 1
      unfold Addr.add
      split <;> rfl
theorem store_q {W : World} {ev : Operand → Value} {o : Oper} {x y : Operand} {g : Nat} {t : TypeId} {old cells : Array Value} (ho : o.op = .store t x y) (hx : ev x = .pointer (some ⟨g, 0, none⟩)) (hy : ev y = .agg cells) (hg : W.heap[g]? = some (.cells old t (0, 0))) (hs : old.size = cells.size) (hi : (Try.prog.info? t).map (·.size) = some cells.size) (h1 : cells.all (·.oneCell') = true) :
    (execOp ev o).run Try.prog W = .ok .skip (W.setRow g cells) := by
  unfold execOp
  simp only [ho, hx, hy, Instr.storeAt, Instr.sureAddr, Sem.run_bind, Sem.run_pure, Result.andThen_ok, run_storeVar_row W g t t old cells hg hi hs h1]
set_option maxHeartbeats 8000000 in
theorem reftake_any (l : List Ev) (L : Value) (count bytes' : Int) (o c : Int) (s : ByteArray) (b : Bool) (W : World) (hL : EvsAt W L l) (hB : ∀ g, L.ownBlock = some g → g < W.heap.size) (hl : l.length ≤ 1000000) (hh : evV (hd l) = .agg #[.int .i64 o, .int .i64 c, .string s]) (hb : (!l.isEmpty) = b) :
    Calls Try.prog 12 #[.agg #[.int .i64 count, .int .i64 bytes', L]] W fun e w' => ∃ L', e = .returned (.tuple #[.agg #[.int .i64 count, .int .i64 bytes', L'], .agg #[.int .i64 o, .int .i64 c, .string s], .bool b]) ∧ Sl (EvsAt w' L' l.tail) ∧ Sl (From W L w' L') ∧ Sl (Below W.heap.size W w') := by
  obtain ⟨a, cp, rfl⟩ := hL.slice
  obtain ⟨n, hn⟩ : ∃ n, l.length = n := ⟨_, rfl⟩
  rw [hn] at hL hB hl ⊢
  obtain ⟨wa, hwa, HBa, ha⟩ := box_q W count bytes' (.slice a n cp)
  obtain ⟨wb, hwb, HBb, hb1⟩ := box_q wa 0 0 (.slice none 0 0)
  obtain ⟨wc, hwc, HBc, hc1⟩ := box_ev wb
  have k1 : Below W.heap.size W wc := HBa.out.trans ((HBb.out.trans (HBc.out.mono HBb.out.size)).mono HBa.out.size)
  have s1 : wa.heap.size = W.heap.size + 1 := by rw [← hwa]; exact alloc_size _ _
  have s2 : wb.heap.size = wa.heap.size + 1 := by rw [← hwb]; exact alloc_size _ _
  have s3 : wc.heap.size = wb.heap.size + 1 := by rw [← hwc]; exact alloc_size _ _
  have H0 : Sl (wc.heap[W.heap.size]? = some (.cells #[.int .i64 count, .int .i64 bytes', .slice a n cp] 30 (0, 0))) := ⟨below_key (below_key ha HBb.out) HBc.out⟩
  have H1 : Sl (wc.heap[wa.heap.size]? = some (.cells #[.int .i64 0, .int .i64 0, .slice none 0 0] 30 (0, 0))) := ⟨below_key hb1 HBc.out⟩
  have H2 := Sl.mk hc1
  obtain ⟨b1, e1⟩ : ∃ b, wa.heap.size = b := ⟨_, rfl⟩
  obtain ⟨b2, e2⟩ : ∃ b, wb.heap.size = b := ⟨_, rfl⟩
  have HSZ : Sl (b1 = W.heap.size + 1 ∧ b2 = b1 + 1 ∧ wc.heap.size = b2 + 1) := ⟨by omega, by omega, by omega⟩
  rw [e1] at H1
  rw [e2] at H2
  have HLc := Sl.mk (hL.below k1)
  have HK := Sl.mk k1
  have HBL := Sl.mk hB
  have HN := Sl.mk hn
  have HHH := Sl.mk hh
  clear hL hB ha hb1 hc1 k1 s1 s2 s3 hh HBb HBc
  cases l with
  | nil =>
    obtain rfl : n = 0 := hn.symm
    have hbf : b = false := hb.symm
    have hev : (#[.int .i64 o, .int .i64 c, .string s] : Array Value) = #[.int .i64 0, .int .i64 0, .string { data := #[] }] := by
      have := HHH.out.symm.trans evV_nil
      injection this
    obtain ⟨d0, d1, d2⟩ := q_cells H0.out
    have h1 := H1.out
    obtain ⟨we, hwe, HBe, HCe⟩ := set_q h1 HK.out (by have := HSZ.out; omega) #[.int .i64 count, .int .i64 bytes', .slice a 0 cp]
    have h2 : we.heap[b2]? = some (.cells #[.int .i64 0, .int .i64 0, .string { data := #[] }] 32 (0, 0)) := by rw [← hwe, setRow_other _ _ _ _ (by have := HSZ.out; omega)]; exact H2.out
    obtain ⟨wf, hwf, HBf, HCf⟩ := set_ev h2 HBe.out (by have := HSZ.out; omega) #[.int .i64 0, .int .i64 0, .string { data := #[] }]
    have HCq : Sl (wf.heap[b1]? = some (.cells #[.int .i64 count, .int .i64 bytes', .slice a 0 cp] 30 (0, 0))) := ⟨by rw [← hwf, setRow_other _ _ _ _ (by have := HSZ.out; omega)]; exact HCe.out⟩
    have HI := q_info count bytes' (.slice a 0 cp)
    have HI2 : (Try.prog.info? 32).map (·.size) = some (#[Value.int .i64 0, .int .i64 0, .string { data := #[] }]).size := ev_info rfl
    have HL3 : Sl (EvsAt wf (.slice a 0 cp) []) := ⟨by
      obtain ⟨a', c', sb, so, x1, x2, x3, _⟩ := HLc.out
      exact ⟨a', c', sb, so, x1, x2, x3, fun i hi => absurd hi (Nat.not_lt_zero _)⟩⟩
    have HFR : Sl (From W (.slice a 0 cp) wf (.slice a 0 cp)) := ⟨fun g hg => ⟨.inl hg, Nat.lt_of_lt_of_le (HBL.out g hg) HBf.out.size⟩⟩
    rw [hev, hbf]
    clear hev hbf hb hn
    go_enter Try.func12, Try.ntmps12
    go_upto_region 1 with fail
    (try rw [e1])
    (try rw [e2])
    go_upto_region 2 with fail
    have h2' : (wc.setRow b1 #[.int .i64 count, .int .i64 bytes', .slice a 0 cp]).heap[b2]? = some (.cells #[.int .i64 0, .int .i64 0, .string { data := #[] }] 32 (0, 0)) := by rw [hwe]; exact h2
    go_wp2_with (first | (refine wpList_store_row rfl 30 (.tmp 2) (.tmp 10) rfl b1 #[.int .i64 count, .int .i64 bytes', .slice a 0 cp] rfl rfl 30 #[.int .i64 0, .int .i64 0, .slice none 0 0] h1 HI rfl (q_all _ _ _ _ _) ?_) | (refine wpList_store_row rfl 32 (.tmp 3) (.tmp 11) rfl b2 #[.int .i64 0, .int .i64 0, .string { data := #[] }] rfl rfl 32 #[.int .i64 0, .int .i64 0, .string { data := #[] }] h2' HI2 rfl (ev_all _ _ _) ?_))
    (try rw [hwe])
    (try rw [hwf])
    (try simp only [Exit.inBlock, Exit.then])
    refine bodyPost_ret (ret_qe rfl _ _ b1 b2 _ _ rfl HCq.out rfl rfl HCf.out rfl) rfl ?_
    exact ⟨_, rfl, HL3, HFR, HBf⟩
  | cons e r =>
    have hbt : b = true := hb.symm
    obtain ⟨m, hm⟩ : ∃ m, r.length = m := ⟨_, rfl⟩
    obtain rfl : n = m + 1 := by rw [← hn, List.length_cons, hm]
    obtain ⟨sb, so, rfl⟩ := HLc.out.cap.2.2 (by omega)
    have hcap : m + 1 ≤ cp := HLc.out.cap.2.1
    have hq : (((m : Int) + 1) == 0) = false := beq_eq_false_iff_ne.2 (by omega)
    have hcs := ev_cs (e := e) HHH.out
    have hce : W.heap.size ≤ W.heap.size := Nat.le_refl _
    have f3 := HLc.out.range 0 (by rw [List.length_cons]; omega)
    have f30 := f3 0 _ rfl
    have f31 := f3 1 _ rfl
    have f32 := f3 2 _ rfl
    have g0 := congrArg (fun x : Array Value => x[0]?) hcs
    have g1 := congrArg (fun x : Array Value => x[1]?) hcs
    have g2 := congrArg (fun x : Array Value => x[2]?) hcs
    have x0 : Value.int .i64 o = .int .i64 e.op := by simpa [ec] using g0
    have x1 : Value.int .i64 c = .int .i64 e.code := by simpa [ec] using g1
    have x2 : Value.string s = .string (strOf e.data) := by simpa [ec] using g2
    have c0 : wc.cell? ⟨sb, so, none⟩ = some (.int .i64 o) := by rw [x0]; simpa using f30
    have c1 : wc.cell? ⟨sb, so + 1, none⟩ = some (.int .i64 c) := by rw [x1]; simpa using f31
    have c2 : wc.cell? ⟨sb, so + 2, none⟩ = some (.string s) := by rw [x2]; simpa using f32
    clear f3 f30 f31 f32 g0 g1 g2 x0 x1 x2 hcs hce
    obtain ⟨d0, d1, d2⟩ := q_cells H0.out
    rw [hbt]
    clear hbt hb hn
    go_enter Try.func12, Try.ntmps12
    go_upto_region 1 with fail
    (try rw [e1])
    (try rw [e2])
    go_upto_region 3 with fail
    obtain ⟨wd0, hwwd0, HBwd0, hbwd0⟩ := box_ev wc
    obtain ⟨wd, hwwd, HBwd, HCwd⟩ := set_ev hbwd0 HBwd0.out (Nat.le_refl _) #[.int .i64 o, .int .i64 c, .string s]
    have HIwd : (Try.prog.info? 32).map (·.size) = some (#[Value.int .i64 o, .int .i64 c, .string s]).size := ev_info rfl
    go_upto_region 4 with (refine wpList_store_row rfl 32 (.tmp 5) (.tmp 15) rfl wc.heap.size #[.int .i64 o, .int .i64 c, .string s] rfl rfl 32 #[.int .i64 0, .int .i64 0, .string { data := #[] }] hbwd0 HIwd rfl (ev_all _ _ _) ?_)
    (try rw [hwwd])
    clear hwwd0 hwwd hbwd0 HBwd0 HIwd
    obtain ⟨b3, e3⟩ : ∃ b, wc.heap.size = b := ⟨_, rfl⟩
    rw [e3] at HCwd ⊢
    have HD0 : Sl (wd.heap[W.heap.size]? = some (.cells #[.int .i64 count, .int .i64 bytes', .slice (some ⟨sb, so, none⟩) (m + 1) cp] 30 (0, 0))) := ⟨below_key H0.out HBwd.out⟩
    have HD1 := Sl.mk (below_key H1.out HBwd.out)
    have HD2 := Sl.mk (below_key H2.out HBwd.out)
    have HLd := Sl.mk (HLc.out.below HBwd.out)
    have HKd : Sl (Below W.heap.size W wd) := ⟨HK.out.trans (HBwd.out.mono HK.out.size)⟩
    have HS3 : Sl (b1 = W.heap.size + 1 ∧ b2 = b1 + 1 ∧ b3 = b2 + 1) := ⟨HSZ.out.1, HSZ.out.2.1, by rw [← e3]; exact HSZ.out.2.2⟩
    clear d0 d1 d2 c0 c1 c2 H0 H1 H2 HLc HK HSZ e3 HBwd
    obtain ⟨d0, d1, d2⟩ := q_cells HD0.out
    have fz : wd.frozen? ⟨W.heap.size, 2, none⟩ = false := frozen_of_row _ _ _ _ _ HD0.out
    obtain ⟨a2, ha2⟩ : ∃ x, fromE (some ⟨sb, so, none⟩) 1 cp = x := ⟨_, rfl⟩
    have hsl : ∀ V, (Instr.slice 28 (.slice (some ⟨sb, so, none⟩) (m + 1) cp) (some (.int .i64 1)) none none).run Try.prog V = .ok (.slice a2 m (cp - 1)) V := fun V => by
      have k := eslice_l V (some ⟨sb, so, none⟩) (m + 1) cp 1 (by omega) 1 rfl
      rw [ha2] at k
      exact k
    have hlf := HLd.out.from (k := 1) (by omega)
    rw [ha2] at hlf
    have hg := grown_setCell wd W.heap.size 2 (.slice a2 m (cp - 1))
    have hX : (wd.setCell ⟨W.heap.size, 2, none⟩ (.slice a2 m (cp - 1))).heap[W.heap.size]? = some (.cells #[.int .i64 count, .int .i64 bytes', .slice a2 m (cp - 1)] 30 (0, 0)) := by
      rw [heap_setCell_same _ _ _ _ _ _ HD0.out]; simp
    obtain ⟨we, hwe⟩ : ∃ V, wd.setCell ⟨W.heap.size, 2, none⟩ (.slice a2 m (cp - 1)) = V := ⟨_, rfl⟩
    rw [hwe] at hg hX
    have HE0 := Sl.mk hX
    have HKe : Sl (Below W.heap.size W we) := ⟨HKd.out.grown hg HKd.out.size (fun k e => by injection e with e; omega)⟩
    have HE1 : Sl (we.heap[b1]? = some (.cells #[.int .i64 0, .int .i64 0, .slice none 0 0] 30 (0, 0))) := ⟨by rw [hg.block _ (Array.getElem?_eq_some_iff.1 HD1.out).1 (fun e => by injection e with e; have := HS3.out; omega)]; exact HD1.out⟩
    have HE2 : Sl (we.heap[b2]? = some (.cells #[.int .i64 0, .int .i64 0, .string { data := #[] }] 32 (0, 0))) := ⟨by rw [hg.block _ (Array.getElem?_eq_some_iff.1 HD2.out).1 (fun e => by injection e with e; have := HS3.out; omega)]; exact HD2.out⟩
    have HE3 : Sl (we.heap[b3]? = some (.cells #[.int .i64 o, .int .i64 c, .string s] 32 (0, 0))) := ⟨by rw [hg.block _ (Array.getElem?_eq_some_iff.1 HCwd.out).1 (fun e => by injection e with e; have := HS3.out; omega)]; exact HCwd.out⟩
    have HO : Sl (∀ g, (Value.slice a2 m (cp - 1)).ownBlock = some g → g < W.heap.size ∧ (Value.slice (some ⟨sb, so, none⟩) (m + 1) cp).ownBlock = some g) := ⟨fun g h => by
      rw [← ha2] at h
      have h2 := from_own (n := m + 1) (c := cp) h
      exact ⟨HBL.out g h2, h2⟩⟩
    have HLe : Sl (EvsAt we (.slice a2 m (cp - 1)) r) := ⟨hlf.grown hg (fun g h e => by injection e with e; have := (HO.out g h).1; omega)⟩
    clear hg hX hlf ha2 HD0 HD1 HD2 HCwd HLd HKd
    go_upto_region 5 with fail
    clear d0 d1 d2 fz hsl
    (try rw [hwe])
    clear hwe
    have z0 := (Array.getElem?_eq_some_iff.1 HE0.out).1
    have z3 := (Array.getElem?_eq_some_iff.1 HE3.out).1
    obtain ⟨Rw, hRw⟩ : ∃ R, we.drew = R := ⟨_, rfl⟩
    have HBR : Below we.heap.size we Rw := by rw [← hRw]; exact (Below.refl _ _).drew
    refine wp_region_noPanic ?_
    refine wp_region_held (S := fun V => V.heap[W.heap.size]? = some (.cells #[.int .i64 count, .int .i64 bytes', .slice a2 m (cp - 1)] 30 (0, 0)) ∧ V.heap[b3]? = some (.cells #[.int .i64 o, .int .i64 c, .string s] 32 (0, 0))) (by kernel_rfl) ?_
    change wpAnyH _ _ _ _ _ _ _ _ we.drew
    rw [hRw]
    clear hRw
    have HS0 : Rw.heap[W.heap.size]? = some (.cells #[.int .i64 count, .int .i64 bytes', .slice a2 m (cp - 1)] 30 (0, 0)) ∧ Rw.heap[b3]? = some (.cells #[.int .i64 o, .int .i64 c, .string s] 32 (0, 0)) := ⟨below_key HE0.out HBR, below_key HE3.out HBR⟩
    refine heldTake (d := some 20) (op := .load 30 (Operand.tmp 1)) (g := none) 0 ?v0 rfl (by kernel_rfl) (by kernel_rfl) (by kernel_rfl) (by kernel_rfl) ?y0 HS0 ?_
    case y0 => intro o' ho W hS; obtain ⟨d0, d1, d2⟩ := q_cells hS.1; simp only [execOp, ho]; go_simp; try rfl
    simp only [Act.put, List.setIfInBounds_toArray, List.set_cons_zero, List.set_cons_succ]
    refine heldTake (d := some 21) (op := .load 32 (Operand.tmp 5)) (g := none) 1 ?v1 rfl (by kernel_rfl) (by kernel_rfl) (by kernel_rfl) (by kernel_rfl) ?y1 HS0 ?_
    case y1 => intro o' ho W hS; obtain ⟨d0, d1, d2⟩ := ev_cells hS.2; simp only [execOp, ho]; go_simp; try rfl
    simp only [Act.put, List.setIfInBounds_toArray, List.set_cons_zero, List.set_cons_succ]
    have HKR : Below W.heap.size W Rw := HKe.out.trans (HBR.mono HKe.out.size)
    have h1 := below_key HE1.out HBR
    have h2R := below_key HE2.out HBR
    have hLR := HLe.out.below HBR
    obtain ⟨wf, hwf, HBf, HCf⟩ := set_q h1 HKR (by have := HS3.out; omega) #[.int .i64 count, .int .i64 bytes', .slice a2 m (cp - 1)]
    have HI := q_info count bytes' (.slice a2 m (cp - 1))
    have HI2 : (Try.prog.info? 32).map (·.size) = some (#[Value.int .i64 o, .int .i64 c, .string s]).size := ev_info rfl
    have gf := grown_setRow Rw b1 #[.int .i64 count, .int .i64 bytes', .slice a2 m (cp - 1)]
    rw [hwf] at gf
    have h2 : wf.heap[b2]? = some (.cells #[.int .i64 0, .int .i64 0, .string { data := #[] }] 32 (0, 0)) := by rw [← hwf, setRow_other _ _ _ _ (by have := HS3.out; omega)]; exact h2R
    have HSf : wf.heap[W.heap.size]? = some (.cells #[.int .i64 count, .int .i64 bytes', .slice a2 m (cp - 1)] 30 (0, 0)) ∧ wf.heap[b3]? = some (.cells #[.int .i64 o, .int .i64 c, .string s] 32 (0, 0)) := ⟨by rw [← hwf, setRow_other _ _ _ _ (by have := HS3.out; omega)]; exact HS0.1, by rw [← hwf, setRow_other _ _ _ _ (by have := HS3.out; omega)]; exact HS0.2⟩
    have hLf := hLR.grown gf (fun g h e => by injection e with e; have := (HO.out g h).1; have := HS3.out; omega)
    obtain ⟨wg, hwg, HBg, HCg⟩ := set_ev h2 HBf.out (by have := HS3.out; omega) #[.int .i64 o, .int .i64 c, .string s]
    have gg := grown_setRow wf b2 #[.int .i64 o, .int .i64 c, .string s]
    rw [hwg] at gg
    have HSg : wg.heap[W.heap.size]? = some (.cells #[.int .i64 count, .int .i64 bytes', .slice a2 m (cp - 1)] 30 (0, 0)) ∧ wg.heap[b3]? = some (.cells #[.int .i64 o, .int .i64 c, .string s] 32 (0, 0)) := ⟨by rw [← hwg, setRow_other _ _ _ _ (by have := HS3.out; omega)]; exact HSf.1, by rw [← hwg, setRow_other _ _ _ _ (by have := HS3.out; omega)]; exact HSf.2⟩
    have HCq : Sl (wg.heap[b1]? = some (.cells #[.int .i64 count, .int .i64 bytes', .slice a2 m (cp - 1)] 30 (0, 0))) := ⟨by rw [← hwg, setRow_other _ _ _ _ (by have := HS3.out; omega)]; exact HCf.out⟩
    have HLg : Sl (EvsAt wg (.slice a2 m (cp - 1)) r) := ⟨hLf.grown gg (fun g h e => by injection e with e; have := (HO.out g h).1; have := HS3.out; omega)⟩
    refine heldStore (d := none) (op := .store 30 (Operand.tmp 2) (Operand.tmp 20)) (g := none) (t := 0) 2 wf rfl (by kernel_rfl) (by kernel_rfl) ?y2 HSf ?_
    case y2 => intro o' ho ht; rw [← hwf]; exact store_q ho (by rfl) (by rfl) h1 rfl HI (q_all _ _ _ _ _)
    simp only [Act.put]
    refine heldStore (d := none) (op := .store 32 (Operand.tmp 3) (Operand.tmp 21)) (g := none) (t := 0) 3 wg rfl (by kernel_rfl) (by kernel_rfl) ?y3 HSg ?_
    case y3 => intro o' ho ht; rw [← hwg]; exact store_q ho (by rfl) (by rfl) h2 rfl HI2 (ev_all _ _ _)
    simp only [Act.put]
    refine heldTake (d := some 4) (op := .assign (Operand.const (Value.bool true))) (g := none) 4 ?v4 rfl (by kernel_rfl) (by kernel_rfl) (by kernel_rfl) (by kernel_rfl) ?y4 HSg ?_
    case y4 => intro o' ho W hS; simp only [execOp, ho]; go_simp; try rfl
    simp only [Act.put, List.setIfInBounds_toArray, List.set_cons_zero, List.set_cons_succ]
    refine wpAnyH_done (by kernel_rfl) ?_ _
    refine NoPanic.normal ?_
    have HFR : Sl (From W (.slice (some ⟨sb, so, none⟩) (m + 1) cp) wg (.slice a2 m (cp - 1))) := ⟨fun g hg => ⟨.inl (HO.out g hg).2, Nat.lt_of_lt_of_le (HO.out g hg).1 HBg.out.size⟩⟩
    clear gf gg hLf hLR HS0 HSf HSg h1 h2 h2R HKR HBR hwf hwg
    go_wp2
    refine bodyPost_ret (ret_qe rfl _ _ b1 b2 _ _ rfl HCq.out rfl rfl HCg.out rfl) rfl ?_
    exact ⟨_, rfl, HLg, HFR, HBg⟩
end Go.Proofs.Ytflnmjiopeoodaa.Que
