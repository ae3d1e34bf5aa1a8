/- shake: ShakeCase's walk. -/
import Derived.Test.YthlagngpllahkaaGreatDoorW26
import Derived.Test.YthlagngpllahkaaGreatDoorW5
import Derived.Test.YthlagngpllahkaaGreatDoorW3
set_option maxRecDepth 100000
namespace Go.Proofs.YthlagngpllahkaaGreatDoor
open Go.RowKit HeadPlain Nam

/-- What Question answers of a head of which as much is asked for as of another one, in that one's words. -/
theorem quest_twin7 {g h : HdV} (tw : Twin g h) {w' : World} {e : Ending} (q : QuestR w' g e) : ∃ a c l', e = .returned (.tuple #[.agg #[.string (offS h).p, .string (offS h).h, .string (offS h).k, .string (offS h).o, .slice a (offS h).l.length c], .int .i64 (statV h : Nat)]) ∧ StrA w' (.slice a (offS h).l.length c) l' ∧ l'.map bytes = (offS h).l.map bytes := by
  obtain ⟨a, c, he, hs⟩ := quest_shape q
  obtain ⟨h1, h2, h3, h4, h5⟩ := tw.offer
  have hl : (offS g).l.length = (offS h).l.length := by simpa using congrArg List.length h5
  rw [h1, h2, h3, h4, hl, tw.stat] at he
  rw [hl] at hs
  exact ⟨a, c, (offS g).l, he, hs, h5⟩
/-- The first k fields, their names' case turned. -/
def tnL (fs : List FV) (k : Nat) : List FV := (fs.take k).map fun f => (tnS f.1, f.2)
theorem tnL_len {fs : List FV} {k n : Nat} (hn : fs.length = n) (hk : k ≤ n) : (tnL fs k).length = k := by
  unfold tnL
  rw [List.length_map, List.length_take]
  omega
theorem tnL_step {fs : List FV} {k n : Nat} {f : FV} (hn : fs.length = n) (hk : k < n) (hf : fs.getD k f0 = f) : tnL fs k ++ [(tnS f.1, f.2)] = tnL fs (k + 1) := by
  unfold tnL
  rw [List.take_add_one, List.map_append, ← hf, List.getD_eq_getElem?_getD, List.getElem?_eq_getElem (by omega)]
  rfl
theorem tnL_get {fs : List FV} {i : Nat} (hi : i < fs.length) : (tnL fs fs.length).getD i f0 = (tnS (fs.getD i f0).1, (fs.getD i f0).2) := by
  unfold tnL
  rw [List.take_length, List.getD_eq_getElem?_getD, List.getElem?_map, List.getD_eq_getElem?_getD, List.getElem?_eq_getElem hi]
  rfl
theorem tnL_mem {fs : List FV} {k : Nat} {f : FV} (hf : f ∈ tnL fs k) : ∃ g ∈ fs, f.1.size = g.1.size ∧ f.2 = g.2 := by
  unfold tnL at hf
  obtain ⟨g, hg, rfl⟩ := List.mem_map.1 hf
  exact ⟨g, List.mem_of_mem_take hg, tnS_size _, rfl⟩
theorem tn_get (h : HdV) (n : List Nat) : get ((tnL h.fs h.fs.length).map fN) n = get (h.fs.map fN) n := by
  have hl : (tnL h.fs h.fs.length).length = h.fs.length := tnL_len rfl (Nat.le_refl _)
  refine get_names (by rw [List.length_map, List.length_map, hl]) (fun i hi => ?_) n
  rw [List.length_map] at hi
  have e : ∀ l : List FV, i < l.length → (l.map fN).getD i ([], []) = fN (l.getD i f0) := fun l hl => by
    rw [List.getD_eq_getElem?_getD, List.getElem?_map, List.getD_eq_getElem?_getD, List.getElem?_eq_getElem hl]; rfl
  rw [e _ (by rw [hl]; exact hi), e _ hi, tnL_get hi]
  exact ⟨rfl, tnS_up _⟩
theorem tn_twin (h : HdV) : Twin ⟨h.a, h.b, h.c, tnL h.fs h.fs.length⟩ h :=
  twin_of (quest_names keyB (h := h.hd) (g := (⟨h.a, h.b, h.c, tnL h.fs h.fs.length⟩ : HdV).hd) rfl rfl rfl fun n => tn_get h n)
theorem opt_bytes {a b : Option ByteArray} (h : a.map bytes = b.map bytes) : a = b := by
  cases a <;> cases b <;> simp at h ⊢
  exact bytes_inj h
theorem tn_check (h : HdV) (key : ByteArray) (l : List ByteArray) : checkV ⟨h.a, h.b, h.c, tnL h.fs h.fs.length⟩ key l = checkV h key l := by
  apply opt_bytes
  rw [checkV_plain, checkV_plain]
  exact check_names accB (h := h.hd) (g := (⟨h.a, h.b, h.c, tnL h.fs h.fs.length⟩ : HdV).hd) rfl rfl (fun n => tn_get h n) _ _
theorem tn_fw {h : HdV} (f : Fw h) : Fw ⟨h.a, h.b, h.c, tnL h.fs h.fs.length⟩ :=
  ⟨by show (tnL h.fs h.fs.length).length ≤ _; rw [tnL_len rfl (Nat.le_refl _)]; exact f.n, f.a, f.b, f.c, fun x hx => by
    obtain ⟨g, hg, h1, h2⟩ := tnL_mem hx
    rw [h1, h2]; exact f.f g hg⟩
theorem run_app6 {a : Act} {o : Oper} {x y : Operand} {Z w1 : World} {v0 src v1 : Value} (ho : o.op = .call { callee := .builtin .append, args := #[x, y], argTypes := #[28, 28] }) (ht : o.type = 28) (hs : a.eval x = v0) (hx : a.eval y = src)
    (hap : (Builtin.append_ #[28, 28] 28 #[v0, src]).run Tryz.prog Z = .ok v1 w1) : (execOp a.eval o).run Tryz.prog Z = .ok (.value v1) w1 := by
  unfold execOp
  simp only [ho, ht, resolve, invoke, builtin, Sem.run_bind, Sem.run_pure, Result.andThen_ok, List.map_toArray, List.map_cons, List.map_nil, hs, hx, hap]
set_option maxHeartbeats 8000000 in
theorem case_law (h : HdV) (bx : Value) (key : ByteArray) (v : Value) (l : List ByteArray) (w : World) (hg : GlobA w) (hfit : h.Fit) (hv : FieldsAt w bx h.fs) (hl : StrA w v l) (hll : l.length ≤ maxLen) (hs : ∀ s ∈ l, s.size ≤ maxLen) :
    Calls Tryz.prog 8 #[.agg #[.string h.a, .string h.b, .string h.c, bx], .string key, v] w fun e w' => e = .returned (.bool true) ∧ Sl (Below w.heap.size w w') := by
  have HG := Sl.mk hg
  have C13 : Sl (∀ V, Below w.heap.size w V → Calls Tryz.prog 13 #[.agg #[.string h.a, .string h.b, .string h.c, bx]] V fun e w' => Sl (FewR h e) ∧ Sl (Below V.heap.size V w')) := ⟨fun V hB => few_any h bx V (hv.below hB) hfit⟩
  have C17 : Sl (∀ r, fewB l = r → ∀ V, Below w.heap.size w V → Calls Tryz.prog 17 #[v] V fun e w' => e = .returned (.bool r) ∧ V = w') := ⟨fun r hr V hB => few_ex hr (hl.below hB) hll hs⟩
  have C14 : Sl (∀ V, Fw h → Below w.heap.size w V → Calls Tryz.prog 14 #[.agg #[.string h.a, .string h.b, .string h.c, bx]] V fun e w' => (∃ a c l', e = .returned (.tuple #[.agg #[.string (offS h).p, .string (offS h).h, .string (offS h).k, .string (offS h).o, .slice a (offS h).l.length c], .int .i64 (statV h : Nat)]) ∧ StrA w' (.slice a (offS h).l.length c) l' ∧ l'.map bytes = (offS h).l.map bytes) ∧ Sl (Below V.heap.size V w')) := ⟨fun V hf hB => (question_any h bx V (hg.of hB) (hv.below hB) hf).mono fun e w' ⟨h1, h2⟩ => ⟨quest_twin7 (twin_of rfl) h1.out, h2⟩⟩
  have C14g : Sl (∀ V x, Fw h → Below w.heap.size w V → FieldsAt V x (tnL h.fs h.fs.length) → Calls Tryz.prog 14 #[.agg #[.string h.a, .string h.b, .string h.c, x]] V fun e w' => (∃ a c l', e = .returned (.tuple #[.agg #[.string (offS h).p, .string (offS h).h, .string (offS h).k, .string (offS h).o, .slice a (offS h).l.length c], .int .i64 (statV h : Nat)]) ∧ StrA w' (.slice a (offS h).l.length c) l' ∧ l'.map bytes = (offS h).l.map bytes) ∧ Sl (Below V.heap.size V w')) := ⟨fun V x hf hB hF => (question_any ⟨h.a, h.b, h.c, tnL h.fs h.fs.length⟩ x V (hg.of hB) hF (tn_fw hf)).mono fun e w' ⟨h1, h2⟩ => ⟨quest_twin7 (tn_twin h) h1.out, h2⟩⟩
  have C30 : Sl (∀ V u, Fw h → key.size ≤ 300 → l.length ≤ 30 → Below w.heap.size w V → StrA V u l → Calls Tryz.prog 30 #[.agg #[.string h.a, .string h.b, .string h.c, bx], .string key, u] V fun e w' => e = .returned (chkV (checkV h key l)) ∧ Sl (Below V.heap.size V w')) := ⟨fun V u hf hk hn hB hS => check_shake h bx key l u V _ rfl (hg.of hB) (hv.below hB) hf (by omega) hS (by omega)⟩
  have C30g : Sl (∀ V x u, Fw h → key.size ≤ 300 → l.length ≤ 30 → Below w.heap.size w V → FieldsAt V x (tnL h.fs h.fs.length) → StrA V u l → Calls Tryz.prog 30 #[.agg #[.string h.a, .string h.b, .string h.c, x], .string key, u] V fun e w' => e = .returned (chkV (checkV h key l)) ∧ Sl (Below V.heap.size V w')) := ⟨fun V x u hf hk hn hB hF hS => check_shake ⟨h.a, h.b, h.c, tnL h.fs h.fs.length⟩ x key l u V _ (tn_check h key l) (hg.of hB) hF (tn_fw hf) (by omega) hS (by omega)⟩
  have C34 : Sl (∀ s V, s.size ≤ 3000 → Calls Tryz.prog 34 #[.string s] V fun e w' => e = .returned (.string (tnS s)) ∧ Sl (Below V.heap.size V w')) := ⟨fun s V hs => turned_any s V (by omega)⟩
  have HXA : Sl (∀ V, Below w.heap.size w V → StrA (V.alloc (.cells #[] 9)) v l) := ⟨fun V hB => hl.below (hB.alloc hB.size _)⟩
  have HLN : Sl (Fw h → (offS h).l.length ≤ 1000000) := ⟨fun f => offS_len f⟩
  obtain ⟨cv, hcv⟩ : ∃ o, checkV h key l = o := ⟨_, rfl⟩
  rw [hcv] at C30 C30g
  obtain ⟨cp, ce, hce⟩ : ∃ (p : ByteArray) (e : Int), chkV cv = .tuple #[.string p, .int .i64 e] := by cases cv <;> exact ⟨_, _, rfl⟩
  rw [hce] at C30 C30g
  have hpp : (cp.toList == cp.toList) = true := by simp
  have hee : (ce == ce) = true := by simp
  obtain ⟨o, ho⟩ : ∃ o, offS h = o := ⟨_, rfl⟩
  obtain ⟨sv, hsv⟩ : ∃ z : Int, ((statV h : Nat) : Int) = z := ⟨_, rfl⟩
  rw [ho] at C14 C14g HLN
  rw [hsv] at C14 C14g
  have hss : (sv == sv) = true := by simp
  obtain ⟨no, hno⟩ : ∃ n, o.l.length = n := ⟨_, rfl⟩
  rw [hno] at C14 C14g HLN
  have HNO := Sl.mk hno
  clear ho hsv hno hg hfit hcv hce hll hs
  obtain ⟨vd, vc, _, _, rfl, _⟩ := hl
  obtain ⟨n, hn⟩ : ∃ n, l.length = n := ⟨_, rfl⟩
  have HN := Sl.mk hn
  rw [hn] at C17 C30 C30g HXA ⊢
  clear hn
  obtain ⟨bd, bc, sb, so, rfl, _, _, had, hcell⟩ := hv
  have HCE := Sl.mk hcell
  have HAD := Sl.mk had
  clear hcell had
  obtain ⟨nf, hnf⟩ : ∃ n, h.fs.length = n := ⟨_, rfl⟩
  have HNF := Sl.mk hnf
  rw [hnf] at C13 C14 C14g C30 C30g HCE HAD ⊢
  clear hnf
  obtain ⟨w0, hw0⟩ : ∃ V, w.alloc (.cells #[.string h.a, .string h.b, .string h.c, .slice bd nf bc] 25) = V := ⟨_, rfl⟩
  have HB0 : Sl (Below w.heap.size w w0) := ⟨by rw [← hw0]; exact (Below.refl _ _).alloc (Nat.le_refl _) _⟩
  have HX0 : Sl (w0.heap[w.heap.size]? = some (.cells #[.string h.a, .string h.b, .string h.c, .slice bd nf bc] 25 (0, 0))) := ⟨by rw [← hw0]; exact alloc_new _ _ _ rfl⟩
  go_enter Tryz.func8, Tryz.ntmps8
  go_wp2_with fail
  clear hw0
  refine (awake_ex HB0.out HG.out).mono ?_
  rintro e w1 ⟨rfl, HE, HB1⟩
  have HX1 := Sl.mk (box_below HX0.out HE.out)
  clear HE HX0 HB0
  obtain ⟨p0, p1, p2, p3⟩ := head_cells HX1.out
  go_wp2_with fail
  clear p0 p1 p2 p3
  refine (C13.out _ HB1.out).mono ?_
  rintro e w2 ⟨HFEW, HE⟩
  have HX2 := Sl.mk (box_below HX1.out HE.out)
  have HB2 := Sl.mk (below_trans HB1.out HE.out)
  clear HE HX1 HB1
  rcases HFEW.out with ⟨rfl, hfew⟩ | ⟨rfl, _⟩
  rotate_left
  · go_wp2_with fail
    refine (awake_ex HB2.out HG.out).mono ?_
    rintro e w3 ⟨rfl, _, HB3⟩
    go_wp2
    go_ret
    exact ⟨rfl, HB3⟩
  have HFW := Sl.mk (few_fw hfew)
  clear hfew HFEW
  by_cases hk : key.size ≤ 300
  rotate_left
  · have hk1 : ((300 : Int) < (key.size : Int)) = True := eq_true (by omega)
    go_wp2_with fail
    refine (awake_ex HB2.out HG.out).mono ?_
    rintro e w3 ⟨rfl, _, HB3⟩
    go_wp2
    go_ret
    exact ⟨rfl, HB3⟩
  have hk1 : ((300 : Int) < (key.size : Int)) = False := eq_false (by omega)
  have HK := Sl.mk hk
  clear hk
  cases hfl : fewB l with
  | false =>
    have HR := Sl.mk hfl
    clear hfl
    go_wp2_with fail
    refine (C17.out _ HR.out _ HB2.out).mono ?_
    rintro e w3 ⟨rfl, rfl⟩
    go_wp2_with fail
    refine (awake_ex HB2.out HG.out).mono ?_
    rintro e w3 ⟨rfl, _, HB3⟩
    go_wp2
    go_ret
    exact ⟨rfl, HB3⟩
  | true =>
  have HN30 : Sl (n ≤ 30) := ⟨by rw [← HN.out]; exact (fewB_yes hfl).2⟩
  have HR := Sl.mk hfl
  clear hfl
  go_wp2_with fail
  clear hk1
  refine (C17.out _ HR.out _ HB2.out).mono ?_
  rintro e w3 ⟨rfl, rfl⟩
  obtain ⟨w4, hw4⟩ : ∃ V, w2.alloc (.cells #[.string h.a, .string h.b, .string h.c, .slice bd nf bc] 25) = V := ⟨_, rfl⟩
  have E4 : Below w2.heap.size w2 w4 := by rw [← hw4]; exact (Below.refl _ _).alloc (Nat.le_refl _) _
  have HB4 := Sl.mk (below_trans HB2.out E4)
  have HX4 := Sl.mk (box_below HX2.out E4)
  have HQ4 : Sl (w4.heap[w2.heap.size]? = some (.cells #[.string h.a, .string h.b, .string h.c, .slice bd nf bc] 25 (0, 0))) := ⟨by rw [← hw4]; exact alloc_new _ _ _ rfl⟩
  have HWQ : Sl (w.heap.size < w2.heap.size) := ⟨lt_of_block HX2.out⟩
  clear E4
  obtain ⟨p0, p1, p2, p3⟩ := head_cells HX2.out
  obtain ⟨t0, t1, t2, t3⟩ := head_cells HQ4.out
  have g3 : w4.frozen? ⟨w2.heap.size, 3, none⟩ = false := frozen_of_row _ _ _ _ _ HQ4.out
  obtain ⟨W0, hW0⟩ : ∃ V, w4.setCell ⟨w2.heap.size, 3, none⟩ (.slice none 0 0) = V := ⟨_, rfl⟩
  have S0 : Sl (AS w #[.string h.a, .string h.b, .string h.c, .slice bd nf bc] w2.heap.size h.a h.b h.c [] (.slice none 0 0) W0) := ⟨by
    have hq := HWQ.out
    rw [← hW0]
    exact ⟨HB4.out.grown (grown_setCell w4 w2.heap.size 3 _) HB4.out.size (fun k hk => by injection hk with hk; omega), by rw [heap_setCell_other _ _ _ _ (show w.heap.size ≠ w2.heap.size by omega)]; exact HX4.out, agg_setCell _ HQ4.out, ownF_nil _ _, hq⟩⟩
  go_wp2
  clear hw4 hW0 p0 p1 p2 p3 t0 t1 t2 t3 g3 HB4 HX4 HQ4 HB2 HX2
  have hz0 : w.heap.size ≤ W0.heap.size := S0.out.B.size
  go_loopw [8] (fun i wr => ∃ k : Nat, k ≤ nf ∧ i = .int .i64 k ∧ Sl (∃ a c, AS w #[.string h.a, .string h.b, .string h.c, .slice bd nf bc] w2.heap.size h.a h.b h.c (tnL h.fs k) (.slice a k c) wr)) (fun i _ => nf - (intOf i).toNat)
  case atStart => exact ⟨0, by omega, rfl, ⟨⟨none, 0, S0.out⟩⟩⟩
  case round =>
    obtain ⟨k, hk, rfl, HSE⟩ := hrel
    obtain ⟨va, vcc, hse⟩ := HSE.out
    have SK := Sl.mk hse
    clear hse HSE S0
    by_cases hlt : k < nf
    · obtain rfl := HAD.out (by omega)
      obtain ⟨f, hf⟩ : ∃ f, h.fs.getD k f0 = f := ⟨_, rfl⟩
      have HF := Sl.mk hf
      obtain ⟨fnm, fvl⟩ := f
      have HQ0 : Sl (∀ V, Below w.heap.size w V → V.cell? ⟨sb, so + k * 2, none⟩ = some (.string fnm) ∧ V.cell? ⟨sb, so + k * 2 + 1, none⟩ = some (.string fvl)) := ⟨fun V hB => by
        obtain ⟨g1, g2, _, _⟩ := HCE.out k hlt
        rw [hf] at g1 g2
        have k0 := block_lt_of_cell g1
        exact ⟨by rw [hB.cell (p := ⟨sb, so + k * 2, none⟩) k0]; exact g1, by rw [hB.cell (p := ⟨sb, so + k * 2 + 1, none⟩) k0]; exact g2⟩⟩
      have HFZ : Sl (fnm.size ≤ 3000) := ⟨by
        have := (HFW.out.f (h.fs.getD k f0) (by rw [List.getD_eq_getElem?_getD, List.getElem?_eq_getElem (by rw [HNF.out]; exact hlt)]; exact List.getElem_mem _)).1
        rw [hf] at this; exact this⟩
      have HSTP : Sl (tnL h.fs k ++ [(tnS fnm, fvl)] = tnL h.fs (k + 1)) := ⟨tnL_step HNF.out hlt hf⟩
      have HTL : Sl ((tnL h.fs k).length = k ∧ (tnL h.fs (k + 1)).length = k + 1) := ⟨tnL_len HNF.out (by omega), tnL_len HNF.out hlt⟩
      have hnf2 : nf ≤ 60 := by have h1 := HNF.out; have h2 := HFW.out.n; omega
      have hk0 : (0 : Int) ≤ (k : Int) := by omega
      have hk1 : (k : Int) < (nf : Int) := by omega
      have HTX := C34.out fnm
      have HCT : Sl (∀ V, Calls Tryz.prog 34 #[.string fnm] V fun e w' => e = .returned (.string (tnS fnm)) ∧ Sl (Below V.heap.size V w')) := ⟨fun V => C34.out fnm V HFZ.out⟩
      obtain ⟨x, hx⟩ : ∃ x, tnS fnm = x := ⟨_, rfl⟩
      rw [hx] at HCT HSTP
      clear hf hx HTX
      obtain ⟨p0, p1, p2, p3⟩ := head_cells SK.out.R
      go_upto_region 8 with fail
      clear p0 p1 p2 p3
      obtain ⟨R, hR⟩ : ∃ R, wr.drew = R := ⟨_, rfl⟩
      have SR : Sl (AS w #[.string h.a, .string h.b, .string h.c, .slice (some ⟨sb, so, none⟩) nf bc] w2.heap.size h.a h.b h.c (tnL h.fs k) (.slice va k vcc) R) := ⟨by rw [← hR]; exact SK.out.below (Below.refl _ _).drew⟩
      have HS0 : Below w.heap.size w R ∧ R.heap[w.heap.size]? = some (.cells #[.string h.a, .string h.b, .string h.c, .slice (some ⟨sb, so, none⟩) nf bc] 25 (0, 0)) := ⟨SR.out.B, SR.out.R⟩
      have cR : R.cell? ⟨w2.heap.size, 3, none⟩ = some (.slice va k vcc) := (head_cells SR.out.H).2.2.2
      refine wp_region_noPanic ?_
      refine wp_region_held (S := fun V => Below w.heap.size w V ∧ V.heap[w.heap.size]? = some (.cells #[.string h.a, .string h.b, .string h.c, .slice (some ⟨sb, so, none⟩) nf bc] 25 (0, 0))) (by kernel_rfl) ?_
      change wpAnyH _ _ _ _ _ _ _ _ wr.drew
      rw [hR]
      clear hR
      refine heldTake (d := some 44) (op := Go.Op.fieldAddr 25 (Go.Operand.tmp 7) 1) (g := none) 0 ?v0 rfl (by kernel_rfl) (by kernel_rfl) (by kernel_rfl) (by kernel_rfl) ?y0 HS0 ?_
      case y0 => intro o ho w hS; simp only [execOp, ho]; go_simp; try rfl
      simp only [Act.put, List.setIfInBounds_toArray, List.set_cons_zero, List.set_cons_succ]
      refine heldTake (d := some 46) (op := Go.Op.fieldAddr 25 (Go.Operand.tmp 3) 1) (g := none) 2 ?v2 rfl (by kernel_rfl) (by kernel_rfl) (by kernel_rfl) (by kernel_rfl) ?y2 HS0 ?_
      case y2 => intro o ho w hS; simp only [execOp, ho]; go_simp; try rfl
      simp only [Act.put, List.setIfInBounds_toArray, List.set_cons_zero, List.set_cons_succ]
      refine heldTake (d := some 47) (op := Go.Op.load 23 (Go.Operand.tmp 46)) (g := none) 3 ?v3 rfl (by kernel_rfl) (by kernel_rfl) (by kernel_rfl) (by kernel_rfl) ?y3 HS0 ?_
      case y3 => intro o ho w hS; obtain ⟨p0, p1, p2, p3⟩ := head_cells hS.2; simp only [execOp, ho]; go_simp; try rfl
      simp only [Act.put, List.setIfInBounds_toArray, List.set_cons_zero, List.set_cons_succ]
      refine heldTake (d := some 48) (op := Go.Op.move (Go.Operand.tmp 8)) (g := none) 4 ?v4 rfl (by kernel_rfl) (by kernel_rfl) (by kernel_rfl) (by kernel_rfl) ?y4 HS0 ?_
      case y4 => intro o ho w hS; simp only [execOp, ho]; go_simp; try rfl
      simp only [Act.put, List.setIfInBounds_toArray, List.set_cons_zero, List.set_cons_succ]
      refine heldTake (d := some 49) (op := Go.Op.indexAddr 23 (Go.Operand.tmp 47) (Go.Operand.tmp 48)) (g := none) 5 ?v5 rfl (by kernel_rfl) (by kernel_rfl) (by kernel_rfl) (by kernel_rfl) ?y5 HS0 ?_
      case y5 => intro o ho w hS; simp only [execOp, ho]; go_simp; try rfl
      simp only [Act.put, List.setIfInBounds_toArray, List.set_cons_zero, List.set_cons_succ]
      refine heldTake (d := some 50) (op := Go.Op.fieldAddr 60 (Go.Operand.tmp 49) 0) (g := none) 6 ?v6 rfl (by kernel_rfl) (by kernel_rfl) (by kernel_rfl) (by kernel_rfl) ?y6 HS0 ?_
      case y6 => intro o ho w hS; simp only [execOp, ho]; go_simp; try rfl
      simp only [Act.put, List.setIfInBounds_toArray, List.set_cons_zero, List.set_cons_succ]
      refine heldTake (d := some 51) (op := Go.Op.load 9 (Go.Operand.tmp 50)) (g := none) 7 ?v7 rfl (by kernel_rfl) (by kernel_rfl) (by kernel_rfl) (by kernel_rfl) ?y7 HS0 ?_
      case y7 => intro o ho w hS; obtain ⟨q0, q1⟩ := HQ0.out _ hS.1; simp only [execOp, ho]; go_simp; try rfl
      simp only [Act.put, List.setIfInBounds_toArray, List.set_cons_zero, List.set_cons_succ]
      refine heldTake (d := some 53) (op := Go.Op.fieldAddr 25 (Go.Operand.tmp 3) 1) (g := none) 9 ?v9 rfl (by kernel_rfl) (by kernel_rfl) (by kernel_rfl) (by kernel_rfl) ?y9 HS0 ?_
      case y9 => intro o ho w hS; simp only [execOp, ho]; go_simp; try rfl
      simp only [Act.put, List.setIfInBounds_toArray, List.set_cons_zero, List.set_cons_succ]
      refine heldTake (d := some 54) (op := Go.Op.load 23 (Go.Operand.tmp 53)) (g := none) 10 ?v10 rfl (by kernel_rfl) (by kernel_rfl) (by kernel_rfl) (by kernel_rfl) ?y10 HS0 ?_
      case y10 => intro o ho w hS; obtain ⟨p0, p1, p2, p3⟩ := head_cells hS.2; simp only [execOp, ho]; go_simp; try rfl
      simp only [Act.put, List.setIfInBounds_toArray, List.set_cons_zero, List.set_cons_succ]
      refine heldTake (d := some 55) (op := Go.Op.move (Go.Operand.tmp 8)) (g := none) 11 ?v11 rfl (by kernel_rfl) (by kernel_rfl) (by kernel_rfl) (by kernel_rfl) ?y11 HS0 ?_
      case y11 => intro o ho w hS; simp only [execOp, ho]; go_simp; try rfl
      simp only [Act.put, List.setIfInBounds_toArray, List.set_cons_zero, List.set_cons_succ]
      refine heldTake (d := some 56) (op := Go.Op.indexAddr 23 (Go.Operand.tmp 54) (Go.Operand.tmp 55)) (g := none) 12 ?v12 rfl (by kernel_rfl) (by kernel_rfl) (by kernel_rfl) (by kernel_rfl) ?y12 HS0 ?_
      case y12 => intro o ho w hS; simp only [execOp, ho]; go_simp; try rfl
      simp only [Act.put, List.setIfInBounds_toArray, List.set_cons_zero, List.set_cons_succ]
      refine heldTake (d := some 57) (op := Go.Op.fieldAddr 60 (Go.Operand.tmp 56) 1) (g := none) 13 ?v13 rfl (by kernel_rfl) (by kernel_rfl) (by kernel_rfl) (by kernel_rfl) ?y13 HS0 ?_
      case y13 => intro o ho w hS; simp only [execOp, ho]; go_simp; try rfl
      simp only [Act.put, List.setIfInBounds_toArray, List.set_cons_zero, List.set_cons_succ]
      refine heldTake (d := some 58) (op := Go.Op.load 9 (Go.Operand.tmp 57)) (g := none) 14 ?v14 rfl (by kernel_rfl) (by kernel_rfl) (by kernel_rfl) (by kernel_rfl) ?y14 HS0 ?_
      case y14 => intro o ho w hS; obtain ⟨q0, q1⟩ := HQ0.out _ hS.1; simp only [execOp, ho]; go_simp; try rfl
      simp only [Act.put, List.setIfInBounds_toArray, List.set_cons_zero, List.set_cons_succ]
      refine heldLC (di := some 45) (opi := Go.Op.load 23 (Go.Operand.tmp 44)) (gi := none) (dj := some 52) (opj := Go.Op.call { callee := Go.Callee.value (Go.Operand.func 34), args := #[Go.Operand.tmp 51], argTypes := #[9] }) (gj := none) 1 8 (.slice va k vcc) 34 ?a18 rfl rfl (by kernel_rfl) (by kernel_rfl) (by kernel_rfl) ?y1 ?y8 HS0 ?n1 ?n8
      case y1 => intro o ho; simp only [execOp, ho]; go_simp; try rfl
      case y8 => intro o ho; simp only [execOp, ho]; go_simp; try rfl
      case n1 =>
        simp only [Act.put, List.setIfInBounds_toArray, List.set_cons_zero, List.set_cons_succ]
        refine heldCall (d := some 52) (op := Go.Op.call { callee := Go.Callee.value (Go.Operand.func 34), args := #[Go.Operand.tmp 51], argTypes := #[9] }) (g := none) 8 34 ?a8p rfl (by kernel_rfl) (by kernel_rfl) ?y8p ?_
        case y8p => intro o ho; simp only [execOp, ho]; go_simp; try rfl
        refine (HCT.out _).mono ?_
        rintro e R2 ⟨rfl, HE2⟩
        have S2x := Sl.mk (SR.out.below HE2.out)
        have HS2 : Below w.heap.size w R2 ∧ R2.heap[w.heap.size]? = some (.cells #[.string h.a, .string h.b, .string h.c, .slice (some ⟨sb, so, none⟩) nf bc] 25 (0, 0)) := ⟨S2x.out.B, S2x.out.R⟩
        refine ⟨_, rfl, HS2, ?_⟩
        have c2 : R2.cell? ⟨w2.heap.size, 3, none⟩ = some (.slice va k vcc) := (head_cells S2x.out.H).2.2.2
        simp only [Act.put, List.setIfInBounds_toArray, List.set_cons_zero, List.set_cons_succ]
        refine heldTake (d := some 59) (op := Go.Op.build 60 #[(0, Go.Operand.tmp 52), (1, Go.Operand.tmp 58)]) (g := none) 15 ?v15p rfl (by kernel_rfl) (by kernel_rfl) (by kernel_rfl) (by kernel_rfl) ?y15p HS2 ?_
        case y15p => intro o ho w hS; simp only [execOp, ho]; go_simp; try rfl
        simp only [Act.put, List.setIfInBounds_toArray, List.set_cons_zero, List.set_cons_succ]
        obtain ⟨A, hA⟩ : ∃ A, R2.alloc (.cells #[.string x, .string fvl] 60) = A := ⟨_, rfl⟩
        have BA : Sl (Below R2.heap.size R2 A) := ⟨by rw [← hA]; exact (Below.refl _ _).alloc (Nat.le_refl _) _⟩
        have HL : Sl (A.heap[R2.heap.size]? = some (.cells #[.string x, .string fvl] 60 (0, 0))) := ⟨by rw [← hA]; exact alloc_new _ _ _ rfl⟩
        have SA := Sl.mk (S2x.out.below BA.out)
        have HSA : Below w.heap.size w A ∧ A.heap[w.heap.size]? = some (.cells #[.string h.a, .string h.b, .string h.c, .slice (some ⟨sb, so, none⟩) nf bc] 25 (0, 0)) := ⟨SA.out.B, SA.out.R⟩
        have cA : A.cell? ⟨w2.heap.size, 3, none⟩ = some (.slice va k vcc) := (head_cells SA.out.H).2.2.2
        refine heldRunT (d := some 60) (op := Go.Op.buildSlice 23 1 #[(0, Go.Operand.tmp 59)]) (g := none) 16 (.slice (some ⟨R2.heap.size, 0, none⟩) 1 1) A rfl (by kernel_rfl) (by kernel_rfl) ?y16p HSA ?_
        case y16p => intro o ho ht; simp only [execOp, ho]; go_simp; first | done | rw [hA] | rfl
        simp only [Act.put, List.setIfInBounds_toArray, List.set_cons_zero, List.set_cons_succ]
        obtain ⟨v2, X5, hr6, ho6, hg6⟩ := add_flds (gs := [(x, fvl)]) (k := 1) SA.out.O rfl HL.out rfl (by have := HTL.out.1; simp; omega) SA.out.B.size
        obtain ⟨av, cv, hv2⟩ : ∃ a c, v2 = .slice a (k + 1) c := (by rw [HSTP.out] at ho6; have h9 := OwnF.slice ho6; rw [HTL.out.2] at h9; exact h9)
        subst hv2
        rw [HSTP.out] at ho6
        have S6 := Sl.mk (SA.out.step ho6 hg6)
        obtain ⟨f0, c0⟩ := SA.out.frozen hg6
        have HSX : Below w.heap.size w X5 ∧ X5.heap[w.heap.size]? = some (.cells #[.string h.a, .string h.b, .string h.c, .slice (some ⟨sb, so, none⟩) nf bc] 25 (0, 0)) := ⟨ownF_grown SA.out.B SA.out.O hg6, staysF SA.out.O hg6 SA.out.R (by decide)⟩
        refine heldRunT (d := some 61) (op := Go.Op.call { callee := Go.Callee.builtin Go.Builtin.append, args := #[Go.Operand.tmp 45, Go.Operand.tmp 60], argTypes := #[23, 23] }) (g := none) 17 (.slice av (k + 1) cv) X5 rfl (by kernel_rfl) (by kernel_rfl) ?y17p HSX ?_
        case y17p => intro o ho ht; simp only [execOp, ho, ht, resolve, invoke, builtin, Sem.run_bind, Sem.run_pure, Result.andThen_ok, List.map_toArray, List.map_cons, List.map_nil]; refine (congrArg (fun r => Result.andThen r _) hr6).trans ?_; rfl
        simp only [Act.put, List.setIfInBounds_toArray, List.set_cons_zero, List.set_cons_succ]
        refine heldTake (d := some 62) (op := Go.Op.fieldAddr 25 (Go.Operand.tmp 7) 1) (g := none) 18 ?v18p rfl (by kernel_rfl) (by kernel_rfl) (by kernel_rfl) (by kernel_rfl) ?y18p HSX ?_
        case y18p => intro o ho w hS; simp only [execOp, ho]; go_simp; try rfl
        simp only [Act.put, List.setIfInBounds_toArray, List.set_cons_zero, List.set_cons_succ]
        have HSY : Below w.heap.size w (X5.setCell ⟨w2.heap.size, 3, none⟩ (.slice av (k + 1) cv)) ∧ (X5.setCell ⟨w2.heap.size, 3, none⟩ (.slice av (k + 1) cv)).heap[w.heap.size]? = some (.cells #[.string h.a, .string h.b, .string h.c, .slice (some ⟨sb, so, none⟩) nf bc] 25 (0, 0)) := ⟨S6.out.B, S6.out.R⟩
        refine heldStore (d := none) (op := Go.Op.store 23 (Go.Operand.tmp 62) (Go.Operand.tmp 61)) (g := none) 19 (X5.setCell ⟨w2.heap.size, 3, none⟩ (.slice av (k + 1) cv)) rfl (by kernel_rfl) (by kernel_rfl) ?y19p HSY ?_
        case y19p => intro o ho ht; simp only [execOp, ho]; go_simp; try rfl
        simp only [Act.put]
        refine wpAnyH_done (by kernel_rfl) ?_ _
        refine NoPanic.normal ?_
        have SN : Sl (∃ a c, AS w #[.string h.a, .string h.b, .string h.c, .slice (some ⟨sb, so, none⟩) nf bc] w2.heap.size h.a h.b h.c (tnL h.fs (k + 1)) (.slice a (k + 1) c) (X5.setCell ⟨w2.heap.size, 3, none⟩ (.slice av (k + 1) cv))) := ⟨⟨_, _, S6.out⟩⟩
        clear S6 HSY HSX f0 c0
        go_wp2
        exact ⟨⟨k + 1, by omega, by go_num, SN⟩, by simp [intOf]; omega⟩
      case n8 =>
        refine (HCT.out _).mono ?_
        rintro e R2 ⟨rfl, HE2⟩
        have S2x := Sl.mk (SR.out.below HE2.out)
        have HS2 : Below w.heap.size w R2 ∧ R2.heap[w.heap.size]? = some (.cells #[.string h.a, .string h.b, .string h.c, .slice (some ⟨sb, so, none⟩) nf bc] 25 (0, 0)) := ⟨S2x.out.B, S2x.out.R⟩
        refine ⟨_, rfl, HS2, ?_⟩
        have c2 : R2.cell? ⟨w2.heap.size, 3, none⟩ = some (.slice va k vcc) := (head_cells S2x.out.H).2.2.2
        simp only [Act.put, List.setIfInBounds_toArray, List.set_cons_zero, List.set_cons_succ]
        refine heldTake (d := some 59) (op := Go.Op.build 60 #[(0, Go.Operand.tmp 52), (1, Go.Operand.tmp 58)]) (g := none) 15 ?v15q rfl (by kernel_rfl) (by kernel_rfl) (by kernel_rfl) (by kernel_rfl) ?y15q HS2 ?_
        case y15q => intro o ho w hS; simp only [execOp, ho]; go_simp; try rfl
        simp only [Act.put, List.setIfInBounds_toArray, List.set_cons_zero, List.set_cons_succ]
        obtain ⟨A, hA⟩ : ∃ A, R2.alloc (.cells #[.string x, .string fvl] 60) = A := ⟨_, rfl⟩
        have BA : Sl (Below R2.heap.size R2 A) := ⟨by rw [← hA]; exact (Below.refl _ _).alloc (Nat.le_refl _) _⟩
        have HL : Sl (A.heap[R2.heap.size]? = some (.cells #[.string x, .string fvl] 60 (0, 0))) := ⟨by rw [← hA]; exact alloc_new _ _ _ rfl⟩
        have SA := Sl.mk (S2x.out.below BA.out)
        have HSA : Below w.heap.size w A ∧ A.heap[w.heap.size]? = some (.cells #[.string h.a, .string h.b, .string h.c, .slice (some ⟨sb, so, none⟩) nf bc] 25 (0, 0)) := ⟨SA.out.B, SA.out.R⟩
        have cA : A.cell? ⟨w2.heap.size, 3, none⟩ = some (.slice va k vcc) := (head_cells SA.out.H).2.2.2
        refine heldTwo (di := some 45) (opi := Go.Op.load 23 (Go.Operand.tmp 44)) (gi := none) (dj := some 60) (opj := Go.Op.buildSlice 23 1 #[(0, Go.Operand.tmp 59)]) (gj := none) 1 16 (.slice va k vcc) R2 (.slice (some ⟨R2.heap.size, 0, none⟩) 1 1) A rfl rfl (by kernel_rfl) (by kernel_rfl) (by kernel_rfl) ?y1q ?y16q HS2 HSA ?n1q ?n16q
        case y1q => intro o ho ht; simp only [execOp, ho]; go_simp; try rfl
        case y16q => intro o ho ht; simp only [execOp, ho]; go_simp; first | done | rw [hA] | rfl
        case n1q =>
          simp only [Act.put, List.setIfInBounds_toArray, List.set_cons_zero, List.set_cons_succ]
          refine heldRunT (d := some 60) (op := Go.Op.buildSlice 23 1 #[(0, Go.Operand.tmp 59)]) (g := none) 16 (.slice (some ⟨R2.heap.size, 0, none⟩) 1 1) A rfl (by kernel_rfl) (by kernel_rfl) ?y16qa HSA ?_
          case y16qa => intro o ho ht; simp only [execOp, ho]; go_simp; first | done | rw [hA] | rfl
          simp only [Act.put, List.setIfInBounds_toArray, List.set_cons_zero, List.set_cons_succ]
          obtain ⟨v2, X5, hr6, ho6, hg6⟩ := add_flds (gs := [(x, fvl)]) (k := 1) SA.out.O rfl HL.out rfl (by have := HTL.out.1; simp; omega) SA.out.B.size
          obtain ⟨av, cv, hv2⟩ : ∃ a c, v2 = .slice a (k + 1) c := (by rw [HSTP.out] at ho6; have h9 := OwnF.slice ho6; rw [HTL.out.2] at h9; exact h9)
          subst hv2
          rw [HSTP.out] at ho6
          have S6 := Sl.mk (SA.out.step ho6 hg6)
          obtain ⟨f0, c0⟩ := SA.out.frozen hg6
          have HSX : Below w.heap.size w X5 ∧ X5.heap[w.heap.size]? = some (.cells #[.string h.a, .string h.b, .string h.c, .slice (some ⟨sb, so, none⟩) nf bc] 25 (0, 0)) := ⟨ownF_grown SA.out.B SA.out.O hg6, staysF SA.out.O hg6 SA.out.R (by decide)⟩
          refine heldRunT (d := some 61) (op := Go.Op.call { callee := Go.Callee.builtin Go.Builtin.append, args := #[Go.Operand.tmp 45, Go.Operand.tmp 60], argTypes := #[23, 23] }) (g := none) 17 (.slice av (k + 1) cv) X5 rfl (by kernel_rfl) (by kernel_rfl) ?y17qa HSX ?_
          case y17qa => intro o ho ht; simp only [execOp, ho, ht, resolve, invoke, builtin, Sem.run_bind, Sem.run_pure, Result.andThen_ok, List.map_toArray, List.map_cons, List.map_nil]; refine (congrArg (fun r => Result.andThen r _) hr6).trans ?_; rfl
          simp only [Act.put, List.setIfInBounds_toArray, List.set_cons_zero, List.set_cons_succ]
          refine heldTake (d := some 62) (op := Go.Op.fieldAddr 25 (Go.Operand.tmp 7) 1) (g := none) 18 ?v18qa rfl (by kernel_rfl) (by kernel_rfl) (by kernel_rfl) (by kernel_rfl) ?y18qa HSX ?_
          case y18qa => intro o ho w hS; simp only [execOp, ho]; go_simp; try rfl
          simp only [Act.put, List.setIfInBounds_toArray, List.set_cons_zero, List.set_cons_succ]
          have HSY : Below w.heap.size w (X5.setCell ⟨w2.heap.size, 3, none⟩ (.slice av (k + 1) cv)) ∧ (X5.setCell ⟨w2.heap.size, 3, none⟩ (.slice av (k + 1) cv)).heap[w.heap.size]? = some (.cells #[.string h.a, .string h.b, .string h.c, .slice (some ⟨sb, so, none⟩) nf bc] 25 (0, 0)) := ⟨S6.out.B, S6.out.R⟩
          refine heldStore (d := none) (op := Go.Op.store 23 (Go.Operand.tmp 62) (Go.Operand.tmp 61)) (g := none) 19 (X5.setCell ⟨w2.heap.size, 3, none⟩ (.slice av (k + 1) cv)) rfl (by kernel_rfl) (by kernel_rfl) ?y19qa HSY ?_
          case y19qa => intro o ho ht; simp only [execOp, ho]; go_simp; try rfl
          simp only [Act.put]
          refine wpAnyH_done (by kernel_rfl) ?_ _
          refine NoPanic.normal ?_
          have SN : Sl (∃ a c, AS w #[.string h.a, .string h.b, .string h.c, .slice (some ⟨sb, so, none⟩) nf bc] w2.heap.size h.a h.b h.c (tnL h.fs (k + 1)) (.slice a (k + 1) c) (X5.setCell ⟨w2.heap.size, 3, none⟩ (.slice av (k + 1) cv))) := ⟨⟨_, _, S6.out⟩⟩
          clear S6 HSY HSX f0 c0
          go_wp2
          exact ⟨⟨k + 1, by omega, by go_num, SN⟩, by simp [intOf]; omega⟩
        case n16q =>
          simp only [Act.put, List.setIfInBounds_toArray, List.set_cons_zero, List.set_cons_succ]
          refine heldRunT (d := some 45) (op := Go.Op.load 23 (Go.Operand.tmp 44)) (g := none) 1 (.slice va k vcc) A rfl (by kernel_rfl) (by kernel_rfl) ?y1qb HSA ?_
          case y1qb => intro o ho ht; simp only [execOp, ho]; go_simp; try rfl
          simp only [Act.put, List.setIfInBounds_toArray, List.set_cons_zero, List.set_cons_succ]
          obtain ⟨v2, X5, hr6, ho6, hg6⟩ := add_flds (gs := [(x, fvl)]) (k := 1) SA.out.O rfl HL.out rfl (by have := HTL.out.1; simp; omega) SA.out.B.size
          obtain ⟨av, cv, hv2⟩ : ∃ a c, v2 = .slice a (k + 1) c := (by rw [HSTP.out] at ho6; have h9 := OwnF.slice ho6; rw [HTL.out.2] at h9; exact h9)
          subst hv2
          rw [HSTP.out] at ho6
          have S6 := Sl.mk (SA.out.step ho6 hg6)
          obtain ⟨f0, c0⟩ := SA.out.frozen hg6
          have HSX : Below w.heap.size w X5 ∧ X5.heap[w.heap.size]? = some (.cells #[.string h.a, .string h.b, .string h.c, .slice (some ⟨sb, so, none⟩) nf bc] 25 (0, 0)) := ⟨ownF_grown SA.out.B SA.out.O hg6, staysF SA.out.O hg6 SA.out.R (by decide)⟩
          refine heldRunT (d := some 61) (op := Go.Op.call { callee := Go.Callee.builtin Go.Builtin.append, args := #[Go.Operand.tmp 45, Go.Operand.tmp 60], argTypes := #[23, 23] }) (g := none) 17 (.slice av (k + 1) cv) X5 rfl (by kernel_rfl) (by kernel_rfl) ?y17qb HSX ?_
          case y17qb => intro o ho ht; simp only [execOp, ho, ht, resolve, invoke, builtin, Sem.run_bind, Sem.run_pure, Result.andThen_ok, List.map_toArray, List.map_cons, List.map_nil]; refine (congrArg (fun r => Result.andThen r _) hr6).trans ?_; rfl
          simp only [Act.put, List.setIfInBounds_toArray, List.set_cons_zero, List.set_cons_succ]
          refine heldTake (d := some 62) (op := Go.Op.fieldAddr 25 (Go.Operand.tmp 7) 1) (g := none) 18 ?v18qb rfl (by kernel_rfl) (by kernel_rfl) (by kernel_rfl) (by kernel_rfl) ?y18qb HSX ?_
          case y18qb => intro o ho w hS; simp only [execOp, ho]; go_simp; try rfl
          simp only [Act.put, List.setIfInBounds_toArray, List.set_cons_zero, List.set_cons_succ]
          have HSY : Below w.heap.size w (X5.setCell ⟨w2.heap.size, 3, none⟩ (.slice av (k + 1) cv)) ∧ (X5.setCell ⟨w2.heap.size, 3, none⟩ (.slice av (k + 1) cv)).heap[w.heap.size]? = some (.cells #[.string h.a, .string h.b, .string h.c, .slice (some ⟨sb, so, none⟩) nf bc] 25 (0, 0)) := ⟨S6.out.B, S6.out.R⟩
          refine heldStore (d := none) (op := Go.Op.store 23 (Go.Operand.tmp 62) (Go.Operand.tmp 61)) (g := none) 19 (X5.setCell ⟨w2.heap.size, 3, none⟩ (.slice av (k + 1) cv)) rfl (by kernel_rfl) (by kernel_rfl) ?y19qb HSY ?_
          case y19qb => intro o ho ht; simp only [execOp, ho]; go_simp; try rfl
          simp only [Act.put]
          refine wpAnyH_done (by kernel_rfl) ?_ _
          refine NoPanic.normal ?_
          have SN : Sl (∃ a c, AS w #[.string h.a, .string h.b, .string h.c, .slice (some ⟨sb, so, none⟩) nf bc] w2.heap.size h.a h.b h.c (tnL h.fs (k + 1)) (.slice a (k + 1) c) (X5.setCell ⟨w2.heap.size, 3, none⟩ (.slice av (k + 1) cv))) := ⟨⟨_, _, S6.out⟩⟩
          clear S6 HSY HSX f0 c0
          go_wp2
          exact ⟨⟨k + 1, by omega, by go_num, SN⟩, by simp [intOf]; omega⟩
    · have hge : ((k : Int) < (nf : Int)) = False := eq_false (by omega)
      have hkn : k = nf := by omega
      subst hkn
      have HFM : Sl (∀ f ∈ tnL h.fs k, f.1.size ≤ maxLen ∧ f.2.size ≤ maxLen) := ⟨fun f hf => by
        obtain ⟨g, hg, h1, h2⟩ := tnL_mem hf
        have h3 := HFW.out.f g hg
        rw [h1, h2]; unfold maxLen; omega⟩
      have HTL := Sl.mk (tnL_len HNF.out (Nat.le_refl k))
      have HK60 : Sl (k ≤ 60) := ⟨by have h1 := HNF.out; have h2 := HFW.out.n; omega⟩
      have HB5 := Sl.mk SK.out.B
      have HX5 := Sl.mk SK.out.R
      have HG5 := Sl.mk SK.out.H
      have HF5 := Sl.mk (SK.out.O.fields HFM.out (by rw [HTL.out]; have := HK60.out; omega))
      clear SK HFM HTL HK60 HAD HCE C34 hlt hk
      obtain ⟨p0, p1, p2, p3⟩ := head_cells HX5.out
      go_wp2_with fail
      clear hge p0 p1 p2 p3
      refine (C14.out _ HFW.out HB5.out).mono ?_
      rintro e w7 ⟨⟨a7, c7, l7, rfl, hs7, hl7⟩, HE⟩
      have HS7 := Sl.mk hs7
      have HL7 := Sl.mk hl7
      have HX7 := Sl.mk (box_below HX5.out HE.out)
      have HG7 := Sl.mk (box_below HG5.out HE.out)
      have HB7 := Sl.mk (below_trans HB5.out HE.out)
      have HF7 := Sl.mk (HF5.out.below HE.out)
      clear hs7 hl7 HE HX5 HB5 HG5 HF5 C14
      obtain ⟨w8, hw8⟩ : ∃ V, w7.alloc (.cells #[.string o.p, .string o.h, .string o.k, .string o.o, .slice a7 no c7] 30) = V := ⟨_, rfl⟩
      have HE8 : Sl (Below w7.heap.size w7 w8) := ⟨by rw [← hw8]; exact (Below.refl _ _).alloc (Nat.le_refl _) _⟩
      have HO8 : Sl (w8.heap[w7.heap.size]? = some (.cells #[.string o.p, .string o.h, .string o.k, .string o.o, .slice a7 no c7] 30 (0, 0))) := ⟨by rw [← hw8]; exact alloc_new _ _ _ rfl⟩
      have HX8 := Sl.mk (box_below HX7.out HE8.out)
      have HG8 := Sl.mk (box_below HG7.out HE8.out)
      have HB8 := Sl.mk (below_trans HB7.out HE8.out)
      have HS8 := Sl.mk (HS7.out.below HE8.out)
      have HF8 := Sl.mk (HF7.out.below HE8.out)
      clear HE8 HG7 HB7 HS7 HF7 HX7
      obtain ⟨p0, p1, p2, p3⟩ := head_cells HG8.out
      go_wp2_with fail
      clear hw8 p0 p1 p2 p3
      refine (C14g.out _ _ HFW.out HB8.out HF8.out).mono ?_
      rintro e w9 ⟨⟨a9, c9, l9, rfl, hs9, hl9⟩, HE⟩
      have HS9 := Sl.mk hs9
      have HL9 := Sl.mk hl9
      have HO9 := Sl.mk (box_below HO8.out HE.out)
      have HX9 := Sl.mk (box_below HX8.out HE.out)
      have HG9 := Sl.mk (box_below HG8.out HE.out)
      have HB9 := Sl.mk (below_trans HB8.out HE.out)
      have HT9 := Sl.mk (HS8.out.below HE.out)
      have HF9 := Sl.mk (HF8.out.below HE.out)
      clear hs9 hl9 HE HG8 HB8 HS8 HO8 HF8 HX8 C14g
      obtain ⟨w10, hw10⟩ : ∃ V, w9.alloc (.cells #[.string o.p, .string o.h, .string o.k, .string o.o, .slice a9 no c9] 30) = V := ⟨_, rfl⟩
      have HE10 : Sl (Below w9.heap.size w9 w10) := ⟨by rw [← hw10]; exact (Below.refl _ _).alloc (Nat.le_refl _) _⟩
      have HP10 : Sl (w10.heap[w9.heap.size]? = some (.cells #[.string o.p, .string o.h, .string o.k, .string o.o, .slice a9 no c9] 30 (0, 0))) := ⟨by rw [← hw10]; exact alloc_new _ _ _ rfl⟩
      have HO10 := Sl.mk (box_below HO9.out HE10.out)
      have HX10 := Sl.mk (box_below HX9.out HE10.out)
      have HG10 := Sl.mk (box_below HG9.out HE10.out)
      have HB10 := Sl.mk (below_trans HB9.out HE10.out)
      have HS10 := Sl.mk (HS9.out.below HE10.out)
      have HT10 := Sl.mk (HT9.out.below HE10.out)
      have HF10 := Sl.mk (HF9.out.below HE10.out)
      clear HE10 HO9 HB9 HS9 HT9 HX9 HG9 HF9
      go_upto_region 11 with fail
      obtain ⟨R, hRx⟩ : ∃ R, w10.drew = R := ⟨_, rfl⟩
      have HERx : Sl (Below w10.heap.size w10 R) := ⟨by rw [← hRx]; exact (Below.refl _ _).drew⟩
      have HBRx := Sl.mk (below_trans HB10.out HERx.out)
      have HXRx := Sl.mk (box_below HX10.out HERx.out)
      have HSRx : Below w.heap.size w R ∧ R.heap[w.heap.size]? = some (.cells #[.string h.a, .string h.b, .string h.c, .slice bd k bc] 25 (0, 0)) := ⟨HBRx.out, HXRx.out⟩
      obtain ⟨Ax, hAx⟩ : ∃ Z9, R.alloc (.cells #[] 9) = Z9 := ⟨_, rfl⟩
      have KAx : Sl (Below R.heap.size R Ax) := ⟨by rw [← hAx]; exact (Below.refl _ _).alloc (Nat.le_refl _) _⟩
      obtain ⟨v1x, R2x, hapx, hownx, hgrx⟩ := add_all (Z := Ax) (base := R.heap.size) (v0 := .slice (some ⟨R.heap.size, 0, none⟩) 0 0) (x := .slice vd n vc) (m := []) (l := l) (by rw [← hAx]; exact own_lit R) (by rw [← hAx]; exact HXA.out R HBRx.out) (by have := HN30.out; have := HN.out; simp; omega) KAx.out.size 28
      rw [List.nil_append] at hownx
      obtain ⟨HBA'x, HBAx⟩ := app_below HBRx.out (own_lit R) (by rw [hAx]; exact hgrx)
      have HO1x := Sl.mk hownx.strA
      clear hownx hgrx
      have HSAx : Below w.heap.size w Ax ∧ Ax.heap[w.heap.size]? = some (.cells #[.string h.a, .string h.b, .string h.c, .slice bd k bc] 25 (0, 0)) := ⟨below_trans HBRx.out KAx.out, box_below HXRx.out KAx.out⟩
      have HSBx : Below w.heap.size w R2x ∧ R2x.heap[w.heap.size]? = some (.cells #[.string h.a, .string h.b, .string h.c, .slice bd k bc] 25 (0, 0)) := ⟨HBAx.out, box_below HXRx.out HBA'x.out⟩
      have KR2x := Sl.mk (below_trans HERx.out HBA'x.out)
      refine wp_region_noPanic ?_
      refine wp_region_held (S := fun V => Below w.heap.size w V ∧ V.heap[w.heap.size]? = some (.cells #[.string h.a, .string h.b, .string h.c, .slice bd k bc] 25 (0, 0))) (by kernel_rfl) ?_
      change wpAnyH _ _ _ _ _ _ _ _ w10.drew
      rw [hRx]
      clear hRx
      refine heldTake (d := some 74) (op := Go.Op.load 25 (Go.Operand.tmp 3)) (g := none) 0 ?v0x rfl (by kernel_rfl) (by kernel_rfl) (by kernel_rfl) (by kernel_rfl) ?y0x HSRx ?_
      case y0x => intro o ho w hS; obtain ⟨p0, p1, p2, p3⟩ := head_cells hS.2; simp only [execOp, ho]; go_simp; try rfl
      simp only [Act.put, List.setIfInBounds_toArray, List.set_cons_zero, List.set_cons_succ]
      refine heldTake (d := some 75) (op := Go.Op.move (Go.Operand.tmp 1)) (g := none) 1 ?v1x rfl (by kernel_rfl) (by kernel_rfl) (by kernel_rfl) (by kernel_rfl) ?y1x HSRx ?_
      case y1x => intro o ho w hS; simp only [execOp, ho]; go_simp; try rfl
      simp only [Act.put, List.setIfInBounds_toArray, List.set_cons_zero, List.set_cons_succ]
      refine heldTake (d := some 77) (op := Go.Op.move (Go.Operand.tmp 2)) (g := none) 3 ?v3x rfl (by kernel_rfl) (by kernel_rfl) (by kernel_rfl) (by kernel_rfl) ?y3x HSRx ?_
      case y3x => intro o ho w hS; simp only [execOp, ho]; go_simp; try rfl
      simp only [Act.put, List.setIfInBounds_toArray, List.set_cons_zero, List.set_cons_succ]
      refine heldRunT (d := some 76) (op := Go.Op.buildSlice 28 0 #[]) (g := none) (t := 28) 2 (.slice (some ⟨R.heap.size, 0, none⟩) 0 0) Ax rfl (by kernel_rfl) (by kernel_rfl) ?y2x HSAx ?_
      case y2x => intro o ho ht; simp only [execOp, ho]; go_simp; first | done | rw [hAx] | rfl
      simp only [Act.put, List.setIfInBounds_toArray, List.set_cons_zero, List.set_cons_succ]
      refine heldRunT (d := some 78) (op := Go.Op.call { callee := Go.Callee.builtin Go.Builtin.append, args := #[Go.Operand.tmp 76, Go.Operand.tmp 77], argTypes := #[28, 28] }) (g := none) (t := 28) 4 v1x R2x rfl (by kernel_rfl) (by kernel_rfl) ?y4x HSBx ?_
      case y4x => intro o ho ht; exact run_app6 ho ht rfl rfl hapx
      simp only [Act.put, List.setIfInBounds_toArray, List.set_cons_zero, List.set_cons_succ]
      clear hapx hAx
      refine heldCall (d := some 79) (op := Go.Op.call { callee := Go.Callee.value (Go.Operand.func 30), args := #[Go.Operand.tmp 74, Go.Operand.tmp 75, Go.Operand.tmp 78], argTypes := #[25, 9, 28] }) (g := none) 5 30 ?a5x rfl (by kernel_rfl) (by kernel_rfl) ?y5x ?_
      case y5x => intro o ho; simp only [execOp, ho]; go_simp; try rfl
      refine (C30.out _ _ HFW.out HK.out HN30.out HBAx.out HO1x.out).mono ?_
      rintro e R3x ⟨rfl, HE3x⟩
      have KR3x := Sl.mk (below_trans KR2x.out HE3x.out)
      have HS3x : Below w.heap.size w R3x ∧ R3x.heap[w.heap.size]? = some (.cells #[.string h.a, .string h.b, .string h.c, .slice bd k bc] 25 (0, 0)) := ⟨below_trans HBAx.out HE3x.out, box_below HSBx.2 HE3x.out⟩
      refine ⟨_, rfl, HS3x, ?_⟩
      clear HSAx HSBx HSRx HE3x HO1x HBAx HBA'x HXRx KR2x HERx KAx
      simp only [Act.put, List.setIfInBounds_toArray, List.set_cons_zero, List.set_cons_succ]
      refine heldTake (d := some 73) (op := Go.Op.move (Go.Operand.tmp 79)) (g := none) 6 ?v6x rfl (by kernel_rfl) (by kernel_rfl) (by kernel_rfl) (by kernel_rfl) ?y6x HS3x ?_
      case y6x => intro o ho w hS; simp only [execOp, ho]; go_simp; try rfl
      simp only [Act.put, List.setIfInBounds_toArray, List.set_cons_zero, List.set_cons_succ]
      refine heldTake (d := some 80) (op := Go.Op.extract (Go.Operand.tmp 73) 0) (g := none) 7 ?v7x rfl (by kernel_rfl) (by kernel_rfl) (by kernel_rfl) (by kernel_rfl) ?y7x HS3x ?_
      case y7x => intro o ho w hS; simp only [execOp, ho]; go_simp; try rfl
      simp only [Act.put, List.setIfInBounds_toArray, List.set_cons_zero, List.set_cons_succ]
      refine heldTake (d := some 81) (op := Go.Op.extract (Go.Operand.tmp 73) 1) (g := none) 8 ?v8x rfl (by kernel_rfl) (by kernel_rfl) (by kernel_rfl) (by kernel_rfl) ?y8x HS3x ?_
      case y8x => intro o ho w hS; simp only [execOp, ho]; go_simp; try rfl
      simp only [Act.put, List.setIfInBounds_toArray, List.set_cons_zero, List.set_cons_succ]
      refine heldTake (d := some 13) (op := Go.Op.assign (Go.Operand.tmp 80)) (g := none) 9 ?v9x rfl (by kernel_rfl) (by kernel_rfl) (by kernel_rfl) (by kernel_rfl) ?y9x HS3x ?_
      case y9x => intro o ho w hS; simp only [execOp, ho]; go_simp; try rfl
      simp only [Act.put, List.setIfInBounds_toArray, List.set_cons_zero, List.set_cons_succ]
      refine heldTake (d := some 14) (op := Go.Op.assign (Go.Operand.tmp 81)) (g := none) 10 ?v10x rfl (by kernel_rfl) (by kernel_rfl) (by kernel_rfl) (by kernel_rfl) ?y10x HS3x ?_
      case y10x => intro o ho w hS; simp only [execOp, ho]; go_simp; try rfl
      simp only [Act.put, List.setIfInBounds_toArray, List.set_cons_zero, List.set_cons_succ]
      refine wpAnyH_done (by kernel_rfl) ?_ _
      refine NoPanic.normal ?_
      have HB11 := Sl.mk HS3x.1
      have HG11 := Sl.mk (box_below HG10.out KR3x.out)
      have HO11 := Sl.mk (box_below HO10.out KR3x.out)
      have HP11 := Sl.mk (box_below HP10.out KR3x.out)
      have HS11 := Sl.mk (HS10.out.below KR3x.out)
      have HT11 := Sl.mk (HT10.out.below KR3x.out)
      have HF11 := Sl.mk (HF10.out.below KR3x.out)
      clear HS3x KR3x HB10 HX10 HG10 HO10 HP10 HS10 HT10 HF10 HBRx hw10
      go_upto_region 12 with fail
      obtain ⟨Q, hRy⟩ : ∃ R, R3x.drew = R := ⟨_, rfl⟩
      have HERy : Sl (Below R3x.heap.size R3x Q) := ⟨by rw [← hRy]; exact (Below.refl _ _).drew⟩
      have HBRy := Sl.mk (below_trans HB11.out HERy.out)
      have HXRy := Sl.mk (box_below HG11.out HERy.out)
      have HSRy : Below w.heap.size w Q ∧ Q.heap[w2.heap.size]? = some (.cells #[.string h.a, .string h.b, .string h.c, .slice va k vcc] 25 (0, 0)) := ⟨HBRy.out, HXRy.out⟩
      obtain ⟨Ay, hAy⟩ : ∃ Z9, Q.alloc (.cells #[] 9) = Z9 := ⟨_, rfl⟩
      have KAy : Sl (Below Q.heap.size Q Ay) := ⟨by rw [← hAy]; exact (Below.refl _ _).alloc (Nat.le_refl _) _⟩
      obtain ⟨v1y, R2y, hapy, howny, hgry⟩ := add_all (Z := Ay) (base := Q.heap.size) (v0 := .slice (some ⟨Q.heap.size, 0, none⟩) 0 0) (x := .slice vd n vc) (m := []) (l := l) (by rw [← hAy]; exact own_lit Q) (by rw [← hAy]; exact HXA.out Q HBRy.out) (by have := HN30.out; have := HN.out; simp; omega) KAy.out.size 28
      rw [List.nil_append] at howny
      obtain ⟨HBA'y, HBAy⟩ := app_below HBRy.out (own_lit Q) (by rw [hAy]; exact hgry)
      have HO1y := Sl.mk howny.strA
      clear howny hgry
      have HSAy : Below w.heap.size w Ay ∧ Ay.heap[w2.heap.size]? = some (.cells #[.string h.a, .string h.b, .string h.c, .slice va k vcc] 25 (0, 0)) := ⟨below_trans HBRy.out KAy.out, box_below HXRy.out KAy.out⟩
      have HSBy : Below w.heap.size w R2y ∧ R2y.heap[w2.heap.size]? = some (.cells #[.string h.a, .string h.b, .string h.c, .slice va k vcc] 25 (0, 0)) := ⟨HBAy.out, box_below HXRy.out HBA'y.out⟩
      have HFy := Sl.mk (HF11.out.below (below_trans HERy.out HBA'y.out))
      have KR2y := Sl.mk (below_trans HERy.out HBA'y.out)
      refine wp_region_noPanic ?_
      refine wp_region_held (S := fun V => Below w.heap.size w V ∧ V.heap[w2.heap.size]? = some (.cells #[.string h.a, .string h.b, .string h.c, .slice va k vcc] 25 (0, 0))) (by kernel_rfl) ?_
      change wpAnyH _ _ _ _ _ _ _ _ R3x.drew
      rw [hRy]
      clear hRy
      refine heldTake (d := some 83) (op := Go.Op.load 25 (Go.Operand.tmp 7)) (g := none) 0 ?v0y rfl (by kernel_rfl) (by kernel_rfl) (by kernel_rfl) (by kernel_rfl) ?y0y HSRy ?_
      case y0y => intro o ho w hS; obtain ⟨p0, p1, p2, p3⟩ := head_cells hS.2; simp only [execOp, ho]; go_simp; try rfl
      simp only [Act.put, List.setIfInBounds_toArray, List.set_cons_zero, List.set_cons_succ]
      refine heldTake (d := some 84) (op := Go.Op.move (Go.Operand.tmp 1)) (g := none) 1 ?v1y rfl (by kernel_rfl) (by kernel_rfl) (by kernel_rfl) (by kernel_rfl) ?y1y HSRy ?_
      case y1y => intro o ho w hS; simp only [execOp, ho]; go_simp; try rfl
      simp only [Act.put, List.setIfInBounds_toArray, List.set_cons_zero, List.set_cons_succ]
      refine heldTake (d := some 86) (op := Go.Op.move (Go.Operand.tmp 2)) (g := none) 3 ?v3y rfl (by kernel_rfl) (by kernel_rfl) (by kernel_rfl) (by kernel_rfl) ?y3y HSRy ?_
      case y3y => intro o ho w hS; simp only [execOp, ho]; go_simp; try rfl
      simp only [Act.put, List.setIfInBounds_toArray, List.set_cons_zero, List.set_cons_succ]
      refine heldRunT (d := some 85) (op := Go.Op.buildSlice 28 0 #[]) (g := none) (t := 28) 2 (.slice (some ⟨Q.heap.size, 0, none⟩) 0 0) Ay rfl (by kernel_rfl) (by kernel_rfl) ?y2y HSAy ?_
      case y2y => intro o ho ht; simp only [execOp, ho]; go_simp; first | done | rw [hAy] | rfl
      simp only [Act.put, List.setIfInBounds_toArray, List.set_cons_zero, List.set_cons_succ]
      refine heldRunT (d := some 87) (op := Go.Op.call { callee := Go.Callee.builtin Go.Builtin.append, args := #[Go.Operand.tmp 85, Go.Operand.tmp 86], argTypes := #[28, 28] }) (g := none) (t := 28) 4 v1y R2y rfl (by kernel_rfl) (by kernel_rfl) ?y4y HSBy ?_
      case y4y => intro o ho ht; exact run_app6 ho ht rfl rfl hapy
      simp only [Act.put, List.setIfInBounds_toArray, List.set_cons_zero, List.set_cons_succ]
      clear hapy hAy
      refine heldCall (d := some 88) (op := Go.Op.call { callee := Go.Callee.value (Go.Operand.func 30), args := #[Go.Operand.tmp 83, Go.Operand.tmp 84, Go.Operand.tmp 87], argTypes := #[25, 9, 28] }) (g := none) 5 30 ?a5y rfl (by kernel_rfl) (by kernel_rfl) ?y5y ?_
      case y5y => intro o ho; simp only [execOp, ho]; go_simp; try rfl
      refine (C30g.out _ _ _ HFW.out HK.out HN30.out HBAy.out HFy.out HO1y.out).mono ?_
      rintro e R3y ⟨rfl, HE3y⟩
      have KR3y := Sl.mk (below_trans KR2y.out HE3y.out)
      have HS3y : Below w.heap.size w R3y ∧ R3y.heap[w2.heap.size]? = some (.cells #[.string h.a, .string h.b, .string h.c, .slice va k vcc] 25 (0, 0)) := ⟨below_trans HBAy.out HE3y.out, box_below HSBy.2 HE3y.out⟩
      refine ⟨_, rfl, HS3y, ?_⟩
      clear HSAy HSBy HSRy HE3y HO1y HBAy HBA'y HXRy KR2y HERy KAy
      simp only [Act.put, List.setIfInBounds_toArray, List.set_cons_zero, List.set_cons_succ]
      refine heldTake (d := some 82) (op := Go.Op.move (Go.Operand.tmp 88)) (g := none) 6 ?v6y rfl (by kernel_rfl) (by kernel_rfl) (by kernel_rfl) (by kernel_rfl) ?y6y HS3y ?_
      case y6y => intro o ho w hS; simp only [execOp, ho]; go_simp; try rfl
      simp only [Act.put, List.setIfInBounds_toArray, List.set_cons_zero, List.set_cons_succ]
      refine heldTake (d := some 89) (op := Go.Op.extract (Go.Operand.tmp 82) 0) (g := none) 7 ?v7y rfl (by kernel_rfl) (by kernel_rfl) (by kernel_rfl) (by kernel_rfl) ?y7y HS3y ?_
      case y7y => intro o ho w hS; simp only [execOp, ho]; go_simp; try rfl
      simp only [Act.put, List.setIfInBounds_toArray, List.set_cons_zero, List.set_cons_succ]
      refine heldTake (d := some 90) (op := Go.Op.extract (Go.Operand.tmp 82) 1) (g := none) 8 ?v8y rfl (by kernel_rfl) (by kernel_rfl) (by kernel_rfl) (by kernel_rfl) ?y8y HS3y ?_
      case y8y => intro o ho w hS; simp only [execOp, ho]; go_simp; try rfl
      simp only [Act.put, List.setIfInBounds_toArray, List.set_cons_zero, List.set_cons_succ]
      refine heldTake (d := some 15) (op := Go.Op.assign (Go.Operand.tmp 89)) (g := none) 9 ?v9y rfl (by kernel_rfl) (by kernel_rfl) (by kernel_rfl) (by kernel_rfl) ?y9y HS3y ?_
      case y9y => intro o ho w hS; simp only [execOp, ho]; go_simp; try rfl
      simp only [Act.put, List.setIfInBounds_toArray, List.set_cons_zero, List.set_cons_succ]
      refine heldTake (d := some 16) (op := Go.Op.assign (Go.Operand.tmp 90)) (g := none) 10 ?v10y rfl (by kernel_rfl) (by kernel_rfl) (by kernel_rfl) (by kernel_rfl) ?y10y HS3y ?_
      case y10y => intro o ho w hS; simp only [execOp, ho]; go_simp; try rfl
      simp only [Act.put, List.setIfInBounds_toArray, List.set_cons_zero, List.set_cons_succ]
      refine wpAnyH_done (by kernel_rfl) ?_ _
      refine NoPanic.normal ?_
      have HB12 := Sl.mk HS3y.1
      have HO12 := Sl.mk (box_below HO11.out KR3y.out)
      have HP12 := Sl.mk (box_below HP11.out KR3y.out)
      have HS12 := Sl.mk (HS11.out.below KR3y.out)
      have HT12 := Sl.mk (HT11.out.below KR3y.out)
      clear HS3y KR3y HB11 HG11 HO11 HP11 HS11 HT11 HF11
      obtain ⟨q0, q1, q2, q3, q4⟩ := offer_cells HO12.out
      obtain ⟨r0, r1, r2, r3, r4⟩ := offer_cells HP12.out
      go_wp2_with fail
      clear q0 q1 q2 q3 q4 r0 r1 r2 r3 r4
      refine (same_true o.p o.h o.k o.o _ _ l7 l9 _ HT12.out HS12.out (by rw [HL7.out, HL9.out]) (by have h1 := congrArg List.length HL7.out; rw [List.length_map, List.length_map, HNO.out] at h1; rw [h1]; exact HLN.out HFW.out)).mono ?_
      rintro e w13 ⟨rfl, HE⟩
      have HB13 := Sl.mk (below_trans HB12.out HE.out)
      go_wp2
      go_ret
      exact ⟨rfl, HB13⟩
theorem case_walk (h : HdV) (bx : Value) (key : ByteArray) (v : Value) (l : List ByteArray) (w : World) (hg : GlobA w) (hfit : h.Fit) (hv : FieldsAt w bx h.fs) (_ : key.size ≤ maxLen) (hl : StrA w v l) (hll : l.length ≤ maxLen) (hs : ∀ s ∈ l, s.size ≤ maxLen) :
    Calls Tryz.prog 8 #[.agg #[.string h.a, .string h.b, .string h.c, bx], .string key, v] w fun e w' => e = .returned (.bool true) ∧ Below w.heap.size w w' :=
  (case_law h bx key v l w hg hfit hv hl hll hs).mono fun _ _ ⟨h1, h2⟩ => ⟨h1, h2.out⟩
end Go.Proofs.YthlagngpllahkaaGreatDoor
