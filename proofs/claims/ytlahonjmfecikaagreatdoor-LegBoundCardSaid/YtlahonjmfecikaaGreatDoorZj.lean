/- The texts below, joined. -/
import Derived.Test.YtlahonjmfecikaaGreatDoorZi
set_option maxRecDepth 100000
set_option maxRecDepth 100000
namespace Go.Proofs.YtlahonjmfecikaaGreatDoor.Leg
open Go.RowKit Stm
open FramePlain (Fr Fr0)
open LegPlain (Cf Lg)
open Msg (Kept MacS Mine)
open LegPlain (dress draws mv fill put IsC IsR Inv)
open FramePlain (text size chk form zero4)
section
variable {w0 W W' : World} {L sb mb rb rp : Nat} {tv kv qv : Value} {c : Cf} {l : Lg}
theorem LegAt.tail (h : LegAt w0 W L sb mb rb rp tv kv qv c l) (u : Value) (bs : List Nat) (hT : TailAt W w0.heap.size u bs) (hu : ∀ k, tblk u = some k → k ≠ L ∧ k ≠ rb ∧ k ≠ rp ∧ kv.ownBlock ≠ some k ∧ qv.ownBlock ≠ some k) : LegAt w0 (W.setCell ⟨L, 5, none⟩ u) L sb mb rb rp u kv qv c { l with tail := bs } :=
  h.set 5 u (m := { l with tail := bs }) rfl rfl hT h.C h.D h.dr hu h.cn
def lenAt (W : World) (L i : Nat) : Nat := match W.cell? ⟨L, i, none⟩ with
  | some (.slice _ n _) => n
  | _ => 0
def meas (L : Nat) (W : World) : Nat := lenAt W L 6 + lenAt W L 7
theorem LegAt.meas (h : LegAt w0 W L sb mb rb rp tv kv qv c l) : meas L W = l.ctl.length + l.rest.length := by
  obtain ⟨-, -, -, -, -, -, c6, c7, -⟩ := h.cells
  obtain ⟨a, x, e1⟩ := h.C.slice
  obtain ⟨b, y, e2⟩ := h.D.slice
  unfold Leg.meas lenAt
  rw [c6, c7, e1, e2]
theorem mv_ctl {c : Cf} {l : Lg} {f : Fr} {cs : List Fr} {n : Nat} (ht : (fill c l).tail = []) (hc : l.ctl = f :: cs) : mv c (n + 1) l = mv c n (put c { fill c l with ctl := cs } f) := by
  rw [mv, if_neg (fun e => e ht)]
  have : ∀ x : List Fr, x = f :: cs → (match x, l.rest with
    | f :: cs, _ => mv c n (put c { fill c l with ctl := cs } f)
    | [], f :: r => mv c n (put c { fill c l with rest := r } f)
    | [], [] => fill c l) = mv c n (put c { fill c l with ctl := cs } f) := fun x e => by subst e; rfl
  exact this _ hc
theorem mv_rest {c : Cf} {l : Lg} {f : Fr} {cs : List Fr} {n : Nat} (ht : (fill c l).tail = []) (hc : l.ctl = []) (hr : l.rest = f :: cs) : mv c (n + 1) l = mv c n (put c { fill c l with rest := cs } f) := by
  rw [mv, if_neg (fun e => e ht)]
  have : ∀ x y : List Fr, x = [] → y = f :: cs → (match x, y with
    | f :: cs, _ => mv c n (put c { fill c l with ctl := cs } f)
    | [], f :: r => mv c n (put c { fill c l with rest := r } f)
    | [], [] => fill c l) = mv c n (put c { fill c l with rest := cs } f) := fun x y e e2 => by subst e e2; rfl
  exact this _ _ hc hr
theorem mv_full {c : Cf} {l : Lg} {n : Nat} (ht : (fill c l).tail ≠ []) : mv c n l = fill c l := by
  cases n with
  | zero => rfl
  | succ n => rw [mv, if_pos ht]
theorem wait_parts {f : Fr} (h : IsC f ∨ ∃ most, most ≤ 65536 ∧ IsR most f) : ∃ fin, ∃ k : Nat, ∃ m, ∃ ka kb kc kd : Nat, ∃ s, f = (⟨fin, (k:Int), m, [ka, kb, kc, kd], bytes s⟩ : Fr) ∧ Small 256 [ka, kb, kc, kd] ∧ form f = true ∧ s.size ≤ 65536 := by
  have hz : f.masked = false ∧ f.key = zero4 ∧ (∀ y ∈ f.data, y < 256) ∧ form f = true ∧ f.data.length ≤ 65536 ∧ 0 ≤ f.op := by
    rcases h with h | ⟨most, hm, h⟩
    · have ho : 8 ≤ f.op ∧ f.op ≤ 10 := by rcases h.op with e | e | e <;> omega
      exact ⟨h.masked, h.key, h.small, FramePlain.form_of ⟨.inr ⟨ho.1, ho.2, h.fin, h.len⟩, .inr h.key⟩, by have := h.len; omega, by omega⟩
    · have ho : 0 ≤ f.op ∧ f.op ≤ 2 := by rcases h.op with e | e | e <;> omega
      exact ⟨h.masked, h.key, h.small, FramePlain.form_of ⟨.inl ho, .inr h.key⟩, by have := h.len; omega, ho.1⟩
  obtain ⟨h1, h2, h3, h4, h5, h6⟩ := hz
  refine ⟨f.fin, f.op.toNat, f.masked, 0, 0, 0, 0, strOf f.data, ?_, fun x hx => by simp at hx; omega, h4, by rw [strOf_size]; exact h5⟩
  obtain ⟨fin, op, m, key, data⟩ := f
  simp only at h1 h2 h3 h6
  rw [bytes_strOf data h3, h2, show ((op.toNat : Nat) : Int) = op by omega]; rfl
theorem OGoes.retail {V : World} {t1 k1 q1 : Value} (h : OGoes W V L rb rp tv kv qv t1 k1 q1) (i : Nat) (u : Value) {t2 : Value} (ht : ∀ k, tblk t2 = some k → W.heap.size ≤ k) : OGoes W (V.setCell ⟨L, i, none⟩ u) L rb rp tv kv qv t2 k1 q1 :=
  ⟨h.kept.trans (Kept.grown (S := fun k => k = L) (grown_setCell V L i u) (fun k e => by injection e with e; exact e.symm)) (fun j _ e => .inl e), fun k e => by
    rcases e with e | e | e | e | e | e
    · exact .inl (.inl e)
    · exact .inl (.inr (.inl e))
    · exact .inl (.inr (.inr (.inl e)))
    · exact .inr (ht k e)
    · exact h.mine k (.inr (.inr (.inr (.inr (.inl e)))))
    · exact h.mine k (.inr (.inr (.inr (.inr (.inr e)))))⟩
structure MV (w0 W W1 : World) (L sb mb rb rp : Nat) (tv kv qv : Value) (c : Cf) (l : Lg) (n : Nat) (l1 : Lg) (t1 k1 q1 : Value) : Prop where
  at_ : LegAt w0 W1 L sb mb rb rp t1 k1 q1 c l1
  goes : OGoes W W1 L rb rp tv kv qv t1 k1 q1
  num : n = l1.ctl.length + l1.rest.length
  eq : mv c n l1 = mv c (l.ctl.length + l.rest.length) l
  ctl : ∀ f ∈ l1.ctl, IsC f
  rest : ∀ f ∈ l1.rest, IsR c.frm f
  small : Small 256 l1.tail
  len : l1.tail.length ≤ 100000
  few : n ≤ 1000000
theorem take_min' (l : List Nat) (n m : Nat) (h : min l.length n = m) : l.take n = l.take m ∧ l.drop n = l.drop m := by
  subst h
  by_cases hl : l.length ≤ n
  · rw [Nat.min_eq_left hl, List.take_of_length_le hl, List.drop_of_length_le hl, List.take_length, List.drop_length]; exact ⟨rfl, rfl⟩
  · rw [Nat.min_eq_right (by omega)]; exact ⟨rfl, rfl⟩
theorem last_callS {P : Program} {md : Region.Mode} {ops : Array Oper} {Q : Exit → Act → World → Prop} {S : World → Prop} {D : Nat → Bool} {fuel : Nat} {listed : Array Bool} {a : Act} {w : World} {d : Option Tmp} {op : Op} {g : Option (Nat × Bool)} (i : Nat) (f : FuncId) (args : Array Value) (hi : opIsG ops i d op g) (hw : lets ops a g = true)
    (hr : Region.ready md ops listed = [i]) (hy : ∀ o : Oper, o.op = op → (execOp a.eval o).run P w = .ok (.enter f args) w)
    (h : Calls P f args w fun e w' => ∃ v, e = .returned v ∧ S w' ∧ wpAnyL P md ops Q S D fuel (listed.setIfInBounds i true) (a.put d v) w') : wpAnyL P md ops Q S D (fuel + 1) listed a w := by
  obtain ⟨o, ho, hd, hop, hg⟩ := op_ofG hi
  refine last_all hr (by simp) (fun k hk => ?_)
  rw [List.mem_singleton] at hk
  subst hk
  refine wpOp_step ho (fun K hK => ?_)
  rw [if_pos (wanted_of hg hw)]
  unfold Oper.wp
  rw [hy o hop, Oper.upon_enter]
  refine h.mono ?_
  rintro e w' ⟨v, rfl, hS', h'⟩
  rw [hd]
  exact hK _ _ ⟨fun _ => hS', h'⟩
set_option maxHeartbeats 16000000 in
theorem omove_any (h : LegAt w0 W L sb mb rb rp tv kv qv c l) (hg : Mas.Globs w0) (hi : Inv c l) (ht : l.tail.length ≤ 100000) (hsm : Small 256 l.tail) (hf : c.frm ≤ 65536) (hn : l.ctl.length + l.rest.length ≤ 1000000) :
    Calls Tryz.prog 90 #[.pointer (some ⟨L, 4, none⟩)] W fun e w' => ∃ tv' kv' qv', e = .returned (.tuple #[]) ∧ Sl (LegAt w0 w' L sb mb rb rp tv' kv' qv' c (LegPlain.move c l)) ∧ Sl (OGoes W w' L rb rp tv kv qv tv' kv' qv') := by
  have HM0 : Sl (MV w0 W W L sb mb rb rp tv kv qv c l (l.ctl.length + l.rest.length) l tv kv qv) := ⟨⟨h, OGoes.below L rb rp tv kv qv (Below.refl _ _), rfl, rfl, hi.ctl, hi.rest, hsm, ht, hn⟩⟩
  have HF := Sl.mk hf
  have HGL := Sl.mk hg
  show Calls Tryz.prog 90 #[.pointer (some ⟨L, 4, none⟩)] W fun e w' => ∃ tv' kv' qv', e = .returned (.tuple #[]) ∧ Sl (LegAt w0 w' L sb mb rb rp tv' kv' qv' c (mv c (l.ctl.length + l.rest.length) l)) ∧ Sl (OGoes W w' L rb rp tv kv qv tv' kv' qv')
  clear h hi ht hsm hf hn hg
  go_enter Tryz.func90, Tryz.ntmps90
  go_wp2
  go_loopw [] (fun wr => ∃ (n : Nat) (l1 : Lg) (t1 k1 q1 : Value), Sl (MV w0 W wr L sb mb rb rp tv kv qv c l n l1 t1 k1 q1)) (fun wr => meas L wr)
  case atStart => exact ⟨_, _, _, _, _, HM0⟩
  case round =>
    obtain ⟨n, l1, t1, k1, q1, HM⟩ := hrel
    clear HM0
    obtain ⟨atl, ct, rfl, hct⟩ := HM.out.at_.T.slice
    have HMS := Sl.mk HM.out.at_.meas
    obtain ⟨tl, htl⟩ : ∃ k, l1.tail.length = k := ⟨_, rfl⟩
    rw [htl] at HM hct
    have HTL := Sl.mk htl
    have htl5 : tl ≤ 100000 := by have := HM.out.len; omega
    obtain ⟨mm, hmm⟩ : ∃ k, min tl (c.out - l1.ring.length) = k := ⟨_, rfl⟩
    obtain ⟨htk, hdp⟩ := take_min' l1.tail (c.out - l1.ring.length) mm (by rw [htl]; exact hmm)
    have HTK := Sl.mk htk
    have HDP := Sl.mk hdp
    have hmt : mm ≤ tl := by omega
    have PT : Sl (∀ V, Below wr.heap.size wr V → Calls Tryz.prog 118 #[.pointer (some ⟨rb, 0, none⟩), .slice atl tl ct] V fun e w' => e = .returned (.int .i64 (mm : Int)) ∧ Sl (Rng.RingH w' rb rp c.out (l1.ring ++ l1.tail.take mm)) ∧ Sl (Two V w' rb rp)) := ⟨fun V k =>
      (Rng.put_ex w0 V rb rp c.out mm l1.ring l1.tail _ (HM.out.at_.low.trans (k.mono HM.out.at_.low.size)) HM.out.at_.B.2.1 HM.out.at_.B.2.2 (HM.out.at_.below k).R ((HM.out.at_.below k).T.srcN fun j e => (HM.out.at_.tn j e).2.2.1) HM.out.small HM.out.len (by rw [HTL.out]; exact hmm)).mono fun _ _ ⟨e1, e2, e3, _⟩ => ⟨e1, e2, e3⟩⟩
    obtain ⟨-, -, -, -, c4, c5, -⟩ := HM.out.at_.cells
    have hlr := HM.out.at_.lt
    obtain ⟨kn1, kn2, -⟩ := HM.out.at_.kinds
    clear htl htk hdp hmm
    go_upto_region 0 with fail
    obtain ⟨Rw, hRw⟩ : ∃ R, wr.drew = R := ⟨_, rfl⟩
    have HBR : Below wr.heap.size wr Rw := by rw [← hRw]; exact (Below.refl _ _).drew
    refine wp_region_noPanic ?_
    refine last_begin (S := fun V => V.cell? ⟨L, 4, none⟩ = some (.pointer (some ⟨rb, 0, none⟩)) ∧ V.cell? ⟨L, 5, none⟩ = some (.slice atl tl ct)) (D := fun k => k == 17) (by kernel_rfl) ?_
    change wpAnyL _ _ _ _ _ _ _ _ _ wr.drew
    rw [hRw]
    clear hRw
    have HS0 : Rw.cell? ⟨L, 4, none⟩ = some (.pointer (some ⟨rb, 0, none⟩)) ∧ Rw.cell? ⟨L, 5, none⟩ = some (.slice atl tl ct) := ⟨(HBR.cell (p := ⟨L, 4, none⟩) hlr).trans c4, (HBR.cell (p := ⟨L, 5, none⟩) hlr).trans c5⟩
    refine last_pure (d := some 4) (op := .move (Operand.tmp 0)) (g := none) 0 ?v0 rfl (by kernel_rfl) (by kernel_rfl) (by kernel_rfl) (by kernel_rfl) rfl ?y0 HS0 ?_
    case y0 => intro o' ho W; simp only [execOp, ho]; go_simp; try rfl
    simp only [Act.put, List.setIfInBounds_toArray, List.set_cons_zero, List.set_cons_succ]
    refine last_pure (d := some 5) (op := .move (Operand.tmp 0)) (g := none) 1 ?v1 rfl (by kernel_rfl) (by kernel_rfl) (by kernel_rfl) (by kernel_rfl) rfl ?y1 HS0 ?_
    case y1 => intro o' ho W; simp only [execOp, ho]; go_simp; try rfl
    simp only [Act.put, List.setIfInBounds_toArray, List.set_cons_zero, List.set_cons_succ]
    refine last_pure (d := some 6) (op := .nilCheck (Operand.tmp 5)) (g := none) 2 ?v2 rfl (by kernel_rfl) (by kernel_rfl) (by kernel_rfl) (by kernel_rfl) rfl ?y2 HS0 ?_
    case y2 => intro o' ho W; simp only [execOp, ho]; go_simp; try rfl
    simp only [Act.put, List.setIfInBounds_toArray, List.set_cons_zero, List.set_cons_succ]
    refine last_pure (d := some 7) (op := .fieldAddr 76 (Operand.tmp 6) 1) (g := none) 3 ?v3 rfl (by kernel_rfl) (by kernel_rfl) (by kernel_rfl) (by kernel_rfl) rfl ?y3 HS0 ?_
    case y3 => intro o' ho W; simp only [execOp, ho]; go_simp; try rfl
    simp only [Act.put, List.setIfInBounds_toArray, List.set_cons_zero, List.set_cons_succ]
    refine last_take (d := some 8) (op := .load 49 (Operand.tmp 7)) (g := none) 4 ?v4 rfl (by kernel_rfl) (by kernel_rfl) (by kernel_rfl) (by kernel_rfl) (by kernel_rfl) ?y4 HS0 ?_
    case y4 => intro o' ho W hS; have d5 := hS.2; simp only [execOp, ho]; go_simp; try rfl
    simp only [Act.put, List.setIfInBounds_toArray, List.set_cons_zero, List.set_cons_succ]
    refine last_pure (d := some 9) (op := .move (Operand.tmp 0)) (g := none) 5 ?v5 rfl (by kernel_rfl) (by kernel_rfl) (by kernel_rfl) (by kernel_rfl) rfl ?y5 HS0 ?_
    case y5 => intro o' ho W; simp only [execOp, ho]; go_simp; try rfl
    simp only [Act.put, List.setIfInBounds_toArray, List.set_cons_zero, List.set_cons_succ]
    refine last_pure (d := some 10) (op := .nilCheck (Operand.tmp 9)) (g := none) 6 ?v6 rfl (by kernel_rfl) (by kernel_rfl) (by kernel_rfl) (by kernel_rfl) rfl ?y6 HS0 ?_
    case y6 => intro o' ho W; simp only [execOp, ho]; go_simp; try rfl
    simp only [Act.put, List.setIfInBounds_toArray, List.set_cons_zero, List.set_cons_succ]
    refine last_pure (d := some 11) (op := .fieldAddr 76 (Operand.tmp 10) 0) (g := none) 7 ?v7 rfl (by kernel_rfl) (by kernel_rfl) (by kernel_rfl) (by kernel_rfl) rfl ?y7 HS0 ?_
    case y7 => intro o' ho W; simp only [execOp, ho]; go_simp; try rfl
    simp only [Act.put, List.setIfInBounds_toArray, List.set_cons_zero, List.set_cons_succ]
    refine last_take (d := some 12) (op := .load 74 (Operand.tmp 11)) (g := none) 8 ?v8 rfl (by kernel_rfl) (by kernel_rfl) (by kernel_rfl) (by kernel_rfl) (by kernel_rfl) ?y8 HS0 ?_
    case y8 => intro o' ho W hS; have d4 := hS.1; simp only [execOp, ho]; go_simp; try rfl
    simp only [Act.put, List.setIfInBounds_toArray, List.set_cons_zero, List.set_cons_succ]
    refine last_pure (d := some 13) (op := .move (Operand.tmp 0)) (g := none) 9 ?v9 rfl (by kernel_rfl) (by kernel_rfl) (by kernel_rfl) (by kernel_rfl) rfl ?y9 HS0 ?_
    case y9 => intro o' ho W; simp only [execOp, ho]; go_simp; try rfl
    simp only [Act.put, List.setIfInBounds_toArray, List.set_cons_zero, List.set_cons_succ]
    refine last_pure (d := some 14) (op := .nilCheck (Operand.tmp 13)) (g := none) 10 ?v10 rfl (by kernel_rfl) (by kernel_rfl) (by kernel_rfl) (by kernel_rfl) rfl ?y10 HS0 ?_
    case y10 => intro o' ho W; simp only [execOp, ho]; go_simp; try rfl
    simp only [Act.put, List.setIfInBounds_toArray, List.set_cons_zero, List.set_cons_succ]
    refine last_pure (d := some 15) (op := .fieldAddr 76 (Operand.tmp 14) 1) (g := none) 11 ?v11 rfl (by kernel_rfl) (by kernel_rfl) (by kernel_rfl) (by kernel_rfl) rfl ?y11 HS0 ?_
    case y11 => intro o' ho W; simp only [execOp, ho]; go_simp; try rfl
    simp only [Act.put, List.setIfInBounds_toArray, List.set_cons_zero, List.set_cons_succ]
    refine last_take (d := some 16) (op := .load 49 (Operand.tmp 15)) (g := none) 12 ?v12 rfl (by kernel_rfl) (by kernel_rfl) (by kernel_rfl) (by kernel_rfl) (by kernel_rfl) ?y12 HS0 ?_
    case y12 => intro o' ho W hS; have d5 := hS.2; simp only [execOp, ho]; go_simp; try rfl
    simp only [Act.put, List.setIfInBounds_toArray, List.set_cons_zero, List.set_cons_succ]
    refine last_callS (d := some 17) (op := .call { callee := Callee.value (Operand.func 118), args := #[Operand.tmp 12, Operand.tmp 16], argTypes := #[74, 49] }) (g := none) 13 118 #[.pointer (some ⟨rb, 0, none⟩), .slice atl tl ct] rfl (by kernel_rfl) (by kernel_rfl) ?y13 ?_
    case y13 => intro o' ho; simp only [execOp, ho]; go_simp; try rfl
    refine (PT.out Rw HBR).mono ?_
    rintro e w2 ⟨rfl, HR2, HT2⟩
    have HX2 : w2.heap[L]? = Rw.heap[L]? := HT2.out.block L (Nat.lt_of_lt_of_le hlr HBR.size) kn1 kn2
    have HS1 : w2.cell? ⟨L, 4, none⟩ = some (.pointer (some ⟨rb, 0, none⟩)) ∧ w2.cell? ⟨L, 5, none⟩ = some (.slice atl tl ct) := ⟨by rw [World.cell?_of_block (w := Rw) HX2]; exact HS0.1, by rw [World.cell?_of_block (w := Rw) HX2]; exact HS0.2⟩
    refine ⟨_, rfl, HS1, ?_⟩
    simp only [Act.put, List.setIfInBounds_toArray, List.set_cons_zero, List.set_cons_succ]
    refine last_pure (d := some 18) (op := .slice 49 (Operand.tmp 8) (some (Operand.tmp 17)) none none) (g := none) 14 (.slice (fromA atl mm ct) (tl - mm) (ct - mm)) rfl (by kernel_rfl) (by kernel_rfl) (by kernel_rfl) (by kernel_rfl) rfl ?y14 HS1 ?_
    case y14 => intro o' ho W; exact Stm.slice_from ho rfl rfl hmt
    simp only [Act.put, List.setIfInBounds_toArray, List.set_cons_zero, List.set_cons_succ]
    refine last_pure (d := some 19) (op := .nilCheck (Operand.tmp 4)) (g := none) 15 ?v15 rfl (by kernel_rfl) (by kernel_rfl) (by kernel_rfl) (by kernel_rfl) rfl ?y15 HS1 ?_
    case y15 => intro o' ho W; simp only [execOp, ho]; go_simp; try rfl
    simp only [Act.put, List.setIfInBounds_toArray, List.set_cons_zero, List.set_cons_succ]
    refine last_pure (d := some 20) (op := .fieldAddr 76 (Operand.tmp 19) 1) (g := none) 16 ?v16 rfl (by kernel_rfl) (by kernel_rfl) (by kernel_rfl) (by kernel_rfl) rfl ?y16 HS1 ?_
    case y16 => intro o' ho W; simp only [execOp, ho]; go_simp; try rfl
    simp only [Act.put, List.setIfInBounds_toArray, List.set_cons_zero, List.set_cons_succ]
    obtain ⟨HL2, HG2⟩ := (HM.out.at_.below HBR).ring (m := { l1 with ring := l1.ring ++ l1.tail.take mm }) HT2.out HR2.out rfl rfl rfl rfl rfl rfl
    obtain ⟨hT3, hb3⟩ := HL2.T.from mm hmt
    have HL3 := HL2.tail _ _ hT3 (fun k e => HL2.tn k (hb3 k e))
    have f5 : w2.frozen? ⟨L, 5, none⟩ = false := HL2.froz 5
    have s5 : w2.cell? ⟨L, 5, none⟩ = some (.slice atl tl ct) := HS1.2
    have HG3 := Sl.mk (((HM.out.goes.trans (OGoes.below L rb rp _ _ _ HBR)).trans HG2).trans (goes_set w2 L rb rp _ _ _ 5 (.slice (fromA atl mm ct) (tl - mm) (ct - mm)) (tv' := .slice (fromA atl mm ct) (tl - mm) (ct - mm)) (fun k e => .inl (hb3 k e)) (fun k e => .inl e) (fun k e => .inl e)))
    obtain ⟨rr, hrr⟩ : ∃ k, tl - mm = k := ⟨_, rfl⟩
    rw [hrr] at HL3 HG3
    rw [hrr]
    obtain ⟨w3, hw3⟩ : ∃ V, w2.setCell ⟨L, 5, none⟩ (.slice (fromA atl mm ct) rr (ct - mm)) = V := ⟨_, rfl⟩
    refine last_store (d := none) (op := .store 49 (Operand.tmp 20) (Operand.tmp 18)) (g := none) (t := 0) 17 (w2.setCell ⟨L, 5, none⟩ (.slice (fromA atl mm ct) rr (ct - mm))) rfl (by kernel_rfl) (by kernel_rfl) ?y17 (by kernel_rfl) ?_
    case y17 => intro o' ho ht; simp only [execOp, ho]; go_simp; try rfl
    simp only [Act.put]
    rw [hw3]
    rw [hw3] at HL3 HG3
    refine last_done (by kernel_rfl) ?_ _
    refine NoPanic.normal ?_
    have HLF : Sl (LegAt w0 w3 L sb mb rb rp (.slice (fromA atl mm ct) rr (ct - mm)) k1 q1 c (fill c l1)) := ⟨by
      unfold LegPlain.fill
      rw [HTK.out, HDP.out]
      exact HL3⟩
    have HRR : Sl ((fill c l1).tail.length = rr) := ⟨by
      show (l1.tail.drop (c.out - l1.ring.length)).length = rr
      rw [HDP.out, List.length_drop, HTL.out]; exact hrr⟩
    clear HL3 HT2 HR2 HX2 HS1 HS0 HBR PT HL2 HG2 hT3 hb3 f5 s5 c4 c5 hrr HTK HDP hw3 hmt htl5 HTL
    obtain ⟨-, -, -, -, -, d5, -⟩ := HLF.out.cells
    by_cases hr0 : 0 < rr
    · have hq : ((rr : Int) > 0) = True := eq_true (by omega)
      have hqn : (0 < rr) = True := eq_true hr0
      have HEQ : Sl (mv c (l.ctl.length + l.rest.length) l = fill c l1) := ⟨by
        rw [← HM.out.eq]
        exact mv_full (fun e => by have := HRR.out; rw [e, List.length_nil] at this; omega)⟩
      clear HM hr0
      go_wp2
      (try simp only [Exit.inBlock, Exit.then])
      refine bodyPost_ret (results_none rfl _ _ _) rfl ?_
      rw [HEQ.out]
      exact ⟨_, _, _, rfl, HLF, HG3⟩
    · obtain rfl : rr = 0 := by omega
      have hq : (((0 : Nat) : Int) > 0) = False := eq_false (by omega)
      have HT0 : Sl ((fill c l1).tail = []) := ⟨List.eq_nil_of_length_eq_zero HRR.out⟩
      have hcs : l1.ctl.length ≤ 1000000 ∧ l1.rest.length ≤ 1000000 := by have := HM.out.few; have := HM.out.num; omega
      cases hc : l1.ctl with
      | cons f cs =>
        have HFI := HM.out.ctl f (by rw [hc]; exact List.mem_cons_self)
        obtain ⟨fin, k, m, ka, kb, kc, kd, s, rfl, hk4, hfm, hsz⟩ := wait_parts (f := f) (.inl HFI)
        have HFS := Sl.mk HFI
        have NX := onext_ctl HLF.out fin (k:Int) m ka kb kc kd s cs hc (by rw [hc] at hcs; rw [List.length_cons] at hcs; omega)
        clear HFI
        go_upto_region 2 with fail
        go_wp2_with fail
        refine NX.mono ?_
        rintro e w4 ⟨u, rfl, HL4, HG4⟩
        clear NX d5
        obtain ⟨w5, hw5, HB5, HF5⟩ := Cut.laid_fv w4 #[.bool fin, .int .i64 (k:Int), .bool m, .int .u8 ((ka : Nat) : Int), .int .u8 ((kb : Nat) : Int), .int .u8 ((kc : Nat) : Int), .int .u8 ((kd : Nat) : Int), .string s]
        have HIB : (Tryz.prog.info? 61).map (·.size) = some (#[.bool fin, .int .i64 (k:Int), .bool m, .int .u8 ((ka : Nat) : Int), .int .u8 ((kb : Nat) : Int), .int .u8 ((kc : Nat) : Int), .int .u8 ((kd : Nat) : Int), .string s] : Array Value).size := Fra.box_size _ _ _ _ _ _ _ _
        go_upto_region 3 with (refine wpList_store_row rfl 61 (.tmp 2) (.tmp 30) rfl w4.heap.size #[.bool fin, .int .i64 (k:Int), .bool m, .int .u8 ((ka : Nat) : Int), .int .u8 ((kb : Nat) : Int), .int .u8 ((kc : Nat) : Int), .int .u8 ((kd : Nat) : Int), .string s] rfl rfl 61 #[.bool false, .int .i64 0, .bool false, .int .u8 0, .int .u8 0, .int .u8 0, .int .u8 0, .string { data := #[] }] (Fra.bx_new w4 _) HIB rfl (Fra.fr_all _ _ _ _ _ _ _ _) ?_)
        (try rw [hw5])
        clear hw5 HIB
        have HL5 := Sl.mk (HL4.out.below HB5.out)
        have HG5 := Sl.mk ((HG3.out.trans HG4.out).trans (OGoes.below L rb rp _ _ _ HB5.out))
        obtain ⟨b0, b1, b2, b3, b4, b5, b6, b7⟩ := Fra.bx_cells HF5.out
        have OB := obytes_any HL5.out HGL.out fin k m ka kb kc kd s hk4 hfm hsz
        clear HL4 HG4 HB5 HF5 HG3 hk4 hfm hsz
        go_wp2_with fail
        refine OB.mono ?_
        rintro e w6 ⟨g, n6, cap6, rfl, hge, HT6, HL6, HG6⟩
        clear OB b0 b1 b2 b3 b4 b5 b6 b7
        have HU6 : ∀ j, tblk (.slice (some ⟨g, 0, none⟩) n6 cap6) = some j → j = g := fun j e => by
          rw [tblk_some] at e
          split at e
          · cases e
          · injection e with e; exact e.symm
        have HOW5 : ∀ j, Own L rb rp (.slice (fromA atl mm ct) 0 (ct - mm)) u q1 j → j < w5.heap.size := fun j e => (HL5.out.own e).2
        have HL7 := HL6.out.tail _ _ HT6.out (fun j e => by
          have hj := HU6 j e
          have a1 := HOW5 L (.inl rfl)
          have a2 := HOW5 rb (.inr (.inl rfl))
          have a3 := HOW5 rp (.inr (.inr (.inl rfl)))
          refine ⟨by omega, by omega, by omega, fun e2 => ?_, fun e2 => ?_⟩
          · have := HOW5 j (.inr (.inr (.inr (.inr (.inl e2))))); omega
          · have := HOW5 j (.inr (.inr (.inr (.inr (.inr e2))))); omega)
        have f5 := HL6.out.froz 5
        obtain ⟨-, -, -, -, -, s5, -⟩ := HL6.out.cells
        have HG7 := Sl.mk (HG5.out.trans (HG6.out.retail 5 (.slice (some ⟨g, 0, none⟩) n6 cap6) (t2 := .slice (some ⟨g, 0, none⟩) n6 cap6) (fun j e => by have := HU6 j e; omega)))
        obtain ⟨w7, hw7⟩ : ∃ V, w6.setCell ⟨L, 5, none⟩ (.slice (some ⟨g, 0, none⟩) n6 cap6) = V := ⟨_, rfl⟩
        rw [hw7] at HL7 HG7
        obtain ⟨np, hnp⟩ : ∃ np, n = np + 1 := ⟨n - 1, by have := HM.out.num; rw [hc, List.length_cons] at this; omega⟩
        subst hnp
        have HNUM := HM.out.num
        have HFEW := HM.out.few
        rw [hc, List.length_cons] at HNUM
        have HIO := LegPlain.IsC.out (c := c) HFS.out (draws c (fill c l1).draw)
        have hme := HL7.meas
        have HMN : Sl (MV w0 W w7 L sb mb rb rp tv kv qv c l np (put c { fill c l1 with ctl := cs } (⟨fin, (k:Int), m, [ka, kb, kc, kd], bytes s⟩ : Fr)) (.slice (some ⟨g, 0, none⟩) n6 cap6) u q1) := ⟨{
          at_ := HL7.inner rfl rfl rfl rfl rfl rfl rfl
          goes := HG7.out
          num := by show np = cs.length + l1.rest.length; omega
          eq := by rw [← HM.out.eq]; exact (mv_ctl HT0.out hc).symm
          ctl := fun x hx => HM.out.ctl x (by rw [hc]; exact List.mem_cons_of_mem _ hx)
          rest := HM.out.rest
          small := HIO.small' HF.out
          len := by
            have h1 := LegPlain.out_len HIO HF.out
            have h2 := HIO.len
            have h3 := HF.out
            show (text (dress c (draws c (fill c l1).draw) (⟨fin, (k:Int), m, [ka, kb, kc, kd], bytes s⟩ : Fr))).length ≤ 100000
            omega
          few := by omega }⟩
        have hms2 : meas L w7 < meas L wr := by
          rw [hme, HMS.out]
          show cs.length + l1.rest.length < _; rw [hc, List.length_cons]; omega
        clear HL6 HT6 HG6 HG5 HOW5 hme HIO HL7
        go_wp2
        (try rw [hw7])
        exact ⟨⟨np, _, _, _, _, HMN⟩, hms2⟩
      | nil =>
        cases hcr : l1.rest with
        | cons f cs =>
          have HFI := HM.out.rest f (by rw [hcr]; exact List.mem_cons_self)
          obtain ⟨fin, k, m, ka, kb, kc, kd, s, rfl, hk4, hfm, hsz⟩ := wait_parts (f := f) (.inr ⟨c.frm, HF.out, HFI⟩)
          have HFS := Sl.mk HFI
          have NX := onext_rest HLF.out fin (k:Int) m ka kb kc kd s cs hc hcr (by rw [hcr] at hcs; rw [List.length_cons] at hcs; omega)
          clear HFI
          go_upto_region 2 with fail
          go_wp2_with fail
          refine NX.mono ?_
          rintro e w4 ⟨u, rfl, HL4, HG4⟩
          clear NX d5
          obtain ⟨w5, hw5, HB5, HF5⟩ := Cut.laid_fv w4 #[.bool fin, .int .i64 (k:Int), .bool m, .int .u8 ((ka : Nat) : Int), .int .u8 ((kb : Nat) : Int), .int .u8 ((kc : Nat) : Int), .int .u8 ((kd : Nat) : Int), .string s]
          have HIB : (Tryz.prog.info? 61).map (·.size) = some (#[.bool fin, .int .i64 (k:Int), .bool m, .int .u8 ((ka : Nat) : Int), .int .u8 ((kb : Nat) : Int), .int .u8 ((kc : Nat) : Int), .int .u8 ((kd : Nat) : Int), .string s] : Array Value).size := Fra.box_size _ _ _ _ _ _ _ _
          go_upto_region 3 with (refine wpList_store_row rfl 61 (.tmp 2) (.tmp 30) rfl w4.heap.size #[.bool fin, .int .i64 (k:Int), .bool m, .int .u8 ((ka : Nat) : Int), .int .u8 ((kb : Nat) : Int), .int .u8 ((kc : Nat) : Int), .int .u8 ((kd : Nat) : Int), .string s] rfl rfl 61 #[.bool false, .int .i64 0, .bool false, .int .u8 0, .int .u8 0, .int .u8 0, .int .u8 0, .string { data := #[] }] (Fra.bx_new w4 _) HIB rfl (Fra.fr_all _ _ _ _ _ _ _ _) ?_)
          (try rw [hw5])
          clear hw5 HIB
          have HL5 := Sl.mk (HL4.out.below HB5.out)
          have HG5 := Sl.mk ((HG3.out.trans HG4.out).trans (OGoes.below L rb rp _ _ _ HB5.out))
          obtain ⟨b0, b1, b2, b3, b4, b5, b6, b7⟩ := Fra.bx_cells HF5.out
          have OB := obytes_any HL5.out HGL.out fin k m ka kb kc kd s hk4 hfm hsz
          clear HL4 HG4 HB5 HF5 HG3 hk4 hfm hsz
          go_wp2_with fail
          refine OB.mono ?_
          rintro e w6 ⟨g, n6, cap6, rfl, hge, HT6, HL6, HG6⟩
          clear OB b0 b1 b2 b3 b4 b5 b6 b7
          have HU6 : ∀ j, tblk (.slice (some ⟨g, 0, none⟩) n6 cap6) = some j → j = g := fun j e => by
            rw [tblk_some] at e
            split at e
            · cases e
            · injection e with e; exact e.symm
          have HOW5 : ∀ j, Own L rb rp (.slice (fromA atl mm ct) 0 (ct - mm)) k1 u j → j < w5.heap.size := fun j e => (HL5.out.own e).2
          have HL7 := HL6.out.tail _ _ HT6.out (fun j e => by
            have hj := HU6 j e
            have a1 := HOW5 L (.inl rfl)
            have a2 := HOW5 rb (.inr (.inl rfl))
            have a3 := HOW5 rp (.inr (.inr (.inl rfl)))
            refine ⟨by omega, by omega, by omega, fun e2 => ?_, fun e2 => ?_⟩
            · have := HOW5 j (.inr (.inr (.inr (.inr (.inl e2))))); omega
            · have := HOW5 j (.inr (.inr (.inr (.inr (.inr e2))))); omega)
          have f5 := HL6.out.froz 5
          obtain ⟨-, -, -, -, -, s5, -⟩ := HL6.out.cells
          have HG7 := Sl.mk (HG5.out.trans (HG6.out.retail 5 (.slice (some ⟨g, 0, none⟩) n6 cap6) (t2 := .slice (some ⟨g, 0, none⟩) n6 cap6) (fun j e => by have := HU6 j e; omega)))
          obtain ⟨w7, hw7⟩ : ∃ V, w6.setCell ⟨L, 5, none⟩ (.slice (some ⟨g, 0, none⟩) n6 cap6) = V := ⟨_, rfl⟩
          rw [hw7] at HL7 HG7
          obtain ⟨np, hnp⟩ : ∃ np, n = np + 1 := ⟨n - 1, by have := HM.out.num; rw [hcr, List.length_cons] at this; omega⟩
          subst hnp
          have HNUM := HM.out.num
          have HFEW := HM.out.few
          rw [hc, hcr, List.length_cons, List.length_nil] at HNUM
          have HIO := LegPlain.IsR.out (c := c) HFS.out (draws c (fill c l1).draw)
          have hme := HL7.meas
          have HMN : Sl (MV w0 W w7 L sb mb rb rp tv kv qv c l np (put c { fill c l1 with rest := cs } (⟨fin, (k:Int), m, [ka, kb, kc, kd], bytes s⟩ : Fr)) (.slice (some ⟨g, 0, none⟩) n6 cap6) k1 u) := ⟨{
            at_ := HL7.inner rfl rfl rfl rfl rfl rfl rfl
            goes := HG7.out
            num := by show np = l1.ctl.length + cs.length; rw [hc, List.length_nil]; omega
            eq := by rw [← HM.out.eq]; exact (mv_rest HT0.out hc hcr).symm
            ctl := HM.out.ctl
            rest := fun x hx => HM.out.rest x (by rw [hcr]; exact List.mem_cons_of_mem _ hx)
            small := HIO.small' HF.out
            len := by
              have h1 := LegPlain.out_len HIO HF.out
              have h2 := HIO.len
              have h3 := HF.out
              show (text (dress c (draws c (fill c l1).draw) (⟨fin, (k:Int), m, [ka, kb, kc, kd], bytes s⟩ : Fr))).length ≤ 100000
              omega
            few := by omega }⟩
          have hms2 : meas L w7 < meas L wr := by
            rw [hme, HMS.out]
            show l1.ctl.length + cs.length < _; rw [hcr, List.length_cons]; omega
          clear HL6 HT6 HG6 HG5 HOW5 hme HIO HL7
          go_wp2
          (try rw [hw7])
          exact ⟨⟨np, _, _, _, _, HMN⟩, hms2⟩
        | nil =>
          have NX := onext_none HLF.out hc hcr
          have HEQ : Sl (mv c (l.ctl.length + l.rest.length) l = fill c l1) := ⟨by
            rw [← HM.out.eq, HM.out.num, hc, hcr]; rfl⟩
          clear HM
          go_upto_region 2 with fail
          go_wp2_with fail
          refine NX.mono ?_
          rintro e w4 ⟨rfl, HB4⟩
          clear NX d5
          obtain ⟨w5, hw5, HB5, HF5⟩ := Cut.laid_fv w4 #[.bool false, .int .i64 0, .bool false, .int .u8 0, .int .u8 0, .int .u8 0, .int .u8 0, .string { data := #[] }]
          have HIB : (Tryz.prog.info? 61).map (·.size) = some (#[.bool false, .int .i64 0, .bool false, .int .u8 0, .int .u8 0, .int .u8 0, .int .u8 0, .string { data := #[] }] : Array Value).size := by kernel_rfl
          have hallZ : (#[.bool false, .int .i64 0, .bool false, .int .u8 0, .int .u8 0, .int .u8 0, .int .u8 0, .string { data := #[] }] : Array Value).all (·.oneCell') = true := by simp [Value.oneCell']
          go_upto_region 3 with (refine wpList_store_row rfl 61 (.tmp 2) (.tmp 30) rfl w4.heap.size #[.bool false, .int .i64 0, .bool false, .int .u8 0, .int .u8 0, .int .u8 0, .int .u8 0, .string { data := #[] }] rfl rfl 61 #[.bool false, .int .i64 0, .bool false, .int .u8 0, .int .u8 0, .int .u8 0, .int .u8 0, .string { data := #[] }] (Fra.bx_new w4 _) HIB rfl hallZ ?_)
          (try rw [hw5])
          clear hw5 HIB hallZ
          have HL5 := (HLF.out.below HB4.out).below HB5.out
          have f5 := HL5.froz 5
          obtain ⟨-, -, -, -, -, s5, -⟩ := HL5.cells
          have HL6 := Sl.mk ((HL5.tail (.slice none 0 0) [] (tail_nil _ _) (fun k e => by cases e)).inner (m := fill c l1) rfl HT0.out rfl rfl rfl rfl rfl)
          have HG6 := Sl.mk (((HG3.out.trans (OGoes.below L rb rp _ _ _ HB4.out)).trans (OGoes.below L rb rp _ _ _ HB5.out)).retail 5 (.slice none 0 0) (t2 := .slice none 0 0) (fun k e => by cases e))
          obtain ⟨w6, hw6⟩ : ∃ V, w5.setCell ⟨L, 5, none⟩ (.slice none 0 0) = V := ⟨_, rfl⟩
          rw [hw6] at HL6 HG6
          clear HL5 HB4 HB5 HG3 HLF HF5
          go_wp2
          (try rw [hw6])
          (try simp only [Exit.inBlock, Exit.then])
          refine bodyPost_ret (results_none rfl _ _ _) rfl ?_
          rw [HEQ.out]
          exact ⟨_, _, _, rfl, HL6, HG6⟩
end
end Go.Proofs.YtlahonjmfecikaaGreatDoor.Leg
set_option maxRecDepth 100000
namespace Go.Proofs.YtlahonjmfecikaaGreatDoor.Leg
open Go.RowKit Stm
open FramePlain (Fr Fr0)
open LegPlain (Cf Lg)
open Msg (Kept MacS Mine)
open LegPlain (dress draws mv fill put IsC IsR Inv ctlF repl Settled)
open FramePlain (text size chk form zero4)
section
variable {w0 W W' : World} {L sb mb rb rp : Nat} {tv kv qv : Value} {c : Cf} {l : Lg}
theorem osend_any {Wa : World} (ha : LegAt w0 Wa L sb mb rb rp tv kv qv c l) (hb : Below Wa.heap.size Wa W) (hg : Mas.Globs w0) {v : Value} {m : Lg} (hv : FRow W w0.heap.size v m.rest) (hfr : ∀ k, v.ownBlock = some k → Wa.heap.size ≤ k) (e1 : m.ring = l.ring) (e2 : m.tail = l.tail) (e3 : m.ctl = l.ctl) (e5 : m.draw = l.draw) (e6 : m.wrong = l.wrong) (e7 : m.sent = l.sent) (hi : Inv c m) (ht : m.tail.length ≤ 100000) (hsm : Small 256 m.tail) (hf : c.frm ≤ 65536) (hn : m.ctl.length + m.rest.length ≤ 1000000) :
    Calls Tryz.prog 56 #[.pointer (some ⟨L, 4, none⟩), v] W fun e w' => ∃ tv' kv' qv', e = .returned (.tuple #[]) ∧ Sl (LegAt w0 w' L sb mb rb rp tv' kv' qv' c (LegPlain.move c m)) ∧ Sl (OGoes Wa w' L rb rp tv kv qv tv' kv' qv') := by
  have h := ha.below hb
  have HO : ∀ j, Own L rb rp tv kv qv j → j < Wa.heap.size := fun j e => (ha.own e).2
  have hset := h.set 7 v (m := m) (tv' := tv) (kv' := kv) (qv' := v) (by rw [e5, e6, e7]; rfl) e1 (by rw [e2]; exact h.T) (by rw [e3]; exact h.C) hv (by rw [e5]; exact h.dr) (fun k e => by
    obtain ⟨a1, a2, a3, a4, a5⟩ := h.tn k e
    exact ⟨a1, a2, a3, a4, fun e2 => by have := HO k (.inr (.inr (.inr (.inl e)))); have := hfr k e2; omega⟩) (fun k e e2 => by have := HO k (.inr (.inr (.inr (.inr (.inl e))))); have := hfr k e2; omega)
  have hgo : OGoes Wa (W.setCell ⟨L, 7, none⟩ v) L rb rp tv kv qv tv kv v := by
    have k0 := OGoes.below L rb rp tv kv qv hb
    exact ⟨k0.kept.trans (Kept.grown (S := fun k => k = L) (grown_setCell W L 7 v) (fun k e => by injection e with e; exact e.symm)) (fun j _ e => .inl e), fun k e => by
      rcases e with e | e | e | e | e | e
      · exact .inl (.inl e)
      · exact .inl (.inr (.inl e))
      · exact .inl (.inr (.inr (.inl e)))
      · exact .inl (.inr (.inr (.inr (.inl e))))
      · exact .inl (.inr (.inr (.inr (.inr (.inl e)))))
      · exact .inr (hfr k e)⟩
  obtain ⟨a, x, rfl⟩ := hv.slice
  obtain ⟨V, hV⟩ : ∃ V, W.setCell ⟨L, 7, none⟩ (.slice a m.rest.length x) = V := ⟨_, rfl⟩
  rw [hV] at hset hgo
  obtain ⟨-, -, -, -, -, -, -, c7, -⟩ := h.cells
  have f7 := h.froz 7
  have T := omove_any hset hg hi ht hsm hf hn
  have HG := Sl.mk hgo
  obtain ⟨n, hn2⟩ : ∃ n, m.rest.length = n := ⟨_, rfl⟩
  rw [hn2] at hV T HG ⊢
  clear ha hb hg h HO hset hgo hv hfr hi ht hsm hf hn hn2
  go_enter Tryz.func56, Tryz.ntmps56
  go_upto_region 1 with fail
  (try rw [hV])
  go_wp2_with fail
  refine T.mono ?_
  rintro e w2 ⟨t2, k2, q2, rfl, HL, HG2⟩
  clear T
  go_wp2
  go_end0
  exact ⟨_, _, _, rfl, HL, ⟨HG.out.trans HG2.out⟩⟩
theorem LegAt.addC (h : LegAt w0 W L sb mb rb rp tv kv qv c l) {V : World} {u : Value} {m : Lg} (hg : W.grownBy V kv.ownBlock) (hu : u.ownBlock = kv.ownBlock ∨ u.ownBlock = some W.heap.size) (hr : FRow V w0.heap.size u m.ctl) (e1 : m.ring = l.ring) (e2 : m.tail = l.tail) (e4 : m.rest = l.rest) (e5 : m.draw = l.draw) (e6 : m.wrong = l.wrong) (e7 : m.sent = l.sent) :
    LegAt w0 (V.setCell ⟨L, 6, none⟩ u) L sb mb rb rp tv u qv c m ∧ OGoes W (V.setCell ⟨L, 6, none⟩ u) L rb rp tv kv qv tv u qv := by
  obtain ⟨n1, n2, n3, n4, n5, n6, n7, n8, n9⟩ := h.kinds
  have hlt := h.lt
  have hX : V.heap[L]? = W.heap[L]? := hg.block L hlt (fun e => n4 e.symm)
  have hk2 := grown_setCell V L 6 u
  have hul : u.ownBlock ≠ some L := fun e => by
    rcases hu with h1 | h1
    · exact n4 (h1.symm.trans e)
    · rw [h1] at e; injection e with e; omega
  refine h.step (m := m) ((Kept.grown (S := fun j => j = L ∨ kv.ownBlock = some j ∨ qv.ownBlock = some j) hg (fun k e => .inr (.inl e))).trans (Kept.grown (S := fun j => j = L) hk2 (fun k e => by injection e with e; exact e.symm)) (fun j _ e => .inl e)) ?_ e1 ?_ ?_ ?_ (by rw [e5]; exact h.dr) (fun k e => .inl e) (fun k e => ?_) (fun k e => .inl e) (fun k e e2 => absurd (h.T.blk e).2.2 (by omega)) (fun k e hl e2 => ?_) (fun k e _ e2 => e2) (fun k e e2 => fun e3 => by have := h.D.lt e3; omega)
  · rw [heap_setCell_same _ _ _ _ _ _ (hX.trans h.X), e5, e6, e7]; rfl
  · rw [e2]
    exact h.T.kept fun k e => by
      obtain ⟨a1, a2, a3, a4, a5⟩ := h.tn k e
      rw [heap_setCell_other _ _ _ _ a1]
      exact hg.block k (h.T.blk e).2.2 (fun e2 => a4 e2.symm)
  · exact hr.grown hk2 (fun j e e2 => hul (e.trans e2))
  · rw [e4]
    refine h.D.block fun j e => ?_
    rw [heap_setCell_other _ _ _ _ (fun (e2 : j = L) => n5 (e2 ▸ e))]
    exact hg.block j (h.D.lt e) (fun e2 => h.cn _ e2.symm e)
  · rcases hu with h1 | h1
    · exact .inl (h1.symm.trans e)
    · rw [h1] at e; injection e with e; exact .inr (by omega)
  · rcases hu with h1 | h1
    · exact h1.symm.trans e2
    · rw [h1] at e2; injection e2 with e2; omega
theorem ocontrol_any (h : LegAt w0 W L sb mb rb rp tv kv qv c l) (hg : Mas.Globs w0) (op : Int) (d : ByteArray) {m : Lg} (e1 : m.ring = l.ring) (e2 : m.tail = l.tail) (e3 : m.ctl = l.ctl ++ [ctlF op (bytes d)]) (e4 : m.rest = l.rest) (e5 : m.draw = l.draw) (e6 : m.wrong = l.wrong) (e7 : m.sent = l.sent) (hi : Inv c m) (ht : m.tail.length ≤ 100000) (hsm : Small 256 m.tail) (hf : c.frm ≤ 65536) (hn : m.ctl.length + m.rest.length ≤ 1000000) :
    Calls Tryz.prog 58 #[.pointer (some ⟨L, 4, none⟩), .int .i64 op, .string d] W fun e w' => ∃ tv' kv' qv', e = .returned (.tuple #[]) ∧ Sl (LegAt w0 w' L sb mb rb rp tv' kv' qv' c (LegPlain.move c m)) ∧ Sl (OGoes W w' L rb rp tv kv qv tv' kv' qv') := by
  obtain ⟨-, -, -, -, -, -, c6, -⟩ := h.cells
  obtain ⟨X, hX⟩ : ∃ V, W.alloc (.cells #[.bool true, .int .i64 op, .bool false, .int .u8 0, .int .u8 0, .int .u8 0, .int .u8 0, .string d] 61) = V := ⟨_, rfl⟩
  have HX : Below W.heap.size W X := by rw [← hX]; exact (Below.refl _ _).alloc (Nat.le_refl _) _
  have hXn : X.heap[W.heap.size]? = some (.cells #[.bool true, .int .i64 op, .bool false, .int .u8 0, .int .u8 0, .int .u8 0, .int .u8 0, .string d] 61 (0, 0)) := by rw [← hX]; exact alloc_new _ _ _ rfl
  have hL := h.below HX
  have hlen : l.ctl.length + 1 ≤ 1000000 := by rw [e3, List.length_append, List.length_singleton] at hn; omega
  obtain ⟨v1, w1, hap, hr1, hg1, hb1⟩ := hL.C.add (frs_one (f := ctlF op (bytes d)) hXn (by simp [cv, ctlF, strOf_bytes, zero4])) hlen hL.low.size
  rw [← e3] at hr1
  obtain ⟨hL2, hG2⟩ := hL.addC hg1 hb1 hr1 e1 e2 e4 e5 e6 e7
  have f6 : w1.frozen? ⟨L, 6, none⟩ = false := by rw [World.frozen?_of_block (w := X) (hg1.block L hL.lt (fun e => hL.kinds.2.2.2.1 e.symm))]; exact hL.froz 6
  have s6 : w1.cell? ⟨L, 6, none⟩ = some kv := by rw [World.cell?_of_block (w := X) (hg1.block L hL.lt (fun e => hL.kinds.2.2.2.1 e.symm))]; exact hL.cells.2.2.2.2.2.2.1
  obtain ⟨av, nv, cw, rfl⟩ : ∃ a n c, v1 = .slice a n c := by obtain ⟨a, c, h⟩ := hr1.slice; exact ⟨a, _, c, h⟩
  obtain ⟨V, hV⟩ : ∃ V, w1.setCell ⟨L, 6, none⟩ (.slice av nv cw) = V := ⟨_, rfl⟩
  rw [hV] at hL2 hG2
  have T := omove_any hL2 hg hi ht hsm hf hn
  have HG := Sl.mk ((OGoes.below L rb rp tv kv qv HX).trans hG2)
  obtain ⟨ak, nk, ck, rfl⟩ : ∃ a n c, kv = .slice a n c := by obtain ⟨a, c, h⟩ := h.C.slice; exact ⟨a, _, c, h⟩
  clear h hg HX hXn hL hlen hr1 hg1 hb1 hL2 hG2 hi ht hsm hf hn
  go_enter Tryz.func58, Tryz.ntmps58
  go_upto_region 1 with (at_builtin; refine Cut.wpList_appV rfl (.tmp 10) (.tmp 14) 34 34 rfl rfl _ _ (.slice av nv cw) w1 rfl rfl (by first | exact hap | (rw [hX]; exact hap)) ?_)
  (try rw [hV])
  go_wp2_with fail
  refine T.mono ?_
  rintro e w2 ⟨t2, k2, q2, rfl, HL, HG2⟩
  clear T
  go_wp2
  go_end0
  exact ⟨_, _, _, rfl, HL, ⟨HG.out.trans HG2.out⟩⟩
theorem LegAt.norest (h : LegAt w0 W L sb mb rb rp tv kv qv c l) : LegAt w0 (W.setCell ⟨L, 7, none⟩ (.slice none 0 0)) L sb mb rb rp tv kv (.slice none 0 0) c { l with rest := [] } ∧ OGoes W (W.setCell ⟨L, 7, none⟩ (.slice none 0 0)) L rb rp tv kv qv tv kv (.slice none 0 0) :=
  ⟨h.set 7 _ (m := { l with rest := [] }) rfl rfl h.T h.C (frow_nil _ _) h.dr (fun k e => by obtain ⟨a1, a2, a3, a4, a5⟩ := h.tn k e; exact ⟨a1, a2, a3, a4, fun e => by cases e⟩) (fun k _ e => by cases e), goes_set W L rb rp tv kv qv 7 _ (fun _ e => .inl e) (fun _ e => .inl e) (fun _ e => by cases e)⟩
theorem oend_any (h : LegAt w0 W L sb mb rb rp tv kv qv c l) (hg : Mas.Globs w0) (d : ByteArray) {m : Lg} (e1 : m.ring = l.ring) (e2 : m.tail = l.tail) (e3 : m.ctl = l.ctl ++ [ctlF 8 (bytes d)]) (e4 : m.rest = []) (e5 : m.draw = l.draw) (e6 : m.wrong = l.wrong) (e7 : m.sent = l.sent) (hi : Inv c m) (ht : m.tail.length ≤ 100000) (hsm : Small 256 m.tail) (hf : c.frm ≤ 65536) (hn : m.ctl.length + m.rest.length ≤ 1000000) :
    Calls Tryz.prog 61 #[.pointer (some ⟨L, 4, none⟩), .string d] W fun e w' => ∃ tv' kv' qv', e = .returned (.tuple #[]) ∧ Sl (LegAt w0 w' L sb mb rb rp tv' kv' qv' c (LegPlain.move c m)) ∧ Sl (OGoes W w' L rb rp tv kv qv tv' kv' qv') := by
  obtain ⟨-, -, -, -, -, -, -, c7, -⟩ := h.cells
  have f7 := h.froz 7
  obtain ⟨hL, hG⟩ := h.norest
  obtain ⟨V, hV⟩ : ∃ V, W.setCell ⟨L, 7, none⟩ (.slice none 0 0) = V := ⟨_, rfl⟩
  rw [hV] at hL hG
  have T := ocontrol_any hL hg 8 d (m := m) e1 e2 e3 e4 e5 e6 e7 hi ht hsm hf hn
  have HG := Sl.mk hG
  obtain ⟨ak, nk, ck, rfl⟩ : ∃ a n c, qv = .slice a n c := by obtain ⟨a, c, h⟩ := h.D.slice; exact ⟨a, _, c, h⟩
  clear h hg hL hG hi ht hsm hf hn
  go_enter Tryz.func61, Tryz.ntmps61
  go_upto_region 1 with fail
  (try rw [hV])
  go_wp2_with fail
  refine T.mono ?_
  rintro e w2 ⟨t2, k2, q2, rfl, HL, HG2⟩
  clear T
  go_wp2
  go_end0
  exact ⟨_, _, _, rfl, HL, ⟨HG.out.trans HG2.out⟩⟩
theorem otake_any (h : LegAt w0 W L sb mb rb rp tv kv qv c l) (hg : Mas.Globs w0) (z : Int) (out : List Nat) (ho : l.ring.take z.toNat = out) (k : Nat) (hk : out.length = k) {m : Lg} (e1 : m.ring = l.ring.drop z.toNat) (e2 : m.tail = l.tail) (e3 : m.ctl = l.ctl) (e4 : m.rest = l.rest) (e5 : m.draw = l.draw) (e6 : m.wrong = l.wrong) (e7 : m.sent = l.sent) (hi : Inv c m) (ht : m.tail.length ≤ 100000) (hsm : Small 256 m.tail) (hf : c.frm ≤ 65536) (hn : m.ctl.length + m.rest.length ≤ 1000000) :
    Calls Tryz.prog 62 #[.pointer (some ⟨L, 4, none⟩), .int .i64 z] W fun e w' => ∃ tv' kv' qv', e = .returned (.slice (some ⟨W.heap.size, 0, none⟩) k k) ∧ Sl (RowB w' W.heap.size out) ∧ Sl (LegAt w0 w' L sb mb rb rp tv' kv' qv' c (LegPlain.move c m)) ∧ Sl (OGoes W w' L rb rp tv kv qv tv' kv' qv') := by
  obtain ⟨-, -, -, -, c4, -⟩ := h.cells
  have T1 := Rng.take_ex w0 W rb rp c.out k l.ring out (l.ring.drop z.toNat) z h.low h.B.2.1 h.B.2.2 h.R ho hk rfl
  have HO : Sl (∀ j, Own L rb rp tv kv qv j → j < W.heap.size) := ⟨fun j e => (h.own e).2⟩
  have H := Sl.mk h
  have HGL := Sl.mk hg
  have HPM : Sl (Inv c m ∧ m.tail.length ≤ 100000 ∧ Small 256 m.tail ∧ c.frm ≤ 65536 ∧ m.ctl.length + m.rest.length ≤ 1000000) := ⟨hi, ht, hsm, hf, hn⟩
  have HE : Sl (m.ring = l.ring.drop z.toNat ∧ m.tail = l.tail ∧ m.ctl = l.ctl ∧ m.rest = l.rest ∧ m.draw = l.draw ∧ m.wrong = l.wrong ∧ m.sent = l.sent) := ⟨e1, e2, e3, e4, e5, e6, e7⟩
  clear h hg hi ht hsm hf hn e1 e2 e3 e4 e5 e6 e7 ho hk
  go_enter Tryz.func62, Tryz.ntmps62
  go_wp2_with fail
  refine T1.mono ?_
  rintro e w2 ⟨rfl, HR, HQ, HT, -⟩
  obtain ⟨hL, hG⟩ := H.out.ring (m := m) HT.out (by rw [HE.out.1]; exact HQ.out) HE.out.2.1 HE.out.2.2.1 HE.out.2.2.2.1 HE.out.2.2.2.2.1 HE.out.2.2.2.2.2.1 HE.out.2.2.2.2.2.2
  have T2 := omove_any hL HGL.out HPM.out.1 HPM.out.2.1 HPM.out.2.2.1 HPM.out.2.2.2.1 HPM.out.2.2.2.2
  have HG := Sl.mk hG
  clear T1 hL hG HT HQ c4
  go_wp2_with fail
  refine T2.mono ?_
  rintro e w3 ⟨t2, k2, q2, rfl, HL, HG2⟩
  have HR3 : Sl (RowB w3 W.heap.size out) := ⟨by
    unfold RowB
    rw [HG2.out.kept.block _ HR.out.lt (fun e => Nat.lt_irrefl _ (HO.out _ e))]
    exact HR.out⟩
  clear T2 HR
  go_wp2
  go_ret
  exact ⟨_, _, _, rfl, HR3, HL, ⟨HG.out.trans HG2.out⟩⟩
end
end Go.Proofs.YtlahonjmfecikaaGreatDoor.Leg
namespace LegPlain
open FramePlain (Fr Fr0 form ctl zero4 text)
open MsgPlain (Ev Ms M0 run run_cons Fit)
open ClosePlain (putC getC codeC acrossC valid)
theorem mv_ctl {c : Cf} {l : Lg} {f : Fr} {cs : List Fr} {n : Nat} (ht : (fill c l).tail = []) (hc : l.ctl = f :: cs) : mv c (n + 1) l = mv c n (put c { fill c l with ctl := cs } f) := by
  rw [mv, if_neg (fun e => e ht)]
  have : ∀ x : List Fr, x = f :: cs → (match x, l.rest with
    | f :: cs, _ => mv c n (put c { fill c l with ctl := cs } f)
    | [], f :: r => mv c n (put c { fill c l with rest := r } f)
    | [], [] => fill c l) = mv c n (put c { fill c l with ctl := cs } f) := fun x e => by subst e; rfl
  exact this _ hc
theorem mv_rest {c : Cf} {l : Lg} {f : Fr} {cs : List Fr} {n : Nat} (ht : (fill c l).tail = []) (hc : l.ctl = []) (hr : l.rest = f :: cs) : mv c (n + 1) l = mv c n (put c { fill c l with rest := cs } f) := by
  rw [mv, if_neg (fun e => e ht)]
  have : ∀ x y : List Fr, x = [] → y = f :: cs → (match x, y with
    | f :: cs, _ => mv c n (put c { fill c l with ctl := cs } f)
    | [], f :: r => mv c n (put c { fill c l with rest := r } f)
    | [], [] => fill c l) = mv c n (put c { fill c l with rest := cs } f) := fun x y e e2 => by subst e e2; rfl
  exact this _ _ hc hr
theorem mv_none {c : Cf} {l : Lg} {n : Nat} (hc : l.ctl = []) (hr : l.rest = []) : mv c n l = fill c l := by
  cases n with
  | zero => rfl
  | succ n =>
    rw [mv]
    split
    · rfl
    · have : ∀ x y : List Fr, x = [] → y = [] → (match x, y with
        | f :: cs, _ => mv c n (put c { fill c l with ctl := cs } f)
        | [], f :: r => mv c n (put c { fill c l with rest := r } f)
        | [], [] => fill c l) = fill c l := fun x y e e2 => by subst e e2; rfl
      exact this _ _ hc hr
theorem mv_full {c : Cf} {l : Lg} {n : Nat} (ht : (fill c l).tail ≠ []) : mv c n l = fill c l := by
  cases n with
  | zero => rfl
  | succ n => rw [mv, if_pos ht]
theorem mv_sl (c : Cf) : ∀ (n : Nat) (l : Lg) (b : Bool) (d : List Nat), mv c n { l with sent := b, last := d } = { mv c n l with sent := b, last := d }
  | 0, _, _, _ => rfl
  | n + 1, l, b, d => by
    by_cases ht : (fill c l).tail ≠ []
    · rw [mv_full ht, mv_full (l := { l with sent := b, last := d }) ht]; rfl
    · have ht' : (fill c l).tail = [] := Classical.byContradiction ht
      have key : ∀ x y, l.ctl = x → l.rest = y → mv c (n + 1) { l with sent := b, last := d } = { mv c (n + 1) l with sent := b, last := d } := fun x y hx hy => by
        cases x with
        | cons f cs =>
          rw [mv_ctl ht' hx, mv_ctl (l := { l with sent := b, last := d }) ht' hx]
          exact mv_sl c n (put c { fill c l with ctl := cs } f) b d
        | nil =>
          cases y with
          | cons f r =>
            rw [mv_rest ht' hx hy, mv_rest (l := { l with sent := b, last := d }) ht' hx hy]
            exact mv_sl c n (put c { fill c l with rest := r } f) b d
          | nil => rw [mv_none hx hy, mv_none (l := { l with sent := b, last := d }) hx hy]; rfl
      exact key _ _ rfl rfl
theorem move_sl (c : Cf) (l : Lg) (b : Bool) (d : List Nat) : move c { l with sent := b, last := d } = { move c l with sent := b, last := d } := mv_sl c _ l b d
theorem move_wait {c : Cf} {l : Lg} (ht : l.tail ≠ []) (hr : l.ring.length = c.out) : move c l = l := by
  have hf : fill c l = l := by
    unfold fill
    rw [hr, Nat.sub_self, List.take_zero, List.drop_zero, List.append_nil]
  unfold move
  cases hn : l.ctl.length + l.rest.length with
  | zero => exact hf
  | succ n => rw [mv, if_pos (by rw [hf]; exact ht)]; exact hf
theorem repl_at (d : List Nat) : ∀ (l : List Fr) (i : Nat), i < l.length → (l.getD i Fr0).op = 10 → (∀ j, j < i → (l.getD j Fr0).op ≠ 10) → repl d l = l.set i { l.getD i Fr0 with data := d } ∧ (l.any fun f => decide (f.op = 10)) = true
  | [], i, hi, _, _ => absurd hi (Nat.not_lt_zero _)
  | f :: l, 0, _, h, _ => by
    have h : f.op = 10 := h
    unfold repl
    rw [if_pos h]
    exact ⟨rfl, by simp [h]⟩
  | f :: l, i + 1, hi, h, hb => by
    have h0 : ¬ f.op = 10 := hb 0 (Nat.succ_pos _)
    obtain ⟨e1, e2⟩ := repl_at d l i (by simpa using hi) h (fun j hj => hb (j + 1) (by omega))
    unfold repl
    rw [if_neg h0, e1]
    refine ⟨rfl, ?_⟩
    rw [List.any_cons, e2, Bool.or_true]
theorem no_pong (l : List Fr) (h : ∀ j, j < l.length → (l.getD j Fr0).op ≠ 10) : (l.any fun f => decide (f.op = 10)) = false := by
  rw [List.any_eq_false]
  intro f hf
  obtain ⟨i, hi, rfl⟩ := List.getElem_of_mem hf
  have := h i hi
  rw [List.getD_eq_getElem?_getD, List.getElem?_eq_getElem hi] at this
  simpa using this
theorem first_pong : ∀ (l : List Fr), ∃ i, i ≤ l.length ∧ (∀ j, j < i → (l.getD j Fr0).op ≠ 10) ∧ (i < l.length → (l.getD i Fr0).op = 10)
  | [] => ⟨0, Nat.le_refl _, fun j hj => absurd hj (Nat.not_lt_zero _), fun h => absurd h (Nat.lt_irrefl _)⟩
  | f :: l => by
    by_cases h : f.op = 10
    · exact ⟨0, Nat.zero_le _, fun j hj => absurd hj (Nat.not_lt_zero _), fun _ => h⟩
    · obtain ⟨i, h1, h2, h3⟩ := first_pong l
      refine ⟨i + 1, by simpa using h1, fun j hj => ?_, fun hi => h3 (by simpa using hi)⟩
      cases j with
      | zero => exact h
      | succ j => exact h2 j (by omega)
theorem get_code {s : List Nat} (h : (getC s).2.2 = 0) : (getC s).1 = 1005 ∨ valid (getC s).1 = true := by
  match s, h with
  | [], _ => exact .inl rfl
  | [_], h => cases h
  | x :: y :: l, h =>
    rw [ClosePlain.getC_two] at h ⊢
    by_cases h1 : 123 < l.length ∨ valid ((256 * x + y : Nat) : Int) = false
    · rw [if_pos h1] at h; cases h
    rw [if_neg h1] at h ⊢
    by_cases h2 : ClosePlain.lets l = false
    · rw [if_pos h2] at h; cases h
    rw [if_neg h2]
    exact .inr (by simpa using fun e => h1 (.inr e))
theorem step_code (most : Int) {st : Ms} (h8 : st.begun = true → st.op ≠ 8) (f : Fr) : ∀ x, (MsgPlain.step most st f).2 = some x → x.op = 8 → x.code = 1005 ∨ valid x.code = true := by
  intro x hx hop
  unfold MsgPlain.step at hx
  by_cases a1 : form f = false
  · rw [if_pos a1] at hx; cases hx
  rw [if_neg a1] at hx
  by_cases a2 : f.op = 9 ∨ f.op = 10
  · rw [if_pos a2] at hx
    injection hx with hx
    rw [← hx] at hop
    have hop : f.op = 8 := hop
    omega
  rw [if_neg a2] at hx
  by_cases a3 : f.op = 8
  · rw [if_pos a3] at hx
    by_cases a4 : (getC f.data).2.2 = 0
    · rw [if_pos a4] at hx
      injection hx with hx
      rw [← hx]
      exact get_code a4
    · rw [if_neg a4] at hx; cases hx
  rw [if_neg a3] at hx
  by_cases a4 : decide (f.op = 0) ≠ st.begun
  · rw [if_pos a4] at hx; cases hx
  rw [if_neg a4] at hx
  obtain ⟨o, ho⟩ : ∃ o, (if st.begun = true then st.op else f.op) = o := ⟨_, rfl⟩
  have ho8 : o ≠ 8 := by
    rw [← ho]
    by_cases hb : st.begun = true
    · rw [if_pos hb]; exact h8 hb
    · rw [if_neg hb]; exact a3
  rw [ho] at hx
  unfold MsgPlain.more at hx
  by_cases a5 : most < ((st.text ++ f.data).length : Int)
  · rw [if_pos a5] at hx; cases hx
  rw [if_neg a5] at hx
  by_cases a6 : MsgPlain.okT o f.fin (st.text ++ f.data) = false
  · rw [if_pos a6] at hx; cases hx
  rw [if_neg a6] at hx
  by_cases a7 : f.fin = true
  · rw [if_pos a7] at hx
    injection hx with hx
    rw [← hx] at hop
    exact absurd hop ho8
  · rw [if_neg a7] at hx; cases hx
end LegPlain
set_option maxRecDepth 100000
namespace Go.Proofs.YtlahonjmfecikaaGreatDoor.Leg
open Go.RowKit Stm
open FramePlain (Fr Fr0)
open LegPlain (Cf Lg)
open Msg (Kept MacS Mine)
open LegPlain (dress draws mv fill put IsC IsR Inv ctlF repl Settled Few CfOk)
open FramePlain (text size chk form zero4)
open ClosePlain (putC codeC acrossC valid)
section
variable {w0 W W' : World} {L sb mb rb rp : Nat} {tv kv qv : Value} {c : Cf} {l : Lg}
theorem idxf_no (fs : List Fr) (v : Value) (w : World) (hv : FrsAt w v fs) (hl : fs.length ≤ 1000000) (hb : ∀ j, j < fs.length → (fs.getD j Fr0).op ≠ 10) :
    Calls Tryz.prog 115 #[v, .func (.func 114) #[] #[]] w fun e w' => e = .returned (.int .i64 (-1)) ∧ Sl (Below w.heap.size w w') := by
  obtain ⟨a, c, rfl⟩ := hv.slice
  have HV := Sl.mk hv
  obtain ⟨n, hn⟩ : ∃ n, fs.length = n := ⟨_, rfl⟩
  rw [hn] at HV hl hb ⊢
  have HN := Sl.mk hn
  have HB := Sl.mk hb
  clear hv hn hb 
  go_enter Tryz.func115, Tryz.ntmps115
  go_wp2
  go_loopw [8] (fun i' wr => ∃ k : Nat, i' = .int .i64 (k : Int) ∧ k ≤ n ∧ Sl (Below w.heap.size w wr)) (fun i' _ => n - (intOf i').toNat)
  case atStart => exact ⟨0, rfl, Nat.zero_le _, ⟨Below.refl _ _⟩⟩
  case round =>
    obtain ⟨k, rfl, hkn, HW⟩ := hrel
    by_cases hlt : k < n
    · have hq : ((k : Int) < (n : Int)) = True := eq_true (by omega)
      obtain ⟨sb, so, rfl⟩ := HV.out.cap.2 (by omega)
      obtain ⟨fin, op, m, ka, kb, kc, kd, s, hcv, hop⟩ : ∃ fin op m, ∃ ka kb kc kd : Nat, ∃ s, (cv (fs.getD k Fr0)).toArray = #[.bool fin, .int .i64 op, .bool m, .int .u8 ((ka : Nat) : Int), .int .u8 ((kb : Nat) : Int), .int .u8 ((kc : Nat) : Int), .int .u8 ((kd : Nat) : Int), .string s] ∧ (fs.getD k Fr0).op = op := ⟨_, _, _, _, _, _, _, _, rfl, rfl⟩
      obtain ⟨c0, c1, c2, c3, c4, c5, c6, c7⟩ := (HV.out.below HW.out).at8 k (by rw [HN.out]; omega) hcv
      clear hcv
      have hne : op ≠ 10 := by rw [← hop]; exact HB.out k (by omega)
      have WT := waits_any fin op m ka kb kc kd s false (beq_eq_false_iff_ne.2 hne) wr
      clear hop hne
      go_wp2_with fail
      refine WT.mono ?_
      rintro e w2 ⟨rfl, HB2⟩
      clear WT c0 c1 c2 c3 c4 c5 c6 c7
      go_wp2
      exact ⟨⟨k + 1, by go_num, by omega, ⟨HW.out.trans (HB2.out.mono HW.out.size)⟩⟩, by simp [intOf]; omega⟩
    · obtain rfl : k = n := by omega
      have hq : ((k : Int) < (k : Int)) = False := eq_false (by omega)
      go_wp2
      go_ret
      exact ⟨rfl, HW⟩
theorem idxf_yes (fs : List Fr) (v : Value) (w : World) (hv : FrsAt w v fs) (hl : fs.length ≤ 1000000) (i : Nat) (hi : i < fs.length) (hb : ∀ j, j < i → (fs.getD j Fr0).op ≠ 10) (hat : (fs.getD i Fr0).op = 10) :
    Calls Tryz.prog 115 #[v, .func (.func 114) #[] #[]] w fun e w' => e = .returned (.int .i64 (i : Int)) ∧ Sl (Below w.heap.size w w') := by
  obtain ⟨a, c, rfl⟩ := hv.slice
  have HV := Sl.mk hv
  obtain ⟨n, hn⟩ : ∃ n, fs.length = n := ⟨_, rfl⟩
  rw [hn] at HV hl hi ⊢
  have HN := Sl.mk hn
  have HB := Sl.mk hb
  have HAT := Sl.mk hat
  clear hv hn hb hat
  go_enter Tryz.func115, Tryz.ntmps115
  go_wp2
  go_loopw [8] (fun i' wr => ∃ k : Nat, i' = .int .i64 (k : Int) ∧ k ≤ i ∧ Sl (Below w.heap.size w wr)) (fun i' _ => n - (intOf i').toNat)
  case atStart => exact ⟨0, rfl, Nat.zero_le _, ⟨Below.refl _ _⟩⟩
  case round =>
    obtain ⟨k, rfl, hkn, HW⟩ := hrel
    have hq : ((k : Int) < (n : Int)) = True := eq_true (by omega)
    obtain ⟨sb, so, rfl⟩ := HV.out.cap.2 (by omega)
    obtain ⟨fin, op, m, ka, kb, kc, kd, s, hcv, hop⟩ : ∃ fin op m, ∃ ka kb kc kd : Nat, ∃ s, (cv (fs.getD k Fr0)).toArray = #[.bool fin, .int .i64 op, .bool m, .int .u8 ((ka : Nat) : Int), .int .u8 ((kb : Nat) : Int), .int .u8 ((kc : Nat) : Int), .int .u8 ((kd : Nat) : Int), .string s] ∧ (fs.getD k Fr0).op = op := ⟨_, _, _, _, _, _, _, _, rfl, rfl⟩
    obtain ⟨c0, c1, c2, c3, c4, c5, c6, c7⟩ := (HV.out.below HW.out).at8 k (by rw [HN.out]; omega) hcv
    clear hcv
    by_cases hki : k < i
    · have hne : op ≠ 10 := by rw [← hop]; exact HB.out k (by omega)
      have WT := waits_any fin op m ka kb kc kd s false (beq_eq_false_iff_ne.2 hne) wr
      clear hop hne
      go_wp2_with fail
      refine WT.mono ?_
      rintro e w2 ⟨rfl, HB2⟩
      clear WT c0 c1 c2 c3 c4 c5 c6 c7
      go_wp2
      exact ⟨⟨k + 1, by go_num, by omega, ⟨HW.out.trans (HB2.out.mono HW.out.size)⟩⟩, by simp [intOf]; omega⟩
    · obtain rfl : k = i := by omega
      have heq : op = 10 := by rw [← hop]; exact HAT.out
      have WT := waits_any fin op m ka kb kc kd s true (by rw [heq]; rfl) wr
      clear hop heq
      go_wp2_with fail
      refine WT.mono ?_
      rintro e w2 ⟨rfl, HB2⟩
      clear WT c0 c1 c2 c3 c4 c5 c6 c7
      go_wp2
      go_ret
      exact ⟨rfl, ⟨HW.out.trans (HB2.out.mono HW.out.size)⟩⟩
def ponged (c : Cf) (l : Lg) (d : List Nat) : Lg := if l.ctl.any (fun f => decide (f.op = 10)) = true then LegPlain.move c { l with ctl := repl d l.ctl } else LegPlain.control c l 10 d
theorem few_pm {k : Nat} (hf : Few c l k) (hk : k ≤ 1000) (hc : CfOk c) : Inv c l ∧ l.tail.length ≤ 100000 ∧ Small 256 l.tail ∧ c.frm ≤ 65536 ∧ l.ctl.length + l.rest.length ≤ 999990 := by
  have h1 := hc.f2
  have h2 := hc.m2
  have h3 := hf.tail
  have h4 := LegPlain.Good.ctl_le hf
  have h5 := LegPlain.rest_le hf
  refine ⟨hf.ok.inv, by omega, ?_, h1, by omega⟩
  have hb := hf.ok.inv.bytes
  intro x hx
  refine (LegPlain.all_out h1 l.hist hf.ok.inv.hist).2 x ?_
  rw [← hb]
  exact List.mem_append_right _ hx
theorem opong_any {k : Nat} (h : LegAt w0 W L sb mb rb rp tv kv qv c l) (hg : Mas.Globs w0) (hf : Few c l k) (hk : k ≤ 1000) (hc : CfOk c) (d : ByteArray) (hd : d.size ≤ 125) :
    Calls Tryz.prog 85 #[.pointer (some ⟨L, 4, none⟩), .string d] W fun e w' => ∃ tv' kv' qv', e = .returned (.tuple #[]) ∧ Sl (LegAt w0 w' L sb mb rb rp tv' kv' qv' c (ponged c l (bytes d))) ∧ Sl (OGoes W w' L rb rp tv kv qv tv' kv' qv') := by
  obtain ⟨p1, p2, p3, p4, p5⟩ := few_pm hf hk hc
  obtain ⟨-, -, -, -, -, -, c6, -⟩ := h.cells
  obtain ⟨i, hi, hb, hat⟩ := LegPlain.first_pong l.ctl
  by_cases hin : i < l.ctl.length
  · obtain ⟨hrp, hany⟩ := LegPlain.repl_at (bytes d) l.ctl i hin (hat hin) hb
    have htail : l.tail ≠ [] := fun e => by
      have := (hf.ok.set.2 e).1
      rw [this] at hin; exact absurd hin (Nat.not_lt_zero _)
    have hres : ponged c l (bytes d) = { l with ctl := repl (bytes d) l.ctl } := (if_pos hany).trans (LegPlain.move_wait (l := { l with ctl := repl (bytes d) l.ctl }) htail (hf.ok.set.1 htail))
    rw [hres]
    have T := idxf_yes l.ctl kv W h.C.frs (by omega) i hin hb (hat hin)
    have HR := h.C
    obtain ⟨g, off, cap, hkv⟩ : ∃ g off cap, kv = .slice (some ⟨g, off, none⟩) l.ctl.length cap := by
      rcases h.C with ⟨_, e⟩ | ⟨g, off, cap, cs, e, _⟩
      · rw [e] at hin; exact absurd hin (Nat.not_lt_zero _)
      · exact ⟨g, off, cap, e⟩
    subst hkv
    obtain ⟨n, hn⟩ : ∃ n, l.ctl.length = n := ⟨_, rfl⟩
    rw [hn] at T c6 ⊢
    have HIN : Sl (i < n) := ⟨by omega⟩
    have hin2 : i < n := by omega
    have hq : ((i : Int) ≥ 0) = True := eq_true (by omega)
    have H := Sl.mk h
    have HRP := Sl.mk hrp
    have HN := Sl.mk hn
    clear h hf hk hc hg p1 p2 p3 p4 p5 hi hb hat hany htail hres HR hrp hin hn
    go_enter Tryz.func85, Tryz.ntmps85
    go_wp2_with fail
    refine T.mono ?_
    rintro e w2 ⟨rfl, HB2⟩
    have H2 := H.out.below HB2.out
    have HC2 := H2.C
    rw [HN.out] at H2
    obtain ⟨-, -, -, -, -, -, d6, -⟩ := H2.cells
    obtain ⟨hgr, hrow, hfz, u, hu⟩ := (show FRow w2 w0.heap.size (.slice (some ⟨g, off, none⟩) n cap) l.ctl by rw [← HN.out]; exact HC2).setData i (by rw [HN.out]; exact HIN.out) d
    have hkn := H2.kinds
    have hgl : g ≠ L := fun e => hkn.2.2.2.1 (by rw [← e]; rfl)
    obtain ⟨V, hV⟩ : ∃ V, w2.setCell ⟨g, off + i * 8 + 7, none⟩ (.string d) = V := ⟨_, rfl⟩
    rw [hV] at hgr hrow
    obtain ⟨hle, hgo⟩ := H2.step (W' := V) (m := { l with ctl := repl (bytes d) l.ctl }) (tv' := tv) (kv' := .slice (some ⟨g, off, none⟩) n cap) (qv' := qv) (Kept.grown hgr (fun j e => by injection e with e; subst e; exact .inr (.inl rfl))) (by rw [hgr.block L H2.lt (fun e => hgl (by injection e with e; exact e.symm))]; exact H2.X) rfl (H2.T.kept fun j e => hgr.block j (H2.T.blk e).2.2 (fun e2 => by injection e2 with e2; subst e2; exact (H2.tn _ e).2.2.2.1 rfl)) (by rw [HRP.out]; exact hrow) (H2.D.block fun j e => hgr.block j (H2.D.lt e) (fun e2 => by injection e2 with e2; subst e2; exact H2.cn _ rfl e)) H2.dr (fun _ e => .inl e) (fun _ e => .inl e) (fun _ e => .inl e) (fun j e e2 => absurd (H2.T.blk e).2.2 (by omega)) (fun _ _ _ e => e) (fun _ _ _ e => e) (fun j e e2 => absurd (H2.own (.inr (.inr (.inr (.inr (.inl e)))))).2 (by omega))
    have HL := Sl.mk hle
    have HG : Sl (OGoes W V L rb rp tv (.slice (some ⟨g, off, none⟩) n cap) qv tv (.slice (some ⟨g, off, none⟩) n cap) qv) := ⟨(OGoes.below L rb rp _ _ _ HB2.out).trans hgo⟩
    clear T c6 H2 HC2 hgr hrow hkn hle hgo H HB2
    go_wp2
    (try rw [hV])
    (try simp only [Exit.inBlock, Exit.then])
    refine bodyPost_ret (results_none rfl _ _ _) rfl ?_
    exact ⟨_, _, _, rfl, HL, HG⟩
  · obtain rfl : i = l.ctl.length := by omega
    have hany := LegPlain.no_pong l.ctl hb
    have hres : ponged c l (bytes d) = LegPlain.move c { l with ctl := l.ctl ++ [ctlF 10 (bytes d)] } := if_neg (by rw [hany]; decide)
    rw [hres]
    have T := idxf_no l.ctl kv W h.C.frs (by omega) hb
    obtain ⟨ak, nk, ck, rfl⟩ : ∃ a n c, kv = .slice a n c := by obtain ⟨a, c, h⟩ := h.C.slice; exact ⟨a, _, c, h⟩
    have H := Sl.mk h
    have HGL := Sl.mk hg
    have HPM : Sl (Inv c { l with ctl := l.ctl ++ [ctlF 10 (bytes d)] } ∧ l.tail.length ≤ 100000 ∧ Small 256 l.tail ∧ c.frm ≤ 65536 ∧ (l.ctl ++ [ctlF 10 (bytes d)]).length + l.rest.length ≤ 1000000) := ⟨⟨p1.bytes, p1.hist, fun f hf => by
      rcases List.mem_append.1 hf with hf | hf
      · exact p1.ctl f hf
      · rw [List.mem_singleton] at hf
        rw [hf]
        exact ⟨rfl, .inr (.inr rfl), rfl, rfl, by show (bytes d).length ≤ 125; rw [bytes_length]; exact hd, bytes_small d⟩, p1.rest, p1.ring⟩, p2, p3, p4, by rw [List.length_append, List.length_singleton]; omega⟩
    clear h hf hk hc hg p1 p2 p3 p4 p5 hi hb hat hany hres hin
    go_enter Tryz.func85, Tryz.ntmps85
    go_wp2_with fail
    refine T.mono ?_
    rintro e w2 ⟨rfl, HB2⟩
    have T2 := ocontrol_any (H.out.below HB2.out) HGL.out 10 d (m := { l with ctl := l.ctl ++ [ctlF 10 (bytes d)] }) rfl rfl rfl rfl rfl rfl rfl HPM.out.1 HPM.out.2.1 HPM.out.2.2.1 HPM.out.2.2.2.1 HPM.out.2.2.2.2
    clear T c6
    go_wp2_with fail
    refine T2.mono ?_
    rintro e w3 ⟨t2, k2, q2, rfl, HL, HG2⟩
    clear T2
    go_wp2
    go_end0
    exact ⟨_, _, _, rfl, HL, ⟨(OGoes.below L rb rp _ _ _ HB2.out).trans HG2.out⟩⟩
end
end Go.Proofs.YtlahonjmfecikaaGreatDoor.Leg
set_option maxRecDepth 100000
namespace Go.Proofs.YtlahonjmfecikaaGreatDoor.Leg
open Go.RowKit Stm
open FramePlain (Fr Fr0)
open LegPlain (Cf Lg)
open Msg (Kept MacS Mine)
open LegPlain (dress draws mv fill put IsC IsR Inv ctlF repl Settled Few CfOk frs_isR)
open FramePlain (text size chk form zero4)
open ClosePlain (putC codeC acrossC valid)
open CutPlain (frs)
section
variable {w0 W W' : World} {L sb mb rb rp : Nat} {tv kv qv : Value} {c : Cf} {l : Lg}
theorem ltake_any {k : Nat} (h : LegAt w0 W L sb mb rb rp tv kv qv c l) (hg : Mas.Globs w0) (hf : Few c l k) (hk : k ≤ 1000) (hc : CfOk c) (z : Int) (n : Nat) (hn : (l.ring.take z.toNat).length = n) :
    Calls Tryz.prog 24 #[.pointer (some ⟨L, 0, none⟩), .int .i64 z] W fun e w' => ∃ tv' kv' qv', e = .returned (.slice (some ⟨W.heap.size, 0, none⟩) n n) ∧ Sl (RowB w' W.heap.size (l.ring.take z.toNat)) ∧ Sl (LegAt w0 w' L sb mb rb rp tv' kv' qv' c (LegPlain.takeN c l z).1) ∧ Sl (OGoes W w' L rb rp tv kv qv tv' kv' qv') := by
  obtain ⟨p1, p2, p3, p4, p5⟩ := few_pm hf hk hc
  have T := otake_any h hg z _ rfl n hn (m := { l with gone := l.gone ++ l.ring.take z.toNat, ring := l.ring.drop z.toNat }) rfl rfl rfl rfl rfl rfl rfl ⟨by
    show l.gone ++ l.ring.take z.toNat ++ l.ring.drop z.toNat ++ l.tail = _
    rw [List.append_assoc l.gone, List.take_append_drop]; exact p1.bytes, p1.hist, p1.ctl, p1.rest, by
    show (l.ring.drop z.toNat).length ≤ _
    rw [List.length_drop]; have := p1.ring; omega⟩ p2 p3 p4 (Nat.le_trans p5 (by omega))
  clear h hg hf hk hc p1 p2 p3 p4 p5 hn
  go_enter Tryz.func24, Tryz.ntmps24
  go_wp2_with fail
  refine T.mono ?_
  rintro e w2 ⟨t2, k2, q2, rfl, HR, HL, HG⟩
  clear T
  go_wp2
  go_ret
  exact ⟨_, _, _, rfl, HR, HL, HG⟩
theorem ctl_pm {k : Nat} (hf : Few c l k) (hk : k ≤ 1000) (hc : CfOk c) (op : Int) (ho : op = 8 ∨ op = 9 ∨ op = 10) (d : List Nat) (hd : d.length ≤ 125) (hs : Small 256 d) : Inv c { l with ctl := l.ctl ++ [ctlF op d] } ∧ l.tail.length ≤ 100000 ∧ Small 256 l.tail ∧ c.frm ≤ 65536 ∧ (l.ctl ++ [ctlF op d]).length + l.rest.length ≤ 1000000 := by
  obtain ⟨p1, p2, p3, p4, p5⟩ := few_pm hf hk hc
  exact ⟨⟨p1.bytes, p1.hist, fun f hf => by
      rcases List.mem_append.1 hf with hf | hf
      · exact p1.ctl f hf
      · rw [List.mem_singleton] at hf
        rw [hf]
        exact ⟨rfl, ho, rfl, rfl, hd, hs⟩, p1.rest, p1.ring⟩, p2, p3, p4, by rw [List.length_append, List.length_singleton]; omega⟩
theorem lping_any {k : Nat} (h : LegAt w0 W L sb mb rb rp tv kv qv c l) (hg : Mas.Globs w0) (hf : Few c l k) (hk : k ≤ 1000) (hc : CfOk c) (hop : l.sent = false → l.got = false ∧ l.wrong = 0) (d : ByteArray) (hd : d.size ≤ 1000000) :
    Calls Tryz.prog 22 #[.pointer (some ⟨L, 0, none⟩), .string d] W fun e w' => ∃ tv' kv' qv', e = .returned (.bool (LegPlain.ping c l (bytes d)).2) ∧ Sl (LegAt w0 w' L sb mb rb rp tv' kv' qv' c (LegPlain.ping c l (bytes d)).1) ∧ Sl (OGoes W w' L rb rp tv kv qv tv' kv' qv') := by
  have T := open_any h
  have H := Sl.mk h
  have HGL := Sl.mk hg
  cases hs : l.sent with
  | true =>
    have hres : LegPlain.ping c l (bytes d) = (l, false) := if_pos (.inl hs)
    rw [hres]
    rw [hs] at T
    clear h hg hf hk hc hop hd hres hs
    go_enter Tryz.func22, Tryz.ntmps22
    go_wp2_with fail
    refine T.mono ?_
    rintro e w1 ⟨rfl, rfl⟩
    clear T
    go_wp2
    go_ret
    exact ⟨_, _, _, rfl, H, ⟨OGoes.below L rb rp tv kv qv (Below.refl _ _)⟩⟩
  | false =>
    rw [hs] at T
    obtain ⟨ho1, ho2⟩ := hop hs
    by_cases hl : 125 < d.size
    · have hres : LegPlain.ping c l (bytes d) = (l, false) := if_pos (.inr (.inr (.inr (by rw [bytes_length]; exact hl))))
      rw [hres]
      have hq : ((d.size : Int) > 125) = True := eq_true (by omega)
      clear h hg hf hk hc hop hd hres hs hl ho1 ho2
      go_enter Tryz.func22, Tryz.ntmps22
      go_wp2_with fail
      refine T.mono ?_
      rintro e w1 ⟨rfl, rfl⟩
      clear T
      go_wp2
      go_ret
      exact ⟨_, _, _, rfl, H, ⟨OGoes.below L rb rp tv kv qv (Below.refl _ _)⟩⟩
    · have hres : LegPlain.ping c l (bytes d) = (LegPlain.move c { l with ctl := l.ctl ++ [ctlF 9 (bytes d)] }, true) := if_neg (by
        rw [hs, ho1, ho2, bytes_length]
        simp; omega)
      rw [hres]
      have hq : ((d.size : Int) > 125) = False := eq_false (by omega)
      have HPM := Sl.mk (ctl_pm hf hk hc 9 (.inr (.inl rfl)) (bytes d) (by rw [bytes_length]; omega) (bytes_small d))
      have CL : Sl (∀ V, Calls Tryz.prog 59 #[.string d] V fun e w' => e = .returned (.string d) ∧ Sl (Below V.heap.size V w')) := ⟨fun V => Cls.clone_any d V hd⟩
      clear h hg hf hk hc hop hd hres hs hl ho1 ho2
      go_enter Tryz.func22, Tryz.ntmps22
      go_wp2_with fail
      refine T.mono ?_
      rintro e w1 ⟨rfl, rfl⟩
      clear T
      go_upto_region 3 with fail
      obtain ⟨Rw, hRw⟩ : ∃ R, W.drew = R := ⟨_, rfl⟩
      have HBR : Below W.heap.size W Rw := by rw [← hRw]; exact (Below.refl _ _).drew
      refine wp_region_noPanic ?_
      refine last_begin (S := fun V => Below W.heap.size W V) (D := fun k => k == 5) (by kernel_rfl) ?_
      change wpAnyL _ _ _ _ _ _ _ _ _ W.drew
      rw [hRw]
      clear hRw
      refine last_pure (d := some 13) (op := .move (Operand.tmp 0)) (g := none) 0 ?v0 rfl (by kernel_rfl) (by kernel_rfl) (by kernel_rfl) (by kernel_rfl) rfl ?y0 HBR ?_
      case y0 => intro o' ho W; simp only [execOp, ho]; go_simp; try rfl
      simp only [Act.put, List.setIfInBounds_toArray, List.set_cons_zero, List.set_cons_succ]
      refine last_pure (d := some 14) (op := .nilCheck (Operand.tmp 13)) (g := none) 1 ?v1 rfl (by kernel_rfl) (by kernel_rfl) (by kernel_rfl) (by kernel_rfl) rfl ?y1 HBR ?_
      case y1 => intro o' ho W; simp only [execOp, ho]; go_simp; try rfl
      simp only [Act.put, List.setIfInBounds_toArray, List.set_cons_zero, List.set_cons_succ]
      refine last_pure (d := some 15) (op := .fieldAddr 80 (Operand.tmp 14) 4) (g := none) 2 ?v2 rfl (by kernel_rfl) (by kernel_rfl) (by kernel_rfl) (by kernel_rfl) rfl ?y2 HBR ?_
      case y2 => intro o' ho W; simp only [execOp, ho]; go_simp; try rfl
      simp only [Act.put, List.setIfInBounds_toArray, List.set_cons_zero, List.set_cons_succ]
      refine last_pure (d := some 16) (op := .move (Operand.tmp 1)) (g := none) 3 ?v3 rfl (by kernel_rfl) (by kernel_rfl) (by kernel_rfl) (by kernel_rfl) rfl ?y3 HBR ?_
      case y3 => intro o' ho W; simp only [execOp, ho]; go_simp; try rfl
      simp only [Act.put, List.setIfInBounds_toArray, List.set_cons_zero, List.set_cons_succ]
      refine last_callS (d := some 17) (op := .call { callee := Callee.value (Operand.func 59), args := #[Operand.tmp 16], argTypes := #[9] }) (g := none) 4 59 #[.string d] rfl (by kernel_rfl) (by kernel_rfl) ?y4 ?_
      case y4 => intro o' ho; simp only [execOp, ho]; go_simp; try rfl
      refine (CL.out Rw).mono ?_
      rintro e w2 ⟨rfl, HB2⟩
      have HB3 : Below W.heap.size W w2 := HBR.trans (HB2.out.mono HBR.size)
      refine ⟨_, rfl, HB3, ?_⟩
      simp only [Act.put, List.setIfInBounds_toArray, List.set_cons_zero, List.set_cons_succ]
      have CT := ocontrol_any (H.out.below HB3) HGL.out 9 d (m := { l with ctl := l.ctl ++ [ctlF 9 (bytes d)] }) rfl rfl rfl rfl rfl rfl rfl HPM.out.1 HPM.out.2.1 HPM.out.2.2.1 HPM.out.2.2.2.1 HPM.out.2.2.2.2
      refine last_call (d := some 18) (op := .call { callee := Callee.value (Operand.func 58), args := #[Operand.tmp 15, Operand.const (Value.int IntKind.i64 9), Operand.tmp 17], argTypes := #[76, 3, 9] }) (g := none) 5 58 #[.pointer (some ⟨L, 4, none⟩), .int .i64 9, .string d] rfl (by kernel_rfl) (by kernel_rfl) ?y5 (by kernel_rfl) ?_
      case y5 => intro o' ho; simp only [execOp, ho]; go_simp; try rfl
      refine (CT).mono ?_
      rintro e w3 ⟨t2, k2, q2, rfl, HL, HG3⟩
      refine ⟨_, rfl, ?_⟩
      simp only [Act.put, List.setIfInBounds_toArray, List.set_cons_zero, List.set_cons_succ]
      refine last_done (by kernel_rfl) ?_ _
      refine NoPanic.normal ?_
      clear CT
      go_upto_region 4 with fail
      go_wp2
      go_ret
      exact ⟨_, _, _, rfl, HL, ⟨(OGoes.below L rb rp tv kv qv HB3).trans HG3.out⟩⟩
theorem lclose_any {k : Nat} (h : LegAt w0 W L sb mb rb rp tv kv qv c l) (hg : Mas.Globs w0) (hf : Few c l k) (hk : k ≤ 1000) (hc : CfOk c) (hu : Utf.Globs w0) (code : Int) (w : ByteArray) :
    Calls Tryz.prog 23 #[.pointer (some ⟨L, 0, none⟩), .int .i64 code, .string w] W fun e w' => ∃ tv' kv' qv', e = .returned (.bool (LegPlain.close c l code (bytes w)).2) ∧ Sl (LegAt w0 w' L sb mb rb rp tv' kv' qv' c (LegPlain.close c l code (bytes w)).1) ∧ Sl (OGoes W w' L rb rp tv kv qv tv' kv' qv') := by
  obtain ⟨d, e1, hput⟩ := Cls.put_str code w
  have T := Cls.put_ex W W code w d e1 hput (Below.refl _ _) (hu.below h.low hu.size)
  have H := Sl.mk h
  have HGL := Sl.mk hg
  have HO : Sl (∀ j, Own L rb rp tv kv qv j → j < W.heap.size) := ⟨fun j e => (h.own e).2⟩
  cases hs : l.sent with
  | true =>
    have hres : LegPlain.close c l code (bytes w) = (l, false) := if_pos (.inl hs)
    rw [hres]
    clear h hg hf hk hc hu hres hput
    go_enter Tryz.func23, Tryz.ntmps23
    go_wp2_with fail
    refine T.mono ?_
    rintro e w1 ⟨rfl, HB1⟩
    clear T
    have H1 := Sl.mk (H.out.below HB1.out)
    obtain ⟨-, -, -, -, -, -, -, -, -, -, -, c11⟩ := H1.out.cells
    rw [hs] at c11
    clear hs
    go_wp2
    go_ret
    exact ⟨_, _, _, rfl, H1, ⟨OGoes.below L rb rp tv kv qv HB1.out⟩⟩
  | false =>
    by_cases he : e1 = 0
    · subst he
      have heq : LegPlain.control c { l with sent := true, rest := [], last := bytes d } 8 (bytes d) = { LegPlain.move c { l with rest := [], ctl := l.ctl ++ [ctlF 8 (bytes d)] } with sent := true, last := bytes d } := LegPlain.move_sl c { l with rest := [], ctl := l.ctl ++ [ctlF 8 (bytes d)] } true (bytes d)
      have hres : LegPlain.close c l code (bytes w) = ({ LegPlain.move c { l with rest := [], ctl := l.ctl ++ [ctlF 8 (bytes d)] } with sent := true, last := bytes d }, true) := by
        rw [← heq]
        unfold LegPlain.close
        rw [hput, if_neg (by rw [hs]; simp)]
      clear heq
      rw [hres]
      have hlen := (ClosePlain.put_sizes hput).1
      have hsm : Small 256 (bytes d) := bytes_small d
      have HPM := Sl.mk (ctl_pm hf hk hc 8 (.inl rfl) (bytes d) hlen hsm)
      have HIV : Sl (Inv c { l with rest := [], ctl := l.ctl ++ [ctlF 8 (bytes d)] } ∧ (l.ctl ++ [ctlF 8 (bytes d)]).length + ([] : List Fr).length ≤ 1000000) := ⟨⟨HPM.out.1.bytes, HPM.out.1.hist, HPM.out.1.ctl, fun f hf => absurd hf List.not_mem_nil, HPM.out.1.ring⟩, by have := HPM.out.2.2.2.2; rw [List.length_nil]; omega⟩
      clear h hg hf hk hc hu hres hput hlen hsm
      go_enter Tryz.func23, Tryz.ntmps23
      go_wp2_with fail
      refine T.mono ?_
      rintro e w1 ⟨rfl, HB1⟩
      clear T
      have H1 := Sl.mk (H.out.below HB1.out)
      obtain ⟨-, -, -, -, -, -, -, -, -, -, -, c11⟩ := H1.out.cells
      rw [hs] at c11
      have T2 := oend_any H1.out HGL.out d (m := { l with rest := [], ctl := l.ctl ++ [ctlF 8 (bytes d)] }) rfl rfl rfl rfl rfl rfl rfl HIV.out.1 HPM.out.2.1 HPM.out.2.2.1 HPM.out.2.2.2.1 HIV.out.2
      clear hs
      go_wp2_with fail
      refine T2.mono ?_
      rintro e w2 ⟨t2, k2, q2, rfl, HL2, HG2⟩
      clear T2 c11
      have hL3 := HL2.out.set 11 (.bool true) (m := { LegPlain.move c { l with rest := [], ctl := l.ctl ++ [ctlF 8 (bytes d)] } with sent := true, last := bytes d }) (tv' := t2) (kv' := k2) (qv' := q2) rfl rfl HL2.out.T HL2.out.C HL2.out.D HL2.out.dr HL2.out.tn HL2.out.cn
      have f11 := HL2.out.froz 11
      obtain ⟨-, -, -, -, -, -, -, -, -, -, -, d11⟩ := HL2.out.cells
      have hG3 := (((OGoes.below L rb rp tv kv qv HB1.out).trans HG2.out)).trans (goes_set w2 L rb rp t2 k2 q2 11 (.bool true) (fun _ e => .inl e) (fun _ e => .inl e) (fun _ e => .inl e))
      obtain ⟨V, hV⟩ : ∃ V, w2.setCell ⟨L, 11, none⟩ (.bool true) = V := ⟨_, rfl⟩
      rw [hV] at hL3 hG3
      have HL3 := Sl.mk hL3
      have HG3 := Sl.mk hG3
      clear hL3 hG3 HL2 HG2 H1 HB1
      go_wp2
      (try rw [hV])
      go_ret
      exact ⟨_, _, _, rfl, HL3, HG3⟩
    · have hres : LegPlain.close c l code (bytes w) = (l, false) := if_pos (.inr (by rw [hput]; exact he))
      rw [hres]
      have hq : (((e1 : Nat) : Int) != 0) = true := by simpa using he
      have hq2 : (((e1 : Nat) : Int) == 0) = false := beq_eq_false_iff_ne.2 (by omega)
      clear h hg hf hk hc hu hres hput he
      go_enter Tryz.func23, Tryz.ntmps23
      go_wp2_with fail
      refine T.mono ?_
      rintro e w1 ⟨rfl, HB1⟩
      clear T
      have H1 := Sl.mk (H.out.below HB1.out)
      obtain ⟨-, -, -, -, -, -, -, -, -, -, -, c11⟩ := H1.out.cells
      rw [hs] at c11
      clear hs
      go_wp2
      go_ret
      exact ⟨_, _, _, rfl, H1, ⟨OGoes.below L rb rp tv kv qv HB1.out⟩⟩
theorem lfail_any {k : Nat} (h : LegAt w0 W L sb mb rb rp tv kv qv c l) (hg : Mas.Globs w0) (hf : Few c l k) (hk : k ≤ 1000) (hc : CfOk c) (hu : Utf.Globs w0) (x : Nat) :
    Calls Tryz.prog 54 #[.pointer (some ⟨L, 0, none⟩), .int .i64 (x : Int)] W fun e w' => ∃ tv' kv' qv', e = .returned (.tuple #[]) ∧ Sl (LegAt w0 w' L sb mb rb rp tv' kv' qv' c (LegPlain.fail c l x)) ∧ Sl (OGoes W w' L rb rp tv kv qv tv' kv' qv') := by
  have f10 := h.froz 10
  obtain ⟨-, -, -, -, -, -, -, -, -, -, c10, -⟩ := h.cells
  have hL := h.set 10 (.int .i64 (x : Int)) (m := { l with wrong := x }) (tv' := tv) (kv' := kv) (qv' := qv) rfl rfl h.T h.C h.D h.dr h.tn h.cn
  have hG := goes_set W L rb rp tv kv qv 10 (.int .i64 (x : Int)) (fun _ e => .inl e) (fun _ e => .inl e) (fun _ e => .inl e)
  obtain ⟨V, hV⟩ : ∃ V, W.setCell ⟨L, 10, none⟩ (.int .i64 (x : Int)) = V := ⟨_, rfl⟩
  rw [hV] at hL hG
  have T1 := Cls.code_any (x : Int) V
  have HF : Sl (Few c { l with wrong := x } k) := ⟨LegPlain.few_in hf (LegPlain.ok_in hf.ok ⟨rfl, rfl, rfl, rfl, rfl, rfl, rfl, rfl, rfl⟩) ⟨rfl, rfl, rfl, rfl⟩⟩
  have HP : Sl (Mas.Globs w0 ∧ k ≤ 1000 ∧ CfOk c ∧ Utf.Globs w0) := ⟨hg, hk, hc, hu⟩
  have HL := Sl.mk hL
  have HG := Sl.mk hG
  clear h hg hf hk hc hu hL hG
  go_enter Tryz.func54, Tryz.ntmps54
  go_upto_region 1 with fail
  (try rw [hV])
  go_wp2_with fail
  refine T1.mono ?_
  rintro e w1 ⟨rfl, HB1⟩
  clear T1
  have T2 := lclose_any (HL.out.below HB1.out) HP.out.1 HF.out HP.out.2.1 HP.out.2.2.1 HP.out.2.2.2 (codeC (x : Int)) { data := #[] }
  go_wp2_with fail
  refine T2.mono ?_
  rintro e w2 ⟨t2, k2, q2, rfl, HL2, HG2⟩
  clear T2 f10 c10
  go_wp2
  go_end0
  exact ⟨_, _, _, rfl, HL2, ⟨(HG.out.trans (OGoes.below L rb rp tv kv qv HB1.out)).trans HG2.out⟩⟩
theorem lhear_any {k : Nat} (h : LegAt w0 W L sb mb rb rp tv kv qv c l) (hg : Mas.Globs w0) (hf : Few c l k) (hk : k ≤ 1000) (hc : CfOk c) (hu : Utf.Globs w0) (o d : Int) (s : ByteArray) (h9 : o = 9 → s.size ≤ 125) (h8 : o = 8 → d = 1005 ∨ valid d = true) :
    Calls Tryz.prog 53 #[.pointer (some ⟨L, 0, none⟩), .agg #[.int .i64 o, .int .i64 d, .string s]] W fun e w' => ∃ tv' kv' qv', e = .returned (.bool (decide (o ≠ 9))) ∧ Sl (LegAt w0 w' L sb mb rb rp tv' kv' qv' c (LegPlain.react c l ⟨o, d, bytes s⟩)) ∧ Sl (OGoes W w' L rb rp tv kv qv tv' kv' qv') := by
  obtain ⟨wa, hwa⟩ : ∃ V, W.alloc (.cells #[.int .i64 o, .int .i64 d, .string s] 52) = V := ⟨_, rfl⟩
  have HB : Below W.heap.size W wa := by rw [← hwa]; exact (Below.refl _ _).alloc (Nat.le_refl _) _
  have hH : wa.heap[W.heap.size]? = some (.cells #[.int .i64 o, .int .i64 d, .string s] 52 (0, 0)) := by rw [← hwa]; exact alloc_new _ _ _ rfl
  have h1 := h.below HB
  have H := Sl.mk h1
  have HG0 := Sl.mk (OGoes.below L rb rp tv kv qv HB)
  have hlt : W.heap.size < wa.heap.size := (Array.getElem?_eq_some_iff.1 hH).1
  have HH := Sl.mk hH
  obtain ⟨a0, a1, a2⟩ := Msg.ev_cells hH
  have HP : Sl (Mas.Globs w0 ∧ Few c l k ∧ k ≤ 1000 ∧ CfOk c ∧ Utf.Globs w0) := ⟨hg, hf, hk, hc, hu⟩
  by_cases ho9 : o = 9
  · subst ho9
    have hsz := h9 rfl
    have T := open_any h1
    have hres : LegPlain.react c l ⟨9, d, bytes s⟩ = LegPlain.pong c l (bytes s) := if_pos rfl
    rw [hres, show decide ((9 : Int) ≠ 9) = false from rfl]
    cases hs : l.sent with
    | true =>
      have hres2 : LegPlain.pong c l (bytes s) = l := if_pos hs
      rw [hres2]
      rw [hs] at T
      clear h hg hf hk hc hu h9 h8 HB hH h1 hres hres2 hs hsz
      go_enter Tryz.func53, Tryz.ntmps53
      go_upto_region 1 with fail
      (try rw [hwa])
      go_wp2_with fail
      refine T.mono ?_
      rintro e w1 ⟨rfl, rfl⟩
      clear T
      go_wp2
      go_ret
      exact ⟨_, _, _, rfl, H, HG0⟩
    | false =>
      have hres2 : LegPlain.pong c l (bytes s) = ponged c l (bytes s) := if_neg (by rw [hs]; decide)
      rw [hres2]
      rw [hs] at T
      have HSZ := Sl.mk hsz
      clear h hg hf hk hc hu h9 h8 HB hH h1 hres hres2 hs hsz
      go_enter Tryz.func53, Tryz.ntmps53
      go_upto_region 1 with fail
      (try rw [hwa])
      clear hwa
      go_wp2_with fail
      refine T.mono ?_
      rintro e w1 ⟨rfl, rfl⟩
      clear T a0 a1 a2
      go_upto_region 4 with fail
      obtain ⟨Rw, hRw⟩ : ∃ R, wa.drew = R := ⟨_, rfl⟩
      have HBR : Below wa.heap.size wa Rw := by rw [← hRw]; exact (Below.refl _ _).drew
      refine wp_region_noPanic ?_
      refine last_begin (S := fun V => V.heap[W.heap.size]? = some (.cells #[.int .i64 9, .int .i64 d, .string s] 52 (0, 0))) (D := fun k => k == 5) (by kernel_rfl) ?_
      change wpAnyL _ _ _ _ _ _ _ _ _ wa.drew
      rw [hRw]
      clear hRw
      have HS0 : Rw.heap[W.heap.size]? = some (.cells #[.int .i64 9, .int .i64 d, .string s] 52 (0, 0)) := below_key HH.out HBR
      refine last_pure (d := some 11) (op := .move (Operand.tmp 0)) (g := none) 0 ?v0 rfl (by kernel_rfl) (by kernel_rfl) (by kernel_rfl) (by kernel_rfl) rfl ?y0 HS0 ?_
      case y0 => intro o' ho W; simp only [execOp, ho]; go_simp; try rfl
      simp only [Act.put, List.setIfInBounds_toArray, List.set_cons_zero, List.set_cons_succ]
      refine last_pure (d := some 12) (op := .nilCheck (Operand.tmp 11)) (g := none) 1 ?v1 rfl (by kernel_rfl) (by kernel_rfl) (by kernel_rfl) (by kernel_rfl) rfl ?y1 HS0 ?_
      case y1 => intro o' ho W; simp only [execOp, ho]; go_simp; try rfl
      simp only [Act.put, List.setIfInBounds_toArray, List.set_cons_zero, List.set_cons_succ]
      refine last_pure (d := some 13) (op := .fieldAddr 80 (Operand.tmp 12) 4) (g := none) 2 ?v2 rfl (by kernel_rfl) (by kernel_rfl) (by kernel_rfl) (by kernel_rfl) rfl ?y2 HS0 ?_
      case y2 => intro o' ho W; simp only [execOp, ho]; go_simp; try rfl
      simp only [Act.put, List.setIfInBounds_toArray, List.set_cons_zero, List.set_cons_succ]
      refine last_pure (d := some 14) (op := .fieldAddr 52 (Operand.tmp 3) 2) (g := none) 3 ?v3 rfl (by kernel_rfl) (by kernel_rfl) (by kernel_rfl) (by kernel_rfl) rfl ?y3 HS0 ?_
      case y3 => intro o' ho W; simp only [execOp, ho]; go_simp; try rfl
      simp only [Act.put, List.setIfInBounds_toArray, List.set_cons_zero, List.set_cons_succ]
      refine last_take (d := some 15) (op := .load 9 (Operand.tmp 14)) (g := none) 4 ?v4 rfl (by kernel_rfl) (by kernel_rfl) (by kernel_rfl) (by kernel_rfl) (by kernel_rfl) ?y4 HS0 ?_
      case y4 => intro o' ho W hS; obtain ⟨-, -, b2⟩ := Msg.ev_cells hS; simp only [execOp, ho]; go_simp; try rfl
      simp only [Act.put, List.setIfInBounds_toArray, List.set_cons_zero, List.set_cons_succ]
      have CT := opong_any (H.out.below HBR) HP.out.1 HP.out.2.1 HP.out.2.2.1 HP.out.2.2.2.1 s HSZ.out
      refine last_call (d := some 16) (op := .call { callee := Callee.value (Operand.func 85), args := #[Operand.tmp 13, Operand.tmp 15], argTypes := #[76, 9] }) (g := none) 5 85 #[.pointer (some ⟨L, 4, none⟩), .string s] rfl (by kernel_rfl) (by kernel_rfl) ?y5 (by kernel_rfl) ?_
      case y5 => intro o' ho; simp only [execOp, ho]; go_simp; try rfl
      refine (CT).mono ?_
      rintro e w3 ⟨t2, k2, q2, rfl, HL, HG3⟩
      refine ⟨_, rfl, ?_⟩
      simp only [Act.put, List.setIfInBounds_toArray, List.set_cons_zero, List.set_cons_succ]
      refine last_done (by kernel_rfl) ?_ _
      refine NoPanic.normal ?_
      clear CT HS0
      go_upto_region 5 with fail
      go_wp2
      go_ret
      exact ⟨_, _, _, rfl, HL, ⟨(HG0.out.trans (OGoes.below L rb rp tv kv qv HBR)).trans HG3.out⟩⟩
  · have hq9 : (o == 9) = false := beq_eq_false_iff_ne.2 ho9
    rw [show decide (o ≠ 9) = true from decide_eq_true ho9]
    by_cases ho8 : o = 8
    · subst ho8
      have hback : (if d = 1005 then 0 else d) = acrossC d := by
        unfold ClosePlain.acrossC
        by_cases hd : d = 1005
        · rw [if_pos hd, if_pos hd]
        · rw [if_neg hd, if_neg hd, if_pos ((h8 rfl).resolve_left hd)]
      have hres : LegPlain.react c l ⟨8, d, bytes s⟩ = (LegPlain.close c { l with got := true } (acrossC d) []).1 := (if_neg ho9).trans (if_pos rfl)
      rw [hres]
      have T1 := back_any d wa
      rw [hback] at T1
      have HF : Sl (Few c { l with got := true } k) := ⟨LegPlain.few_in hf (LegPlain.ok_in hf.ok ⟨rfl, rfl, rfl, rfl, rfl, rfl, rfl, rfl, rfl⟩) ⟨rfl, rfl, rfl, rfl⟩⟩
      have H2 := Sl.mk (H.out.inner (m := { l with got := true }) rfl rfl rfl rfl rfl rfl rfl)
      have T2 := lclose_any H2.out HP.out.1 HF.out HP.out.2.2.1 HP.out.2.2.2.1 HP.out.2.2.2.2 (acrossC d) { data := #[] }
      clear h hg hf hk hc hu h9 h8 HB hH h1 hres hback ho9
      go_enter Tryz.func53, Tryz.ntmps53
      go_upto_region 1 with fail
      (try rw [hwa])
      go_wp2_with fail
      refine T1.mono ?_
      rintro e w1 ⟨rfl, rfl⟩
      clear T1
      go_wp2_with fail
      refine T2.mono ?_
      rintro e w2 ⟨t2, k2, q2, rfl, HL2, HG2⟩
      clear T2
      go_wp2
      go_ret
      exact ⟨_, _, _, rfl, HL2, ⟨HG0.out.trans HG2.out⟩⟩
    · have hq8 : (o == 8) = false := beq_eq_false_iff_ne.2 ho8
      have hres : LegPlain.react c l ⟨o, d, bytes s⟩ = l := (if_neg ho9).trans (if_neg ho8)
      rw [hres]
      clear h hg hf hk hc hu h9 h8 HB hH h1 hres ho9 ho8
      go_enter Tryz.func53, Tryz.ntmps53
      go_upto_region 1 with fail
      (try rw [hwa])
      go_wp2
      go_ret
      exact ⟨_, _, _, rfl, H, HG0⟩
end
end Go.Proofs.YtlahonjmfecikaaGreatDoor.Leg
set_option maxRecDepth 100000
namespace Go.Proofs.YtlahonjmfecikaaGreatDoor.Leg
open Go.RowKit Stm
open FramePlain (Fr Fr0)
open LegPlain (Cf Lg)
open Msg (Kept MacS Mine)
open LegPlain (dress draws mv fill put IsC IsR Inv ctlF repl Settled Few CfOk frs_isR)
open FramePlain (text size chk form zero4)
open CutPlain (frs)
section
variable {w0 W W' : World} {L sb mb rb rp : Nat} {tv kv qv : Value} {c : Cf} {l : Lg}
theorem frow_of {W : World} {base g n : Nat} {fs : List Fr} (h : Cut.RowF W g fs) (hn : fs.length = n) (hp : 0 < n) (hl : n ≤ 1000000) (hb : base ≤ g) : FRow W base (.slice (some ⟨g, 0, none⟩) n n) fs := by
  subst hn
  refine .inr ⟨g, 0, fs.length, _, rfl, hp, hb, h, Nat.le_refl _, by unfold maxLen; omega, by rw [List.size_toArray, cvs_length]; omega, fun j u hu => ?_⟩
  rw [Nat.zero_add, List.getElem?_toArray]; exact hu
set_option maxHeartbeats 4000000 in
theorem lsend_any {k : Nat} (h : LegAt w0 W L sb mb rb rp tv kv qv c l) (hg : Mas.Globs w0) (hf : Few c l k) (hk : k ≤ 1000) (hc : CfOk c) (hop : l.sent = false → l.got = false ∧ l.wrong = 0) (o d : Int) (s : ByteArray) :
    Calls Tryz.prog 21 #[.pointer (some ⟨L, 0, none⟩), .agg #[.int .i64 o, .int .i64 d, .string s]] W fun e w' => ∃ tv' kv' qv', e = .returned (.bool (LegPlain.send c l o (bytes s)).2) ∧ Sl (LegAt w0 w' L sb mb rb rp tv' kv' qv' c (LegPlain.send c l o (bytes s)).1) ∧ Sl (OGoes W w' L rb rp tv kv qv tv' kv' qv') := by
  obtain ⟨wa, hwa⟩ : ∃ V, W.alloc (.cells #[.int .i64 o, .int .i64 d, .string s] 52) = V := ⟨_, rfl⟩
  have HB : Below W.heap.size W wa := by rw [← hwa]; exact (Below.refl _ _).alloc (Nat.le_refl _) _
  have hH : wa.heap[W.heap.size]? = some (.cells #[.int .i64 o, .int .i64 d, .string s] 52 (0, 0)) := by rw [← hwa]; exact alloc_new _ _ _ rfl
  have h1 := h.below HB
  have H := Sl.mk h1
  have HG0 := Sl.mk (OGoes.below L rb rp tv kv qv HB)
  have HH := Sl.mk hH
  have hlt := h1.lt
  obtain ⟨c0, -⟩ := h1.cells
  have HP : Sl (Mas.Globs w0 ∧ Few c l k ∧ k ≤ 1000 ∧ CfOk c) := ⟨hg, hf, hk, hc⟩
  have hfree : LegPlain.free l = (!l.sent && l.rest.isEmpty) := by
    unfold LegPlain.free
    cases hs : l.sent with
    | true => rfl
    | false =>
      obtain ⟨q1, q2⟩ := hop hs
      rw [q1, q2]; rfl
  have FT0 : ∀ r, LegPlain.free l = r → Sl (∀ V, Below wa.heap.size wa V → Calls Tryz.prog 35 #[.pointer (some ⟨L, 0, none⟩)] V fun e w' => e = .returned (.bool r) ∧ V = w') := fun r hr => ⟨fun V hb => free_any (h1.below hb) l.rest.length rfl r (by
    rw [← hr, hfree]
    congr 1
    cases l.rest with
    | nil => rfl
    | cons f r => exact beq_eq_false_iff_ne.2 (by rw [List.length_cons]; omega))⟩
  have hms := hc.m2
  have hfm := hc.f2
  have hf1 := hc.f1
  cases hfr : LegPlain.free l with
  | false =>
    have FT := FT0 false hfr
    have hres : LegPlain.send c l o (bytes s) = (l, false) := if_neg (fun e => by rw [hfr] at e; exact absurd e.1 (by decide))
    rw [hres]
    clear h hg hf hk hc hop HB hH h1 hfree FT0 hfr hres hms hfm hf1
    go_enter Tryz.func21, Tryz.ntmps21
    go_upto_region 1 with fail
    (try rw [hwa])
    clear hwa
    go_upto_region 1 with fail
    obtain ⟨Rw, hRw⟩ : ∃ R, wa.drew = R := ⟨_, rfl⟩
    have HBR : Below wa.heap.size wa Rw := by rw [← hRw]; exact (Below.refl _ _).drew
    refine wp_region_noPanic ?_
    refine wp_region_held (S := fun V => Below wa.heap.size wa V) (by kernel_rfl) ?_
    change wpAnyH _ _ _ _ _ _ _ _ wa.drew
    rw [hRw]
    clear hRw
    refine heldTake (d := some 7) (op := .move (Operand.tmp 0)) (g := none) 0 ?v0a rfl (by kernel_rfl) (by kernel_rfl) (by kernel_rfl) (by kernel_rfl) ?y0a HBR ?_
    case y0a => intro o' ho W hS; simp only [execOp, ho]; go_simp; try rfl
    simp only [Act.put, List.setIfInBounds_toArray, List.set_cons_zero, List.set_cons_succ]
    refine heldCall (d := some 8) (op := .call { callee := Callee.value (Operand.func 35), args := #[Operand.tmp 7], argTypes := #[30] }) (g := none) 1 35 #[.pointer (some ⟨L, 0, none⟩)] rfl (by kernel_rfl) (by kernel_rfl) ?y1a ?_
    case y1a => intro o' ho; simp only [execOp, ho]; go_simp; try rfl
    refine (FT.out Rw HBR).mono ?_
    rintro e w2 ⟨rfl, rfl⟩
    refine ⟨_, rfl, HBR, ?_⟩
    simp only [Act.put, List.setIfInBounds_toArray, List.set_cons_zero, List.set_cons_succ]
    refine heldTake (d := some 9) (op := .unOp UnOp.not 4 (Operand.tmp 8)) (g := none) 2 (.bool true) rfl (by kernel_rfl) (by kernel_rfl) (by kernel_rfl) (by kernel_rfl) ?y2a HBR ?_
    case y2a => intro o' ho W hS; exact by simp only [execOp, ho]; go_simp; try rfl
    simp only [Act.put, List.setIfInBounds_toArray, List.set_cons_zero, List.set_cons_succ]
    refine heldTake (d := some 10) (op := .move (Operand.tmp 9)) (g := none) 3 ?v3a rfl (by kernel_rfl) (by kernel_rfl) (by kernel_rfl) (by kernel_rfl) ?y3a HBR ?_
    case y3a => intro o' ho W hS; simp only [execOp, ho]; go_simp; try rfl
    simp only [Act.put, List.setIfInBounds_toArray, List.set_cons_zero, List.set_cons_succ]
    refine heldSkip (d := some 11) (op := .fieldAddr 52 (Operand.tmp 3) 2) (g := some (3, false)) 4 rfl (by kernel_rfl) (by kernel_rfl) (by kernel_rfl) (by kernel_rfl) HBR ?_
    simp only [Act.put, List.setIfInBounds_toArray, List.set_cons_zero, List.set_cons_succ]
    refine heldSkip (d := some 12) (op := .load 9 (Operand.tmp 11)) (g := some (3, false)) 5 rfl (by kernel_rfl) (by kernel_rfl) (by kernel_rfl) (by kernel_rfl) HBR ?_
    simp only [Act.put, List.setIfInBounds_toArray, List.set_cons_zero, List.set_cons_succ]
    refine heldSkip (d := some 13) (op := .call { callee := Callee.builtin Builtin.len, args := #[Operand.tmp 12], argTypes := #[9] }) (g := some (3, false)) 6 rfl (by kernel_rfl) (by kernel_rfl) (by kernel_rfl) (by kernel_rfl) HBR ?_
    simp only [Act.put, List.setIfInBounds_toArray, List.set_cons_zero, List.set_cons_succ]
    refine heldSkip (d := some 14) (op := .move (Operand.tmp 0)) (g := some (3, false)) 7 rfl (by kernel_rfl) (by kernel_rfl) (by kernel_rfl) (by kernel_rfl) HBR ?_
    simp only [Act.put, List.setIfInBounds_toArray, List.set_cons_zero, List.set_cons_succ]
    refine heldSkip (d := some 15) (op := .nilCheck (Operand.tmp 14)) (g := some (3, false)) 8 rfl (by kernel_rfl) (by kernel_rfl) (by kernel_rfl) (by kernel_rfl) HBR ?_
    simp only [Act.put, List.setIfInBounds_toArray, List.set_cons_zero, List.set_cons_succ]
    refine heldSkip (d := some 16) (op := .fieldAddr 80 (Operand.tmp 15) 0) (g := some (3, false)) 9 rfl (by kernel_rfl) (by kernel_rfl) (by kernel_rfl) (by kernel_rfl) HBR ?_
    simp only [Act.put, List.setIfInBounds_toArray, List.set_cons_zero, List.set_cons_succ]
    refine heldSkip (d := some 17) (op := .load 3 (Operand.tmp 16)) (g := some (3, false)) 10 rfl (by kernel_rfl) (by kernel_rfl) (by kernel_rfl) (by kernel_rfl) HBR ?_
    simp only [Act.put, List.setIfInBounds_toArray, List.set_cons_zero, List.set_cons_succ]
    refine heldSkip (d := some 18) (op := .binOp BinOp.gtr 3 (Operand.tmp 13) (Operand.tmp 17) 3) (g := some (3, false)) 11 rfl (by kernel_rfl) (by kernel_rfl) (by kernel_rfl) (by kernel_rfl) HBR ?_
    simp only [Act.put, List.setIfInBounds_toArray, List.set_cons_zero, List.set_cons_succ]
    refine heldTake (d := some 19) (op := .pick (Operand.tmp 10) (Operand.const (Value.bool true)) (Operand.tmp 18)) (g := none) 12 (.bool true) rfl (by kernel_rfl) (by kernel_rfl) (by kernel_rfl) (by kernel_rfl) ?y12a HBR ?_
    case y12a => intro o' ho W hS; exact by simp only [execOp, ho]; go_simp; try rfl
    simp only [Act.put, List.setIfInBounds_toArray, List.set_cons_zero, List.set_cons_succ]
    refine wpAnyH_done (by kernel_rfl) ?_ _
    refine NoPanic.normal ?_
    go_wp2
    go_ret
    exact ⟨_, _, _, rfl, ⟨H.out.below HBR⟩, ⟨HG0.out.trans (OGoes.below L rb rp tv kv qv HBR)⟩⟩
  | true =>
    have FT := FT0 true hfr
    by_cases hl : c.msg < s.size
    · have hres : LegPlain.send c l o (bytes s) = (l, false) := if_neg (fun e => by have := e.2.2; rw [bytes_length] at this; omega)
      rw [hres]
      have hq : ((s.size : Int) > (c.msg : Int)) = True := eq_true (by omega)
      clear h hg hf hk hc hop HB hH h1 hfree FT0 hfr hres hms hfm hf1
      go_enter Tryz.func21, Tryz.ntmps21
      go_upto_region 1 with fail
      (try rw [hwa])
      clear hwa
      go_upto_region 1 with fail
      obtain ⟨Rw, hRw⟩ : ∃ R, wa.drew = R := ⟨_, rfl⟩
      have HBR : Below wa.heap.size wa Rw := by rw [← hRw]; exact (Below.refl _ _).drew
      refine wp_region_noPanic ?_
      refine wp_region_held (S := fun V => Below wa.heap.size wa V) (by kernel_rfl) ?_
      change wpAnyH _ _ _ _ _ _ _ _ wa.drew
      rw [hRw]
      clear hRw
      refine heldTake (d := some 7) (op := .move (Operand.tmp 0)) (g := none) 0 ?v0b rfl (by kernel_rfl) (by kernel_rfl) (by kernel_rfl) (by kernel_rfl) ?y0b HBR ?_
      case y0b => intro o' ho W hS; simp only [execOp, ho]; go_simp; try rfl
      simp only [Act.put, List.setIfInBounds_toArray, List.set_cons_zero, List.set_cons_succ]
      refine heldCall (d := some 8) (op := .call { callee := Callee.value (Operand.func 35), args := #[Operand.tmp 7], argTypes := #[30] }) (g := none) 1 35 #[.pointer (some ⟨L, 0, none⟩)] rfl (by kernel_rfl) (by kernel_rfl) ?y1b ?_
      case y1b => intro o' ho; simp only [execOp, ho]; go_simp; try rfl
      refine (FT.out Rw HBR).mono ?_
      rintro e w2 ⟨rfl, rfl⟩
      refine ⟨_, rfl, HBR, ?_⟩
      simp only [Act.put, List.setIfInBounds_toArray, List.set_cons_zero, List.set_cons_succ]
      refine heldTake (d := some 9) (op := .unOp UnOp.not 4 (Operand.tmp 8)) (g := none) 2 (.bool false) rfl (by kernel_rfl) (by kernel_rfl) (by kernel_rfl) (by kernel_rfl) ?y2b HBR ?_
      case y2b => intro o' ho W hS; exact by simp only [execOp, ho]; go_simp; try rfl
      simp only [Act.put, List.setIfInBounds_toArray, List.set_cons_zero, List.set_cons_succ]
      refine heldTake (d := some 10) (op := .move (Operand.tmp 9)) (g := none) 3 ?v3b rfl (by kernel_rfl) (by kernel_rfl) (by kernel_rfl) (by kernel_rfl) ?y3b HBR ?_
      case y3b => intro o' ho W hS; simp only [execOp, ho]; go_simp; try rfl
      simp only [Act.put, List.setIfInBounds_toArray, List.set_cons_zero, List.set_cons_succ]
      refine heldTake (d := some 11) (op := .fieldAddr 52 (Operand.tmp 3) 2) (g := some (3, false)) 4 ?v4b rfl (by kernel_rfl) (by kernel_rfl) (by kernel_rfl) (by kernel_rfl) ?y4b HBR ?_
      case y4b => intro o' ho W hS; simp only [execOp, ho]; go_simp; try rfl
      simp only [Act.put, List.setIfInBounds_toArray, List.set_cons_zero, List.set_cons_succ]
      refine heldTake (d := some 12) (op := .load 9 (Operand.tmp 11)) (g := some (3, false)) 5 ?v5b rfl (by kernel_rfl) (by kernel_rfl) (by kernel_rfl) (by kernel_rfl) ?y5b HBR ?_
      case y5b => intro o' ho W hS; obtain ⟨-, -, x2⟩ := Msg.ev_cells (below_key HH.out hS); simp only [execOp, ho]; go_simp; try rfl
      simp only [Act.put, List.setIfInBounds_toArray, List.set_cons_zero, List.set_cons_succ]
      refine heldTake (d := some 13) (op := .call { callee := Callee.builtin Builtin.len, args := #[Operand.tmp 12], argTypes := #[9] }) (g := some (3, false)) 6 ?v6b rfl (by kernel_rfl) (by kernel_rfl) (by kernel_rfl) (by kernel_rfl) ?y6b HBR ?_
      case y6b => intro o' ho W hS; simp only [execOp, ho]; go_simp; try rfl
      simp only [Act.put, List.setIfInBounds_toArray, List.set_cons_zero, List.set_cons_succ]
      refine heldTake (d := some 14) (op := .move (Operand.tmp 0)) (g := some (3, false)) 7 ?v7b rfl (by kernel_rfl) (by kernel_rfl) (by kernel_rfl) (by kernel_rfl) ?y7b HBR ?_
      case y7b => intro o' ho W hS; simp only [execOp, ho]; go_simp; try rfl
      simp only [Act.put, List.setIfInBounds_toArray, List.set_cons_zero, List.set_cons_succ]
      refine heldTake (d := some 15) (op := .nilCheck (Operand.tmp 14)) (g := some (3, false)) 8 ?v8b rfl (by kernel_rfl) (by kernel_rfl) (by kernel_rfl) (by kernel_rfl) ?y8b HBR ?_
      case y8b => intro o' ho W hS; simp only [execOp, ho]; go_simp; try rfl
      simp only [Act.put, List.setIfInBounds_toArray, List.set_cons_zero, List.set_cons_succ]
      refine heldTake (d := some 16) (op := .fieldAddr 80 (Operand.tmp 15) 0) (g := some (3, false)) 9 ?v9b rfl (by kernel_rfl) (by kernel_rfl) (by kernel_rfl) (by kernel_rfl) ?y9b HBR ?_
      case y9b => intro o' ho W hS; simp only [execOp, ho]; go_simp; try rfl
      simp only [Act.put, List.setIfInBounds_toArray, List.set_cons_zero, List.set_cons_succ]
      refine heldTake (d := some 17) (op := .load 3 (Operand.tmp 16)) (g := some (3, false)) 10 ?v10b rfl (by kernel_rfl) (by kernel_rfl) (by kernel_rfl) (by kernel_rfl) ?y10b HBR ?_
      case y10b => intro o' ho W hS; have x3 := (hS.cell (p := ⟨L, 0, none⟩) hlt).trans c0; simp only [execOp, ho]; go_simp; try rfl
      simp only [Act.put, List.setIfInBounds_toArray, List.set_cons_zero, List.set_cons_succ]
      refine heldTake (d := some 18) (op := .binOp BinOp.gtr 3 (Operand.tmp 13) (Operand.tmp 17) 3) (g := some (3, false)) 11 (.bool true) rfl (by kernel_rfl) (by kernel_rfl) (by kernel_rfl) (by kernel_rfl) ?y11b HBR ?_
      case y11b => intro o' ho W hS; exact by simp only [execOp, ho]; go_simp; first | done | (rw [hq]; done) | (simp [hq]; done) | rfl
      simp only [Act.put, List.setIfInBounds_toArray, List.set_cons_zero, List.set_cons_succ]
      refine heldTake (d := some 19) (op := .pick (Operand.tmp 10) (Operand.const (Value.bool true)) (Operand.tmp 18)) (g := none) 12 (.bool true) rfl (by kernel_rfl) (by kernel_rfl) (by kernel_rfl) (by kernel_rfl) ?y12b HBR ?_
      case y12b => intro o' ho W hS; exact by simp only [execOp, ho]; go_simp; try rfl
      simp only [Act.put, List.setIfInBounds_toArray, List.set_cons_zero, List.set_cons_succ]
      refine wpAnyH_done (by kernel_rfl) ?_ _
      refine NoPanic.normal ?_
      go_wp2
      go_ret
      exact ⟨_, _, _, rfl, ⟨H.out.below HBR⟩, ⟨HG0.out.trans (OGoes.below L rb rp tv kv qv HBR)⟩⟩
    · have hq : ((s.size : Int) > (c.msg : Int)) = False := eq_false (by omega)
      by_cases ho : o = 1 ∨ o = 2
      · obtain ⟨fs, hfs⟩ : ∃ fs, frs c.frm o (bytes s) = fs := ⟨_, rfl⟩
        obtain ⟨n, hn⟩ : ∃ n, fs.length = n := ⟨_, rfl⟩
        have hnp : 0 < n := by rw [← hn, ← hfs]; exact CutPlain.frs_pos c.frm hf1 o (bytes s)
        have hnl : n ≤ 65537 := by
          have := LegPlain.frs_len hf1 (bytes s).length o (bytes s) (Nat.le_refl _)
          rw [hfs, hn, bytes_length] at this
          omega
        have hres : LegPlain.send c l o (bytes s) = (LegPlain.move c { l with rest := fs, said := l.said ++ [(o, bytes s)] }, true) := by
          rw [← hfs]
          exact if_pos ⟨hfr, ho, by rw [bytes_length]; omega⟩
        rw [hres]
        have FR : Sl (∀ V, Calls Tryz.prog 55 #[.int .i64 o, .string s, .int .i64 (c.frm : Int)] V fun e w' => ∃ g, e = .returned (.tuple #[.slice (some ⟨g, 0, none⟩) n n, .int .i64 0]) ∧ Sl (Cut.RowF w' g fs) ∧ V.heap.size ≤ g ∧ Sl (Below V.heap.size V w')) := ⟨fun V => by
          have := Cut.frames_yes o s c.frm n V ho (by omega) ⟨hf1, hfm⟩ (by rw [hfs]; exact hn)
          rw [hfs] at this; exact this⟩
        obtain ⟨p1, p2, p3, p4, p5⟩ := few_pm hf hk hc
        have h5 := LegPlain.Good.ctl_le hf
        have HPM : Sl (Inv c { l with rest := fs, said := l.said ++ [(o, bytes s)] } ∧ l.tail.length ≤ 100000 ∧ Small 256 l.tail ∧ c.frm ≤ 65536 ∧ l.ctl.length + fs.length ≤ 1000000) := ⟨⟨p1.bytes, p1.hist, p1.ctl, by rw [← hfs]; exact frs_isR hf1 ho (bytes s) (bytes_small s), p1.ring⟩, p2, p3, p4, by rw [hn]; omega⟩
        have HN := Sl.mk hn
        have HNP := Sl.mk (And.intro hnp hnl)
        clear h hg hf hk hc hop HB hH h1 hfree FT0 hfr hres hms hfm hf1 hfs hn hnp hnl p1 p2 p3 p4 p5 h5 ho hl
        go_enter Tryz.func21, Tryz.ntmps21
        go_upto_region 1 with fail
        (try rw [hwa])
        clear hwa
        go_upto_region 1 with fail
        obtain ⟨Rw, hRw⟩ : ∃ R, wa.drew = R := ⟨_, rfl⟩
        have HBR : Below wa.heap.size wa Rw := by rw [← hRw]; exact (Below.refl _ _).drew
        refine wp_region_noPanic ?_
        refine wp_region_held (S := fun V => Below wa.heap.size wa V) (by kernel_rfl) ?_
        change wpAnyH _ _ _ _ _ _ _ _ wa.drew
        rw [hRw]
        clear hRw
        refine heldTake (d := some 7) (op := .move (Operand.tmp 0)) (g := none) 0 ?v0c rfl (by kernel_rfl) (by kernel_rfl) (by kernel_rfl) (by kernel_rfl) ?y0c HBR ?_
        case y0c => intro o' ho W hS; simp only [execOp, ho]; go_simp; try rfl
        simp only [Act.put, List.setIfInBounds_toArray, List.set_cons_zero, List.set_cons_succ]
        refine heldCall (d := some 8) (op := .call { callee := Callee.value (Operand.func 35), args := #[Operand.tmp 7], argTypes := #[30] }) (g := none) 1 35 #[.pointer (some ⟨L, 0, none⟩)] rfl (by kernel_rfl) (by kernel_rfl) ?y1c ?_
        case y1c => intro o' ho; simp only [execOp, ho]; go_simp; try rfl
        refine (FT.out Rw HBR).mono ?_
        rintro e w2 ⟨rfl, rfl⟩
        refine ⟨_, rfl, HBR, ?_⟩
        simp only [Act.put, List.setIfInBounds_toArray, List.set_cons_zero, List.set_cons_succ]
        refine heldTake (d := some 9) (op := .unOp UnOp.not 4 (Operand.tmp 8)) (g := none) 2 (.bool false) rfl (by kernel_rfl) (by kernel_rfl) (by kernel_rfl) (by kernel_rfl) ?y2c HBR ?_
        case y2c => intro o' ho W hS; exact by simp only [execOp, ho]; go_simp; try rfl
        simp only [Act.put, List.setIfInBounds_toArray, List.set_cons_zero, List.set_cons_succ]
        refine heldTake (d := some 10) (op := .move (Operand.tmp 9)) (g := none) 3 ?v3c rfl (by kernel_rfl) (by kernel_rfl) (by kernel_rfl) (by kernel_rfl) ?y3c HBR ?_
        case y3c => intro o' ho W hS; simp only [execOp, ho]; go_simp; try rfl
        simp only [Act.put, List.setIfInBounds_toArray, List.set_cons_zero, List.set_cons_succ]
        refine heldTake (d := some 11) (op := .fieldAddr 52 (Operand.tmp 3) 2) (g := some (3, false)) 4 ?v4c rfl (by kernel_rfl) (by kernel_rfl) (by kernel_rfl) (by kernel_rfl) ?y4c HBR ?_
        case y4c => intro o' ho W hS; simp only [execOp, ho]; go_simp; try rfl
        simp only [Act.put, List.setIfInBounds_toArray, List.set_cons_zero, List.set_cons_succ]
        refine heldTake (d := some 12) (op := .load 9 (Operand.tmp 11)) (g := some (3, false)) 5 ?v5c rfl (by kernel_rfl) (by kernel_rfl) (by kernel_rfl) (by kernel_rfl) ?y5c HBR ?_
        case y5c => intro o' ho W hS; obtain ⟨-, -, x2⟩ := Msg.ev_cells (below_key HH.out hS); simp only [execOp, ho]; go_simp; try rfl
        simp only [Act.put, List.setIfInBounds_toArray, List.set_cons_zero, List.set_cons_succ]
        refine heldTake (d := some 13) (op := .call { callee := Callee.builtin Builtin.len, args := #[Operand.tmp 12], argTypes := #[9] }) (g := some (3, false)) 6 ?v6c rfl (by kernel_rfl) (by kernel_rfl) (by kernel_rfl) (by kernel_rfl) ?y6c HBR ?_
        case y6c => intro o' ho W hS; simp only [execOp, ho]; go_simp; try rfl
        simp only [Act.put, List.setIfInBounds_toArray, List.set_cons_zero, List.set_cons_succ]
        refine heldTake (d := some 14) (op := .move (Operand.tmp 0)) (g := some (3, false)) 7 ?v7c rfl (by kernel_rfl) (by kernel_rfl) (by kernel_rfl) (by kernel_rfl) ?y7c HBR ?_
        case y7c => intro o' ho W hS; simp only [execOp, ho]; go_simp; try rfl
        simp only [Act.put, List.setIfInBounds_toArray, List.set_cons_zero, List.set_cons_succ]
        refine heldTake (d := some 15) (op := .nilCheck (Operand.tmp 14)) (g := some (3, false)) 8 ?v8c rfl (by kernel_rfl) (by kernel_rfl) (by kernel_rfl) (by kernel_rfl) ?y8c HBR ?_
        case y8c => intro o' ho W hS; simp only [execOp, ho]; go_simp; try rfl
        simp only [Act.put, List.setIfInBounds_toArray, List.set_cons_zero, List.set_cons_succ]
        refine heldTake (d := some 16) (op := .fieldAddr 80 (Operand.tmp 15) 0) (g := some (3, false)) 9 ?v9c rfl (by kernel_rfl) (by kernel_rfl) (by kernel_rfl) (by kernel_rfl) ?y9c HBR ?_
        case y9c => intro o' ho W hS; simp only [execOp, ho]; go_simp; try rfl
        simp only [Act.put, List.setIfInBounds_toArray, List.set_cons_zero, List.set_cons_succ]
        refine heldTake (d := some 17) (op := .load 3 (Operand.tmp 16)) (g := some (3, false)) 10 ?v10c rfl (by kernel_rfl) (by kernel_rfl) (by kernel_rfl) (by kernel_rfl) ?y10c HBR ?_
        case y10c => intro o' ho W hS; have x3 := (hS.cell (p := ⟨L, 0, none⟩) hlt).trans c0; simp only [execOp, ho]; go_simp; try rfl
        simp only [Act.put, List.setIfInBounds_toArray, List.set_cons_zero, List.set_cons_succ]
        refine heldTake (d := some 18) (op := .binOp BinOp.gtr 3 (Operand.tmp 13) (Operand.tmp 17) 3) (g := some (3, false)) 11 (.bool false) rfl (by kernel_rfl) (by kernel_rfl) (by kernel_rfl) (by kernel_rfl) ?y11c HBR ?_
        case y11c => intro o' ho W hS; exact by simp only [execOp, ho]; go_simp; first | done | (rw [hq]; done) | (simp [hq]; done) | rfl
        simp only [Act.put, List.setIfInBounds_toArray, List.set_cons_zero, List.set_cons_succ]
        refine heldTake (d := some 19) (op := .pick (Operand.tmp 10) (Operand.const (Value.bool true)) (Operand.tmp 18)) (g := none) 12 (.bool false) rfl (by kernel_rfl) (by kernel_rfl) (by kernel_rfl) (by kernel_rfl) ?y12c HBR ?_
        case y12c => intro o' ho W hS; exact by simp only [execOp, ho]; go_simp; try rfl
        simp only [Act.put, List.setIfInBounds_toArray, List.set_cons_zero, List.set_cons_succ]
        refine wpAnyH_done (by kernel_rfl) ?_ _
        refine NoPanic.normal ?_
        have H2 := H.out.below HBR
        have hlt2 := H2.lt
        have HH2 := Sl.mk (below_key HH.out HBR)
        have HG2 := Sl.mk (HG0.out.trans (OGoes.below L rb rp tv kv qv HBR))
        obtain ⟨-, c1, -⟩ := H2.cells
        have HL2 := Sl.mk H2
        obtain ⟨wb, hwb⟩ : ∃ V, Rw = V := ⟨_, rfl⟩
        subst hwb
        clear H2 c0 hlt HBR FT hq H HH HG0
        go_upto_region 3 with fail
        obtain ⟨Rx, hRx⟩ : ∃ R, Rw.drew = R := ⟨_, rfl⟩
        have HBX : Below Rw.heap.size Rw Rx := by rw [← hRx]; exact (Below.refl _ _).drew
        refine wp_region_noPanic ?_
        refine wp_region_held (S := fun V => Below Rw.heap.size Rw V) (by kernel_rfl) ?_
        change wpAnyH _ _ _ _ _ _ _ _ Rw.drew
        rw [hRx]
        clear hRx
        refine heldTake (d := some 21) (op := .fieldAddr 52 (Operand.tmp 3) 0) (g := none) 0 ?v0d rfl (by kernel_rfl) (by kernel_rfl) (by kernel_rfl) (by kernel_rfl) ?y0d HBX ?_
        case y0d => intro o' ho W hS; simp only [execOp, ho]; go_simp; try rfl
        simp only [Act.put, List.setIfInBounds_toArray, List.set_cons_zero, List.set_cons_succ]
        refine heldTake (d := some 22) (op := .load 3 (Operand.tmp 21)) (g := none) 1 ?v1d rfl (by kernel_rfl) (by kernel_rfl) (by kernel_rfl) (by kernel_rfl) ?y1d HBX ?_
        case y1d => intro o' ho W hS; obtain ⟨x0, -, -⟩ := Msg.ev_cells (below_key HH2.out hS); simp only [execOp, ho]; go_simp; try rfl
        simp only [Act.put, List.setIfInBounds_toArray, List.set_cons_zero, List.set_cons_succ]
        refine heldTake (d := some 23) (op := .fieldAddr 52 (Operand.tmp 3) 2) (g := none) 2 ?v2d rfl (by kernel_rfl) (by kernel_rfl) (by kernel_rfl) (by kernel_rfl) ?y2d HBX ?_
        case y2d => intro o' ho W hS; simp only [execOp, ho]; go_simp; try rfl
        simp only [Act.put, List.setIfInBounds_toArray, List.set_cons_zero, List.set_cons_succ]
        refine heldTake (d := some 24) (op := .load 9 (Operand.tmp 23)) (g := none) 3 ?v3d rfl (by kernel_rfl) (by kernel_rfl) (by kernel_rfl) (by kernel_rfl) ?y3d HBX ?_
        case y3d => intro o' ho W hS; obtain ⟨-, -, x2⟩ := Msg.ev_cells (below_key HH2.out hS); simp only [execOp, ho]; go_simp; try rfl
        simp only [Act.put, List.setIfInBounds_toArray, List.set_cons_zero, List.set_cons_succ]
        refine heldTake (d := some 25) (op := .move (Operand.tmp 0)) (g := none) 4 ?v4d rfl (by kernel_rfl) (by kernel_rfl) (by kernel_rfl) (by kernel_rfl) ?y4d HBX ?_
        case y4d => intro o' ho W hS; simp only [execOp, ho]; go_simp; try rfl
        simp only [Act.put, List.setIfInBounds_toArray, List.set_cons_zero, List.set_cons_succ]
        refine heldTake (d := some 26) (op := .nilCheck (Operand.tmp 25)) (g := none) 5 ?v5d rfl (by kernel_rfl) (by kernel_rfl) (by kernel_rfl) (by kernel_rfl) ?y5d HBX ?_
        case y5d => intro o' ho W hS; simp only [execOp, ho]; go_simp; try rfl
        simp only [Act.put, List.setIfInBounds_toArray, List.set_cons_zero, List.set_cons_succ]
        refine heldTake (d := some 27) (op := .fieldAddr 80 (Operand.tmp 26) 1) (g := none) 6 ?v6d rfl (by kernel_rfl) (by kernel_rfl) (by kernel_rfl) (by kernel_rfl) ?y6d HBX ?_
        case y6d => intro o' ho W hS; simp only [execOp, ho]; go_simp; try rfl
        simp only [Act.put, List.setIfInBounds_toArray, List.set_cons_zero, List.set_cons_succ]
        refine heldTake (d := some 28) (op := .load 3 (Operand.tmp 27)) (g := none) 7 ?v7d rfl (by kernel_rfl) (by kernel_rfl) (by kernel_rfl) (by kernel_rfl) ?y7d HBX ?_
        case y7d => intro o' ho W hS; have x3 := (hS.cell (p := ⟨L, 1, none⟩) hlt2).trans c1; simp only [execOp, ho]; go_simp; try rfl
        simp only [Act.put, List.setIfInBounds_toArray, List.set_cons_zero, List.set_cons_succ]
        refine heldCall (d := some 29) (op := .call { callee := Callee.value (Operand.func 55), args := #[Operand.tmp 22, Operand.tmp 24, Operand.tmp 28], argTypes := #[3, 9, 3] }) (g := none) 8 55 #[.int .i64 o, .string s, .int .i64 (c.frm : Int)] rfl (by kernel_rfl) (by kernel_rfl) ?y8d ?_
        case y8d => intro o' ho; simp only [execOp, ho]; go_simp; try rfl
        refine (FR.out Rx).mono ?_
        rintro e w3 ⟨g, rfl, HRF, hge, HB3⟩
        have HBY : Below Rw.heap.size Rw w3 := HBX.trans (HB3.out.mono HBX.size)
        refine ⟨_, rfl, HBY, ?_⟩
        simp only [Act.put, List.setIfInBounds_toArray, List.set_cons_zero, List.set_cons_succ]
        refine heldTake (d := some 20) (op := .move (Operand.tmp 29)) (g := none) 9 ?v9d rfl (by kernel_rfl) (by kernel_rfl) (by kernel_rfl) (by kernel_rfl) ?y9d HBY ?_
        case y9d => intro o' ho W hS; simp only [execOp, ho]; go_simp; try rfl
        simp only [Act.put, List.setIfInBounds_toArray, List.set_cons_zero, List.set_cons_succ]
        refine heldTake (d := some 30) (op := .extract (Operand.tmp 20) 0) (g := none) 10 ?v10d rfl (by kernel_rfl) (by kernel_rfl) (by kernel_rfl) (by kernel_rfl) ?y10d HBY ?_
        case y10d => intro o' ho W hS; simp only [execOp, ho]; go_simp; try rfl
        simp only [Act.put, List.setIfInBounds_toArray, List.set_cons_zero, List.set_cons_succ]
        refine heldTake (d := some 31) (op := .extract (Operand.tmp 20) 1) (g := none) 11 ?v11d rfl (by kernel_rfl) (by kernel_rfl) (by kernel_rfl) (by kernel_rfl) ?y11d HBY ?_
        case y11d => intro o' ho W hS; simp only [execOp, ho]; go_simp; try rfl
        simp only [Act.put, List.setIfInBounds_toArray, List.set_cons_zero, List.set_cons_succ]
        refine heldTake (d := some 5) (op := .assign (Operand.tmp 30)) (g := none) 12 ?v12d rfl (by kernel_rfl) (by kernel_rfl) (by kernel_rfl) (by kernel_rfl) ?y12d HBY ?_
        case y12d => intro o' ho W hS; simp only [execOp, ho]; go_simp; try rfl
        simp only [Act.put, List.setIfInBounds_toArray, List.set_cons_zero, List.set_cons_succ]
        refine heldTake (d := some 6) (op := .assign (Operand.tmp 31)) (g := none) 13 ?v13d rfl (by kernel_rfl) (by kernel_rfl) (by kernel_rfl) (by kernel_rfl) ?y13d HBY ?_
        case y13d => intro o' ho W hS; simp only [execOp, ho]; go_simp; try rfl
        simp only [Act.put, List.setIfInBounds_toArray, List.set_cons_zero, List.set_cons_succ]
        refine wpAnyH_done (by kernel_rfl) ?_ _
        refine NoPanic.normal ?_
        have HV : FRow w3 w0.heap.size (.slice (some ⟨g, 0, none⟩) n n) fs := frow_of HRF.out HN.out HNP.out.1 (by have := HNP.out.2; omega) (Nat.le_trans HL2.out.low.size (Nat.le_trans HBX.size hge))
        have ST := osend_any (m := { l with rest := fs, said := l.said ++ [(o, bytes s)] }) HL2.out HBY HP.out.1 HV (fun j e => by
          have e : some g = some j := e
          injection e with e
          have := HBX.size; omega) rfl rfl rfl rfl rfl rfl HPM.out.1 HPM.out.2.1 HPM.out.2.2.1 HPM.out.2.2.2.1 HPM.out.2.2.2.2
        clear HV HRF hge HB3 c1 HBX HBY FR
        go_wp2_with fail
        refine ST.mono ?_
        rintro e w4 ⟨t2, k2, q2, rfl, HL4, HG4⟩
        clear ST
        go_wp2
        go_ret
        exact ⟨_, _, _, rfl, HL4, ⟨HG2.out.trans HG4.out⟩⟩
      · have hres : LegPlain.send c l o (bytes s) = (l, false) := if_neg (fun e => ho e.2.1)
        rw [hres]
        have FR : Sl (∀ V, Calls Tryz.prog 55 #[.int .i64 o, .string s, .int .i64 (c.frm : Int)] V fun e w' => e = .returned (.tuple #[.slice none 0 0, .int .i64 130]) ∧ V = w') := ⟨fun V => Cut.frames_no o s c.frm V (.inl ho)⟩
        clear h hg hf hk hc hop HB hH h1 hfree FT0 hfr hres hms hfm hf1 ho hl
        go_enter Tryz.func21, Tryz.ntmps21
        go_upto_region 1 with fail
        (try rw [hwa])
        clear hwa
        go_upto_region 1 with fail
        obtain ⟨Rw, hRw⟩ : ∃ R, wa.drew = R := ⟨_, rfl⟩
        have HBR : Below wa.heap.size wa Rw := by rw [← hRw]; exact (Below.refl _ _).drew
        refine wp_region_noPanic ?_
        refine wp_region_held (S := fun V => Below wa.heap.size wa V) (by kernel_rfl) ?_
        change wpAnyH _ _ _ _ _ _ _ _ wa.drew
        rw [hRw]
        clear hRw
        refine heldTake (d := some 7) (op := .move (Operand.tmp 0)) (g := none) 0 ?v0e rfl (by kernel_rfl) (by kernel_rfl) (by kernel_rfl) (by kernel_rfl) ?y0e HBR ?_
        case y0e => intro o' ho W hS; simp only [execOp, ho]; go_simp; try rfl
        simp only [Act.put, List.setIfInBounds_toArray, List.set_cons_zero, List.set_cons_succ]
        refine heldCall (d := some 8) (op := .call { callee := Callee.value (Operand.func 35), args := #[Operand.tmp 7], argTypes := #[30] }) (g := none) 1 35 #[.pointer (some ⟨L, 0, none⟩)] rfl (by kernel_rfl) (by kernel_rfl) ?y1e ?_
        case y1e => intro o' ho; simp only [execOp, ho]; go_simp; try rfl
        refine (FT.out Rw HBR).mono ?_
        rintro e w2 ⟨rfl, rfl⟩
        refine ⟨_, rfl, HBR, ?_⟩
        simp only [Act.put, List.setIfInBounds_toArray, List.set_cons_zero, List.set_cons_succ]
        refine heldTake (d := some 9) (op := .unOp UnOp.not 4 (Operand.tmp 8)) (g := none) 2 (.bool false) rfl (by kernel_rfl) (by kernel_rfl) (by kernel_rfl) (by kernel_rfl) ?y2e HBR ?_
        case y2e => intro o' ho W hS; exact by simp only [execOp, ho]; go_simp; try rfl
        simp only [Act.put, List.setIfInBounds_toArray, List.set_cons_zero, List.set_cons_succ]
        refine heldTake (d := some 10) (op := .move (Operand.tmp 9)) (g := none) 3 ?v3e rfl (by kernel_rfl) (by kernel_rfl) (by kernel_rfl) (by kernel_rfl) ?y3e HBR ?_
        case y3e => intro o' ho W hS; simp only [execOp, ho]; go_simp; try rfl
        simp only [Act.put, List.setIfInBounds_toArray, List.set_cons_zero, List.set_cons_succ]
        refine heldTake (d := some 11) (op := .fieldAddr 52 (Operand.tmp 3) 2) (g := some (3, false)) 4 ?v4e rfl (by kernel_rfl) (by kernel_rfl) (by kernel_rfl) (by kernel_rfl) ?y4e HBR ?_
        case y4e => intro o' ho W hS; simp only [execOp, ho]; go_simp; try rfl
        simp only [Act.put, List.setIfInBounds_toArray, List.set_cons_zero, List.set_cons_succ]
        refine heldTake (d := some 12) (op := .load 9 (Operand.tmp 11)) (g := some (3, false)) 5 ?v5e rfl (by kernel_rfl) (by kernel_rfl) (by kernel_rfl) (by kernel_rfl) ?y5e HBR ?_
        case y5e => intro o' ho W hS; obtain ⟨-, -, x2⟩ := Msg.ev_cells (below_key HH.out hS); simp only [execOp, ho]; go_simp; try rfl
        simp only [Act.put, List.setIfInBounds_toArray, List.set_cons_zero, List.set_cons_succ]
        refine heldTake (d := some 13) (op := .call { callee := Callee.builtin Builtin.len, args := #[Operand.tmp 12], argTypes := #[9] }) (g := some (3, false)) 6 ?v6e rfl (by kernel_rfl) (by kernel_rfl) (by kernel_rfl) (by kernel_rfl) ?y6e HBR ?_
        case y6e => intro o' ho W hS; simp only [execOp, ho]; go_simp; try rfl
        simp only [Act.put, List.setIfInBounds_toArray, List.set_cons_zero, List.set_cons_succ]
        refine heldTake (d := some 14) (op := .move (Operand.tmp 0)) (g := some (3, false)) 7 ?v7e rfl (by kernel_rfl) (by kernel_rfl) (by kernel_rfl) (by kernel_rfl) ?y7e HBR ?_
        case y7e => intro o' ho W hS; simp only [execOp, ho]; go_simp; try rfl
        simp only [Act.put, List.setIfInBounds_toArray, List.set_cons_zero, List.set_cons_succ]
        refine heldTake (d := some 15) (op := .nilCheck (Operand.tmp 14)) (g := some (3, false)) 8 ?v8e rfl (by kernel_rfl) (by kernel_rfl) (by kernel_rfl) (by kernel_rfl) ?y8e HBR ?_
        case y8e => intro o' ho W hS; simp only [execOp, ho]; go_simp; try rfl
        simp only [Act.put, List.setIfInBounds_toArray, List.set_cons_zero, List.set_cons_succ]
        refine heldTake (d := some 16) (op := .fieldAddr 80 (Operand.tmp 15) 0) (g := some (3, false)) 9 ?v9e rfl (by kernel_rfl) (by kernel_rfl) (by kernel_rfl) (by kernel_rfl) ?y9e HBR ?_
        case y9e => intro o' ho W hS; simp only [execOp, ho]; go_simp; try rfl
        simp only [Act.put, List.setIfInBounds_toArray, List.set_cons_zero, List.set_cons_succ]
        refine heldTake (d := some 17) (op := .load 3 (Operand.tmp 16)) (g := some (3, false)) 10 ?v10e rfl (by kernel_rfl) (by kernel_rfl) (by kernel_rfl) (by kernel_rfl) ?y10e HBR ?_
        case y10e => intro o' ho W hS; have x3 := (hS.cell (p := ⟨L, 0, none⟩) hlt).trans c0; simp only [execOp, ho]; go_simp; try rfl
        simp only [Act.put, List.setIfInBounds_toArray, List.set_cons_zero, List.set_cons_succ]
        refine heldTake (d := some 18) (op := .binOp BinOp.gtr 3 (Operand.tmp 13) (Operand.tmp 17) 3) (g := some (3, false)) 11 (.bool false) rfl (by kernel_rfl) (by kernel_rfl) (by kernel_rfl) (by kernel_rfl) ?y11e HBR ?_
        case y11e => intro o' ho W hS; exact by simp only [execOp, ho]; go_simp; first | done | (rw [hq]; done) | (simp [hq]; done) | rfl
        simp only [Act.put, List.setIfInBounds_toArray, List.set_cons_zero, List.set_cons_succ]
        refine heldTake (d := some 19) (op := .pick (Operand.tmp 10) (Operand.const (Value.bool true)) (Operand.tmp 18)) (g := none) 12 (.bool false) rfl (by kernel_rfl) (by kernel_rfl) (by kernel_rfl) (by kernel_rfl) ?y12e HBR ?_
        case y12e => intro o' ho W hS; exact by simp only [execOp, ho]; go_simp; try rfl
        simp only [Act.put, List.setIfInBounds_toArray, List.set_cons_zero, List.set_cons_succ]
        refine wpAnyH_done (by kernel_rfl) ?_ _
        refine NoPanic.normal ?_
        have H2 := H.out.below HBR
        have hlt2 := H2.lt
        have HH2 := Sl.mk (below_key HH.out HBR)
        have HG2 := Sl.mk (HG0.out.trans (OGoes.below L rb rp tv kv qv HBR))
        obtain ⟨-, c1, -⟩ := H2.cells
        have HL2 := Sl.mk H2
        clear H2 c0 hlt HBR FT hq H HH HG0
        go_upto_region 3 with fail
        obtain ⟨Rx, hRx⟩ : ∃ R, Rw.drew = R := ⟨_, rfl⟩
        have HBX : Below Rw.heap.size Rw Rx := by rw [← hRx]; exact (Below.refl _ _).drew
        refine wp_region_noPanic ?_
        refine wp_region_held (S := fun V => Below Rw.heap.size Rw V) (by kernel_rfl) ?_
        change wpAnyH _ _ _ _ _ _ _ _ Rw.drew
        rw [hRx]
        clear hRx
        refine heldTake (d := some 21) (op := .fieldAddr 52 (Operand.tmp 3) 0) (g := none) 0 ?v0f rfl (by kernel_rfl) (by kernel_rfl) (by kernel_rfl) (by kernel_rfl) ?y0f HBX ?_
        case y0f => intro o' ho W hS; simp only [execOp, ho]; go_simp; try rfl
        simp only [Act.put, List.setIfInBounds_toArray, List.set_cons_zero, List.set_cons_succ]
        refine heldTake (d := some 22) (op := .load 3 (Operand.tmp 21)) (g := none) 1 ?v1f rfl (by kernel_rfl) (by kernel_rfl) (by kernel_rfl) (by kernel_rfl) ?y1f HBX ?_
        case y1f => intro o' ho W hS; obtain ⟨x0, -, -⟩ := Msg.ev_cells (below_key HH2.out hS); simp only [execOp, ho]; go_simp; try rfl
        simp only [Act.put, List.setIfInBounds_toArray, List.set_cons_zero, List.set_cons_succ]
        refine heldTake (d := some 23) (op := .fieldAddr 52 (Operand.tmp 3) 2) (g := none) 2 ?v2f rfl (by kernel_rfl) (by kernel_rfl) (by kernel_rfl) (by kernel_rfl) ?y2f HBX ?_
        case y2f => intro o' ho W hS; simp only [execOp, ho]; go_simp; try rfl
        simp only [Act.put, List.setIfInBounds_toArray, List.set_cons_zero, List.set_cons_succ]
        refine heldTake (d := some 24) (op := .load 9 (Operand.tmp 23)) (g := none) 3 ?v3f rfl (by kernel_rfl) (by kernel_rfl) (by kernel_rfl) (by kernel_rfl) ?y3f HBX ?_
        case y3f => intro o' ho W hS; obtain ⟨-, -, x2⟩ := Msg.ev_cells (below_key HH2.out hS); simp only [execOp, ho]; go_simp; try rfl
        simp only [Act.put, List.setIfInBounds_toArray, List.set_cons_zero, List.set_cons_succ]
        refine heldTake (d := some 25) (op := .move (Operand.tmp 0)) (g := none) 4 ?v4f rfl (by kernel_rfl) (by kernel_rfl) (by kernel_rfl) (by kernel_rfl) ?y4f HBX ?_
        case y4f => intro o' ho W hS; simp only [execOp, ho]; go_simp; try rfl
        simp only [Act.put, List.setIfInBounds_toArray, List.set_cons_zero, List.set_cons_succ]
        refine heldTake (d := some 26) (op := .nilCheck (Operand.tmp 25)) (g := none) 5 ?v5f rfl (by kernel_rfl) (by kernel_rfl) (by kernel_rfl) (by kernel_rfl) ?y5f HBX ?_
        case y5f => intro o' ho W hS; simp only [execOp, ho]; go_simp; try rfl
        simp only [Act.put, List.setIfInBounds_toArray, List.set_cons_zero, List.set_cons_succ]
        refine heldTake (d := some 27) (op := .fieldAddr 80 (Operand.tmp 26) 1) (g := none) 6 ?v6f rfl (by kernel_rfl) (by kernel_rfl) (by kernel_rfl) (by kernel_rfl) ?y6f HBX ?_
        case y6f => intro o' ho W hS; simp only [execOp, ho]; go_simp; try rfl
        simp only [Act.put, List.setIfInBounds_toArray, List.set_cons_zero, List.set_cons_succ]
        refine heldTake (d := some 28) (op := .load 3 (Operand.tmp 27)) (g := none) 7 ?v7f rfl (by kernel_rfl) (by kernel_rfl) (by kernel_rfl) (by kernel_rfl) ?y7f HBX ?_
        case y7f => intro o' ho W hS; have x3 := (hS.cell (p := ⟨L, 1, none⟩) hlt2).trans c1; simp only [execOp, ho]; go_simp; try rfl
        simp only [Act.put, List.setIfInBounds_toArray, List.set_cons_zero, List.set_cons_succ]
        refine heldCall (d := some 29) (op := .call { callee := Callee.value (Operand.func 55), args := #[Operand.tmp 22, Operand.tmp 24, Operand.tmp 28], argTypes := #[3, 9, 3] }) (g := none) 8 55 #[.int .i64 o, .string s, .int .i64 (c.frm : Int)] rfl (by kernel_rfl) (by kernel_rfl) ?y8f ?_
        case y8f => intro o' ho; simp only [execOp, ho]; go_simp; try rfl
        refine (FR.out Rx).mono ?_
        rintro e w3 ⟨rfl, rfl⟩
        refine ⟨_, rfl, HBX, ?_⟩
        simp only [Act.put, List.setIfInBounds_toArray, List.set_cons_zero, List.set_cons_succ]
        refine heldTake (d := some 20) (op := .move (Operand.tmp 29)) (g := none) 9 ?v9f rfl (by kernel_rfl) (by kernel_rfl) (by kernel_rfl) (by kernel_rfl) ?y9f HBX ?_
        case y9f => intro o' ho W hS; simp only [execOp, ho]; go_simp; try rfl
        simp only [Act.put, List.setIfInBounds_toArray, List.set_cons_zero, List.set_cons_succ]
        refine heldTake (d := some 30) (op := .extract (Operand.tmp 20) 0) (g := none) 10 ?v10f rfl (by kernel_rfl) (by kernel_rfl) (by kernel_rfl) (by kernel_rfl) ?y10f HBX ?_
        case y10f => intro o' ho W hS; simp only [execOp, ho]; go_simp; try rfl
        simp only [Act.put, List.setIfInBounds_toArray, List.set_cons_zero, List.set_cons_succ]
        refine heldTake (d := some 31) (op := .extract (Operand.tmp 20) 1) (g := none) 11 ?v11f rfl (by kernel_rfl) (by kernel_rfl) (by kernel_rfl) (by kernel_rfl) ?y11f HBX ?_
        case y11f => intro o' ho W hS; simp only [execOp, ho]; go_simp; try rfl
        simp only [Act.put, List.setIfInBounds_toArray, List.set_cons_zero, List.set_cons_succ]
        refine heldTake (d := some 5) (op := .assign (Operand.tmp 30)) (g := none) 12 ?v12f rfl (by kernel_rfl) (by kernel_rfl) (by kernel_rfl) (by kernel_rfl) ?y12f HBX ?_
        case y12f => intro o' ho W hS; simp only [execOp, ho]; go_simp; try rfl
        simp only [Act.put, List.setIfInBounds_toArray, List.set_cons_zero, List.set_cons_succ]
        refine heldTake (d := some 6) (op := .assign (Operand.tmp 31)) (g := none) 13 ?v13f rfl (by kernel_rfl) (by kernel_rfl) (by kernel_rfl) (by kernel_rfl) ?y13f HBX ?_
        case y13f => intro o' ho W hS; simp only [execOp, ho]; go_simp; try rfl
        simp only [Act.put, List.setIfInBounds_toArray, List.set_cons_zero, List.set_cons_succ]
        refine wpAnyH_done (by kernel_rfl) ?_ _
        refine NoPanic.normal ?_
        have HL3 := Sl.mk (HL2.out.below HBX)
        have HG3 := Sl.mk (HG2.out.trans (OGoes.below L rb rp tv kv qv HBX))
        clear HBX c1 FR HL2 HG2
        go_wp2
        go_ret
        exact ⟨_, _, _, rfl, HL3, HG3⟩
end
end Go.Proofs.YtlahonjmfecikaaGreatDoor.Leg
