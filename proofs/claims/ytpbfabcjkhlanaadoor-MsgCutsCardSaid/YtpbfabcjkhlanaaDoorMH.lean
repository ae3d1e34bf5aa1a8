/- msg: Take in the form in which it is used; events compared, laid in a block; awake. -/
import Derived.Test.YtpbfabcjkhlanaaDoorMG
import Derived.Laws.StructEq
set_option maxRecDepth 100000
namespace Go.Proofs.YtpbfabcjkhlanaaDoor.Msg
open Go.RowKit UtfPlain MsgPlain Fra Utf Cls
open FramePlain (Fr form chk ctl zero4 form_cases)
open ClosePlain (getC)

theorem evO_some (o c : Int) (s : ByteArray) : evO (some ⟨o, c, bytes s⟩) = .agg #[.int .i64 o, .int .i64 c, .string s] := by
  show Value.agg (evC o c (strOf (bytes s))) = _
  rw [strOf_bytes]; rfl
theorem evO_any (x : Option Ev) : ∃ o c t, evO x = .agg #[.int .i64 o, .int .i64 c, .string t] := by
  cases x with
  | none => exact ⟨_, _, _, rfl⟩
  | some e => exact ⟨_, _, _, rfl⟩
/-- Events are compared part by part. -/
theorem eq_ev (o c : Int) (s : ByteArray) (o' c' : Int) (s' : ByteArray) (W : World) : (Op.equalIn 10000 30 (.agg #[.int .i64 o, .int .i64 c, .string s]) (.agg #[.int .i64 o', .int .i64 c', .string s'])).run Tryd.prog W = .ok ((o == o') && ((c == c') && (s.toList == s'.toList))) W := by
  have hp : Tryd.prog.stoodInHeld 30 = false := by kernel_rfl
  have hu : Tryd.prog.underlying 30 = some (.struct (Tryd.prog.fieldsOf 30)) := by kernel_rfl
  have hf : (Tryd.prog.fieldsOf 30).toList = [⟨"Op", 3, 0, false, "", "", 0⟩, ⟨"Code", 3, 1, false, "", "", 8⟩, ⟨"Data", 9, 2, false, "", "", 16⟩] := by kernel_rfl
  rw [run_equalIn_struct W 9999 30 _ _ hu hp, hf]
  have e3 : ∀ (p q : Int) (w : World), (Op.equalIn 9999 3 (.int .i64 p) (.int .i64 q)).run Tryd.prog w = .ok (p == q) w := fun p q w => run_equalIn_int w 9998 3 .i64 .i64 p q Tryd.underlying3
  have e9 : ∀ (p q : ByteArray) (w : World), (Op.equalIn 9999 9 (.string p) (.string q)).run Tryd.prog w = .ok (p.toList == q.toList) w := fun p q w => run_equalIn_string w 9998 9 p q Tryd.underlying9
  have p0 : ∀ (o c : Int) (s : ByteArray) (w : World), (part 3 #[.int .i64 o, .int .i64 c, .string s] 0).run Tryd.prog w = .ok (.int .i64 o) w := fun o c s w => by kernel_rfl
  have p1 : ∀ (o c : Int) (s : ByteArray) (w : World), (part 3 #[.int .i64 o, .int .i64 c, .string s] 1).run Tryd.prog w = .ok (.int .i64 c) w := fun o c s w => by kernel_rfl
  have p2 : ∀ (o c : Int) (s : ByteArray) (w : World), (part 9 #[.int .i64 o, .int .i64 c, .string s] 2).run Tryd.prog w = .ok (.string s) w := fun o c s w => by kernel_rfl
  have n0 : ("Op" ≠ "_") = True := eq_true (by decide)
  have n1 : ("Code" ≠ "_") = True := eq_true (by decide)
  have n2 : ("Data" ≠ "_") = True := eq_true (by decide)
  cases h0 : (o == o') <;> cases h1 : (c == c') <;> cases h2 : (s.toList == s'.toList) <;>
    simp only [Op.eqFields, n0, n1, n2, if_true, Sem.run_bind, Sem.run_pure, Sem.run_ite, p0, p1, p2, e3, e9, h0, h1, h2, Result.andThen_ok, Bool.not_true, Bool.not_false, Bool.false_eq_true, if_false, Bool.true_and, Bool.false_and, Bool.and_true]
theorem ev_same (o c : Int) (s : ByteArray) (W : World) : (Op.equalIn 10000 30 (.agg #[.int .i64 o, .int .i64 c, .string s]) (.agg #[.int .i64 o, .int .i64 c, .string s])).run Tryd.prog W = .ok true W :=
  (eq_ev o c s o c s W).trans (congrArg (fun b => Result.ok b W) (by simp))
/-- An event is laid in a new block. -/
theorem laid_ev (W : World) (cs : Array Value) : ∃ V, (W.alloc (.cells #[.int .i64 0, .int .i64 0, .string { data := #[] }] 30)).setRow W.heap.size cs = V ∧ Sl (Below W.heap.size W V) ∧ Sl (V.heap[W.heap.size]? = some (.cells cs 30 (0, 0))) :=
  ⟨_, rfl, ⟨below_setRow ((Below.refl _ _).alloc (Nat.le_refl _) _) (Nat.le_refl _) _⟩, ⟨setRow_heap _ _ _ _ _ _ (alloc_new _ _ _ rfl)⟩⟩
theorem ev_new (W : World) : (W.alloc (.cells #[.int .i64 0, .int .i64 0, .string { data := #[] }] 30)).heap[W.heap.size]? = some (.cells #[.int .i64 0, .int .i64 0, .string { data := #[] }] 30 (0, 0)) := alloc_new _ _ _ rfl
theorem ev_cells {W : World} {g : Nat} {o c : Int} {s : ByteArray} (h : W.heap[g]? = some (.cells #[.int .i64 o, .int .i64 c, .string s] 30 (0, 0))) : W.cell? ⟨g, 0, none⟩ = some (.int .i64 o) ∧ W.cell? ⟨g, 1, none⟩ = some (.int .i64 c) ∧ W.cell? ⟨g, 2, none⟩ = some (.string s) := by
  refine ⟨?_, ?_, ?_⟩ <;> (rw [cell_of_row _ _ _ _ _ _ h]; rfl)
section
variable {w0 W : World} {b : Nat} {most : Int} {st : Ms} {v p : Value}
theorem take_ex (h : MacS w0 W b most st v p) (hg : Utf.Globs w0) (fin : Bool) (op : Int) (m : Bool) (ka kb kc kd : Nat) (s : ByteArray) (hk : Small 256 [ka, kb, kc, kd]) (hs : s.size ≤ 100000) (fv : Value) (hf : (.agg #[.bool fin, .int .i64 op, .bool m, .int .u8 ((ka : Nat) : Int), .int .u8 ((kb : Nat) : Int), .int .u8 ((kc : Nat) : Int), .int .u8 ((kd : Nat) : Int), .string s]) = fv)
    (st' : Ms) (x : Option Ev) (hr : MsgPlain.take most st (⟨fin, op, m, [ka, kb, kc, kd], bytes s⟩ : Fr) = (st', x)) (o c : Int) (t : ByteArray) (hx : evO x = .agg #[.int .i64 o, .int .i64 c, .string t]) (d : Bool) (hd : x.isSome = d) (k : Int) (hk2 : (st'.err : Int) = k) :
    Calls Tryd.prog 11 #[.pointer (some ⟨b, 0, none⟩), fv] W fun e w' => ∃ v' p', e = .returned (.tuple #[.agg #[.int .i64 o, .int .i64 c, .string t], .bool d, .int .i64 k]) ∧
      Sl (MacS w0 w' b most st' v' p') ∧ Sl (Goes W w' b v p v' p') := by
  subst hf
  refine (take_any h hg fin op m ka kb kc kd s hk hs).mono ?_
  rintro e w' ⟨v', p', rfl, h1, h2⟩
  refine ⟨v', p', ?_, by rw [hr] at h1; exact h1, h2⟩
  rw [hr]
  unfold tookV
  rw [hx, hd, hk2]
end
/-- What lies beside a machine stays when it goes on. -/
theorem MacS.keeps {w0 W V w' : World} {b q : Nat} {most : Int} {st : Ms} {v p v' p' : Value} {x : Obj} (h : MacS w0 W b most st v p) (hq : W.heap.size ≤ q) (hV : V.heap[q]? = some x) (hg : Goes V w' b v p v' p') : w'.heap[q]? = some x := by
  rw [hg.kept.block q (Array.getElem?_eq_some_iff.1 hV).1 (fun e => by have := (h.m.own e).2; omega)]; exact hV
theorem small0 : Small 256 [0, 0, 0, 0] := fun x hx => by simp at hx; omega
set_option maxHeartbeats 4000000 in
theorem awake_any (w : World) (hg : Utf.Globs w) : Calls Tryd.prog 10 #[] w fun e w' => e = .returned (.bool true) ∧ Sl (Below w.heap.size w w') := by
  have HG := Sl.mk hg
  have N0 := new_yes 100 w w (Below.refl _ _) (by omega)
  have HI := ev_info (cs := #[.int .i64 0, .int .i64 0, .string { data := #[] }]) rfl
  have HIP := ev_info (cs := #[.int .i64 9, .int .i64 0, .string { data := #[112] }]) rfl
  have HIH := ev_info (cs := #[.int .i64 1, .int .i64 0, .string { data := #[72, 101, 108, 108, 111] }]) rfl
  have q1 := ev_same 9 0 { data := #[112] }
  have q2 := ev_same 1 0 { data := #[72, 101, 108, 108, 111] }
  clear hg
  go_enter Tryd.func10, Tryd.ntmps10
  go_wp2_with fail
  refine N0.mono ?_
  rintro e w1 ⟨rfl, HS1, _⟩
  clear N0
  have T1 := take_ex HS1.out HG.out false 1 false 0 0 0 0 { data := #[72, 101] } small0 (by decide) _ rfl ⟨0, false, true, 1, bytes { data := #[72, 101] }⟩ none (by rfl) 0 0 { data := #[] } rfl false rfl 0 rfl
  go_wp2_with fail
  refine T1.mono ?_
  rintro e w2 ⟨v2, p2, rfl, HS2, HX2⟩
  clear T1 HS1
  obtain ⟨V2, hV2, HBV2, HEV2⟩ := laid_ev w2 #[.int .i64 0, .int .i64 0, .string { data := #[] }]
  go_upto_region 5 with (refine wpList_store_row rfl 30 (.tmp 3) (.tmp 27) rfl w2.heap.size #[.int .i64 0, .int .i64 0, .string { data := #[] }] rfl rfl 30 #[.int .i64 0, .int .i64 0, .string { data := #[] }] (ev_new w2) HI rfl (ev_all _ _ _) ?_)
  (try rw [hV2])
  clear hV2
  have HS3 := Sl.mk (HS2.out.below HBV2.out)
  clear HS2 HBV2 HEV2
  have P3 := part_any HS3.out.m 2 rfl
  go_wp2_with fail
  refine P3.mono ?_
  rintro e w3 ⟨rfl, rfl⟩
  clear P3
  have T2 := take_ex HS3.out HG.out true 9 false 0 0 0 0 { data := #[112] } small0 (by decide) _ rfl ⟨0, false, true, 1, bytes { data := #[72, 101] }⟩ (some ⟨9, 0, bytes { data := #[112] }⟩) (by rfl) 9 0 { data := #[112] } (evO_some _ _ _) true rfl 0 rfl
  go_wp2_with fail
  refine T2.mono ?_
  rintro e w4 ⟨v4, p4, rfl, HS4, _⟩
  clear T2
  clear HS3
  obtain ⟨V4, hV4, HBV4, HEV4⟩ := laid_ev w4 #[.int .i64 9, .int .i64 0, .string { data := #[112] }]
  go_upto_region 7 with (refine wpList_store_row rfl 30 (.tmp 7) (.tmp 36) rfl w4.heap.size #[.int .i64 9, .int .i64 0, .string { data := #[112] }] rfl rfl 30 #[.int .i64 0, .int .i64 0, .string { data := #[] }] (ev_new w4) HIP rfl (ev_all _ _ _) ?_)
  (try rw [hV4])
  clear hV4
  have HS5 := Sl.mk (HS4.out.below HBV4.out)
  clear HBV4
  have T3 := take_ex HS5.out HG.out true 0 false 0 0 0 0 { data := #[108, 108, 111] } small0 (by decide) _ rfl M0 (some ⟨1, 0, bytes { data := #[72, 101, 108, 108, 111] }⟩) (by rfl) 1 0 { data := #[72, 101, 108, 108, 111] } (evO_some _ _ _) true rfl 0 rfl
  go_wp2_with fail
  refine T3.mono ?_
  rintro e w6 ⟨v6, p6, rfl, HS6, HX6⟩
  clear T3
  have HE6 : Sl (w6.heap[w4.heap.size]? = some (.cells #[.int .i64 9, .int .i64 0, .string { data := #[112] }] 30 (0, 0))) := ⟨HS4.out.keeps (Nat.le_refl _) HEV4.out HX6.out⟩
  clear HS4 HS5 HEV4 HX6
  obtain ⟨V6, hV6, HBV6, HEV6⟩ := laid_ev w6 #[.int .i64 1, .int .i64 0, .string { data := #[72, 101, 108, 108, 111] }]
  go_upto_region 8 with (refine wpList_store_row rfl 30 (.tmp 10) (.tmp 43) rfl w6.heap.size #[.int .i64 1, .int .i64 0, .string { data := #[72, 101, 108, 108, 111] }] rfl rfl 30 #[.int .i64 0, .int .i64 0, .string { data := #[] }] (ev_new w6) HIH rfl (ev_all _ _ _) ?_)
  (try rw [hV6])
  clear hV6
  have HS7 := Sl.mk (HS6.out.below HBV6.out)
  have HE7 := Sl.mk (below_key HE6.out HBV6.out)
  clear HS6 HE6 HBV6
  obtain ⟨a0, a1, a2⟩ := ev_cells HE7.out
  obtain ⟨b0, b1, b2⟩ := ev_cells HEV6.out
  have PP := part_any HS7.out.m 0 rfl
  have PO := over_any HS7.out.m
  have PE := err_any HS7.out.m
  go_wp2_with fail
  refine PP.mono ?_
  rintro e w8 ⟨rfl, rfl⟩
  clear PP
  go_wp2_with fail
  refine PO.mono ?_
  rintro e w9 ⟨rfl, rfl⟩
  clear PO
  go_wp2_with fail
  refine PE.mono ?_
  rintro e w10 ⟨rfl, rfl⟩
  clear PE
  go_wp2
  go_ret
  exact ⟨rfl, ⟨HS7.out.m.L⟩⟩
end Go.Proofs.YtpbfabcjkhlanaaDoor.Msg
