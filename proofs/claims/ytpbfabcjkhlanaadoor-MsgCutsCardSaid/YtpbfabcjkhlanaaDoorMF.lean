/- msg: read: a frame's event is made ready. -/
import Derived.Test.YtpbfabcjkhlanaaDoorME
set_option maxRecDepth 100000
namespace Go.Proofs.YtpbfabcjkhlanaaDoor.Msg
open Go.RowKit UtfPlain MsgPlain Fra Utf Cls
open FramePlain (Fr form chk ctl zero4 form_cases)
open ClosePlain (getC)

theorem step_bad {most : Int} {st : Ms} {f : Fr} (h : form f = false) : MsgPlain.step most st f = (bad 120, none) := if_pos h
theorem step_tell {most : Int} {st : Ms} {f : Fr} (h : form f = true) (ho : f.op = 9 ∨ f.op = 10) : MsgPlain.step most st f = (st, some ⟨f.op, 0, f.data⟩) := by
  unfold MsgPlain.step
  rw [if_neg (by rw [h]; decide), if_pos ho]
theorem step_end {most : Int} {st : Ms} {f : Fr} (h : form f = true) (ho : f.op = 8) : MsgPlain.step most st f = ended (getC f.data) := by
  unfold MsgPlain.step
  rw [if_neg (by rw [h]; decide), if_neg (by omega), if_pos ho]
  rfl
theorem step_mored {most : Int} {st : Ms} {f : Fr} (h : form f = true) (ho : ¬ (f.op = 9 ∨ f.op = 10)) (h8 : ¬ f.op = 8) : MsgPlain.step most st f = mored most st f.fin f.op f.data := by
  unfold MsgPlain.step
  rw [if_neg (by rw [h]; decide), if_neg ho, if_neg h8]
  rfl
section
variable {w0 W : World} {b : Nat} {most : Int} {st : Ms} {v p : Value}
set_option maxHeartbeats 1000000 in
theorem read_any (h : MacS w0 W b most st v p) (he : st.err = 0) (hov : st.over = false) (hg : Utf.Globs w0) (fin : Bool) (op : Int) (m : Bool) (ka kb kc kd : Nat) (s : ByteArray) (hk : Small 256 [ka, kb, kc, kd]) (hs : s.size ≤ 100000) :
    Calls Tryd.prog 16 #[.pointer (some ⟨b, 0, none⟩), (.agg #[.bool fin, .int .i64 op, .bool m, .int .u8 ((ka : Nat) : Int), .int .u8 ((kb : Nat) : Int), .int .u8 ((kc : Nat) : Int), .int .u8 ((kd : Nat) : Int), .string s])] W fun e w' => ∃ v' p' tv, e = .returned (.tuple #[tv, .int .i64 ((MsgPlain.step most st (⟨fin, op, m, [ka, kb, kc, kd], bytes s⟩ : Fr)).1.err : Int)]) ∧ Sl (Went w0 W w' b most (MsgPlain.step most st (⟨fin, op, m, [ka, kb, kc, kd], bytes s⟩ : Fr)) v p v' p' tv) := by
  obtain ⟨r, hr⟩ : ∃ r, MsgPlain.step most st (⟨fin, op, m, [ka, kb, kc, kd], bytes s⟩ : Fr) = r := ⟨_, rfl⟩
  rw [hr]
  obtain ⟨W1, hW1⟩ : ∃ V, W.alloc (.cells #[.bool fin, .int .i64 op, .bool m, .int .u8 ((ka : Nat) : Int), .int .u8 ((kb : Nat) : Int), .int .u8 ((kc : Nat) : Int), .int .u8 ((kd : Nat) : Int), .string s] 35) = V := ⟨_, rfl⟩
  have HB1 : Sl (Below W.heap.size W W1) := ⟨by rw [← hW1]; exact (Below.refl _ _).alloc (Nat.le_refl _) _⟩
  have HF1 : Sl (W1.heap[W.heap.size]? = some (.cells #[.bool fin, .int .i64 op, .bool m, .int .u8 ((ka : Nat) : Int), .int .u8 ((kb : Nat) : Int), .int .u8 ((kc : Nat) : Int), .int .u8 ((kd : Nat) : Int), .string s] 35 (0, 0))) := ⟨by rw [← hW1]; exact alloc_new _ _ _ rfl⟩
  obtain ⟨e0, e1, e2, e3, e4, e5, e6, e7⟩ := bx8 HF1.out
  have CK := check_any fin op m ka kb kc kd s W1 hk
  have HM := Sl.mk h
  have HG := Sl.mk hg
  have HS := Sl.mk hs
  have HR := Sl.mk hr
  have HE := Sl.mk he
  have HO := Sl.mk hov
  clear hr hg hs hk h he hov
  cases hf : form (⟨fin, op, m, [ka, kb, kc, kd], bytes s⟩ : Fr) with
  | false =>
    rw [Fra.chk_form hf] at CK
    have HES : Sl (r = (bad 120, none)) := ⟨by rw [← HR.out]; exact step_bad hf⟩
    clear hf
    go_enter Tryd.func16, Tryd.ntmps16
    go_wp2_with fail
    refine CK.mono ?_
    rintro e w2 ⟨rfl, HB2⟩
    clear CK
    go_wp2
    go_ret2
    have HE2 := HES.out
    subst HE2
    have hb := HB1.out.trans (HB2.out.mono HB1.out.size)
    have hm := (HM.out.below hb).m
    rw [HE.out, HO.out] at hm
    exact ⟨_, _, _, rfl, ⟨⟨_, _, _, hm, fun e => absurd e (by decide)⟩, Goes.below b _ _ hb, fun e => absurd e (by decide)⟩⟩
  | true =>
    obtain ⟨k, hk⟩ : ∃ k, chk (⟨fin, op, m, [ka, kb, kc, kd], bytes s⟩ : Fr) = k := ⟨_, rfl⟩
    have hkq : (((k : Nat) : Int) == 91) = false := by
      refine beq_eq_false_iff_ne.2 (fun e => ?_)
      have e' : k = 91 := by omega
      rw [← hk] at e'
      unfold chk at e'
      rw [if_neg (by rw [hf]; decide)] at e'
      split at e' <;> cases e'
    rw [hk] at CK
    have HF := Sl.mk hf
    clear hk hf
    by_cases hp : op = 9 ∨ op = 10
    · have HES : Sl (r = (st, some ⟨op, 0, bytes s⟩)) := ⟨by rw [← HR.out]; exact step_tell HF.out hp⟩
      rcases hp with rfl | rfl
      all_goals
        go_enter Tryd.func16, Tryd.ntmps16
        go_wp2_with fail
        refine CK.mono ?_
        rintro e w2 ⟨rfl, HB2⟩
        clear CK
        have HF2 : Sl (w2.heap[W.heap.size]? = some (.cells _ 35 (0, 0))) := ⟨below_key HF1.out HB2.out⟩
        obtain ⟨_, g1, _, _, _, _, _, _⟩ := bx8 HF2.out
        go_wp2
        go_ret2
        have HE2 := HES.out
        subst HE2
        have hb := HB1.out.trans (HB2.out.mono HB1.out.size)
        have hm := (HM.out.below hb).m
        rw [HE.out] at hm
        exact ⟨_, _, _, by rw [HE.out]; rfl, ⟨⟨_, _, _, hm, fun _ => ⟨rfl, rfl, rfl⟩⟩, Goes.below b _ _ hb, fun _ => ⟨_, _, rfl, fun args V => by kernel_rfl, tread_any HF2.out (by have := HS.out; omega)⟩⟩⟩
    · have n9 : (op == 9) = false := beq_eq_false_iff_ne.2 (fun e => hp (.inl e))
      have n10 : (op == 10) = false := beq_eq_false_iff_ne.2 (fun e => hp (.inr e))
      by_cases h8 : op = 8
      · subst h8
        have HES : Sl (r = ended (getC (bytes s))) := ⟨by rw [← HR.out]; exact step_end HF.out rfl⟩
        clear hp
        go_enter Tryd.func16, Tryd.ntmps16
        go_wp2_with fail
        refine CK.mono ?_
        rintro e w2 ⟨rfl, HB2⟩
        clear CK
        have HF2 : Sl (w2.heap[W.heap.size]? = some (.cells _ 35 (0, 0))) := ⟨below_key HF1.out HB2.out⟩
        obtain ⟨_, g1, _, _, _, _, _, g7⟩ := bx8 HF2.out
        have hb := HB1.out.trans (HB2.out.mono HB1.out.size)
        have hm := (HM.out.below hb).m
        rw [HE.out, HO.out] at hm
        have HBB := Sl.mk hb
        have CE := end_any hm HG.out s (by have := HS.out; omega)
        clear hm hb
        go_wp2_with fail
        refine CE.mono ?_
        rintro e w3 ⟨v', p', tv, rfl, HWT⟩
        clear CE
        go_wp2
        go_ret2
        have HE2 := HES.out
        subst HE2
        exact ⟨_, _, _, rfl, ⟨HWT.out.before HBB.out⟩⟩
      · have n8 : (op == 8) = false := beq_eq_false_iff_ne.2 h8
        have HES : Sl (r = mored most st fin op (bytes s)) := ⟨by rw [← HR.out]; exact step_mored HF.out hp h8⟩
        have hop : 0 ≤ op ∧ op ≤ 2 := by
          rcases (form_cases HF.out).1 with h | ⟨h1, h2, _⟩
          · exact h
          · exact absurd (show op = 8 ∨ op = 9 ∨ op = 10 from by have h1' : 8 ≤ op := h1; have h2' : op ≤ 10 := h2; omega) (fun e => e.elim h8 hp)
        have HOP := Sl.mk hop
        clear hp h8 hop
        go_enter Tryd.func16, Tryd.ntmps16
        go_wp2_with fail
        refine CK.mono ?_
        rintro e w2 ⟨rfl, HB2⟩
        clear CK
        have HF2 : Sl (w2.heap[W.heap.size]? = some (.cells _ 35 (0, 0))) := ⟨below_key HF1.out HB2.out⟩
        obtain ⟨g0, g1, g2, g3, g4, g5, g6, g7⟩ := bx8 HF2.out
        have HBB := Sl.mk (HB1.out.trans (HB2.out.mono HB1.out.size))
        have CE := more_any (HM.out.below HBB.out) HE.out HO.out HG.out fin op m ka kb kc kd s HOP.out HS.out
        clear e0 e1 e2 e3 e4 e5 e6 e7
        go_wp2_with fail
        refine CE.mono ?_
        rintro e w3 ⟨v', p', tv, rfl, HWT⟩
        clear CE
        go_wp2
        go_ret2
        have HE2 := HES.out
        subst HE2
        exact ⟨_, _, _, rfl, ⟨HWT.out.before HBB.out⟩⟩
end
end Go.Proofs.YtpbfabcjkhlanaaDoor.Msg
