/- shake: ShakeQuestion's walk. -/
import Derived.Test.YthlagngpllahkaaGreatDoorW11
set_option maxRecDepth 100000
namespace Go.Proofs.YthlagngpllahkaaGreatDoor
open Go.RowKit HeadPlain Nam

/-- What shake's Question and the document's answer, in one shape. -/
def QShape (w' : World) (h : HdV) (e : Ending) : Prop := ∃ a c, e = .returned (.tuple #[.agg #[.string (offS h).p, .string (offS h).h, .string (offS h).k, .string (offS h).o, .slice a (offS h).l.length c], .int .i64 (statV h : Nat)]) ∧ StrA w' (.slice a (offS h).l.length c) (offS h).l
set_option maxHeartbeats 4000000 in
theorem question_law (h : HdV) (bx : Value) (w : World) (hg : GlobA w) (hfit : h.Fit) (hv : FieldsAt w bx h.fs) :
    Calls Tryz.prog 3 #[.agg #[.string h.a, .string h.b, .string h.c, bx]] w fun e w' => e = .returned (.bool true) ∧ Sl (Below w.heap.size w w') := by
  have HG := Sl.mk hg
  have HV := Sl.mk hv
  have HFIT := Sl.mk hfit
  have C13 : Sl (∀ V, Below w.heap.size w V → Calls Tryz.prog 13 #[.agg #[.string h.a, .string h.b, .string h.c, bx]] V fun e w' => Sl (FewR h e) ∧ Sl (Below V.heap.size V w')) := ⟨fun V hB => few_any h bx V (hv.below hB) hfit⟩
  have C14 : Sl (∀ V, Fw h → Below w.heap.size w V → Calls Tryz.prog 14 #[.agg #[.string h.a, .string h.b, .string h.c, bx]] V fun e w' => QShape w' h e ∧ Sl (Below V.heap.size V w')) := ⟨fun V hf hB => (question_any h bx V (hg.of hB) (hv.below hB) hf).mono fun e w' ⟨h1, h2⟩ => ⟨quest_shape h1.out, h2⟩⟩
  have C15 : Sl (∀ V, Fw h → Below w.heap.size w V → Calls Tryz.prog 15 #[.agg #[.string h.a, .string h.b, .string h.c, bx]] V fun e w' => QShape w' h e ∧ Sl (Below V.heap.size V w')) := ⟨fun V hf hB => (questionR_any h bx V (hv.below hB) hf).mono fun e w' ⟨h1, h2⟩ => ⟨quest_shape h1.out, h2⟩⟩
  have HLN : Sl (Fw h → (offS h).l.length ≤ 1000000) := ⟨fun f => offS_len f⟩
  unfold QShape at C14 C15
  obtain ⟨o, ho⟩ : ∃ o, offS h = o := ⟨_, rfl⟩
  obtain ⟨sv, hsv⟩ : ∃ z : Int, ((statV h : Nat) : Int) = z := ⟨_, rfl⟩
  rw [ho] at C14 C15 HLN
  rw [hsv] at C14 C15
  have hss : (sv == sv) = true := by simp
  obtain ⟨n, hn⟩ : ∃ n, o.l.length = n := ⟨_, rfl⟩
  rw [hn] at C14 C15 HLN
  have HN := Sl.mk hn
  clear ho hsv hn hg hfit
  obtain ⟨bd, bc, sb, so, rfl, _⟩ := hv
  obtain ⟨nf, hnf⟩ : ∃ n, h.fs.length = n := ⟨_, rfl⟩
  rw [hnf] at C13 C14 C15 ⊢
  clear hnf HV
  obtain ⟨w0, hw0⟩ : ∃ V, w.alloc (.cells #[.string h.a, .string h.b, .string h.c, .slice bd nf bc] 25) = V := ⟨_, rfl⟩
  have HB0 : Sl (Below w.heap.size w w0) := ⟨by rw [← hw0]; exact (Below.refl _ _).alloc (Nat.le_refl _) _⟩
  have HX0 : Sl (w0.heap[w.heap.size]? = some (.cells #[.string h.a, .string h.b, .string h.c, .slice bd nf bc] 25 (0, 0))) := ⟨by rw [← hw0]; exact alloc_new _ _ _ rfl⟩
  go_enter Tryz.func3, Tryz.ntmps3
  go_wp2_with fail
  clear hw0
  refine (awake_ex HB0.out HG.out).mono ?_
  rintro e w1 ⟨rfl, HE, HB1⟩
  have HX1 := Sl.mk (box_below HX0.out HE.out)
  clear HE HX0 HB0
  obtain ⟨p0, p1, p2, p3⟩ := head_cells HX1.out
  go_wp2_with fail
  clear p0 p1 p2 p3
  refine (C13.out _ HB1.out).mono ?_
  rintro e w2 ⟨HFEW, HE⟩
  have HX2 := Sl.mk (box_below HX1.out HE.out)
  have HB2 := Sl.mk (below_trans HB1.out HE.out)
  clear HE HX1 HB1
  rcases HFEW.out with ⟨rfl, hfew⟩ | ⟨rfl, _⟩
  rotate_left
  · go_wp2_with fail
    refine (awake_ex HB2.out HG.out).mono ?_
    rintro e w3 ⟨rfl, _, HB3⟩
    go_wp2
    go_ret
    exact ⟨rfl, HB3⟩
  have HFW := Sl.mk (few_fw hfew)
  clear hfew HFEW
  obtain ⟨p0, p1, p2, p3⟩ := head_cells HX2.out
  go_wp2_with fail
  clear p0 p1 p2 p3
  refine (C14.out _ HFW.out HB2.out).mono ?_
  rintro e w3 ⟨⟨a3, c3, rfl, hs3⟩, HE⟩
  have HS3 := Sl.mk hs3
  have HX3 := Sl.mk (box_below HX2.out HE.out)
  have HB3 := Sl.mk (below_trans HB2.out HE.out)
  clear hs3 HE HX2 HB2
  obtain ⟨w4, hw4⟩ : ∃ V, w3.alloc (.cells #[.string o.p, .string o.h, .string o.k, .string o.o, .slice a3 n c3] 30) = V := ⟨_, rfl⟩
  have HE4 : Sl (Below w3.heap.size w3 w4) := ⟨by rw [← hw4]; exact (Below.refl _ _).alloc (Nat.le_refl _) _⟩
  have HO4 : Sl (w4.heap[w3.heap.size]? = some (.cells #[.string o.p, .string o.h, .string o.k, .string o.o, .slice a3 n c3] 30 (0, 0))) := ⟨by rw [← hw4]; exact alloc_new _ _ _ rfl⟩
  have HX4 := Sl.mk (box_below HX3.out HE4.out)
  have HB4 := Sl.mk (below_trans HB3.out HE4.out)
  have HS4 := Sl.mk (HS3.out.below HE4.out)
  clear HE4 HX3 HB3 HS3
  obtain ⟨p0, p1, p2, p3⟩ := head_cells HX4.out
  go_wp2_with fail
  clear hw4 p0 p1 p2 p3
  refine (C15.out _ HFW.out HB4.out).mono ?_
  rintro e w5 ⟨⟨a5, c5, rfl, hs5⟩, HE⟩
  have HS5 := Sl.mk hs5
  have HO5 := Sl.mk (box_below HO4.out HE.out)
  have HB5 := Sl.mk (below_trans HB4.out HE.out)
  have HT5 := Sl.mk (HS4.out.below HE.out)
  clear hs5 HE HX4 HB4 HS4 HO4
  obtain ⟨w6, hw6⟩ : ∃ V, w5.alloc (.cells #[.string o.p, .string o.h, .string o.k, .string o.o, .slice a5 n c5] 30) = V := ⟨_, rfl⟩
  have HE6 : Sl (Below w5.heap.size w5 w6) := ⟨by rw [← hw6]; exact (Below.refl _ _).alloc (Nat.le_refl _) _⟩
  have HP6 : Sl (w6.heap[w5.heap.size]? = some (.cells #[.string o.p, .string o.h, .string o.k, .string o.o, .slice a5 n c5] 30 (0, 0))) := ⟨by rw [← hw6]; exact alloc_new _ _ _ rfl⟩
  have HO6 := Sl.mk (box_below HO5.out HE6.out)
  have HB6 := Sl.mk (below_trans HB5.out HE6.out)
  have HS6 := Sl.mk (HS5.out.below HE6.out)
  have HT6 := Sl.mk (HT5.out.below HE6.out)
  clear HE6 HO5 HB5 HS5 HT5
  obtain ⟨q0, q1, q2, q3, q4⟩ := offer_cells HO6.out
  obtain ⟨r0, r1, r2, r3, r4⟩ := offer_cells HP6.out
  go_wp2_with fail
  clear hw6 q0 q1 q2 q3 q4 r0 r1 r2 r3 r4
  refine (same_true o.p o.h o.k o.o _ _ o.l o.l w6 HT6.out HS6.out rfl (by rw [HN.out]; exact HLN.out HFW.out)).mono ?_
  rintro e w7 ⟨rfl, HE⟩
  have HB7 := Sl.mk (below_trans HB6.out HE.out)
  go_wp2
  go_ret
  exact ⟨rfl, HB7⟩
theorem question_walk (h : HdV) (bx : Value) (w : World) (hg : GlobA w) (hfit : h.Fit) (hv : FieldsAt w bx h.fs) :
    Calls Tryz.prog 3 #[.agg #[.string h.a, .string h.b, .string h.c, bx]] w fun e w' => e = .returned (.bool true) ∧ Below w.heap.size w w' :=
  (question_law h bx w hg hfit hv).mono fun _ _ ⟨h1, h2⟩ => ⟨h1, h2.out⟩
end Go.Proofs.YthlagngpllahkaaGreatDoor
