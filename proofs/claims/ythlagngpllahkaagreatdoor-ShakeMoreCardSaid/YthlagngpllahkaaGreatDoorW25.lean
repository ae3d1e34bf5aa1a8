/- shake: ShakeMore's walk. -/
import Derived.Test.YthlagngpllahkaaGreatDoorW24
import Derived.Test.YthlagngpllahkaaGreatDoorW3
set_option maxRecDepth 100000
namespace Go.Proofs.YthlagngpllahkaaGreatDoor
open Go.RowKit HeadPlain Nam

/-- What Question answers of a head of which as much is asked for as of another one, in that one's words. -/
theorem quest_twin {g h : HdV} (tw : Twin g h) {w' : World} {e : Ending} (q : QuestR w' g e) : ∃ a c l', e = .returned (.tuple #[.agg #[.string (offS h).p, .string (offS h).h, .string (offS h).k, .string (offS h).o, .slice a (offS h).l.length c], .int .i64 (statV h : Nat)]) ∧ StrA w' (.slice a (offS h).l.length c) l' ∧ l'.map bytes = (offS h).l.map bytes := by
  obtain ⟨a, c, he, hs⟩ := quest_shape q
  obtain ⟨h1, h2, h3, h4, h5⟩ := tw.offer
  have hl : (offS g).l.length = (offS h).l.length := by simpa using congrArg List.length h5
  rw [h1, h2, h3, h4, hl, tw.stat] at he
  rw [hl] at hs
  exact ⟨a, c, (offS g).l, he, hs, h5⟩
def moreL : List ByteArray := [bHost, bUp, bConn, bVer, bKey, bProt, bOrg]
/-- A head with a field more. -/
def moreV (h : HdV) (fn fv : ByteArray) (k : Nat) : HdV := ⟨h.a, h.b, h.c, h.fs.take k ++ [(fn, fv)] ++ h.fs.drop k⟩
theorem moreV_hd (h : HdV) (fn fv : ByteArray) (k : Nat) : (moreV h fn fv k).hd = ⟨h.hd.a, h.hd.b, h.hd.c, h.hd.fs.take k ++ (bytes fn, bytes fv) :: h.hd.fs.drop k⟩ := by
  unfold moreV HdV.hd
  simp [fN, List.map_take, List.map_drop]
theorem more_twin (h : HdV) (fn fv : ByteArray) (k : Nat) (hn : ∀ j, j < 7 → same (bytes (moreL.getD j ByteArray.empty)) (bytes fn) = false) : Twin (moreV h fn fv k) h := by
  apply twin_of
  rw [moreV_hd]
  refine quest_more keyB h.hd (bytes fn, bytes fv) k (fun n hm => ?_)
  rw [same_comm]
  simp only [List.mem_cons, List.not_mem_nil, or_false] at hm
  rcases hm with rfl | rfl | rfl | rfl | rfl | rfl | rfl
  · exact hn 0 (by omega)
  · exact hn 1 (by omega)
  · exact hn 2 (by omega)
  · exact hn 3 (by omega)
  · exact hn 4 (by omega)
  · exact hn 5 (by omega)
  · exact hn 6 (by omega)
theorem more_fw {h : HdV} (f : Few h) {fn fv : ByteArray} (k : Nat) (h1 : fn.size ≤ 300) (h2 : fv.size ≤ 300) : Fw (moreV h fn fv k) := by
  have w := few_fw f
  have hn := f.n
  refine ⟨?_, f.a, f.b, f.c, fun x hx => ?_⟩
  · show (h.fs.take k ++ [(fn, fv)] ++ h.fs.drop k).length ≤ _
    rw [List.length_append, List.length_append, List.length_take, List.length_drop]
    simp only [List.length_cons, List.length_nil]
    omega
  · rcases List.mem_append.1 hx with hx | hx
    · rcases List.mem_append.1 hx with hx | hx
      · exact w.f x (List.mem_of_mem_take hx)
      · simp only [List.mem_cons, List.not_mem_nil, or_false] at hx
        subst hx
        exact ⟨show fn.size ≤ 3000 by omega, show fv.size ≤ 3000 by omega⟩
    · exact w.f x (List.mem_of_mem_drop hx)
/-- What stands behind the new head is made. -/
structure MoreRel (w : World) (q : Nat) (h : HdV) (bd : Option Addr) (nf bc : Nat) (gs : List FV) (wx : World) : Prop where
  B : Below w.heap.size w wx
  X : wx.heap[w.heap.size]? = some (.cells #[.string h.a, .string h.b, .string h.c, .slice bd nf bc] 25 (0, 0))
  G : ∃ a c, wx.heap[q]? = some (.cells #[.string h.a, .string h.b, .string h.c, .slice a (nf + 1) c] 25 (0, 0)) ∧ FieldsAt wx (.slice a (nf + 1) c) gs
/-- The boxes that an append leaves alone. -/
structure MS (w : World) (g0 q : Nat) (h : HdV) (fn fv : ByteArray) (sl : Value) (W : World) : Prop where
  B : Below w.heap.size w W
  X : W.heap[w.heap.size]? = some (.cells #[.string h.a, .string h.b, .string h.c, sl] 25 (0, 0))
  Y : W.heap[g0]? = some (.cells #[.string fn, .string fv] 60 (0, 0))
  Q : W.heap[q]? = some (.cells #[.string h.a, .string h.b, .string h.c, sl] 25 (0, 0))
theorem MS.below {w W W' : World} {g0 q : Nat} {h : HdV} {fn fv : ByteArray} {sl : Value} (m : MS w g0 q h fn fv sl W) (k : Below W.heap.size W W') : MS w g0 q h fn fv sl W' :=
  ⟨below_trans m.B k, box_below m.X k, box_below m.Y k, box_below m.Q k⟩
theorem stayB {W W' : World} {base g : Nat} {v : Value} {l : List FV} {x : Obj} (h : OwnF W base v l) (hg : W.grownBy W' v.ownBlock) (hlt : g < base) (hh : W.heap[g]? = some x) : W'.heap[g]? = some x := by
  rw [hg.block g (lt_of_block hh) (fun e => by have := ownF_ge h e.symm; omega)]; exact hh
theorem MS.grown {w W W' : World} {g0 q base : Nat} {h : HdV} {fn fv : ByteArray} {sl v : Value} {l : List FV} (m : MS w g0 q h fn fv sl W) (o : OwnF W base v l) (hg : W.grownBy W' v.ownBlock) (h1 : w.heap.size < base) (h2 : g0 < base) (h3 : q < base) : MS w g0 q h fn fv sl W' :=
  ⟨m.B.grown hg m.B.size (fun k hk => by have := ownF_ge o hk; omega), stayB o hg h1 m.X, stayB o hg h2 m.Y, stayB o hg h3 m.Q⟩
/-- Another block of fields stays when a row grows. -/
theorem lit_stays {W W' : World} {a c g : Nat} {x : Obj} (hg : W.grownBy W' (Value.slice (some ⟨a, 0, none⟩) 0 c).ownBlock) (hne : g ≠ a) (hh : W.heap[g]? = some x) : W'.heap[g]? = some x := by
  rw [hg.block g (lt_of_block hh) (fun e => hne (by simpa [Value.ownBlock] using e))]; exact hh
theorem more_rel {w W : World} {g0 q base : Nat} {h : HdV} {fn fv : ByteArray} {bd a : Option Addr} {nf bc c : Nat} {gs : List FV} (m : MS w g0 q h fn fv (.slice bd nf bc) W) (o : OwnF W base (.slice a (nf + 1) c) gs) (hq : w.heap.size < q) (hs : ∀ f ∈ gs, f.1.size ≤ maxLen ∧ f.2.size ≤ maxLen) (hl : gs.length < 100000) (hg : g0 ≠ q) :
    MoreRel w q h bd nf bc gs (W.setCell ⟨q, 3, none⟩ (.slice a (nf + 1) c)) ∧ (W.setCell ⟨q, 3, none⟩ (.slice a (nf + 1) c)).heap[g0]? = some (.cells #[.string fn, .string fv] 60 (0, 0)) :=
  ⟨⟨m.B.grown (grown_setCell W q 3 _) m.B.size (fun k hk => by injection hk with hk; omega), by rw [heap_setCell_other _ _ _ _ (show w.heap.size ≠ q by omega)]; exact m.X, a, c, agg_setCell _ m.Q, (o.fields hs hl).grown (grown_setCell W q 3 _) (ownF_kind o m.Q (by decide))⟩, by rw [heap_setCell_other _ _ _ _ hg]; exact m.Y⟩
set_option maxHeartbeats 8000000 in
theorem more_law (h : HdV) (bx : Value) (fn fv : ByteArray) (at_ : Nat) (w : World) (hg : GlobA w) (hfit : h.Fit) (hv : FieldsAt w bx h.fs) (hat : at_ < 256) :
    Calls Tryz.prog 9 #[.agg #[.string h.a, .string h.b, .string h.c, bx], .agg #[.string fn, .string fv], .int .u8 at_] w fun e w' => e = .returned (.bool true) ∧ Sl (Below w.heap.size w w') := by
  have HG := Sl.mk hg
  have C13 : Sl (∀ V, Below w.heap.size w V → Calls Tryz.prog 13 #[.agg #[.string h.a, .string h.b, .string h.c, bx]] V fun e w' => Sl (FewR h e) ∧ Sl (Below V.heap.size V w')) := ⟨fun V hB => few_any h bx V (hv.below hB) hfit⟩
  have C14 : Sl (∀ V, Fw h → Below w.heap.size w V → Calls Tryz.prog 14 #[.agg #[.string h.a, .string h.b, .string h.c, bx]] V fun e w' => (∃ a c l', e = .returned (.tuple #[.agg #[.string (offS h).p, .string (offS h).h, .string (offS h).k, .string (offS h).o, .slice a (offS h).l.length c], .int .i64 (statV h : Nat)]) ∧ StrA w' (.slice a (offS h).l.length c) l' ∧ l'.map bytes = (offS h).l.map bytes) ∧ Sl (Below V.heap.size V w')) := ⟨fun V hf hB => (question_any h bx V (hg.of hB) (hv.below hB) hf).mono fun e w' ⟨h1, h2⟩ => ⟨quest_twin (twin_of rfl) h1.out, h2⟩⟩
  have C14g : Sl (∀ V x gs, Twin ⟨h.a, h.b, h.c, gs⟩ h → Fw ⟨h.a, h.b, h.c, gs⟩ → Below w.heap.size w V → FieldsAt V x gs → Calls Tryz.prog 14 #[.agg #[.string h.a, .string h.b, .string h.c, x]] V fun e w' => (∃ a c l', e = .returned (.tuple #[.agg #[.string (offS h).p, .string (offS h).h, .string (offS h).k, .string (offS h).o, .slice a (offS h).l.length c], .int .i64 (statV h : Nat)]) ∧ StrA w' (.slice a (offS h).l.length c) l' ∧ l'.map bytes = (offS h).l.map bytes) ∧ Sl (Below V.heap.size V w')) := ⟨fun V x gs tw hf hB hF => (question_any ⟨h.a, h.b, h.c, gs⟩ x V (hg.of hB) hF hf).mono fun e w' ⟨h1, h2⟩ => ⟨quest_twin tw h1.out, h2⟩⟩
  have C35 : Sl (∀ s V r, s.size ≤ 300 → same (bytes s) (bytes fn) = r → Calls Tryz.prog 35 #[.string s, .string fn] V fun e w' => e = .returned (.bool r) ∧ Sl (Below V.heap.size V w')) := ⟨fun s V r hs hr => (sameR_any s fn V (by unfold maxLen; omega)).mono fun e w' ⟨h1, h2⟩ => ⟨by rw [h1, hr], ⟨h2.below⟩⟩⟩
  have HLN : Sl (Fw h → (offS h).l.length ≤ 1000000) := ⟨fun f => offS_len f⟩
  have HTW : Sl (∀ k, (∀ j, j < 7 → same (bytes (moreL.getD j ByteArray.empty)) (bytes fn) = false) → Twin ⟨h.a, h.b, h.c, h.fs.take k ++ [(fn, fv)] ++ h.fs.drop k⟩ h) := ⟨fun k hn => more_twin h fn fv k hn⟩
  have HGF : Sl (∀ k, Few h → fn.size ≤ 300 → fv.size ≤ 300 → Fw ⟨h.a, h.b, h.c, h.fs.take k ++ [(fn, fv)] ++ h.fs.drop k⟩) := ⟨fun k hf h1 h2 => more_fw hf k h1 h2⟩
  obtain ⟨o, ho⟩ : ∃ o, offS h = o := ⟨_, rfl⟩
  obtain ⟨sv, hsv⟩ : ∃ z : Int, ((statV h : Nat) : Int) = z := ⟨_, rfl⟩
  rw [ho] at C14 C14g HLN
  rw [hsv] at C14 C14g
  have hss : (sv == sv) = true := by simp
  obtain ⟨n, hn⟩ : ∃ n, o.l.length = n := ⟨_, rfl⟩
  rw [hn] at C14 C14g HLN
  have HN := Sl.mk hn
  have HAT := Sl.mk hat
  clear ho hsv hn hg hfit hat
  have HV := Sl.mk hv
  obtain ⟨hq1, hq2⟩ : (∃ bd nf bc, bx = .slice bd nf bc ∧ h.fs.length = nf) ∧ True := ⟨by obtain ⟨bd, bc, sb, so, rfl, _⟩ := hv; exact ⟨bd, _, bc, rfl, rfl⟩, trivial⟩
  obtain ⟨bd, nf, bc, rfl, hnf⟩ := hq1
  have HNF := Sl.mk hnf
  clear hv hq2 hnf
  obtain ⟨w0, hw0⟩ : ∃ V, w.alloc (.cells #[.string h.a, .string h.b, .string h.c, .slice bd nf bc] 25) = V := ⟨_, rfl⟩
  obtain ⟨w1, hw1⟩ : ∃ V, w0.alloc (.cells #[.string fn, .string fv] 60) = V := ⟨_, rfl⟩
  have E1 : Below w0.heap.size w0 w1 := by rw [← hw1]; exact (Below.refl _ _).alloc (Nat.le_refl _) _
  have HB1 : Sl (Below w.heap.size w w1) := ⟨below_trans (by rw [← hw0]; exact (Below.refl _ _).alloc (Nat.le_refl _) _) E1⟩
  have HX1 : Sl (w1.heap[w.heap.size]? = some (.cells #[.string h.a, .string h.b, .string h.c, .slice bd nf bc] 25 (0, 0))) := ⟨box_below (by rw [← hw0]; exact alloc_new _ _ _ rfl) E1⟩
  have HY1 : Sl (w1.heap[w0.heap.size]? = some (.cells #[.string fn, .string fv] 60 (0, 0))) := ⟨by rw [← hw1]; exact alloc_new _ _ _ rfl⟩
  have HZ0 : Sl (w0.heap.size = w.heap.size + 1) := ⟨by rw [← hw0, alloc_size]⟩
  clear E1
  go_enter Tryz.func9, Tryz.ntmps9
  go_wp2_with fail
  clear hw0 hw1
  refine (awake_ex HB1.out HG.out).mono ?_
  rintro e w2 ⟨rfl, HE, HB2⟩
  have HX2 := Sl.mk (box_below HX1.out HE.out)
  have HY2 := Sl.mk (box_below HY1.out HE.out)
  clear HE HX1 HB1 HY1
  obtain ⟨p0, p1, p2, p3⟩ := head_cells HX2.out
  go_wp2_with fail
  clear p0 p1 p2 p3
  refine (C13.out _ HB2.out).mono ?_
  rintro e w3 ⟨HFEW, HE⟩
  have HX3 := Sl.mk (box_below HX2.out HE.out)
  have HY3 := Sl.mk (box_below HY2.out HE.out)
  have HB3 := Sl.mk (below_trans HB2.out HE.out)
  clear HE HX2 HB2 HY2
  rcases HFEW.out with ⟨rfl, hfew⟩ | ⟨rfl, _⟩
  rotate_left
  · go_wp2_with fail
    refine (awake_ex HB3.out HG.out).mono ?_
    rintro e w4 ⟨rfl, _, HB4⟩
    go_wp2
    go_ret
    exact ⟨rfl, HB4⟩
  have HFE := Sl.mk hfew
  clear hfew HFEW
  have y0 : w3.cell? ⟨w0.heap.size, 0, none⟩ = some (.string fn) := by rw [cell_of_row _ _ _ _ _ _ HY3.out]; rfl
  have y1 : w3.cell? ⟨w0.heap.size, 1, none⟩ = some (.string fv) := by rw [cell_of_row _ _ _ _ _ _ HY3.out]; rfl
  by_cases hs1 : fn.size ≤ 300
  rotate_left
  · have hfn : ((300 : Int) < (fn.size : Int)) = True := eq_true (by omega)
    go_wp2_with fail
    refine (awake_ex HB3.out HG.out).mono ?_
    rintro e w4 ⟨rfl, _, HB4⟩
    go_wp2
    go_ret
    exact ⟨rfl, HB4⟩
  have hfn : ((300 : Int) < (fn.size : Int)) = False := eq_false (by omega)
  by_cases hs2 : fv.size ≤ 300
  rotate_left
  · have hfv : ((300 : Int) < (fv.size : Int)) = True := eq_true (by omega)
    go_wp2_with fail
    refine (awake_ex HB3.out HG.out).mono ?_
    rintro e w4 ⟨rfl, _, HB4⟩
    go_wp2
    go_ret
    exact ⟨rfl, HB4⟩
  have hfv : ((300 : Int) < (fv.size : Int)) = False := eq_false (by omega)
  have HGF2 : Sl (∀ k, Fw ⟨h.a, h.b, h.c, h.fs.take k ++ [(fn, fv)] ++ h.fs.drop k⟩) := ⟨fun k => HGF.out k HFE.out hs1 hs2⟩
  have HFW := Sl.mk (few_fw HFE.out)
  obtain ⟨w4, hw4⟩ : ∃ V, w3.alloc (.cells #[.string { data := #[72, 111, 115, 116] }, .string { data := #[85, 112, 103, 114, 97, 100, 101] }, .string { data := #[67, 111, 110, 110, 101, 99, 116, 105, 111, 110] }, .string { data := #[83, 101, 99, 45, 87, 101, 98, 83, 111, 99, 107, 101, 116, 45, 86, 101, 114, 115, 105, 111, 110] }, .string { data := #[83, 101, 99, 45, 87, 101, 98, 83, 111, 99, 107, 101, 116, 45, 75, 101, 121] }, .string { data := #[83, 101, 99, 45, 87, 101, 98, 83, 111, 99, 107, 101, 116, 45, 80, 114, 111, 116, 111, 99, 111, 108] }, .string { data := #[79, 114, 105, 103, 105, 110] }] 9) = V := ⟨_, rfl⟩
  have E4 : Below w3.heap.size w3 w4 := by rw [← hw4]; exact (Below.refl _ _).alloc (Nat.le_refl _) _
  have HB4 := Sl.mk (below_trans HB3.out E4)
  have HX4 := Sl.mk (box_below HX3.out E4)
  have HY4 := Sl.mk (box_below HY3.out E4)
  have HL4 : Sl (w4.heap[w3.heap.size]? = some (.cells #[.string { data := #[72, 111, 115, 116] }, .string { data := #[85, 112, 103, 114, 97, 100, 101] }, .string { data := #[67, 111, 110, 110, 101, 99, 116, 105, 111, 110] }, .string { data := #[83, 101, 99, 45, 87, 101, 98, 83, 111, 99, 107, 101, 116, 45, 86, 101, 114, 115, 105, 111, 110] }, .string { data := #[83, 101, 99, 45, 87, 101, 98, 83, 111, 99, 107, 101, 116, 45, 75, 101, 121] }, .string { data := #[83, 101, 99, 45, 87, 101, 98, 83, 111, 99, 107, 101, 116, 45, 80, 114, 111, 116, 111, 99, 111, 108] }, .string { data := #[79, 114, 105, 103, 105, 110] }] 9 (0, 0))) := ⟨by rw [← hw4]; exact alloc_new _ _ _ rfl⟩
  clear E4 HGF HFE hs1 hs2
  go_wp2
  clear hw4 y0 y1 HB3 HX3 HY3 hfn hfv
  have HZ4 : Sl (w.heap.size ≤ w4.heap.size) := ⟨HB4.out.size⟩
  go_loopw [8] (fun i wr => ∃ k : Nat, k ≤ 7 ∧ i = .int .i64 k ∧ Sl (Below w4.heap.size w4 wr) ∧ Sl (∀ j, j < k → same (bytes (moreL.getD j ByteArray.empty)) (bytes fn) = false)) (fun i _ => 7 - (intOf i).toNat)
  case atStart => exact ⟨0, by omega, rfl, ⟨Below.refl _ _⟩, ⟨fun j hj => by omega⟩⟩
  case round =>
    obtain ⟨k, hk, rfl, HBL, HNO⟩ := hrel
    have HBR := Sl.mk (below_trans HB4.out HBL.out)
    have HYR := Sl.mk (box_below HY4.out HBL.out)
    by_cases hlt : k < 7
    · have HLR := Sl.mk (box_below HL4.out HBL.out)
      obtain ⟨s, hs⟩ : ∃ s, moreL.getD k ByteArray.empty = s := ⟨_, rfl⟩
      have hss2 : wr.cell? ⟨w3.heap.size, k, none⟩ = some (.string s) ∧ s.size ≤ 300 := by
        rw [cell_of_row _ _ _ _ _ _ HLR.out, ← hs]
        match k, hlt with
        | 0, _ => exact ⟨rfl, by decide⟩
        | 1, _ => exact ⟨rfl, by decide⟩
        | 2, _ => exact ⟨rfl, by decide⟩
        | 3, _ => exact ⟨rfl, by decide⟩
        | 4, _ => exact ⟨rfl, by decide⟩
        | 5, _ => exact ⟨rfl, by decide⟩
        | 6, _ => exact ⟨rfl, by decide⟩
      obtain ⟨e0, hs3⟩ := hss2
      have HS3 := Sl.mk hs3
      have HS := Sl.mk hs
      have y0 : wr.cell? ⟨w0.heap.size, 0, none⟩ = some (.string fn) := by rw [cell_of_row _ _ _ _ _ _ HYR.out]; rfl
      have hk0 : (0 : Int) ≤ (k : Int) := by omega
      have hk1 : (k : Int) < 7 := by omega
      clear hs hs3 HLR HYR
      go_upto_region 7 with fail
      go_still_tail 6, (by kernel_rfl)
      change wpList _ _ _ _ _ wr.drew
      have HED : Sl (Below wr.heap.size wr wr.drew) := ⟨(Below.refl _ _).drew⟩
      obtain ⟨R, hR⟩ : ∃ R, wr.drew = R := ⟨_, rfl⟩
      rw [hR] at HED ⊢
      clear hR e0 y0
      cases hsm : same (bytes s) (bytes fn) with
      | true =>
        go_wp2_with fail
        refine (C35.out s _ true HS3.out hsm).mono ?_
        rintro e w5 ⟨rfl, HE5⟩
        have HB5 := Sl.mk (below_trans HBR.out (below_trans HED.out HE5.out))
        go_wp2
        go_ret
        exact ⟨rfl, HB5⟩
      | false =>
        go_wp2_with fail
        refine (C35.out s _ false HS3.out hsm).mono ?_
        rintro e w5 ⟨rfl, HE5⟩
        have HB5 := Sl.mk (below_trans HBL.out (below_trans HED.out HE5.out))
        have HN5 : Sl (∀ j, j < k + 1 → same (bytes (moreL.getD j ByteArray.empty)) (bytes fn) = false) := ⟨fun j hj => by
          by_cases e : j = k
          · subst e; rw [HS.out]; exact hsm
          · exact HNO.out j (by omega)⟩
        clear hsm
        go_wp2
        exact ⟨⟨k + 1, by omega, by go_num, HB5, HN5⟩, by simp [intOf]; omega⟩
    · have hge : ((k : Int) < 7) = False := eq_false (by omega)
      have hk7 : k = 7 := by omega
      subst hk7
      have HXR := Sl.mk (box_below HX4.out HBL.out)
      have HT := Sl.mk (HTW.out · HNO.out)
      clear HTW HNO C35 hlt hk HL4 HX4 HY4 HBL HB4
      obtain ⟨w5, hw5⟩ : ∃ V, wr.alloc (.cells #[.string h.a, .string h.b, .string h.c, .slice bd nf bc] 25) = V := ⟨_, rfl⟩
      have E5 : Below wr.heap.size wr w5 := by rw [← hw5]; exact (Below.refl _ _).alloc (Nat.le_refl _) _
      have HB5 := Sl.mk (below_trans HBR.out E5)
      have HX5 := Sl.mk (box_below HXR.out E5)
      have HY5 := Sl.mk (box_below HYR.out E5)
      have HQ5 : Sl (w5.heap[wr.heap.size]? = some (.cells #[.string h.a, .string h.b, .string h.c, .slice bd nf bc] 25 (0, 0))) := ⟨by rw [← hw5]; exact alloc_new _ _ _ rfl⟩
      have HQZ : Sl (w0.heap.size < wr.heap.size) := ⟨lt_of_block HYR.out⟩
      obtain ⟨t0, t1, t2, t3⟩ := head_cells HXR.out
      clear E5 HBR HXR HYR
      obtain ⟨i, hi⟩ : ∃ i, at_ % (nf + 1) = i := ⟨_, rfl⟩
      have HIN : Sl (i ≤ nf) := ⟨by have := Nat.mod_lt at_ (show 0 < nf + 1 by omega); omega⟩
      have hrem : Int.tmod (at_ : Int) ((nf : Int) + 1) = (i : Int) := by
        rw [← hi, Int.tmod_eq_emod_of_nonneg (by omega)]; exact (Int.natCast_emod _ _).symm
      have hat := HAT.out
      have hnf2 : nf ≤ 60 := by have h1 := HNF.out; have h2 := HFW.out.n; omega
      obtain ⟨p0, p1, p2, p3⟩ := head_cells HX5.out
      go_upto_region 11 with fail
      have HM5 : Sl (MS w w0.heap.size wr.heap.size h fn fv (.slice bd nf bc) w5) := ⟨⟨HB5.out, HX5.out, HY5.out, HQ5.out⟩⟩
      clear HB5 HX5 HY5 HQ5 p0 p1 p2 p3 t0 t1 t2 t3
      go_cut [] (fun wx => MoreRel w wr.heap.size h bd nf bc (h.fs.take i ++ [(fn, fv)] ++ h.fs.drop i) wx)
      case first =>
        obtain ⟨R, hR⟩ : ∃ R, w5.drew = R := ⟨_, rfl⟩
        have HM : Sl (MS w w0.heap.size wr.heap.size h fn fv (.slice bd nf bc) R) := ⟨by rw [← hR]; exact HM5.out.below (Below.refl _ _).drew⟩
        have HS0 : Below w.heap.size w R ∧ R.heap[w.heap.size]? = some (.cells #[.string h.a, .string h.b, .string h.c, .slice bd nf bc] 25 (0, 0)) ∧ R.heap[w0.heap.size]? = some (.cells #[.string fn, .string fv] 60 (0, 0)) := ⟨HM.out.B, HM.out.X, HM.out.Y⟩
        have HQR : Sl (wr.heap.size < R.heap.size) := ⟨lt_of_block HM.out.Q⟩
        have HYQ : Sl (w0.heap.size < R.heap.size ∧ w.heap.size < R.heap.size) := ⟨⟨lt_of_block HM.out.Y, lt_of_block HM.out.X⟩⟩
        have HF1 : Sl (∀ V, Below w.heap.size w V → FieldsAt V (sliced bd 0 i bc 2) (h.fs.take i)) := ⟨fun V hB => fields_hi (HV.out.below hB) HNF.out HIN.out⟩
        have HF2 : Sl (∀ V, Below w.heap.size w V → FieldsAt V (sliced bd i nf bc 2) (h.fs.drop i)) := ⟨fun V hB => fields_lo (HV.out.below hB) HNF.out HIN.out⟩
        have HTL : Sl ((h.fs.take i).length = i ∧ (h.fs.drop i).length = nf - i ∧ i ≤ nf ∧ nf ≤ 60) := ⟨by rw [List.length_take, List.length_drop, HNF.out]; have := HIN.out; omega⟩
        have HGL : Sl ((h.fs.take i ++ [(fn, fv)] ++ h.fs.drop i).length = nf + 1) := ⟨by rw [List.length_append, List.length_append, HTL.out.1, HTL.out.2.1]; have := HTL.out.2.2; simp only [List.length_cons, List.length_nil]; omega⟩
        have HGS : Sl (∀ f ∈ h.fs.take i ++ [(fn, fv)] ++ h.fs.drop i, f.1.size ≤ maxLen ∧ f.2.size ≤ maxLen) := ⟨fun f hf => by have := (HGF2.out i).f f hf; unfold maxLen; omega⟩
        have hic : i ≤ bc := Nat.le_trans HIN.out (by rw [(fields_n HV.out).1, HNF.out] at *; rw [← HNF.out]; exact (fields_n HV.out).2 |> fun h => by rw [(fields_n HV.out).1] at h; exact h)
        have hin : i ≤ nf := HIN.out
        refine wp_region_noPanic ?_
        refine wp_region_held (S := fun V => Below w.heap.size w V ∧ V.heap[w.heap.size]? = some (.cells #[.string h.a, .string h.b, .string h.c, .slice bd nf bc] 25 (0, 0)) ∧ V.heap[w0.heap.size]? = some (.cells #[.string fn, .string fv] 60 (0, 0))) (by kernel_rfl) ?_
        change wpAnyH _ _ _ _ _ _ _ _ w5.drew
        rw [hR]
        clear hR HM5
        refine heldTake (d := some 58) (op := Go.Op.fieldAddr 25 (Go.Operand.tmp 3) 1) (g := none) 1 ?v1 rfl (by kernel_rfl) (by kernel_rfl) (by kernel_rfl) (by kernel_rfl) ?y1 HS0 ?_
        case y1 => intro o ho w hS; simp only [execOp, ho]; go_simp; try rfl
        simp only [Act.put, List.setIfInBounds_toArray, List.set_cons_zero, List.set_cons_succ]
        refine heldTake (d := some 59) (op := Go.Op.load 23 (Go.Operand.tmp 58)) (g := none) 2 ?v2 rfl (by kernel_rfl) (by kernel_rfl) (by kernel_rfl) (by kernel_rfl) ?y2 HS0 ?_
        case y2 => intro o ho w hS; obtain ⟨p0, p1, p2, p3⟩ := head_cells hS.2.1; simp only [execOp, ho]; go_simp; try rfl
        simp only [Act.put, List.setIfInBounds_toArray, List.set_cons_zero, List.set_cons_succ]
        refine heldTake (d := some 60) (op := Go.Op.move (Go.Operand.tmp 10)) (g := none) 3 ?v3 rfl (by kernel_rfl) (by kernel_rfl) (by kernel_rfl) (by kernel_rfl) ?y3 HS0 ?_
        case y3 => intro o ho w hS; simp only [execOp, ho]; go_simp; try rfl
        simp only [Act.put, List.setIfInBounds_toArray, List.set_cons_zero, List.set_cons_succ]
        refine heldTake (d := some 61) (op := Go.Op.slice 23 (Go.Operand.tmp 59) none (some (Go.Operand.tmp 60)) none) (g := none) 4 (sliced bd 0 i bc 2) rfl (by kernel_rfl) (by kernel_rfl) (by kernel_rfl) (by kernel_rfl) ?y4 HS0 ?_
        case y4 => intro o ho w hS; exact exec_hi ho rfl rfl hic
        simp only [Act.put, List.setIfInBounds_toArray, List.set_cons_zero, List.set_cons_succ]
        refine heldTake (d := some 63) (op := Go.Op.load 60 (Go.Operand.tmp 4)) (g := none) 6 (.agg #[.string fn, .string fv]) rfl (by kernel_rfl) (by kernel_rfl) (by kernel_rfl) (by kernel_rfl) ?y6 HS0 ?_
        case y6 => intro o ho w hS; have y0 : w.cell? ⟨w0.heap.size, 0, none⟩ = some (.string fn) := by { rw [cell_of_row _ _ _ _ _ _ hS.2.2]; rfl }; have y1 : w.cell? ⟨w0.heap.size, 1, none⟩ = some (.string fv) := by { rw [cell_of_row _ _ _ _ _ _ hS.2.2]; rfl }; simp only [execOp, ho]; go_simp; try rfl
        simp only [Act.put, List.setIfInBounds_toArray, List.set_cons_zero, List.set_cons_succ]
        refine heldTake (d := some 66) (op := Go.Op.fieldAddr 25 (Go.Operand.tmp 3) 1) (g := none) 9 ?v9 rfl (by kernel_rfl) (by kernel_rfl) (by kernel_rfl) (by kernel_rfl) ?y9 HS0 ?_
        case y9 => intro o ho w hS; simp only [execOp, ho]; go_simp; try rfl
        simp only [Act.put, List.setIfInBounds_toArray, List.set_cons_zero, List.set_cons_succ]
        refine heldTake (d := some 67) (op := Go.Op.load 23 (Go.Operand.tmp 66)) (g := none) 10 ?v10 rfl (by kernel_rfl) (by kernel_rfl) (by kernel_rfl) (by kernel_rfl) ?y10 HS0 ?_
        case y10 => intro o ho w hS; obtain ⟨p0, p1, p2, p3⟩ := head_cells hS.2.1; simp only [execOp, ho]; go_simp; try rfl
        simp only [Act.put, List.setIfInBounds_toArray, List.set_cons_zero, List.set_cons_succ]
        refine heldTake (d := some 68) (op := Go.Op.move (Go.Operand.tmp 10)) (g := none) 11 ?v11 rfl (by kernel_rfl) (by kernel_rfl) (by kernel_rfl) (by kernel_rfl) ?y11 HS0 ?_
        case y11 => intro o ho w hS; simp only [execOp, ho]; go_simp; try rfl
        simp only [Act.put, List.setIfInBounds_toArray, List.set_cons_zero, List.set_cons_succ]
        refine heldTake (d := some 69) (op := Go.Op.slice 23 (Go.Operand.tmp 67) (some (Go.Operand.tmp 68)) none none) (g := none) 12 (sliced bd i nf bc 2) rfl (by kernel_rfl) (by kernel_rfl) (by kernel_rfl) (by kernel_rfl) ?y12 HS0 ?_
        case y12 => intro o ho w hS; exact exec_lo ho rfl rfl hin
        simp only [Act.put, List.setIfInBounds_toArray, List.set_cons_zero, List.set_cons_succ]
        obtain ⟨A, hA⟩ : ∃ Z9, R.alloc (.cells #[] 60) = Z9 := ⟨_, rfl⟩
        have KA : Sl (Below R.heap.size R A) := ⟨by rw [← hA]; exact (Below.refl _ _).alloc (Nat.le_refl _) _⟩
        have HMA := Sl.mk (HM.out.below KA.out)
        have OA : Sl (OwnF A R.heap.size (.slice (some ⟨R.heap.size, 0, none⟩) 0 0) []) := ⟨by rw [← hA]; exact ownF_lit R R.heap.size [] #[] (Nat.le_refl _) rfl (show 0 ≤ 1000 by omega)⟩
        have HSA : Below w.heap.size w A ∧ A.heap[w.heap.size]? = some (.cells #[.string h.a, .string h.b, .string h.c, .slice bd nf bc] 25 (0, 0)) ∧ A.heap[w0.heap.size]? = some (.cells #[.string fn, .string fv] 60 (0, 0)) := ⟨HMA.out.B, HMA.out.X, HMA.out.Y⟩
        obtain ⟨B, hB⟩ : ∃ Z9, R.alloc (.cells #[.string fn, .string fv] 60) = Z9 := ⟨_, rfl⟩
        have KL : Sl (Below R.heap.size R B) := ⟨by rw [← hB]; exact (Below.refl _ _).alloc (Nat.le_refl _) _⟩
        have HMB := Sl.mk (HM.out.below KL.out)
        have LB : Sl (B.heap[R.heap.size]? = some (.cells #[.string fn, .string fv] 60 (0, 0))) := ⟨by rw [← hB]; exact alloc_new _ _ _ rfl⟩
        have HSB : Below w.heap.size w B ∧ B.heap[w.heap.size]? = some (.cells #[.string h.a, .string h.b, .string h.c, .slice bd nf bc] 25 (0, 0)) ∧ B.heap[w0.heap.size]? = some (.cells #[.string fn, .string fv] 60 (0, 0)) := ⟨HMB.out.B, HMB.out.X, HMB.out.Y⟩
        refine heldTwo (di := some 57) (opi := Go.Op.buildSlice 23 0 #[]) (gi := none) (dj := some 64) (opj := Go.Op.buildSlice 23 1 #[(0, Go.Operand.tmp 63)]) (gj := none) 0 7 (.slice (some ⟨R.heap.size, 0, none⟩) 0 0) A (.slice (some ⟨R.heap.size, 0, none⟩) 1 1) B rfl rfl (by kernel_rfl) (by kernel_rfl) (by kernel_rfl) ?y0 ?y7 HSA HSB ?n0 ?n7
        case y0 => intro o ho ht; simp only [execOp, ho]; go_simp; first | done | rw [hA] | rfl
        case y7 => intro o ho ht; simp only [execOp, ho]; go_simp; first | done | rw [hB] | rfl
        case n0 =>
          simp only [Act.put, List.setIfInBounds_toArray, List.set_cons_zero, List.set_cons_succ]
          obtain ⟨v1, Y1, hr1, ho1, hg1⟩ := add_fall OA.out (HF1.out A HMA.out.B) (by have := HTL.out; simp; omega) KA.out.size
          rw [List.nil_append] at ho1
          have HMY1 := Sl.mk (HMA.out.grown OA.out hg1 HYQ.out.2 HYQ.out.1 HQR.out)
          have HSY1 : Below w.heap.size w Y1 ∧ Y1.heap[w.heap.size]? = some (.cells #[.string h.a, .string h.b, .string h.c, .slice bd nf bc] 25 (0, 0)) ∧ Y1.heap[w0.heap.size]? = some (.cells #[.string fn, .string fv] 60 (0, 0)) := ⟨HMY1.out.B, HMY1.out.X, HMY1.out.Y⟩
          obtain ⟨C, hC⟩ : ∃ Z9, A.alloc (.cells #[.string fn, .string fv] 60) = Z9 := ⟨_, rfl⟩
          have KC : Sl (Below A.heap.size A C) := ⟨by rw [← hC]; exact (Below.refl _ _).alloc (Nat.le_refl _) _⟩
          have HMC := Sl.mk (HMA.out.below KC.out)
          have LC : Sl (C.heap[A.heap.size]? = some (.cells #[.string fn, .string fv] 60 (0, 0))) := ⟨by rw [← hC]; exact alloc_new _ _ _ rfl⟩
          have HSC : Below w.heap.size w C ∧ C.heap[w.heap.size]? = some (.cells #[.string h.a, .string h.b, .string h.c, .slice bd nf bc] 25 (0, 0)) ∧ C.heap[w0.heap.size]? = some (.cells #[.string fn, .string fv] 60 (0, 0)) := ⟨HMC.out.B, HMC.out.X, HMC.out.Y⟩
          refine heldTwo (di := some 62) (opi := Go.Op.call { callee := Go.Callee.builtin Go.Builtin.append, args := #[Go.Operand.tmp 57, Go.Operand.tmp 61], argTypes := #[23, 23] }) (gi := none) (dj := some 64) (opj := Go.Op.buildSlice 23 1 #[(0, Go.Operand.tmp 63)]) (gj := none) 5 7 v1 Y1 (.slice (some ⟨A.heap.size, 0, none⟩) 1 1) C rfl rfl (by kernel_rfl) (by kernel_rfl) (by kernel_rfl) ?y5a ?y7a HSY1 HSC ?n5a ?n7a
          case y5a => intro o ho ht; exact run_appF ho ht rfl rfl hr1
          case y7a => intro o ho ht; simp only [execOp, ho]; go_simp; first | done | rw [hC] | rfl
          case n5a =>
            simp only [Act.put, List.setIfInBounds_toArray, List.set_cons_zero, List.set_cons_succ]
            obtain ⟨D, hD⟩ : ∃ Z9, Y1.alloc (.cells #[.string fn, .string fv] 60) = Z9 := ⟨_, rfl⟩
            have KD : Sl (Below Y1.heap.size Y1 D) := ⟨by rw [← hD]; exact (Below.refl _ _).alloc (Nat.le_refl _) _⟩
            have HMD := Sl.mk (HMY1.out.below KD.out)
            have LD : Sl (D.heap[Y1.heap.size]? = some (.cells #[.string fn, .string fv] 60 (0, 0))) := ⟨by rw [← hD]; exact alloc_new _ _ _ rfl⟩
            have HSD : Below w.heap.size w D ∧ D.heap[w.heap.size]? = some (.cells #[.string h.a, .string h.b, .string h.c, .slice bd nf bc] 25 (0, 0)) ∧ D.heap[w0.heap.size]? = some (.cells #[.string fn, .string fv] 60 (0, 0)) := ⟨HMD.out.B, HMD.out.X, HMD.out.Y⟩
            refine heldRunT (d := some 64) (op := Go.Op.buildSlice 23 1 #[(0, Go.Operand.tmp 63)]) (g := none) 7 (.slice (some ⟨Y1.heap.size, 0, none⟩) 1 1) D rfl (by kernel_rfl) (by kernel_rfl) ?y7b HSD ?_
            case y7b => intro o ho ht; simp only [execOp, ho]; go_simp; first | done | rw [hD] | rfl
            simp only [Act.put, List.setIfInBounds_toArray, List.set_cons_zero, List.set_cons_succ]
            have HO1 := Sl.mk (OwnF.below ho1 KD.out)
            have HSZ : Sl (R.heap.size < D.heap.size) := ⟨Nat.lt_of_lt_of_le (by rw [← hA, alloc_size]; omega) (Nat.le_trans hg1.size KD.out.size)⟩
            obtain ⟨v2, Y2, hr2, ho2, hg2⟩ := add_flds (gs := [(fn, fv)]) (k := 1) HO1.out rfl LD.out rfl (by have := HTL.out; simp; omega) (Nat.le_of_lt (Nat.lt_of_lt_of_le HSZ.out (Nat.le_refl _)))
            have HM2 := Sl.mk (HMD.out.grown HO1.out hg2 HYQ.out.2 HYQ.out.1 HQR.out)
            have HS2 : Below w.heap.size w Y2 ∧ Y2.heap[w.heap.size]? = some (.cells #[.string h.a, .string h.b, .string h.c, .slice bd nf bc] 25 (0, 0)) ∧ Y2.heap[w0.heap.size]? = some (.cells #[.string fn, .string fv] 60 (0, 0)) := ⟨HM2.out.B, HM2.out.X, HM2.out.Y⟩
            refine heldRunT (d := some 65) (op := Go.Op.call { callee := Go.Callee.builtin Go.Builtin.append, args := #[Go.Operand.tmp 62, Go.Operand.tmp 64], argTypes := #[23, 23] }) (g := none) 8 v2 Y2 rfl (by kernel_rfl) (by kernel_rfl) ?y8b HS2 ?_
            case y8b => intro o ho ht; exact run_appF ho ht rfl rfl hr2
            simp only [Act.put, List.setIfInBounds_toArray, List.set_cons_zero, List.set_cons_succ]
            obtain ⟨v3, Y3, hr3, ho3, hg3⟩ := add_fall ho2 (HF2.out Y2 HM2.out.B) (by have := HTL.out; rw [List.length_append, HTL.out.1, HTL.out.2.1]; simp only [List.length_cons, List.length_nil]; omega) (Nat.le_trans (Nat.le_of_lt HSZ.out) hg2.size)
            have HM3 := Sl.mk (HM2.out.grown ho2 hg3 HYQ.out.2 HYQ.out.1 HQR.out)
            obtain ⟨av, cv, hv3⟩ := OwnF.slice ho3
            rw [HGL.out] at hv3
            subst hv3
            have HS3 : Below w.heap.size w Y3 ∧ Y3.heap[w.heap.size]? = some (.cells #[.string h.a, .string h.b, .string h.c, .slice bd nf bc] 25 (0, 0)) ∧ Y3.heap[w0.heap.size]? = some (.cells #[.string fn, .string fv] 60 (0, 0)) := ⟨HM3.out.B, HM3.out.X, HM3.out.Y⟩
            refine heldRunT (d := some 70) (op := Go.Op.call { callee := Go.Callee.builtin Go.Builtin.append, args := #[Go.Operand.tmp 65, Go.Operand.tmp 69], argTypes := #[23, 23] }) (g := none) 13 (.slice av (nf + 1) cv) Y3 rfl (by kernel_rfl) (by kernel_rfl) ?y13b HS3 ?_
            case y13b => intro o ho ht; exact run_appF ho ht rfl rfl hr3
            simp only [Act.put, List.setIfInBounds_toArray, List.set_cons_zero, List.set_cons_succ]
            refine heldTake (d := some 71) (op := Go.Op.fieldAddr 25 (Go.Operand.tmp 9) 1) (g := none) 14 ?v14b rfl (by kernel_rfl) (by kernel_rfl) (by kernel_rfl) (by kernel_rfl) ?y14b HS3 ?_
            case y14b => intro o ho w hS; simp only [execOp, ho]; go_simp; try rfl
            simp only [Act.put, List.setIfInBounds_toArray, List.set_cons_zero, List.set_cons_succ]
            obtain ⟨HREL, HY4⟩ := more_rel HM3.out ho3 (by have := HZ0.out; have := HQZ.out; omega) HGS.out (by rw [HGL.out]; omega) (by have := HQZ.out; omega)
            have f0 : Y3.frozen? ⟨wr.heap.size, 3, none⟩ = false := frozen_of_row _ _ _ _ _ HM3.out.Q
            have c0 := (head_cells HM3.out.Q).2.2.2
            have HS4 : Below w.heap.size w (Y3.setCell ⟨wr.heap.size, 3, none⟩ (.slice av (nf + 1) cv)) ∧ (Y3.setCell ⟨wr.heap.size, 3, none⟩ (.slice av (nf + 1) cv)).heap[w.heap.size]? = some (.cells #[.string h.a, .string h.b, .string h.c, .slice bd nf bc] 25 (0, 0)) ∧ (Y3.setCell ⟨wr.heap.size, 3, none⟩ (.slice av (nf + 1) cv)).heap[w0.heap.size]? = some (.cells #[.string fn, .string fv] 60 (0, 0)) := ⟨HREL.B, HREL.X, HY4⟩
            refine heldStore (d := none) (op := Go.Op.store 23 (Go.Operand.tmp 71) (Go.Operand.tmp 70)) (g := none) 15 (Y3.setCell ⟨wr.heap.size, 3, none⟩ (.slice av (nf + 1) cv)) rfl (by kernel_rfl) (by kernel_rfl) ?y15b HS4 ?_
            case y15b => intro o ho ht; simp only [execOp, ho]; go_simp; try rfl
            simp only [Act.put]
            refine wpAnyH_done (by kernel_rfl) ?_ _
            refine NoPanic.normal ?_
            go_wp2_with fail
            go_meet
            exact HREL
          case n7a =>
            simp only [Act.put, List.setIfInBounds_toArray, List.set_cons_zero, List.set_cons_succ]
            have OC := Sl.mk (OA.out.below KC.out)
            clear ho1 hr1 hg1 HMY1 HSY1
            obtain ⟨v1, Y5, hr1, ho1, hg1⟩ := add_fall OC.out (HF1.out C HMC.out.B) (by have := HTL.out; simp; omega) (Nat.le_trans KA.out.size KC.out.size)
            rw [List.nil_append] at ho1
            have HMY5 := Sl.mk (HMC.out.grown OC.out hg1 HYQ.out.2 HYQ.out.1 HQR.out)
            have HSY5 : Below w.heap.size w Y5 ∧ Y5.heap[w.heap.size]? = some (.cells #[.string h.a, .string h.b, .string h.c, .slice bd nf bc] 25 (0, 0)) ∧ Y5.heap[w0.heap.size]? = some (.cells #[.string fn, .string fv] 60 (0, 0)) := ⟨HMY5.out.B, HMY5.out.X, HMY5.out.Y⟩
            refine heldRunT (d := some 62) (op := Go.Op.call { callee := Go.Callee.builtin Go.Builtin.append, args := #[Go.Operand.tmp 57, Go.Operand.tmp 61], argTypes := #[23, 23] }) (g := none) 5 v1 Y5 rfl (by kernel_rfl) (by kernel_rfl) ?y5c HSY5 ?_
            case y5c => intro o ho ht; exact run_appF ho ht rfl rfl hr1
            simp only [Act.put, List.setIfInBounds_toArray, List.set_cons_zero, List.set_cons_succ]
            have L5 : Sl (Y5.heap[A.heap.size]? = some (.cells #[.string fn, .string fv] 60 (0, 0))) := ⟨lit_stays hg1 (by rw [← hA, alloc_size]; omega) LC.out⟩
            have HSZ : Sl (R.heap.size < Y5.heap.size) := ⟨Nat.lt_of_lt_of_le (by rw [← hA, alloc_size]; omega) (Nat.le_trans KC.out.size hg1.size)⟩
            obtain ⟨v2, Y2, hr2, ho2, hg2⟩ := add_flds (gs := [(fn, fv)]) (k := 1) ho1 rfl L5.out rfl (by have := HTL.out; simp; omega) (Nat.le_of_lt (Nat.lt_of_lt_of_le HSZ.out (Nat.le_refl _)))
            have HM2 := Sl.mk (HMY5.out.grown ho1 hg2 HYQ.out.2 HYQ.out.1 HQR.out)
            have HS2 : Below w.heap.size w Y2 ∧ Y2.heap[w.heap.size]? = some (.cells #[.string h.a, .string h.b, .string h.c, .slice bd nf bc] 25 (0, 0)) ∧ Y2.heap[w0.heap.size]? = some (.cells #[.string fn, .string fv] 60 (0, 0)) := ⟨HM2.out.B, HM2.out.X, HM2.out.Y⟩
            refine heldRunT (d := some 65) (op := Go.Op.call { callee := Go.Callee.builtin Go.Builtin.append, args := #[Go.Operand.tmp 62, Go.Operand.tmp 64], argTypes := #[23, 23] }) (g := none) 8 v2 Y2 rfl (by kernel_rfl) (by kernel_rfl) ?y8c HS2 ?_
            case y8c => intro o ho ht; exact run_appF ho ht rfl rfl hr2
            simp only [Act.put, List.setIfInBounds_toArray, List.set_cons_zero, List.set_cons_succ]
            obtain ⟨v3, Y3, hr3, ho3, hg3⟩ := add_fall ho2 (HF2.out Y2 HM2.out.B) (by have := HTL.out; rw [List.length_append, HTL.out.1, HTL.out.2.1]; simp only [List.length_cons, List.length_nil]; omega) (Nat.le_trans (Nat.le_of_lt HSZ.out) hg2.size)
            have HM3 := Sl.mk (HM2.out.grown ho2 hg3 HYQ.out.2 HYQ.out.1 HQR.out)
            obtain ⟨av, cv, hv3⟩ := OwnF.slice ho3
            rw [HGL.out] at hv3
            subst hv3
            have HS3 : Below w.heap.size w Y3 ∧ Y3.heap[w.heap.size]? = some (.cells #[.string h.a, .string h.b, .string h.c, .slice bd nf bc] 25 (0, 0)) ∧ Y3.heap[w0.heap.size]? = some (.cells #[.string fn, .string fv] 60 (0, 0)) := ⟨HM3.out.B, HM3.out.X, HM3.out.Y⟩
            refine heldRunT (d := some 70) (op := Go.Op.call { callee := Go.Callee.builtin Go.Builtin.append, args := #[Go.Operand.tmp 65, Go.Operand.tmp 69], argTypes := #[23, 23] }) (g := none) 13 (.slice av (nf + 1) cv) Y3 rfl (by kernel_rfl) (by kernel_rfl) ?y13c HS3 ?_
            case y13c => intro o ho ht; exact run_appF ho ht rfl rfl hr3
            simp only [Act.put, List.setIfInBounds_toArray, List.set_cons_zero, List.set_cons_succ]
            refine heldTake (d := some 71) (op := Go.Op.fieldAddr 25 (Go.Operand.tmp 9) 1) (g := none) 14 ?v14c rfl (by kernel_rfl) (by kernel_rfl) (by kernel_rfl) (by kernel_rfl) ?y14c HS3 ?_
            case y14c => intro o ho w hS; simp only [execOp, ho]; go_simp; try rfl
            simp only [Act.put, List.setIfInBounds_toArray, List.set_cons_zero, List.set_cons_succ]
            obtain ⟨HREL, HY4⟩ := more_rel HM3.out ho3 (by have := HZ0.out; have := HQZ.out; omega) HGS.out (by rw [HGL.out]; omega) (by have := HQZ.out; omega)
            have f0 : Y3.frozen? ⟨wr.heap.size, 3, none⟩ = false := frozen_of_row _ _ _ _ _ HM3.out.Q
            have c0 := (head_cells HM3.out.Q).2.2.2
            have HS4 : Below w.heap.size w (Y3.setCell ⟨wr.heap.size, 3, none⟩ (.slice av (nf + 1) cv)) ∧ (Y3.setCell ⟨wr.heap.size, 3, none⟩ (.slice av (nf + 1) cv)).heap[w.heap.size]? = some (.cells #[.string h.a, .string h.b, .string h.c, .slice bd nf bc] 25 (0, 0)) ∧ (Y3.setCell ⟨wr.heap.size, 3, none⟩ (.slice av (nf + 1) cv)).heap[w0.heap.size]? = some (.cells #[.string fn, .string fv] 60 (0, 0)) := ⟨HREL.B, HREL.X, HY4⟩
            refine heldStore (d := none) (op := Go.Op.store 23 (Go.Operand.tmp 71) (Go.Operand.tmp 70)) (g := none) 15 (Y3.setCell ⟨wr.heap.size, 3, none⟩ (.slice av (nf + 1) cv)) rfl (by kernel_rfl) (by kernel_rfl) ?y15c HS4 ?_
            case y15c => intro o ho ht; simp only [execOp, ho]; go_simp; try rfl
            simp only [Act.put]
            refine wpAnyH_done (by kernel_rfl) ?_ _
            refine NoPanic.normal ?_
            go_wp2_with fail
            go_meet
            exact HREL
        case n7 =>
          simp only [Act.put, List.setIfInBounds_toArray, List.set_cons_zero, List.set_cons_succ]
          obtain ⟨E, hE⟩ : ∃ Z9, B.alloc (.cells #[] 60) = Z9 := ⟨_, rfl⟩
          have KE : Sl (Below B.heap.size B E) := ⟨by rw [← hE]; exact (Below.refl _ _).alloc (Nat.le_refl _) _⟩
          have HME := Sl.mk (HMB.out.below KE.out)
          have OE : Sl (OwnF E R.heap.size (.slice (some ⟨B.heap.size, 0, none⟩) 0 0) []) := ⟨by rw [← hE]; exact ownF_lit B R.heap.size [] #[] (by have := KL.out.size; omega) rfl (show 0 ≤ 1000 by omega)⟩
          have HSE : Below w.heap.size w E ∧ E.heap[w.heap.size]? = some (.cells #[.string h.a, .string h.b, .string h.c, .slice bd nf bc] 25 (0, 0)) ∧ E.heap[w0.heap.size]? = some (.cells #[.string fn, .string fv] 60 (0, 0)) := ⟨HME.out.B, HME.out.X, HME.out.Y⟩
          refine heldRunT (d := some 57) (op := Go.Op.buildSlice 23 0 #[]) (g := none) 0 (.slice (some ⟨B.heap.size, 0, none⟩) 0 0) E rfl (by kernel_rfl) (by kernel_rfl) ?y0d HSE ?_
          case y0d => intro o ho ht; simp only [execOp, ho]; go_simp; first | done | rw [hE] | rfl
          simp only [Act.put, List.setIfInBounds_toArray, List.set_cons_zero, List.set_cons_succ]
          obtain ⟨v1, Y6, hr1, ho1, hg1⟩ := add_fall OE.out (HF1.out E HME.out.B) (by have := HTL.out; simp; omega) (Nat.le_trans KL.out.size KE.out.size)
          rw [List.nil_append] at ho1
          have HMY6 := Sl.mk (HME.out.grown OE.out hg1 HYQ.out.2 HYQ.out.1 HQR.out)
          have HSY6 : Below w.heap.size w Y6 ∧ Y6.heap[w.heap.size]? = some (.cells #[.string h.a, .string h.b, .string h.c, .slice bd nf bc] 25 (0, 0)) ∧ Y6.heap[w0.heap.size]? = some (.cells #[.string fn, .string fv] 60 (0, 0)) := ⟨HMY6.out.B, HMY6.out.X, HMY6.out.Y⟩
          refine heldRunT (d := some 62) (op := Go.Op.call { callee := Go.Callee.builtin Go.Builtin.append, args := #[Go.Operand.tmp 57, Go.Operand.tmp 61], argTypes := #[23, 23] }) (g := none) 5 v1 Y6 rfl (by kernel_rfl) (by kernel_rfl) ?y5d HSY6 ?_
          case y5d => intro o ho ht; exact run_appF ho ht rfl rfl hr1
          simp only [Act.put, List.setIfInBounds_toArray, List.set_cons_zero, List.set_cons_succ]
          have L6 : Sl (Y6.heap[R.heap.size]? = some (.cells #[.string fn, .string fv] 60 (0, 0))) := ⟨lit_stays hg1 (by rw [← hB, alloc_size]; omega) (box_below LB.out KE.out)⟩
          have HSZ : Sl (R.heap.size < Y6.heap.size) := ⟨Nat.lt_of_lt_of_le (by rw [← hB, alloc_size]; omega) (Nat.le_trans KE.out.size hg1.size)⟩
          obtain ⟨v2, Y2, hr2, ho2, hg2⟩ := add_flds (gs := [(fn, fv)]) (k := 1) ho1 rfl L6.out rfl (by have := HTL.out; simp; omega) (Nat.le_of_lt (Nat.lt_of_lt_of_le HSZ.out (Nat.le_refl _)))
          have HM2 := Sl.mk (HMY6.out.grown ho1 hg2 HYQ.out.2 HYQ.out.1 HQR.out)
          have HS2 : Below w.heap.size w Y2 ∧ Y2.heap[w.heap.size]? = some (.cells #[.string h.a, .string h.b, .string h.c, .slice bd nf bc] 25 (0, 0)) ∧ Y2.heap[w0.heap.size]? = some (.cells #[.string fn, .string fv] 60 (0, 0)) := ⟨HM2.out.B, HM2.out.X, HM2.out.Y⟩
          refine heldRunT (d := some 65) (op := Go.Op.call { callee := Go.Callee.builtin Go.Builtin.append, args := #[Go.Operand.tmp 62, Go.Operand.tmp 64], argTypes := #[23, 23] }) (g := none) 8 v2 Y2 rfl (by kernel_rfl) (by kernel_rfl) ?y8d HS2 ?_
          case y8d => intro o ho ht; exact run_appF ho ht rfl rfl hr2
          simp only [Act.put, List.setIfInBounds_toArray, List.set_cons_zero, List.set_cons_succ]
          obtain ⟨v3, Y3, hr3, ho3, hg3⟩ := add_fall ho2 (HF2.out Y2 HM2.out.B) (by have := HTL.out; rw [List.length_append, HTL.out.1, HTL.out.2.1]; simp only [List.length_cons, List.length_nil]; omega) (Nat.le_trans (Nat.le_of_lt HSZ.out) hg2.size)
          have HM3 := Sl.mk (HM2.out.grown ho2 hg3 HYQ.out.2 HYQ.out.1 HQR.out)
          obtain ⟨av, cv, hv3⟩ := OwnF.slice ho3
          rw [HGL.out] at hv3
          subst hv3
          have HS3 : Below w.heap.size w Y3 ∧ Y3.heap[w.heap.size]? = some (.cells #[.string h.a, .string h.b, .string h.c, .slice bd nf bc] 25 (0, 0)) ∧ Y3.heap[w0.heap.size]? = some (.cells #[.string fn, .string fv] 60 (0, 0)) := ⟨HM3.out.B, HM3.out.X, HM3.out.Y⟩
          refine heldRunT (d := some 70) (op := Go.Op.call { callee := Go.Callee.builtin Go.Builtin.append, args := #[Go.Operand.tmp 65, Go.Operand.tmp 69], argTypes := #[23, 23] }) (g := none) 13 (.slice av (nf + 1) cv) Y3 rfl (by kernel_rfl) (by kernel_rfl) ?y13d HS3 ?_
          case y13d => intro o ho ht; exact run_appF ho ht rfl rfl hr3
          simp only [Act.put, List.setIfInBounds_toArray, List.set_cons_zero, List.set_cons_succ]
          refine heldTake (d := some 71) (op := Go.Op.fieldAddr 25 (Go.Operand.tmp 9) 1) (g := none) 14 ?v14d rfl (by kernel_rfl) (by kernel_rfl) (by kernel_rfl) (by kernel_rfl) ?y14d HS3 ?_
          case y14d => intro o ho w hS; simp only [execOp, ho]; go_simp; try rfl
          simp only [Act.put, List.setIfInBounds_toArray, List.set_cons_zero, List.set_cons_succ]
          obtain ⟨HREL, HY4⟩ := more_rel HM3.out ho3 (by have := HZ0.out; have := HQZ.out; omega) HGS.out (by rw [HGL.out]; omega) (by have := HQZ.out; omega)
          have f0 : Y3.frozen? ⟨wr.heap.size, 3, none⟩ = false := frozen_of_row _ _ _ _ _ HM3.out.Q
          have c0 := (head_cells HM3.out.Q).2.2.2
          have HS4 : Below w.heap.size w (Y3.setCell ⟨wr.heap.size, 3, none⟩ (.slice av (nf + 1) cv)) ∧ (Y3.setCell ⟨wr.heap.size, 3, none⟩ (.slice av (nf + 1) cv)).heap[w.heap.size]? = some (.cells #[.string h.a, .string h.b, .string h.c, .slice bd nf bc] 25 (0, 0)) ∧ (Y3.setCell ⟨wr.heap.size, 3, none⟩ (.slice av (nf + 1) cv)).heap[w0.heap.size]? = some (.cells #[.string fn, .string fv] 60 (0, 0)) := ⟨HREL.B, HREL.X, HY4⟩
          refine heldStore (d := none) (op := Go.Op.store 23 (Go.Operand.tmp 71) (Go.Operand.tmp 70)) (g := none) 15 (Y3.setCell ⟨wr.heap.size, 3, none⟩ (.slice av (nf + 1) cv)) rfl (by kernel_rfl) (by kernel_rfl) ?y15d HS4 ?_
          case y15d => intro o ho ht; simp only [execOp, ho]; go_simp; try rfl
          simp only [Act.put]
          refine wpAnyH_done (by kernel_rfl) ?_ _
          refine NoPanic.normal ?_
          go_wp2_with fail
          go_meet
          exact HREL
      case rest =>
        obtain ⟨hB, hX, ag, cg, hG, hF⟩ := hcut
        have HB6 := Sl.mk hB
        have HX6 := Sl.mk hX
        have HG6 := Sl.mk hG
        have HF6 := Sl.mk hF
        have HTI := Sl.mk (HT.out i)
        have HWI := Sl.mk (HGF2.out i)
        clear hB hX hG hF HM5 HT HGF2 hrem hi
        obtain ⟨p0, p1, p2, p3⟩ := head_cells HX6.out
        go_wp2_with fail
        clear p0 p1 p2 p3
        refine (C14.out _ HFW.out HB6.out).mono ?_
        rintro e w7 ⟨⟨a7, c7, l7, rfl, hs7, hl7⟩, HE⟩
        have HS7 := Sl.mk hs7
        have HL7 := Sl.mk hl7
        have HG7 := Sl.mk (box_below HG6.out HE.out)
        have HB7 := Sl.mk (below_trans HB6.out HE.out)
        have HF7 := Sl.mk (HF6.out.below HE.out)
        clear hs7 hl7 HE HX6 HB6 HG6 HF6 C14
        obtain ⟨w8, hw8⟩ : ∃ V, w7.alloc (.cells #[.string o.p, .string o.h, .string o.k, .string o.o, .slice a7 n c7] 30) = V := ⟨_, rfl⟩
        have HE8 : Sl (Below w7.heap.size w7 w8) := ⟨by rw [← hw8]; exact (Below.refl _ _).alloc (Nat.le_refl _) _⟩
        have HO8 : Sl (w8.heap[w7.heap.size]? = some (.cells #[.string o.p, .string o.h, .string o.k, .string o.o, .slice a7 n c7] 30 (0, 0))) := ⟨by rw [← hw8]; exact alloc_new _ _ _ rfl⟩
        have HG8 := Sl.mk (box_below HG7.out HE8.out)
        have HB8 := Sl.mk (below_trans HB7.out HE8.out)
        have HS8 := Sl.mk (HS7.out.below HE8.out)
        have HF8 := Sl.mk (HF7.out.below HE8.out)
        clear HE8 HG7 HB7 HS7 HF7
        obtain ⟨p0, p1, p2, p3⟩ := head_cells HG8.out
        go_wp2_with fail
        clear hw8 p0 p1 p2 p3
        refine (C14g.out _ _ _ HTI.out HWI.out HB8.out HF8.out).mono ?_
        rintro e w9 ⟨⟨a9, c9, l9, rfl, hs9, hl9⟩, HE⟩
        have HS9 := Sl.mk hs9
        have HL9 := Sl.mk hl9
        have HO9 := Sl.mk (box_below HO8.out HE.out)
        have HB9 := Sl.mk (below_trans HB8.out HE.out)
        have HT9 := Sl.mk (HS8.out.below HE.out)
        clear hs9 hl9 HE HG8 HB8 HS8 HO8 HF8
        obtain ⟨w10, hw10⟩ : ∃ V, w9.alloc (.cells #[.string o.p, .string o.h, .string o.k, .string o.o, .slice a9 n c9] 30) = V := ⟨_, rfl⟩
        have HE10 : Sl (Below w9.heap.size w9 w10) := ⟨by rw [← hw10]; exact (Below.refl _ _).alloc (Nat.le_refl _) _⟩
        have HP10 : Sl (w10.heap[w9.heap.size]? = some (.cells #[.string o.p, .string o.h, .string o.k, .string o.o, .slice a9 n c9] 30 (0, 0))) := ⟨by rw [← hw10]; exact alloc_new _ _ _ rfl⟩
        have HO10 := Sl.mk (box_below HO9.out HE10.out)
        have HB10 := Sl.mk (below_trans HB9.out HE10.out)
        have HS10 := Sl.mk (HS9.out.below HE10.out)
        have HT10 := Sl.mk (HT9.out.below HE10.out)
        clear HE10 HO9 HB9 HS9 HT9
        obtain ⟨q0, q1, q2, q3, q4⟩ := offer_cells HO10.out
        obtain ⟨r0, r1, r2, r3, r4⟩ := offer_cells HP10.out
        go_wp2_with fail
        clear hw10 q0 q1 q2 q3 q4 r0 r1 r2 r3 r4
        refine (same_true o.p o.h o.k o.o _ _ l7 l9 w10 HT10.out HS10.out (by rw [HL7.out, HL9.out]) (by have h1 := congrArg List.length HL7.out; rw [List.length_map, List.length_map, HN.out] at h1; rw [h1]; exact HLN.out HFW.out)).mono ?_
        rintro e w11 ⟨rfl, HE⟩
        have HB11 := Sl.mk (below_trans HB10.out HE.out)
        go_wp2
        go_ret
        exact ⟨rfl, HB11⟩
theorem more_walk (h : HdV) (bx : Value) (fn fv : ByteArray) (at_ : Nat) (w : World) (hg : GlobA w) (hfit : h.Fit) (hv : FieldsAt w bx h.fs) (_ : fn.size ≤ maxLen) (_ : fv.size ≤ maxLen) (hat : at_ < 256) :
    Calls Tryz.prog 9 #[.agg #[.string h.a, .string h.b, .string h.c, bx], .agg #[.string fn, .string fv], .int .u8 at_] w fun e w' => e = .returned (.bool true) ∧ Below w.heap.size w w' :=
  (more_law h bx fn fv at_ w hg hfit hv hat).mono fun _ _ ⟨h1, h2⟩ => ⟨h1, h2.out⟩
end Go.Proofs.YthlagngpllahkaaGreatDoor
