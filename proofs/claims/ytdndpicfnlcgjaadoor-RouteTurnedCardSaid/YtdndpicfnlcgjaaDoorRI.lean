/- route: Pick. -/
import Derived.Test.YtdndpicfnlcgjaaDoorRH
set_option maxRecDepth 100000
namespace Go.Proofs.YtdndpicfnlcgjaaDoor.Rou
open Go.RowKit Go.Maps Go.ChangeMaps Go.MapKept Nam
open RoutePlain (Rt below better fits pick)

/-- What Pick keeps, with the route that is best so far. -/
structure Pk (w0 W : World) (s g6 g8 g9 g11 : Nat) (ps : List ByteArray) (pl : ByteArray) (o : Rb) : Prop where
  L : Below w0.heap.size w0 W
  S : SetAt W s ps
  h6 : W.heap[g6]? = some (.cells #[.string { data := #[] }, .string { data := #[] }, .string { data := #[] }] 34 (0, 0))
  h8 : W.heap[g8]? = some (.cells #[.string pl] 9 (0, 0))
  h9 : W.heap[g9]? = some (.cells #[.map (some s)] 57 (0, 0))
  hb : W.heap[g11]? = some (.cells #[.string o.pre, .string o.pro, .string o.dst] 34 (0, 0))
  n : w0.heap.size ≤ g11 ∧ w0.heap.size ≤ g6 ∧ s ≠ g11 ∧ g6 ≠ g11 ∧ g8 ≠ g11 ∧ g9 ≠ g11
theorem Pk.below {w0 W W' : World} {s g6 g8 g9 g11 : Nat} {ps : List ByteArray} {pl : ByteArray} {o : Rb} (h : Pk w0 W s g6 g8 g9 g11 ps pl o) (hB : Below W.heap.size W W') : Pk w0 W' s g6 g8 g9 g11 ps pl o :=
  ⟨h.L.trans (hB.mono h.L.size), h.S.below hB, below_key h.h6 hB, below_key h.h8 hB, below_key h.h9 hB, below_key h.hb hB, h.n⟩
theorem Pk.set {w0 W : World} {s g6 g8 g9 g11 : Nat} {ps : List ByteArray} {pl : ByteArray} {o : Rb} (h : Pk w0 W s g6 g8 g9 g11 ps pl o) (u : Rb) : ∃ V, W.setRow g11 #[.string u.pre, .string u.pro, .string u.dst] = V ∧ Sl (Pk w0 V s g6 g8 g9 g11 ps pl u) :=
  ⟨_, rfl, ⟨⟨below_setRow h.L h.n.1 _, World.ownsMap.kept h.S (grown_setRow _ _ _) (fun e => h.n.2.2.1 (by injection e)), (setRow_other _ _ _ _ h.n.2.2.2.1).trans h.h6, (setRow_other _ _ _ _ h.n.2.2.2.2.1).trans h.h8, (setRow_other _ _ _ _ h.n.2.2.2.2.2).trans h.h9, setRow_heap _ _ _ _ _ _ h.hb, h.n⟩⟩⟩
theorem stepB_no {p : List Nat} {ps : List (List Nat)} {o : Option Rb} {r : Rb} (h : fits p ps r.rt = false) : stepB p ps o r = o := by unfold stepB; rw [h]; rfl
theorem stepB_first {p : List Nat} {ps : List (List Nat)} {r : Rb} (h : fits p ps r.rt = true) : stepB p ps none r = some r := by unfold stepB; rw [h]; rfl
theorem stepB_some {p : List Nat} {ps : List (List Nat)} {a r : Rb} (h : fits p ps r.rt = true) : stepB p ps (some a) r = if better a.rt r.rt = true then some r else some a := by unfold stepB; rw [h]; rfl
theorem short_best {p : List Nat} {ps : List (List Nat)} {rs : List Rb} (h : ∀ r ∈ rs, Short r) : Short ((bestB p ps rs).getD Rn) := by
  cases hb : bestB p ps rs with
  | none => exact ⟨by decide, by decide, by decide⟩
  | some r => exact h r (bestB_mem hb)
set_option maxHeartbeats 8000000 in
theorem pick_any (rs : List Rb) (a1 : Option Addr) (n1 c1 : Nat) (a2 : Option Addr) (n2 c2 : Nat) (tb ms fr ct bs ot sh id po cl : Int) (path : ByteArray) (pv : Value) (ps : List ByteArray) (W : World) (hv : RtsAt W (.slice a1 n1 c1) rs) (ok : ∀ r ∈ rs, Short r) (hl : rs.length ≤ 1000000) (hp : path.size ≤ maxLen) (hpv : StrA W pv ps) (hpl : ps.length ≤ 1000000) (hps : ∀ s ∈ ps, s.size ≤ maxLen) :
    Calls Tryd.prog 15 #[.agg #[.slice a1 n1 c1, .slice a2 n2 c2, .int .i64 tb, .int .i64 ms, .int .i64 fr, .int .i64 ct, .int .i64 bs, .int .i64 ot, .int .i64 sh, .int .i64 id, .int .i64 po, .int .i64 cl], .string path, pv] W fun en w' => en = .returned (pickV (bestB (bytes path) (ps.map bytes) rs)) ∧ Sl (Below W.heap.size W w') := by
  obtain ⟨wa, hwa, HBa, hx⟩ := cfg_box W #[.slice a1 n1 c1, .slice a2 n2 c2, .int .i64 tb, .int .i64 ms, .int .i64 fr, .int .i64 ct, .int .i64 bs, .int .i64 ot, .int .i64 sh, .int .i64 id, .int .i64 po, .int .i64 cl]
  obtain ⟨wb, hwb, HBb, hy⟩ := box_rt wa
  obtain ⟨g3, hg3⟩ : ∃ g, W.heap.size = g := ⟨_, rfl⟩
  obtain ⟨g6, hg6⟩ : ∃ g, wa.heap.size = g := ⟨_, rfl⟩
  have HX := Sl.mk (below_key hx HBb.out)
  have HY := Sl.mk hy
  have HBW : Sl (Below W.heap.size W wb) := ⟨HBa.out.trans (HBb.out.mono HBa.out.size)⟩
  have HV0 := Sl.mk hv
  have HN1 : Sl (n1 = rs.length) := ⟨hv.cap.1⟩
  have PL := Sl.mk (place_any path wb hp)
  have HPV := Sl.mk (hpv.below HBW.out)
  have HPS := Sl.mk hps
  have HOK := Sl.mk ok
  have HL3 : Sl (g3 ≤ g6) := ⟨by rw [← hg3, ← hg6]; exact HBa.out.size⟩
  obtain ⟨pl, hpl2⟩ : ∃ p, plc path = p := ⟨_, rfl⟩
  have HPL : Sl (bytes pl = RoutePlain.stem (bytes path)) := ⟨by rw [← hpl2]; exact plc_bytes path⟩
  rw [hpl2] at PL
  have hsv : ∃ a c, pv = .slice a ps.length c := by obtain ⟨a, c, _, _, h, _⟩ := hpv; exact ⟨a, c, h⟩
  obtain ⟨pa, pc, hpe⟩ := hsv
  subst hpe
  rw [hg3] at HX
  rw [hg6] at HY
  clear hx hy hv ok hpv hps hpl2 hp
  go_enter Tryd.func15, Tryd.ntmps15
  go_upto_region 1 with fail
  (try rw [hwa, hwb])
  (try rw [hg3, hg6])
  clear hwa hwb HBa HBb
  go_wp2_with fail
  refine (PL.out).mono ?_
  rintro e w1 ⟨rfl, HB1⟩
  clear PL
  have SO := Sl.mk (setOf_any ps (.slice pa ps.length pc) w1 (HPV.out.below HB1.out) hpl HPS.out)
  go_wp2_with fail
  refine (SO.out).mono ?_
  rintro e w2 ⟨rfl, HS2, HB2⟩
  clear SO
  obtain ⟨s, hs⟩ : ∃ s, w1.heap.size = s := ⟨_, rfl⟩
  rw [hs] at HS2 ⊢
  have HB12 : Sl (Below wb.heap.size wb w2) := ⟨HB1.out.trans (HB2.out.mono HB1.out.size)⟩
  go_upto_region 2 with fail
  obtain ⟨w5, hw5, HB25, H8, H9⟩ : ∃ V, (w2.alloc (.cells #[.string pl] 9)).alloc (.cells #[.map (some s)] 57) = V ∧ Sl (Below w2.heap.size w2 V) ∧ Sl (V.heap[w2.heap.size]? = some (.cells #[.string pl] 9 (0, 0))) ∧ Sl (V.heap[w2.heap.size + 1]? = some (.cells #[.map (some s)] 57 (0, 0))) :=
    ⟨_, rfl, ⟨((Below.refl _ _).alloc (Nat.le_refl _) _).alloc (by rw [alloc_size]; omega) _⟩, ⟨(alloc_old _ _ _ (by rw [alloc_size]; omega)).trans (alloc_new _ _ _ rfl)⟩, ⟨alloc_new _ _ _ (by rw [alloc_size])⟩⟩
  rw [hw5]
  clear hw5
  obtain ⟨w6, hw6, HB56, H11⟩ := box_rt w5
  have hs2 : s < w2.heap.size := by
    have h1 := HS2.out
    exact World.ownsMap.lt h1
  have hg62 : g6 < w2.heap.size := (Array.getElem?_eq_some_iff.1 (below_key HY.out HB12.out)).1
  have hg36 : W.heap.size ≤ g6 := by rw [hg3]; exact HL3.out
  have h25 := HB25.out.size
  have h9l : w2.heap.size + 1 < w5.heap.size := (Array.getElem?_eq_some_iff.1 H9.out).1
  have HB26 : Sl (Below w2.heap.size w2 w6) := ⟨HB25.out.trans (HB56.out.mono h25)⟩
  have HPK : Sl (Pk W w6 s g6 w2.heap.size (w2.heap.size + 1) w5.heap.size ps pl Rn) := ⟨⟨(HBW.out.trans (HB12.out.mono HBW.out.size)).trans (HB26.out.mono (by omega)), HS2.out.below HB26.out, below_key (below_key HY.out HB12.out) HB26.out, below_key H8.out HB56.out, below_key H9.out HB56.out, H11, by omega⟩⟩
  have HX6 := Sl.mk (below_key (below_key HX.out HB12.out) HB26.out)
  obtain ⟨g8, hg8⟩ : ∃ g, w2.heap.size = g := ⟨_, rfl⟩
  rw [hg8] at HPK
  rw [hg8]
  obtain ⟨g11, hg11⟩ : ∃ g, w5.heap.size = g := ⟨_, rfl⟩
  rw [hg11] at HPK
  clear hs hg8 H8 H9 H11 HB56 HB25 HB26 HB12 HB1 HB2 HX HY HS2 HBW HPV HPS hs2 hg62 hg36 h25 h9l HL3
  go_upto_region 4 with fail
  (try rw [hw6])
  (try rw [hg11])
  clear hw6 hg11
  have e0 := cell_at HX6.out 0 _ rfl
  have hcap := HV0.out.cap
  obtain ⟨-, hcap, -⟩ := hcap
  go_wp2
  go_loopw [23, 12] (fun i f wr => ∃ k : Nat, k ≤ n1 ∧ i = .int .i64 k ∧ f = .bool (bestB (bytes path) (ps.map bytes) (rs.take k)).isSome ∧ Sl (Pk W wr s g6 g8 (g8 + 1) g11 ps pl ((bestB (bytes path) (ps.map bytes) (rs.take k)).getD Rn))) (fun i _ _ => n1 - (intOf i).toNat)
  case atStart => exact ⟨0, Nat.zero_le _, rfl, rfl, HPK⟩
  case round =>
    obtain ⟨k, hk, rfl, rfl, HP⟩ := hrel
    by_cases hlt : k < n1
    · have hq : ((k : Int) < (n1 : Int)) = True := eq_true (by omega)
      have hkl : k < rs.length := by rw [← HN1.out]; exact hlt
      obtain ⟨sb, so, rfl⟩ := HV0.out.cap.2.2 (by omega)
      obtain ⟨x, y, z, he⟩ : ∃ x y z, rs.getD k Rb0 = ⟨x, y, z⟩ := ⟨_, _, _, rfl⟩
      have HE := Sl.mk he
      have hok : Short ⟨x, y, z⟩ := by
        rw [← he]; refine HOK.out _ ?_
        rw [List.getD_eq_getElem?_getD, List.getElem?_eq_getElem hkl]; exact List.getElem_mem _
      obtain ⟨c0, c1', c2'⟩ := (HV0.out.below HP.out.L).at3 k hkl he
      obtain ⟨wx, hwx, HBx, hx⟩ := box_rt wr
      obtain ⟨wy, hwy, HBy, HX⟩ := set_rt hx HBx.out (Nat.le_refl _) #[.string x, .string y, .string z]
      have HI : (Tryd.prog.info? 34).map (·.size) = some (#[Value.string x, .string y, .string z] : Array Value).size := rt_info rfl
      have HPy := Sl.mk (HP.out.below HBy.out)
      obtain ⟨b, hb⟩ : ∃ b, bestB (bytes path) (ps.map bytes) (rs.take k) = b := ⟨_, rfl⟩
      rw [hb] at HPy HP
      rw [hb]
      have HSN : Sl (bestB (bytes path) (ps.map bytes) (rs.take (k + 1)) = stepB (bytes path) (ps.map bytes) b ⟨x, y, z⟩) := ⟨by rw [takeT hkl, bestB_snoc, hb, he]⟩
      obtain ⟨p, hp⟩ : ∃ p, fits (bytes path) (ps.map bytes) ⟨bytes x, bytes y, bytes z⟩ = p := ⟨_, rfl⟩
      have HPF := Sl.mk hp
      have FT := Sl.mk (fits_any x y z wy s g8 (g8 + 1) ps pl HPy.out.S HPy.out.h8 HPy.out.h9 (Nat.le_trans hok.1 (by decide)) (Nat.le_trans hok.2.1 (by decide)) (bytes path) HPL.out p hp)
      have hk4 : (0 : Int) ≤ (k : Int) := by omega
      clear he hp hb hok
      go_upto_region 8 with (refine wpList_store_row rfl 34 (.tmp 14) (.tmp 26) rfl wr.heap.size #[.string x, .string y, .string z] rfl rfl 34 #[.string { data := #[] }, .string { data := #[] }, .string { data := #[] }] hx HI rfl (rt_all _ _ _) ?_)
      (try rw [hwy])
      clear hwx hwy hx HBx c0 c1' c2'
      obtain ⟨g, hgg⟩ : ∃ g, wr.heap.size = g := ⟨_, rfl⟩
      rw [hgg] at HX
      (try rw [hgg])
      have HGL : Sl (g < wy.heap.size) := ⟨(Array.getElem?_eq_some_iff.1 HX.out).1⟩
      clear hgg
      obtain ⟨d0, d1, d2⟩ := rt_cells HX.out
      go_wp2_with fail
      refine (FT.out).mono ?_
      rintro e w4 ⟨rfl, HB4⟩
      clear FT HBy d0 d1 d2
      have HX4 := Sl.mk (below_key HX.out HB4.out)
      have HP4 := Sl.mk (HPy.out.below HB4.out)
      obtain ⟨d0, d1, d2⟩ := rt_cells HX4.out
      obtain ⟨f0, f1, f2⟩ := rt_cells HP4.out.hb
      cases p with
      | false =>
        have HSS : Sl (bestB (bytes path) (ps.map bytes) (rs.take (k + 1)) = b) := ⟨HSN.out.trans (stepB_no HPF.out)⟩
        go_wp2
        exact ⟨⟨k + 1, by omega, by go_num, by rw [HSS.out], by rw [HSS.out]; exact HP4⟩, by simp [intOf]; omega⟩
      | true =>
        have HI2 : (Tryd.prog.info? 34).map (·.size) = some (#[Value.string x, .string y, .string z] : Array Value).size := rt_info rfl
        cases b with
        | none =>
          have HSS : Sl (bestB (bytes path) (ps.map bytes) (rs.take (k + 1)) = some ⟨x, y, z⟩) := ⟨HSN.out.trans (stepB_first HPF.out)⟩
          obtain ⟨w7, hw7, HP7⟩ := HP4.out.set ⟨x, y, z⟩
          have hbx := HP4.out.hb
          simp only [Option.getD_none, Rn] at hbx f0 f1 f2
          simp only [Option.isSome_none]
          go_upto_region 10 with (refine wpList_store_row rfl 34 (.tmp 11) (.tmp 39) rfl g11 #[.string x, .string y, .string z] rfl rfl 34 _ hbx HI2 rfl (rt_all _ _ _) ?_)
          (try rw [hw7])
          go_wp2
          exact ⟨⟨k + 1, by omega, by go_num, by rw [HSS.out]; rfl, by rw [HSS.out]; exact HP7⟩, by simp [intOf]; omega⟩
        | some a =>
          obtain ⟨x', y', z'⟩ := a
          simp only [Option.getD_some] at f0 f1 f2
          simp only [Option.isSome_some]
          obtain ⟨q, hq2⟩ : ∃ q, better ⟨bytes x', bytes y', bytes z'⟩ ⟨bytes x, bytes y, bytes z⟩ = q := ⟨_, rfl⟩
          have AH := Sl.mk (ahead_any x y z x' y' z' w4 q hq2)
          have HSB : Sl (bestB (bytes path) (ps.map bytes) (rs.take (k + 1)) = if q = true then some ⟨x, y, z⟩ else some ⟨x', y', z'⟩) := ⟨by rw [← hq2]; exact HSN.out.trans (stepB_some HPF.out)⟩
          clear hq2
          go_wp2_with fail
          refine (AH.out).mono ?_
          rintro e w5 ⟨rfl, HB5⟩
          clear AH d0 d1 d2 f0 f1 f2
          have HX5 := Sl.mk (below_key HX4.out HB5.out)
          have HP5 := Sl.mk (HP4.out.below HB5.out)
          obtain ⟨d0, d1, d2⟩ := rt_cells HX5.out
          cases q with
          | false =>
            go_wp2
            exact ⟨⟨k + 1, by omega, by go_num, by rw [HSB.out]; rfl, by rw [HSB.out]; exact HP5⟩, by simp [intOf]; omega⟩
          | true =>
            obtain ⟨w7, hw7, HP7⟩ := HP5.out.set ⟨x, y, z⟩
            have hbx := HP5.out.hb
            simp only [Option.getD_some] at hbx
            go_upto_region 10 with (refine wpList_store_row rfl 34 (.tmp 11) (.tmp 39) rfl g11 #[.string x, .string y, .string z] rfl rfl 34 _ hbx HI2 rfl (rt_all _ _ _) ?_)
            (try rw [hw7])
            go_wp2
            exact ⟨⟨k + 1, by omega, by go_num, by rw [HSB.out]; rfl, by rw [HSB.out]; exact HP7⟩, by simp [intOf]; omega⟩
    · obtain rfl : k = n1 := by omega
      have hge : ((k : Int) < (k : Int)) = False := eq_false (by omega)
      have hall : rs.take k = rs := List.take_of_length_le (by rw [HN1.out]; exact Nat.le_refl _)
      rw [hall] at HP ⊢
      have HSH : Sl (Short ((bestB (bytes path) (ps.map bytes) rs).getD Rn)) := ⟨short_best HOK.out⟩
      obtain ⟨b, hb⟩ : ∃ b, bestB (bytes path) (ps.map bytes) rs = b := ⟨_, rfl⟩
      rw [hb] at HP HSH
      (try rw [hb])
      obtain ⟨f, hf⟩ : ∃ f, b.isSome = f := ⟨_, rfl⟩
      have HF : Sl (pickV (bestB (bytes path) (ps.map bytes) rs) = .tuple #[rv3 (b.getD Rn), .bool f]) := ⟨by rw [hb, ← hf]; rfl⟩
      rw [hf]
      obtain ⟨⟨x, y, z⟩, hr⟩ : ∃ r, b.getD Rn = r := ⟨_, rfl⟩
      rw [hr] at HP HF HSH
      have OW := Sl.mk (own_any x y z wr HSH.out.1 HSH.out.2.1 HSH.out.2.2)
      obtain ⟨f0, f1, f2⟩ := rt_cells HP.out.hb
      clear hb hf hr hall HSH
      go_wp2_with fail
      refine (OW.out).mono ?_
      rintro e w8 ⟨rfl, HB8⟩
      clear OW f0 f1 f2
      have HP8 := Sl.mk (HP.out.below HB8.out)
      have h6 := HP8.out.h6
      obtain ⟨we, hwe, HBe, HCe⟩ := set_rt h6 HP8.out.L HP8.out.n.2.1 #[.string x, .string y, .string z]
      have HI3 : (Tryd.prog.info? 34).map (·.size) = some (#[Value.string x, .string y, .string z] : Array Value).size := rt_info rfl
      go_wp2_with (refine wpList_store_row rfl 34 (.tmp 6) (.tmp 42) rfl g6 #[.string x, .string y, .string z] rfl rfl 34 #[.string { data := #[] }, .string { data := #[] }, .string { data := #[] }] h6 HI3 rfl (rt_all _ _ _) ?_)
      (try simp only [Exit.then])
      refine bodyPost_ret (ret_rt rfl _ _ g6 _ rfl HCe.out rfl) rfl ?_
      exact ⟨by rw [HF.out]; rfl, HBe⟩
end Go.Proofs.YtdndpicfnlcgjaaDoor.Rou
