/- route: whether a route may be one of a configuration's; whether one of some routes is another one. -/
import Derived.Test.YtdndpicfnlcgjaaDoorRD
set_option maxRecDepth 100000
namespace Go.Proofs.YtdndpicfnlcgjaaDoor.Rou
open Go.RowKit
open HeadPlain (token)
open RoutePlain (Rt stem stem_cons stem_le stem_take stem_no stem_self stem_at stem_before below better)

theorem has_mark (s : ByteArray) : decide (0 ≤ Lib.indexByte s.data.toList 63) = decide (63 ∈ bytes s) := by
  rw [index_list]
  change decide (0 ≤ if (stem (bytes s)).length < s.data.toList.length then ((stem (bytes s)).length : Int) else -1) = _
  have hl : s.data.toList.length = (bytes s).length := by unfold bytes; rw [List.length_map]
  rw [hl]
  by_cases h : (stem (bytes s)).length < (bytes s).length
  · rw [if_pos h, decide_eq_true (by omega), decide_eq_true]
    rw [← stem_at _ h, List.getD_eq_getElem?_getD, List.getElem?_eq_getElem h]
    exact List.getElem_mem _
  · rw [if_neg h, decide_eq_false (by omega), decide_eq_false]
    intro hm
    have hs : stem (bytes s) = bytes s := by rw [stem_take, List.take_of_length_le (by omega)]
    rw [← hs] at hm
    exact stem_no _ _ hm rfl
/-- May it be a route of a configuration? -/
def okB (r : Rb) : Bool := (decide ((bytes r.pre).getD 0 0 = 47) && (seenB (bytes r.pre) && !decide (63 ∈ bytes r.pre))) && ((decide (bytes r.pro = []) || token (bytes r.pro)) && (!decide (bytes r.dst = []) && seenB (bytes r.dst)))
set_option maxHeartbeats 4000000 in
theorem maybe_any (a b c : ByteArray) (W : World) (hg : Globs W) (ha : a.size ≤ maxLen) (hb : b.size ≤ maxLen) (hc : c.size ≤ maxLen) (r : Bool) (hr : okB ⟨a, b, c⟩ = r) :
    Calls Tryd.prog 37 #[.agg #[.string a, .string b, .string c]] W fun en w' => en = .returned (.bool r) ∧ Sl (Below W.heap.size W w') := by
  unfold okB at hr
  simp only at hr
  obtain ⟨wa, hwa, HBa, hx⟩ := box_of W a b c
  obtain ⟨g, hgg⟩ : ∃ g, W.heap.size = g := ⟨_, rfl⟩
  have HG0 : Sl (g ≤ wa.heap.size) := ⟨by rw [← hgg]; exact HBa.out.size⟩
  have HGL : Sl (Globs wa) := ⟨hg.of HBa.out⟩
  rw [hgg] at HBa hx ⊢
  have HX := Sl.mk hx
  clear hx hg
  have P1 : Sl (∀ V, Calls Tryd.prog 42 #[.string a, .string { data := #[47] }] V fun e w' => e = .returned (.bool (decide ((bytes a).getD 0 0 = 47))) ∧ V = w') := ⟨fun V => (Tryd.strings_HasPrefix a { data := #[47] } V).mono fun e w' ⟨h1, h2⟩ => ⟨h1.trans (by rw [show ({ data := #[47] } : ByteArray).data.toList = [47] from rfl, head_slash]; rfl), h2.symm⟩⟩
  have P2 : Sl (∀ V r, seenB (bytes a) = r → Calls Tryd.prog 46 #[.string a] V fun e w' => e = .returned (.bool r) ∧ V = w') := ⟨fun V r h => seen_any a V ha r h⟩
  have P3 : Sl (∀ V, Calls Tryd.prog 47 #[.string a, .string { data := #[63] }] V fun e w' => e = .returned (.bool (decide (63 ∈ bytes a))) ∧ V = w') := ⟨fun V => (Tryd.strings_Contains_one a 63 V).mono fun e w' ⟨h1, h2⟩ => ⟨h1.trans (by rw [has_mark]), h2.symm⟩⟩
  have P5 : Sl (∀ V, Globs V → Calls Tryd.prog 48 #[.string b] V fun e w' => e = .returned (.bool (token (bytes b))) ∧ Sl (Below V.heap.size V w')) := ⟨fun V h => token_any b V h hb⟩
  have P7 : Sl (∀ V r, seenB (bytes c) = r → Calls Tryd.prog 46 #[.string c] V fun e w' => e = .returned (.bool r) ∧ V = w') := ⟨fun V r h => seen_any c V hc r h⟩
  clear ha hb hc
  obtain ⟨p1, e1⟩ : ∃ p, decide ((bytes a).getD 0 0 = 47) = p := ⟨_, rfl⟩
  obtain ⟨p2, e2⟩ : ∃ p, seenB (bytes a) = p := ⟨_, rfl⟩
  obtain ⟨p3, e3⟩ : ∃ p, decide (63 ∈ bytes a) = p := ⟨_, rfl⟩
  obtain ⟨p4, e4⟩ : ∃ p, decide (bytes b = []) = p := ⟨_, rfl⟩
  obtain ⟨p5, e5⟩ : ∃ p, token (bytes b) = p := ⟨_, rfl⟩
  obtain ⟨p6, e6⟩ : ∃ p, decide (bytes c = []) = p := ⟨_, rfl⟩
  obtain ⟨p7, e7⟩ : ∃ p, seenB (bytes c) = p := ⟨_, rfl⟩
  rw [e1] at P1 hr
  rw [e2] at hr
  have Q2 : Sl (∀ V, Calls Tryd.prog 46 #[.string a] V fun e w' => e = .returned (.bool p2) ∧ V = w') := ⟨fun V => P2.out V p2 e2⟩
  rw [e3] at P3 hr
  rw [e5] at P5 hr
  rw [e4, e6, e7] at hr
  have Q7 : Sl (∀ V, Calls Tryd.prog 46 #[.string c] V fun e w' => e = .returned (.bool p7) ∧ V = w') := ⟨fun V => P7.out V p7 e7⟩
  have E4 := Sl.mk e4
  have E6 := Sl.mk e6
  clear P2 P7 e1 e2 e3 e4 e5 e6 e7
  obtain ⟨q1, hq1⟩ : ∃ q, (p1 && (p2 && !p3)) = q := ⟨_, rfl⟩
  obtain ⟨q2, hq2⟩ : ∃ q, (p4 || p5) = q := ⟨_, rfl⟩
  rw [hq1, hq2] at hr
  have H1 := Sl.mk hq1
  have H2 := Sl.mk hq2
  have HR := Sl.mk hr
  clear hq1 hq2 hr
  go_enter Tryd.func37, Tryd.ntmps37
  go_upto_region 1 with fail
  (try rw [hwa])
  (try rw [hgg])
  clear hwa hgg
  go_cut [3] (fun s3 wx => s3 = .bool q1 ∧ wa = wx)
  case first =>
    obtain ⟨c0, c1, c2⟩ := rt_cells HX.out
    cases p1 with
    | false =>
      go_wp2_with fail
      refine (P1.out _).mono ?_
      rintro e w1 ⟨rfl, rfl⟩
      go_wp2_with fail
      go_meet
      exact ⟨by rw [← H1.out]; rfl, rfl⟩
    | true =>
      go_wp2_with fail
      refine (P1.out _).mono ?_
      rintro e w1 ⟨rfl, rfl⟩
      cases p2 with
      | false =>
        go_wp2_with fail
        refine (Q2.out _).mono ?_
        rintro e w2 ⟨rfl, rfl⟩
        go_wp2_with fail
        go_meet
        exact ⟨by rw [← H1.out]; rfl, rfl⟩
      | true =>
        go_wp2_with fail
        refine (Q2.out _).mono ?_
        rintro e w2 ⟨rfl, rfl⟩
        go_wp2_with fail
        refine (P3.out _).mono ?_
        rintro e w3 ⟨rfl, rfl⟩
        cases p3 <;> (go_wp2_with fail; go_meet; exact ⟨by rw [← H1.out]; rfl, rfl⟩)
  case rest =>
    obtain ⟨rfl, rfl⟩ := hcut
    clear P1 Q2 P3 H1
    go_upto_region 2 with fail
    go_cut [4] (fun s4 wx => s4 = .bool q2 ∧ Sl (Below g W wx) ∧ Sl (wx.heap[g]? = some (.cells #[.string a, .string b, .string c] 34 (0, 0))))
    case first =>
      obtain ⟨c0, c1, c2⟩ := rt_cells HX.out
      cases p4 with
      | true =>
        obtain ⟨n1, n2, n3⟩ := nil_yes E4.out
        go_wp2_with fail
        go_meet
        exact ⟨by rw [← H2.out]; rfl, HBa, HX⟩
      | false =>
        obtain ⟨n1, n2, n3⟩ := nil_no E4.out
        go_wp2_with fail
        refine (P5.out _ HGL.out).mono ?_
        rintro e w4 ⟨rfl, HB4⟩
        go_wp2_with fail
        go_meet
        exact ⟨by rw [← H2.out]; rfl, ⟨HBa.out.trans (HB4.out.mono HG0.out)⟩, ⟨below_key HX.out HB4.out⟩⟩
    case rest =>
      obtain ⟨rfl, HB5, HX5⟩ := hcut
      clear P5 H2 HX HBa HGL
      obtain ⟨c0, c1, c2⟩ := rt_cells HX5.out
      cases q1 with
      | false =>
        go_wp2
        go_ret
        exact ⟨ret_bool HR.out, HB5⟩
      | true =>
        cases q2 with
        | false =>
          go_wp2
          go_ret
          exact ⟨ret_bool HR.out, HB5⟩
        | true =>
          cases p6 with
          | true =>
            obtain ⟨n1, n2, n3⟩ := nil_yes E6.out
            go_wp2
            go_ret
            exact ⟨ret_bool HR.out, HB5⟩
          | false =>
            obtain ⟨n1, n2, n3⟩ := nil_no E6.out
            go_wp2_with fail
            refine (Q7.out _).mono ?_
            rintro e w6 ⟨rfl, rfl⟩
            go_wp2
            go_ret
            exact ⟨ret_bool HR.out, HB5⟩
theorem same3_rt (r s : Rb) : same3 r.pre r.pro r.dst s.pre s.pro s.dst = decide (r.rt = s.rt) := same3_eq _ _ _ _ _ _
theorem same_any (a b c d e f : ByteArray) (W : World) (g : Nat) (hg : W.heap[g]? = some (.cells #[.string d, .string e, .string f] 34 (0, 0))) (r : Bool) (hr : same3 a b c d e f = r) :
    Calls Tryd.prog 36 #[.agg #[.string a, .string b, .string c], .pointer (some ⟨g, 0, none⟩)] W fun en w' => en = .returned (.bool r) ∧ Sl (Below W.heap.size W w') := by
  have EQ := eq_rt a b c d e f
  rw [hr] at EQ
  obtain ⟨wa, hwa, HBa, hx⟩ := box_of W a b c
  have HX := Sl.mk hx
  have hg2 := below_key hg HBa.out
  obtain ⟨c0, c1, c2⟩ := rt_cells hg2
  obtain ⟨d0, d1, d2⟩ := rt_cells hx
  have hne : g ≠ W.heap.size := Nat.ne_of_lt (Array.getElem?_eq_some_iff.1 hg).1
  clear hg hg2 hx
  go_enter Tryd.func36, Tryd.ntmps36
  go_upto_region 1 with fail
  (try rw [hwa])
  go_wp2
  go_ret
  exact ⟨rfl, HBa⟩
end Go.Proofs.YtdndpicfnlcgjaaDoor.Rou
