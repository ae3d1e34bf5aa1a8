/- stream: StreamPart's walk. -/
import Derived.Test.YtlgmgalopdfcaaaDoorL1
import Derived.Test.YtlgmgalopdfcaaaDoorSJ
import Derived.Test.YtlgmgalopdfcaaaDoorSK
set_option maxRecDepth 100000
namespace Go.Proofs.YtlgmgalopdfcaaaDoor
open Go.RowKit MaskPlain FramePlain StreamPlain Mas Fra

theorem fr_parts' {f : Fr} (h1 : f.key.length = 4) (h2 : Small 256 f.key) (h3 : Small 256 f.data) : ∃ fin op m, ∃ ka kb kc kd : Nat, ∃ s, f = (⟨fin, op, m, [ka, kb, kc, kd], bytes s⟩ : Fr) ∧ (cv f).toArray = #[.bool fin, .int .i64 op, .bool m, .int .u8 ((ka : Nat) : Int), .int .u8 ((kb : Nat) : Int), .int .u8 ((kc : Nat) : Int), .int .u8 ((kd : Nat) : Int), .string s] ∧ Small 256 [ka, kb, kc, kd] := by
  obtain ⟨fin, op, m, key, data⟩ := f
  match key, h1 with
  | [ka, kb, kc, kd], _ => exact ⟨fin, op, m, ka, kb, kc, kd, strOf data, by rw [bytes_strOf data h3], rfl, h2⟩
set_option maxHeartbeats 8000000 in
theorem part_walk (masked : Bool) (v : Value) (l : List ByteArray) (w : World) (hg : Globs w) (hv : StrsAt w v l) : Calls Tryd.prog 7 #[.bool masked, v] w fun e w' => e = .returned (.bool true) ∧ Below w.heap.size w w' := by
  have HG := Sl.mk hg
  have HV := Sl.mk hv
  have N0 := new_yes masked 200 w w (Below.refl _ _) (by omega)
  have hq1 : ((0 : Int) != 0) = false := rfl
  have hq0' : (((0 : Nat) : Int) == 0) = true := rfl
  obtain ⟨fw, hfw⟩ : ∃ b, few l = b := ⟨_, rfl⟩
  obtain ⟨a, cap, sb, so, rfl, hm, ha, hce, _⟩ := hv
  have HA := Sl.mk ha
  have HCE := Sl.mk hce
  clear hg ha hce
  cases fw with
  | false =>
    go_enter Tryd.func7, Tryd.ntmps7
    go_wp2_with fail
    refine N0.mono ?_
    rintro e w1 ⟨rfl, HS1, _⟩
    clear N0
    go_wp2_with fail
    refine (awake_any w1 (HG.out.below HS1.out.L HG.out.size)).mono ?_
    rintro e w2 ⟨rfl, HX2⟩
    have HS2 := Sl.mk (HS1.out.below HX2.out)
    have HF := few_any l _ w2 (HV.out.below HS2.out.L)
    rw [hfw] at HF
    clear HS1 HX2 hfw
    go_wp2_with fail
    refine HF.mono ?_
    rintro e w3 ⟨rfl, rfl⟩
    clear HF
    go_wp2_with fail
    refine (awake_any w2 (HG.out.below HS2.out.L HG.out.size)).mono ?_
    rintro e w4 ⟨rfl, HX4⟩
    go_wp2
    go_ret
    exact ⟨rfl, (HS2.out.below HX4.out).L⟩
  | true =>
    have HFA := Sl.mk (few_all hfw)
    have hn40 : l.length ≤ 40 := HFA.out.2
    go_enter Tryd.func7, Tryd.ntmps7
    go_wp2_with fail
    refine N0.mono ?_
    rintro e w1 ⟨rfl, HS1, _⟩
    clear N0
    go_wp2_with fail
    refine (awake_any w1 (HG.out.below HS1.out.L HG.out.size)).mono ?_
    rintro e w2 ⟨rfl, HX2⟩
    have HS2 := Sl.mk (HS1.out.below HX2.out)
    have HF := few_any l _ w2 (HV.out.below HS2.out.L)
    rw [hfw] at HF
    clear HS1 HX2 hfw
    go_wp2_with fail
    refine HF.mono ?_
    rintro e w3 ⟨rfl, rfl⟩
    clear HF
    go_wp2
    go_loopw [7, 8, 9] (fun y u i wr => ∃ (k Al Us : Nat) (part : List Nat) (v1 : Value), y = .int .i64 (Al : Int) ∧ u = .int .i64 (Us : Int) ∧ i = .int .i64 (k : Int) ∧ k ≤ l.length ∧ Al ≤ 300 * k ∧ Us + part.length = Al ∧ part.length ≤ 213 ∧ Sl (Small 256 part) ∧ Sl (StrmAt w wr w.heap.size masked 200 part 0 v1)) (fun _ _ i _ => l.length - (intOf i).toNat)
    case atStart => exact ⟨0, 0, 0, [], _, rfl, rfl, rfl, Nat.zero_le _, Nat.le_refl _, rfl, by simp, ⟨fun x hx => by cases hx⟩, HS2⟩
    case round =>
      obtain ⟨k, Al, Us, part, v1, rfl, rfl, rfl, hk, hAl, hsum, hp213, HPS0, HS⟩ := hrel
      by_cases hkn : k < l.length
      · have hlt : ((k : Int) < (l.length : Int)) = True := eq_true (by omega)
        obtain rfl := HA.out (by omega)
        obtain ⟨s, hs⟩ : ∃ s, l.getD k ByteArray.empty = s := ⟨_, rfl⟩
        have hc := HCE.out k hkn
        rw [hs] at hc
        have hcl := block_lt_of_cell hc
        have HC0 := Sl.mk hc
        have hc' : wr.cell? ⟨sb, so + k, none⟩ = some (.string s) := (HS.out.L.cell hcl).trans hc
        have hs300 : s.size ≤ 300 := by rw [← hs]; exact HFA.out.1 k
        obtain ⟨c6, w6, hconv, HS6, HX6⟩ := conv_str s wr
        have HSP := Sl.mk (HS.out.below HX6.out)
        obtain ⟨⟨gs, e1, lf⟩, hall⟩ : ∃ r, all (part ++ bytes s) masked 200 = r := ⟨_, rfl⟩
        have hbl : (bytes s).length = s.size := bytes_length s
        have hTs : Small 256 (part ++ bytes s) := HPS0.out.append (bytes_small s)
        obtain ⟨part', hp'⟩ : ∃ p, (part ++ bytes s).drop ((part ++ bytes s).length - lf) = p := ⟨_, rfl⟩
        have hleft := all_left masked 200 _ (part ++ bytes s) (Nat.le_refl _) hTs
        have hfrs := all_frs masked 200 _ (part ++ bytes s) (Nat.le_refl _) hTs
        have hzero := all_zero masked 200 _ (part ++ bytes s) (Nat.le_refl _) hTs
        have hrest := all_rest masked 200 _ (part ++ bytes s) (Nat.le_refl _) hTs
        have hasum := all_sum masked 200 (by omega) _ (part ++ bytes s) (Nat.le_refl _) hTs
        rw [hall] at hleft hfrs hzero hrest hasum
        simp only at hleft hfrs hzero hrest hasum
        rw [List.length_append, hbl] at hleft hfrs hasum
        have hpl : part'.length = lf := by rw [← hp', List.length_drop, List.length_append, hbl]; omega
        rw [hp'] at hrest
        have HPS : Sl (Small 256 part') := ⟨by rw [← hp']; exact hTs.drop _⟩
        have HEN : Sl (e1 = 0 → sumT gs + part'.length = part.length + s.size ∧ part'.length ≤ 213) := ⟨fun h => by
          have h1 := hasum h
          have h2 := one_more_le (by omega) (hrest h)
          rw [hpl] at h2 ⊢
          exact ⟨h1, by omega⟩⟩
        have HEZ : Sl (e1 ≠ 0 → part' = []) := ⟨fun h => List.eq_nil_of_length_eq_zero (by rw [hpl]; exact hzero h)⟩
        have HFS : Sl ((∀ f ∈ gs, form f = true ∧ f.key.length = 4 ∧ (∀ y ∈ f.key, y < 256) ∧ (∀ y ∈ f.data, y < 256) ∧ (f.data.length : Int) ≤ 200) ∧ sumT gs ≤ 600) := ⟨⟨hfrs.1, by have := hfrs.2.1; omega⟩⟩
        obtain ⟨n, hn⟩ : ∃ n, gs.length = n := ⟨_, rfl⟩
        have hn300 : n ≤ 600 := by have := hfrs.2.2; omega
        have HGN := Sl.mk hn
        have HUL : Sl (Us + 600 ≤ 100000) := ⟨by omega⟩
        have F7 := feed_ex HSP.out HG.out (.slice (some ⟨wr.heap.size, 0, none⟩) s.size c6) (bytes s) HS6.out HPS0.out (bytes_small s) (by rw [hbl]; omega) (by omega) hall part' hp' n hn
        clear hc hs hall hbl hTs hp' hleft hfrs hzero hrest hasum hpl hn
        go_wp2_with fail
        refine F7.mono ?_
        rintro e w7 ⟨a5, c5, v5, rfl, HF5, _, HS5, _⟩
        clear F7 hconv HS6 HX6 HSP HS
        have hc7 : w7.cell? ⟨sb, so + k, none⟩ = some (.string s) := (HS5.out.L.cell hcl).trans HC0.out
        go_wp2
        go_loopw [8, 12] (fun u i wz => ∃ (j U' : Nat), u = .int .i64 (U' : Int) ∧ i = .int .i64 (j : Int) ∧ j ≤ n ∧ Us + sumT (gs.take j) = U' ∧ Sl (StrmAt w wz w.heap.size masked 200 part' e1 v5) ∧ Sl (FrsAt wz (.slice a5 n c5) gs)) (fun _ i _ => n - (intOf i).toNat)
        case atStart => exact ⟨0, Us, rfl, rfl, Nat.zero_le _, rfl, HS5, HF5⟩
        case round =>
          obtain ⟨j, U', rfl, rfl, hj, hU, HS6, HF6⟩ := hrel
          by_cases hjn : j < n
          · have hltj : ((j : Int) < (n : Int)) = True := eq_true (by omega)
            obtain ⟨sb5, so5, rfl⟩ := HF6.out.cap.2 (by omega)
            have hmem : gs.getD j Fr0 ∈ gs := by rw [List.getD_eq_getElem?_getD, List.getElem?_eq_getElem (by rw [HGN.out]; exact hjn)]; exact List.getElem_mem _
            obtain ⟨q1, q2, q3, q4, q5⟩ := HFS.out.1 _ hmem
            obtain ⟨fin, op, m, ka, kb, kc, kd, s', hf, hcv, hks⟩ := fr_parts' q2 q3 q4
            obtain ⟨o, rfl⟩ := Int.eq_ofNat_of_zero_le (form_op q1 (by rw [hf]))
            have hck : chk (gs.getD j Fr0) = 0 := chk_yes q1 (by omega)
            have hchk : chk ((⟨fin, (o:Int), m, [ka, kb, kc, kd], bytes s'⟩ : Fr)) = 0 := by rw [← hf]; exact hck
            have hts : Small 256 (text (gs.getD j Fr0)) := text_small hck q3 q4
            have CT := fun W => reftext_any fin o m ka kb kc kd s' W hks hchk
            rw [← hf] at CT
            obtain ⟨tn, htn⟩ : ∃ tn, (text (gs.getD j Fr0)).length = tn := ⟨_, rfl⟩
            have hTz := strOf_size (text (gs.getD j Fr0))
            rw [htn] at hTz
            obtain ⟨ts, hts2⟩ : ∃ ts, strOf (text (gs.getD j Fr0)) = ts := ⟨_, rfl⟩
            rw [hts2] at CT hTz
            have hU2 : Us + sumT (gs.take (j + 1)) = U' + tn := by rw [sumT_take_succ gs j (by rw [HGN.out]; exact hjn), htn]; omega
            have hUle : U' + tn ≤ 100000 := by have h1 := sumT_take_le gs (j + 1); have h2 := HFS.out.2; have h3 := HUL.out; omega
            have htz2 : ts.size = tn := hTz
            obtain ⟨e0, e1, e2, e3, e4, e5, e6, e7⟩ := HF6.out.at8 j (by rw [HGN.out]; exact hjn) hcv
            have hU2' := Sl.mk hU2
            clear hmem q1 q2 q3 q4 q5 hf hcv hks hck hchk hts htn hTz hts2 hU2 hU
            go_wp2_with fail
            refine (CT _).mono ?_
            rintro e w7 ⟨rfl, HX7⟩
            have HS7 := Sl.mk (HS6.out.below HX7.out)
            have HF7 := Sl.mk (HF6.out.below HX7.out)
            clear CT HX7 HS6 HF6 e0 e1 e2 e3 e4 e5 e6 e7
            go_wp2
            exact ⟨⟨j + 1, U' + tn, by go_num, by go_num, by omega, hU2'.out, HS7, HF7⟩, by simp [intOf]; omega⟩
          · obtain rfl : j = n := by omega
            have hltj : ((j : Int) < (j : Int)) = False := eq_false (by omega)
            rw [List.take_of_length_le (by rw [HGN.out]; exact Nat.le_refl _)] at hU
            by_cases he : e1 = 0
            · subst he
              have hqe : (((0 : Nat) : Int) != 0) = false := rfl
              obtain ⟨pn, hpn⟩ : ∃ pn, part'.length = pn := ⟨_, rfl⟩
              obtain ⟨g1, g2⟩ := HEN.out rfl
              rw [hpn] at g1 g2
              have hsum : U' + pn = Al + s.size := by omega
              have hle213 : ((pn : Int) > 213) = False := eq_false (by omega)
              have hAle : Al + s.size ≤ 100000 := by omega
              have P6 := fun (W : World) (h : StrmAt w W w.heap.size masked 200 part' 0 v5) => part_ex h pn hpn
              have hqs : (((U' : Int) + (pn : Int)) != ((Al : Int) + (s.size : Int))) = false := by simp; omega
              have HREL : Sl (U' + part'.length = Al + s.size ∧ part'.length ≤ 213) := ⟨by rw [hpn]; exact ⟨hsum, by omega⟩⟩
              clear hU hpn g1 g2
              go_wp2_with fail
              refine (P6 _ HS6.out).mono ?_
              rintro e w7 ⟨rfl, rfl⟩
              go_wp2_with fail
              refine (P6 _ HS6.out).mono ?_
              rintro e w8 ⟨rfl, rfl⟩
              clear P6
              go_wp2
              exact ⟨⟨k + 1, Al + s.size, U', part', v5, by go_num, by go_num, by go_num, by omega, by omega, HREL.out.1, HREL.out.2, HPS, HS6⟩, by simp [intOf]; omega⟩
            · have hqe : ((e1 : Int) != 0) = true := by simp; omega
              have hp0 := HEZ.out he
              have P6 := part_ex HS6.out 0 (by rw [hp0]; rfl)
              clear hU hp0
              go_wp2_with fail
              refine P6.mono ?_
              rintro e w7 ⟨rfl, rfl⟩
              clear P6
              go_wp2
              go_ret
              exact ⟨rfl, HS6.out.L⟩
      · obtain rfl : k = l.length := by omega
        have hlt : ((l.length : Int) < (l.length : Int)) = False := eq_false (by omega)
        go_wp2
        go_ret
        exact ⟨rfl, HS.out.L⟩
end Go.Proofs.YtlgmgalopdfcaaaDoor
