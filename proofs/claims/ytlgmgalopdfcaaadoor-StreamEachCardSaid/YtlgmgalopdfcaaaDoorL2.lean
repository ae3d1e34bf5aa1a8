/- stream: StreamEach's walk. -/
import Derived.Test.YtlgmgalopdfcaaaDoorSI
import Derived.Test.YtlgmgalopdfcaaaDoorSJ
set_option maxRecDepth 100000
namespace Go.Proofs.YtlgmgalopdfcaaaDoor
open Go.RowKit MaskPlain FramePlain StreamPlain Mas Fra

theorem all_130 (masked : Bool) : all ([] ++ [130]) masked 65536 = ([], 0, 1) := by cases masked <;> rfl
set_option maxHeartbeats 8000000 in
theorem each_walk (masked : Bool) (v : Value) (l : List Fr) (w : World) (hg : Globs w) (hv : FrsAt w v l) (hok : ∀ f ∈ l, FrOk f) (hml : l.length ≤ maxLen) : Calls Tryd.prog 8 #[.bool masked, v] w fun e w' => e = .returned (.bool true) ∧ Below w.heap.size w w' := by
  have HG := Sl.mk hg
  have HOK := Sl.mk hok
  have N0 := new_yes masked 65536 w w (Below.refl _ _) (by omega)
  have hq1 : ((0 : Int) != 0) = false := rfl
  have hq0 : (((0 : Nat) : Int) != 0) = false := rfl
  have hq0' : (((0 : Nat) : Int) == 0) = true := rfl
  have hq1' : (((1 : Nat) : Int) == 1) = true := rfl
  obtain ⟨a, cap, rfl⟩ := hv.slice
  have HV := Sl.mk hv
  unfold maxLen at hml
  clear hg hok hv
  by_cases h20 : l.length > 20
  · have hq : ((l.length : Int) > 20) = True := eq_true (by omega)
    go_enter Tryd.func8, Tryd.ntmps8
    go_wp2_with fail
    refine N0.mono ?_
    rintro e w1 ⟨rfl, HS1, _⟩
    clear N0
    go_wp2_with fail
    refine (awake_any w1 (HG.out.below HS1.out.L HG.out.size)).mono ?_
    rintro e w2 ⟨rfl, HX2⟩
    have HS2 := Sl.mk (HS1.out.below HX2.out)
    clear HS1 HX2
    go_wp2_with fail
    refine (awake_any w2 (HG.out.below HS2.out.L HG.out.size)).mono ?_
    rintro e w4 ⟨rfl, HX4⟩
    go_wp2
    go_ret
    exact ⟨rfl, (HS2.out.below HX4.out).L⟩
  · have hq : ((l.length : Int) > 20) = False := eq_false (by omega)
    go_enter Tryd.func8, Tryd.ntmps8
    go_wp2_with fail
    refine N0.mono ?_
    rintro e w1 ⟨rfl, HS1, _⟩
    clear N0
    go_wp2_with fail
    refine (awake_any w1 (HG.out.below HS1.out.L HG.out.size)).mono ?_
    rintro e w2 ⟨rfl, HX2⟩
    have HS2 := Sl.mk (HS1.out.below HX2.out)
    clear HS1 HX2
    go_wp2
    go_loopw [7] (fun i wr => ∃ (k : Nat) (v1 : Value), i = .int .i64 (k : Int) ∧ k ≤ l.length ∧ Sl (StrmAt w wr w.heap.size masked 65536 [] 0 v1)) (fun i _ => l.length - (intOf i).toNat)
    case atStart => exact ⟨0, _, rfl, Nat.zero_le _, HS2⟩
    case round =>
      obtain ⟨k, v1, rfl, hk, HS⟩ := hrel
      by_cases hkn : k < l.length
      · have hlt : ((k : Int) < (l.length : Int)) = True := eq_true (by omega)
        obtain ⟨sb, so, rfl⟩ := HV.out.cap.2 (by omega)
        have hok := HOK.out (l.getD k Fr0) (by rw [List.getD_eq_getElem?_getD, List.getElem?_eq_getElem hkn]; exact List.getElem_mem hkn)
        obtain ⟨fin, op, m, ka, kb, kc, kd, s, hf, hcv, hks⟩ := fr_parts hok
        have CF := refform_any fin op m ka kb kc kd s wr hks
        rw [← hf] at CF
        obtain ⟨fo, hfo⟩ : ∃ x, form (l.getD k Fr0) = x := ⟨_, rfl⟩
        rw [hfo] at CF
        have hop := hok.op
        obtain ⟨e0, e1, e2, e3, e4, e5, e6, e7⟩ := (HV.out.below HS.out.L).at8 k hkn hcv
        cases fo with
        | false =>
          clear hf hfo hok hop hks
          go_wp2_with fail
          refine CF.mono ?_
          rintro e w2 ⟨rfl, HX2⟩
          have HS2 := Sl.mk (HS.out.below HX2.out)
          go_wp2
          go_ret
          exact ⟨rfl, HS2.out.L⟩
        | true =>
          by_cases hs500 : s.size > 500
          · have hqs : ((s.size : Int) > 500) = True := eq_true (by omega)
            clear hf hfo hok hop hks
            go_wp2_with fail
            refine CF.mono ?_
            rintro e w2 ⟨rfl, HX2⟩
            have HS2 := Sl.mk (HS.out.below HX2.out)
            clear e0 e1 e2 e3 e4 e5 e6 e7
            obtain ⟨e0, e1, e2, e3, e4, e5, e6, e7⟩ := (HV.out.below HS2.out.L).at8 k hkn hcv
            go_wp2
            go_ret
            exact ⟨rfl, HS2.out.L⟩
          · have hqs : ((s.size : Int) > 500) = False := eq_false (by omega)
            by_cases hmm : m = masked
            · subst hmm
              obtain ⟨o, rfl⟩ := Int.eq_ofNat_of_zero_le (form_op hfo (by rw [hf]))
              have hsz : s.size ≤ 500 := by omega
              have hck : chk (l.getD k Fr0) = 0 := chk_yes hfo (by rw [hf]; show ¬ 65536 < (bytes s).length; rw [bytes_length]; omega)
              have hchk : chk ((⟨fin, (o:Int), m, [ka, kb, kc, kd], bytes s⟩ : Fr)) = 0 := by rw [← hf]; exact hck
              have hts : Small 256 (text (l.getD k Fr0)) := text_small hck (by rw [hf]; exact hks) (by rw [hf]; exact bytes_small s)
              have hall := all_text_one (f := l.getD k Fr0) (masked := m) hfo (by rw [hf]) (by rw [hf]; rfl) (by rw [hf]; show (bytes s).length ≤ _; rw [bytes_length]; exact hsz) hts
              have htl : (text (l.getD k Fr0)).length ≤ 600 := text_le (by rw [hf]; rfl) (by rw [hf]; show (bytes s).length ≤ _; rw [bytes_length]; exact hsz)
              have CT := fun W => reftext_any fin o m ka kb kc kd s W hks hchk
              rw [← hf] at CT
              obtain ⟨T, hT⟩ : ∃ T, text (l.getD k Fr0) = T := ⟨_, rfl⟩
              rw [hT] at CT hts hall htl
              have hTb : bytes (strOf T) = T := bytes_strOf T hts
              have hTz : (strOf T).size = T.length := strOf_size T
              obtain ⟨ts, hts2⟩ : ∃ ts, strOf T = ts := ⟨_, rfl⟩
              rw [hts2] at CT hTb hTz
              have HALL := Sl.mk hall
              have HTB := Sl.mk hTb
              have HTZ := Sl.mk hTz
              have HTS := Sl.mk hts
              have HTL := Sl.mk htl
              have HKS := Sl.mk hks
              clear hf hfo hok hop hks hck hchk hts hall htl hT hTb hTz hts2 hs500 hsz
              go_wp2_with fail
              refine CF.mono ?_
              rintro e w2 ⟨rfl, HX2⟩
              have HS2 := Sl.mk (HS.out.below HX2.out)
              clear CF HX2
              clear e0 e1 e2 e3 e4 e5 e6 e7
              obtain ⟨e0, e1, e2, e3, e4, e5, e6, e7⟩ := (HV.out.below HS2.out.L).at8 k hkn hcv
              go_wp2_with fail
              refine (CT w2).mono ?_
              rintro e w3 ⟨rfl, HX3⟩
              have HS3 := Sl.mk (HS2.out.below HX3.out)
              obtain ⟨c4, w4, hconv, HSc, HXc⟩ := conv_str ts w3
              have HS4 := Sl.mk (HS3.out.below HXc.out)
              have F4 := feed_ex HS4.out HG.out (.slice (some ⟨w3.heap.size, 0, none⟩) ts.size c4) T (by rw [← HTB.out]; exact HSc.out) (fun x hx => by cases hx) HTS.out (by have := HTL.out; simp; omega) (by omega) HALL.out [] (by simp) 1 rfl
              clear CT HX3 HS2
              clear e0 e1 e2 e3 e4 e5 e6 e7
              go_wp2_with fail
              refine F4.mono ?_
              rintro e w5 ⟨a5, c5, v5, rfl, HF5, _, HS5, _⟩
              clear F4 hconv HSc HXc HS3 HS4
              have P5 := part_ex HS5.out 0 rfl
              go_wp2_with fail
              refine P5.mono ?_
              rintro e w6 ⟨rfl, rfl⟩
              clear P5
              obtain ⟨e0, e1, e2, e3, e4, e5, e6, e7⟩ := (HV.out.below HS5.out.L).at8 k hkn hcv
              have B6 : Below w5.heap.size w5 (w5.alloc (.cells #[.bool fin, .int .i64 (o:Int), .bool m, .int .u8 ((ka : Nat) : Int), .int .u8 ((kb : Nat) : Int), .int .u8 ((kc : Nat) : Int), .int .u8 ((kd : Nat) : Int), .string s] 43)) := (Below.refl _ _).alloc (Nat.le_refl _) _
              have HS6 := Sl.mk (HS5.out.below B6)
              have S6 := same_yes [l.getD k Fr0] (.slice a5 1 c5) (.slice (some ⟨w5.heap.size, 0, none⟩) 1 1) _ (HF5.out.below B6) (frs_one (alloc_new _ _ _ rfl) hcv.symm) (fun f hf => by simp only [List.mem_singleton] at hf; subst hf; exact (HOK.out _ (by rw [List.getD_eq_getElem?_getD, List.getElem?_eq_getElem hkn]; exact List.getElem_mem hkn)).ks) (by simp)
              clear B6 HF5
              go_wp2_with fail
              refine S6.mono ?_
              rintro e w7 ⟨rfl, HX7⟩
              have HS7 := Sl.mk (HS6.out.below HX7.out)
              clear S6 HS6 HX7 HS5
              clear e0 e1 e2 e3 e4 e5 e6 e7
              go_wp2
              exact ⟨⟨k + 1, v5, by go_num, by omega, HS7⟩, by simp [intOf]; omega⟩
            · have hqm : (m == masked) = false := by simpa using hmm
              clear hf hfo hok hop hks hmm
              go_wp2_with fail
              refine CF.mono ?_
              rintro e w2 ⟨rfl, HX2⟩
              have HS2 := Sl.mk (HS.out.below HX2.out)
              clear e0 e1 e2 e3 e4 e5 e6 e7
              obtain ⟨e0, e1, e2, e3, e4, e5, e6, e7⟩ := (HV.out.below HS2.out.L).at8 k hkn hcv
              go_wp2
              go_ret
              exact ⟨rfl, HS2.out.L⟩
      · obtain rfl : k = l.length := by omega
        have hlt : ((l.length : Int) < (l.length : Int)) = False := eq_false (by omega)
        have F4 := feed_ex (HS.out.below ((Below.refl wr.heap.size wr).alloc (Nat.le_refl _) (.cells #[.int .u8 130] 5))) HG.out (.slice (some ⟨wr.heap.size, 0, none⟩) 1 1) [130] (src_new wr [130] #[.int .u8 130] 5 (0, 0) rfl) (fun x hx => by cases hx) (fun x hx => by simp at hx; omega) (by decide) (by omega) (all_130 masked) [130] rfl 0 rfl
        go_wp2_with fail
        refine F4.mono ?_
        rintro e w5 ⟨a5, c5, v5, rfl, _, _, HS5, _⟩
        have P5 := part_ex HS5.out 1 rfl
        clear F4
        go_wp2_with fail
        refine P5.mono ?_
        rintro e w6 ⟨rfl, rfl⟩
        have E5 := err_any HS5.out
        clear P5
        go_wp2_with fail
        refine E5.mono ?_
        rintro e w6 ⟨rfl, rfl⟩
        clear E5
        go_wp2
        go_ret
        exact ⟨rfl, HS5.out.L⟩
end Go.Proofs.YtlgmgalopdfcaaaDoor
