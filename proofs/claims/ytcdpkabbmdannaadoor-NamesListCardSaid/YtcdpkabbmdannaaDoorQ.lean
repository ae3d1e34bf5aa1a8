/- NamesList's walk. -/
import Derived.Test.YtcdpkabbmdannaaDoorP
namespace Go.Proofs.YtcdpkabbmdannaaDoor
open Go.RowKit HeadPlain

set_option maxRecDepth 100000 in
set_option maxHeartbeats 2000000 in
theorem list_walk_bad (v : Value) (l : List ByteArray) (token : ByteArray) (w : World) (hg : Globs w) (hv : StrA w v l) (hl : l.length ≤ maxLen) (hs : ∀ s ∈ l, s.size ≤ maxLen) (ht : token.size ≤ maxLen) (hbad : fewB l = false ∨ 300 < token.size) :
    Calls Tryd.prog 3 #[v, .string token] w fun e w' => e = .returned (.bool true) ∧ Sl (Below w.heap.size w w') := by
  have HG := Sl.mk hg
  have HV := Sl.mk hv
  have HFEW : Sl (∀ r, fewB l = r → ∀ W, Below w.heap.size w W → Calls Tryd.prog 10 #[v] W fun e w' => e = .returned (.bool r) ∧ W = w') := ⟨fun r hr W hB => few_ex hr (hv.below hB) hl hs⟩
  unfold maxLen at ht
  clear hg hv hl hs
  obtain ⟨r, hr⟩ : ∃ r, fewB l = r := ⟨_, rfl⟩
  have HR := Sl.mk hr
  rw [hr] at hbad
  clear hr
  cases r with
  | false =>
    clear hbad
    go_enter Tryd.func3, Tryd.ntmps3
    go_wp2_with fail
    refine (awake_ex (below0 w) HG.out).mono ?_
    rintro e w1 ⟨rfl, _, HB1⟩
    go_wp2_with fail
    refine (HFEW.out _ HR.out _ HB1.out).mono ?_
    rintro e w2 ⟨rfl, rfl⟩
    go_wp2_with fail
    refine (awake_ex HB1.out HG.out).mono ?_
    rintro e w3 ⟨rfl, _, HB3⟩
    go_wp2
    go_ret
    exact ⟨rfl, HB3⟩
  | true =>
    have h3 : ((300 : Int) < (token.size : Int)) = True := eq_true (by rcases hbad with h | h; cases h; omega)
    clear hbad
    go_enter Tryd.func3, Tryd.ntmps3
    go_wp2_with fail
    refine (awake_ex (below0 w) HG.out).mono ?_
    rintro e w1 ⟨rfl, _, HB1⟩
    go_wp2_with fail
    refine (HFEW.out _ HR.out _ HB1.out).mono ?_
    rintro e w2 ⟨rfl, rfl⟩
    go_wp2_with fail
    refine (awake_ex HB1.out HG.out).mono ?_
    rintro e w3 ⟨rfl, _, HB3⟩
    go_wp2
    go_ret
    exact ⟨rfl, HB3⟩
set_option maxRecDepth 100000 in
set_option maxHeartbeats 4000000 in
theorem list_walk_good (v : Value) (l : List ByteArray) (token : ByteArray) (w : World) (hg : Globs w) (hv : StrA w v l) (hf : fewB l = true) (ht : token.size ≤ 300) :
    Calls Tryd.prog 3 #[v, .string token] w fun e w' => e = .returned (.bool true) ∧ Sl (Below w.heap.size w w') := by
  have HG := Sl.mk hg
  have HV := Sl.mk hv
  obtain ⟨hf1, hf2⟩ := fewB_yes hf
  have HL : Sl (l.length ≤ 100 ∧ ∀ s ∈ l, s.size ≤ 1000) := ⟨by omega, fun s h => Nat.le_trans (hf1 s h) (by omega)⟩
  have HTK : Sl (token.size ≤ maxLen) := ⟨by unfold maxLen; omega⟩
  have HFEW : Sl (∀ W, Below w.heap.size w W → Calls Tryd.prog 10 #[v] W fun e w' => e = .returned (.bool true) ∧ W = w') := ⟨fun W hB => few_ex hf (hv.below hB) (by unfold maxLen; omega) (fun s h => Nat.le_trans (hf1 s h) (by unfold maxLen; omega))⟩
  have h3 : ((300 : Int) < (token.size : Int)) = False := eq_false (by omega)
  have HCP : Sl (∀ W, Below w.heap.size w W → StrA (W.alloc (.cells #[] 9)) v l) := ⟨fun W hB => hv.below (hB.alloc hB.size _)⟩
  have HLN : Sl (([] : List ByteArray).length + l.length ≤ 1000000) := ⟨by simp; omega⟩
  obtain ⟨q, hq⟩ : ∃ q, hasB token l = q := ⟨_, rfl⟩
  have HQ := Sl.mk hq
  have hqq : (q != q) = false := by cases q <;> rfl
  clear hg hv hf hf1 hf2 hq
  obtain ⟨r, hr⟩ : ∃ r, (tell l).all tokT = r := ⟨_, rfl⟩
  have HR := Sl.mk hr
  clear hr
  cases r with
  | true =>
    go_enter Tryd.func3, Tryd.ntmps3
    go_wp2_with fail
    refine (awake_ex (below0 w) HG.out).mono ?_
    rintro e w1 ⟨rfl, _, HB1⟩
    go_wp2_with fail
    refine (HFEW.out _ HB1.out).mono ?_
    rintro e w2 ⟨rfl, rfl⟩
    go_wp2_with (refine app_all rfl _ _ rfl w1.heap.size _ v [] l rfl (own_lit w1) rfl (HCP.out _ HB1.out) HLN.out (by rw [alloc_size]; omega) ?_; intro v3 w3 HO3 HG3; obtain ⟨HB3', HB3⟩ := app_below HB1.out (own_lit w1) HG3.out)
    rw [List.nil_append] at HO3
    refine (list_yes HR.out HB3.out HG.out HO3.out.strA HL.out.1 HL.out.2).mono ?_
    rintro e w4 ⟨⟨m, rfl, HM⟩, HB4', HB4⟩
    go_wp2_with fail
    refine (lists_yes HR.out HB4.out (HV.out.below HB4.out) HL.out.1 HL.out.2).mono ?_
    rintro e w5 ⟨⟨n, rfl, HN⟩, HB5', HB5⟩
    go_wp2_with (refine app_all rfl _ _ rfl w5.heap.size _ v [] l rfl (own_lit w5) rfl (HCP.out _ HB5.out) HLN.out (by rw [alloc_size]; omega) ?_; intro v6 w6 HO6 HG6; obtain ⟨HB6', HB6⟩ := app_below HB5.out (own_lit w5) HG6.out)
    rw [List.nil_append] at HO6
    refine (has_ex HQ.out HB6.out HG.out HO6.out.strA HL.out.1 HL.out.2 HTK.out).mono ?_
    rintro e w7 ⟨rfl, HB7', HB7⟩
    go_wp2_with fail
    refine (hasR_ex HQ.out HB7.out (HV.out.below HB7.out) HL.out.1 HL.out.2).mono ?_
    rintro e w8 ⟨rfl, HB8', HB8⟩
    go_wp2_with fail
    have HM8 := ((((HM.out.below HB5'.out).below HB6'.out).below HB7'.out).below HB8'.out)
    have HN8 := (((HN.out.below HB6'.out).below HB7'.out).below HB8'.out)
    refine (row_ex (r := true) (decide_eq_true rfl) HB8.out HM8 HN8 (by have := tell_len l 1000 HL.out.2; have := Nat.mul_le_mul_right 1001 HL.out.1; omega)).mono ?_
    rintro e w9 ⟨rfl, _, HB9⟩
    go_wp2
    go_ret
    exact ⟨rfl, HB9⟩
  | false =>
    go_enter Tryd.func3, Tryd.ntmps3
    go_wp2_with fail
    refine (awake_ex (below0 w) HG.out).mono ?_
    rintro e w1 ⟨rfl, _, HB1⟩
    go_wp2_with fail
    refine (HFEW.out _ HB1.out).mono ?_
    rintro e w2 ⟨rfl, rfl⟩
    go_wp2_with (refine app_all rfl _ _ rfl w1.heap.size _ v [] l rfl (own_lit w1) rfl (HCP.out _ HB1.out) HLN.out (by rw [alloc_size]; omega) ?_; intro v3 w3 HO3 HG3; obtain ⟨HB3', HB3⟩ := app_below HB1.out (own_lit w1) HG3.out)
    rw [List.nil_append] at HO3
    refine (list_no HR.out HB3.out HG.out HO3.out.strA HL.out.1 HL.out.2).mono ?_
    rintro e w4 ⟨rfl, HB4', HB4⟩
    go_wp2_with fail
    refine (lists_no HR.out HB4.out (HV.out.below HB4.out) HL.out.1 HL.out.2).mono ?_
    rintro e w5 ⟨rfl, HB5', HB5⟩
    go_wp2_with (refine app_all rfl _ _ rfl w5.heap.size _ v [] l rfl (own_lit w5) rfl (HCP.out _ HB5.out) HLN.out (by rw [alloc_size]; omega) ?_; intro v6 w6 HO6 HG6; obtain ⟨HB6', HB6⟩ := app_below HB5.out (own_lit w5) HG6.out)
    rw [List.nil_append] at HO6
    refine (has_ex HQ.out HB6.out HG.out HO6.out.strA HL.out.1 HL.out.2 HTK.out).mono ?_
    rintro e w7 ⟨rfl, HB7', HB7⟩
    go_wp2_with fail
    refine (hasR_ex HQ.out HB7.out (HV.out.below HB7.out) HL.out.1 HL.out.2).mono ?_
    rintro e w8 ⟨rfl, HB8', HB8⟩
    go_wp2_with fail
    go_ret
    exact ⟨rfl, HB8⟩
theorem list_walk (v : Value) (l : List ByteArray) (token : ByteArray) (w : World) (hg : Globs w) (hv : StrA w v l) (hl : l.length ≤ maxLen) (hs : ∀ s ∈ l, s.size ≤ maxLen) (ht : token.size ≤ maxLen) :
    Calls Tryd.prog 3 #[v, .string token] w fun e w' => e = .returned (.bool true) ∧ Below w.heap.size w w' := by
  by_cases h : fewB l = true ∧ token.size ≤ 300
  · exact (list_walk_good v l token w hg hv h.1 h.2).mono fun _ _ ⟨h1, h2⟩ => ⟨h1, h2.out⟩
  · refine (list_walk_bad v l token w hg hv hl hs ht ?_).mono fun _ _ ⟨h1, h2⟩ => ⟨h1, h2.out⟩
    cases hf : fewB l with
    | false => exact .inl rfl
    | true => exact .inr (Nat.lt_of_not_le (fun h2 => h ⟨hf, h2⟩))
end Go.Proofs.YtcdpkabbmdannaaDoor
