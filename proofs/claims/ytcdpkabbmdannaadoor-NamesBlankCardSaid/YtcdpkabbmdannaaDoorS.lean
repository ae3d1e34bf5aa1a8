/- NamesFirst's walk. -/
import Derived.Test.YtcdpkabbmdannaaDoorBad
namespace Go.Proofs.YtcdpkabbmdannaaDoor
open Go.RowKit HeadPlain

def wantS (o : Option ByteArray) : ByteArray := o.getD ByteArray.empty
theorem strV_eq (o : Option ByteArray) : strV o = .tuple #[.string (wantS o), .bool o.isSome] := by cases o <;> rfl
theorem drop_cons' {l : List ByteArray} {k : Nat} (h : k < l.length) : l.drop k = l.getD k ByteArray.empty :: l.drop (k + 1) := by
  rw [List.drop_eq_getElem_cons h, List.getD_eq_getElem?_getD, List.getElem?_eq_getElem h]; rfl
theorem fst_yes {a b : List ByteArray} {k : Nat} {p : ByteArray} (hk : k < a.length) (hp : a.getD k ByteArray.empty = p) (h : bytes p ∈ b.map bytes) : fstIn (a.drop k) b = some p := by
  unfold fstIn
  rw [drop_cons' hk, List.find?_cons, hp, decide_eq_true h]
theorem fst_no {a b : List ByteArray} {k : Nat} {p : ByteArray} (hk : k < a.length) (hp : a.getD k ByteArray.empty = p) (h : bytes p ∉ b.map bytes) : fstIn (a.drop k) b = fstIn (a.drop (k + 1)) b := by
  unfold fstIn
  rw [drop_cons' hk, List.find?_cons, hp, decide_eq_false h]
theorem oneV_eq (a : List ByteArray) : oneV a = .tuple #[.string (if a.length = 1 then a.getD 0 ByteArray.empty else ByteArray.empty), .bool (decide (a.length = 1))] := by
  match a with
  | [] => rfl
  | [x] => rfl
  | x :: y :: r =>
    rw [if_neg (by simp), decide_eq_false (by simp)]
    rfl
theorem beq_self_bytes (t : ByteArray) : (t.toList == t.toList) = true := by simp
theorem in_ex {W : World} {s : ByteArray} {l : List ByteArray} {v : Value} {r : Bool} (hr : decide (bytes s ∈ l.map bytes) = r) (hv : StrA W v l) (hl : l.length ≤ 1000000) : Calls Tryd.prog 17 #[.string s, v] W fun e w' => e = .returned (.bool r) ∧ W = w' :=
  (in_any s l v W hv hl).mono fun _ _ ⟨h1, h2⟩ => ⟨by rw [h1, hr], h2⟩
set_option maxRecDepth 100000 in
set_option maxHeartbeats 8000000 in
theorem first_walk_good (x y : Value) (a b : List ByteArray) (w : World) (hg : Globs w) (ha : StrA w x a) (hb : StrA w y b) (hfa : fewB a = true) (hfb : fewB b = true) :
    Calls Tryd.prog 5 #[x, y] w fun e w' => e = .returned (.bool true) ∧ Sl (Below w.heap.size w w') := by
  have HG := Sl.mk hg
  have HVA := Sl.mk ha
  have HVB := Sl.mk hb
  obtain ⟨hf1, hf2⟩ := fewB_yes hfa
  obtain ⟨hf3, hf4⟩ := fewB_yes hfb
  have HLA : Sl (a.length ≤ 100 ∧ ∀ s ∈ a, s.size ≤ 1000) := ⟨by omega, fun s h => Nat.le_trans (hf1 s h) (by omega)⟩
  have HLB : Sl (b.length ≤ 100 ∧ ∀ s ∈ b, s.size ≤ 1000) := ⟨by omega, fun s h => Nat.le_trans (hf3 s h) (by omega)⟩
  have HFA : Sl (∀ W, Below w.heap.size w W → Calls Tryd.prog 10 #[x] W fun e w' => e = .returned (.bool true) ∧ W = w') := ⟨fun W hB => few_ex hfa (ha.below hB) (by unfold maxLen; omega) (fun s h => Nat.le_trans (hf1 s h) (by unfold maxLen; omega))⟩
  have HFB : Sl (∀ W, Below w.heap.size w W → Calls Tryd.prog 10 #[y] W fun e w' => e = .returned (.bool true) ∧ W = w') := ⟨fun W hB => few_ex hfb (hb.below hB) (by unfold maxLen; omega) (fun s h => Nat.le_trans (hf3 s h) (by unfold maxLen; omega))⟩
  have HCA : Sl (∀ W, Below w.heap.size w W → StrA (W.alloc (.cells #[] 9)) x a) := ⟨fun W hB => ha.below (hB.alloc hB.size _)⟩
  have HCB : Sl (∀ W, Below w.heap.size w W → StrA (W.alloc (.cells #[] 9)) y b) := ⟨fun W hB => hb.below (hB.alloc hB.size _)⟩
  have HNA : Sl (([] : List ByteArray).length + a.length ≤ 1000000) := ⟨by simp; omega⟩
  have HNB : Sl (([] : List ByteArray).length + b.length ≤ 1000000) := ⟨by simp; omega⟩
  have hal : a.length ≤ 30 := hf2
  obtain ⟨o, ho⟩ : ∃ o, fstIn a b = o := ⟨_, rfl⟩
  have HO := Sl.mk ho
  obtain ⟨ad, ca, sa, oa, rfl, hca, haa, hcell⟩ := ha
  have HA := Sl.mk hcell
  have HAA := Sl.mk haa
  have HIN : Sl (∀ (k : Nat) (r : Bool) (p : ByteArray) (W : World), Below w.heap.size w W → decide (bytes p ∈ b.map bytes) = r → Calls Tryd.prog 17 #[.string p, y] W fun e w' => e = .returned (.bool r) ∧ W = w') := ⟨fun k r p W hB hr => in_ex hr (hb.below hB) (by omega)⟩
  clear hg hb hfa hfb hf1 hf2 hf3 hf4 ho hca haa hcell
  obtain ⟨n, hn⟩ : ∃ n, a.length = n := ⟨_, rfl⟩
  have HN := Sl.mk hn
  rw [hn] at hal HVA HFA HCA ⊢
  clear hn
  go_enter Tryd.func5, Tryd.ntmps5
  go_wp2_with fail
  refine (awake_ex (below0 w) HG.out).mono ?_
  rintro e w1 ⟨rfl, _, HB1⟩
  go_wp2_with fail
  refine (HFA.out _ HB1.out).mono ?_
  rintro e w2 ⟨rfl, rfl⟩
  go_wp2_with fail
  refine (HFB.out _ HB1.out).mono ?_
  rintro e w2 ⟨rfl, rfl⟩
  go_wp2_with (first
    | (refine app_all (o := ⟨some 28, _, _, _, _, _⟩) rfl _ _ rfl w1.heap.size _ _ [] a rfl (own_lit w1) rfl (HCA.out _ HB1.out) HNA.out (by rw [alloc_size]; omega) ?_; intro v3 w3 HO3 HG3; obtain ⟨HB3', HB3⟩ := app_below HB1.out (own_lit w1) HG3.out)
    | (refine app_all (o := ⟨some 31, _, _, _, _, _⟩) rfl _ _ rfl w3.heap.size _ _ [] b rfl (own_lit w3) rfl (HCB.out _ HB3.out) HNB.out (by rw [alloc_size]; omega) ?_; intro v4 w4 HO4 HG4; obtain ⟨HB4', HB4⟩ := app_below HB3.out (own_lit w3) HG4.out))
  rw [List.nil_append] at HO3 HO4
  refine (first_ex HO.out HB4.out (HO3.out.strA.below HB4'.out) HO4.out.strA HLA.out.1 HLB.out.1 HLA.out.2 HLB.out.2).mono ?_
  rintro e w5 ⟨he, HB5', HB5⟩
  rw [strV_eq] at he
  subst he
  obtain ⟨ws, hws⟩ : ∃ ws, wantS o = ws := ⟨_, rfl⟩
  obtain ⟨bs, hbs⟩ : ∃ bs, o.isSome = bs := ⟨_, rfl⟩
  have HWS := Sl.mk hws
  have HBS := Sl.mk hbs
  rw [hws, hbs]
  clear hws hbs HO3 HO4 HG3 HG4 HB3' HB4' HB5'
  go_wp2_with fail
  go_loop [7, 8, 9] (fun t h i => ∃ (k : Nat) (o' : Option ByteArray), k ≤ n ∧ t = .string (wantS o') ∧ h = .bool o'.isSome ∧ i = .int .i64 ((k : Int) - 1) ∧ Sl (fstIn (a.drop k) b = o')) (fun _ _ i => (intOf i + 1).toNat)
  case atStart => exact ⟨n, none, Nat.le_refl _, rfl, rfl, rfl, ⟨by rw [List.drop_of_length_le (by rw [HN.out]; exact Nat.le_refl _)]; rfl⟩⟩
  case round =>
    obtain ⟨k, o', hk, rfl, rfl, rfl, HO'⟩ := hrel
    cases k with
    | zero =>
      obtain rfl : o' = o := by rw [← HO'.out, List.drop_zero]; exact HO.out
      rw [HWS.out, HBS.out, show ((0 : Nat) : Int) - 1 = -1 from rfl]
      have hw0 := beq_self_bytes ws
      have hb0 : (bs == bs) = true := by simp
      obtain ⟨q, hq⟩ : ∃ q, decide (a.map bytes).Nodup = q := ⟨_, rfl⟩
      have HOQ := Sl.mk hq
      have hq0 : (q == q) = true := by simp
      clear hq
      by_cases hn1 : n = 1
      · clear hk
        obtain rfl := HAA.out (by rw [HN.out]; omega)
        obtain ⟨p0, hp0⟩ : ∃ p0, a.getD 0 ByteArray.empty = p0 := ⟨_, rfl⟩
        have HP0 : Sl (oneV a = .tuple #[.string p0, .bool true]) := ⟨by rw [oneV_eq, HN.out, if_pos hn1, hp0, decide_eq_true hn1]⟩
        have HCEL : Sl (∀ W, Below w.heap.size w W → W.cell? ⟨sa, oa, none⟩ = some (.string p0)) := ⟨fun W hB => by
          have h1 := HA.out 0 (by rw [HN.out]; omega)
          rw [Nat.add_zero] at h1
          rw [hB.cell (p := ⟨sa, oa, none⟩) (block_lt_of_cell h1), h1, hp0]⟩
        have hp1 := beq_self_bytes p0
        clear hp0
        obtain rfl := hn1
        go_wp2_with (refine app_all (o := ⟨some 55, _, _, _, _, _⟩) rfl _ _ rfl w5.heap.size _ _ [] a rfl (own_lit w5) rfl (HCA.out _ HB5.out) HNA.out (by rw [alloc_size]; omega) ?_; intro v6 w6 HO6 HG6; obtain ⟨HB6', HB6⟩ := app_below HB5.out (own_lit w5) HG6.out)
        rw [List.nil_append] at HO6
        refine (one_any a _ _ HO6.out.strA (by rw [HN.out]; omega)).mono ?_
        rintro e w7 ⟨he, hw⟩
        have he2 := he.trans (congrArg Ending.returned HP0.out)
        subst he2
        subst hw
        have e1 := HCEL.out _ HB6.out
        clear he HG6 HO6 HB6'
        go_wp2_with (refine app_allG (o := ⟨some 95, _, _, _, _, _⟩) rfl _ _ rfl w7.heap.size _ _ [] a rfl (own_lit w7) rfl (HCA.out _ HB6.out) HNA.out (by rw [alloc_size]; omega) ?_; intro v8 w8 HO8 HG8; obtain ⟨HB8', HB8⟩ := app_below HB6.out (own_lit w7) HG8.out)
        rw [List.nil_append] at HO8
        refine (once_ex HOQ.out HB8.out HO8.out.strA HLA.out.1 HLA.out.2).mono ?_
        rintro e w9 ⟨rfl, _, HB9⟩
        go_wp2_with fail
        refine (onceR_any a _ _ (HVA.out.below HB9.out) (by rw [HN.out]; omega)).mono ?_
        rintro e w10 ⟨he, hs⟩
        have he2 := he.trans (congrArg (fun b => Ending.returned (Value.bool b)) HOQ.out)
        subst he2
        have HB10 : Sl (Below w.heap.size w w10) := ⟨below_then HB9.out hs.below⟩
        clear he hs
        go_wp2
        go_ret
        exact ⟨rfl, HB10⟩
      · clear hk
        have HP0 : Sl (oneV a = .tuple #[.string ByteArray.empty, .bool false]) := ⟨oneV_ne (by rw [HN.out]; exact hn1)⟩
        have hn2 : ((n : Int) == 1) = false := by simp; omega
        go_wp2_with (refine app_all (o := ⟨some 55, _, _, _, _, _⟩) rfl _ _ rfl w5.heap.size _ _ [] a rfl (own_lit w5) rfl (HCA.out _ HB5.out) HNA.out (by rw [alloc_size]; omega) ?_; intro v6 w6 HO6 HG6; obtain ⟨HB6', HB6⟩ := app_below HB5.out (own_lit w5) HG6.out)
        rw [List.nil_append] at HO6
        refine (one_any a _ _ HO6.out.strA (by rw [HN.out]; omega)).mono ?_
        rintro e w7 ⟨he, hw⟩
        have he2 := he.trans (congrArg Ending.returned HP0.out)
        subst he2
        subst hw
        clear he HG6 HO6 HB6'
        go_wp2_with (refine app_allG (o := ⟨some 95, _, _, _, _, _⟩) rfl _ _ rfl w7.heap.size _ _ [] a rfl (own_lit w7) rfl (HCA.out _ HB6.out) HNA.out (by rw [alloc_size]; omega) ?_; intro v8 w8 HO8 HG8; obtain ⟨HB8', HB8⟩ := app_below HB6.out (own_lit w7) HG8.out)
        rw [List.nil_append] at HO8
        refine (once_ex HOQ.out HB8.out HO8.out.strA HLA.out.1 HLA.out.2).mono ?_
        rintro e w9 ⟨rfl, _, HB9⟩
        go_wp2_with fail
        refine (onceR_any a _ _ (HVA.out.below HB9.out) (by rw [HN.out]; omega)).mono ?_
        rintro e w10 ⟨he, hs⟩
        have he2 := he.trans (congrArg (fun b => Ending.returned (Value.bool b)) HOQ.out)
        subst he2
        have HB10 : Sl (Below w.heap.size w w10) := ⟨below_then HB9.out hs.below⟩
        clear he hs
        go_wp2
        go_ret
        exact ⟨rfl, HB10⟩
    | succ j =>
      have hj : ((j + 1 : Nat) : Int) - 1 = (j : Int) := by omega
      rw [hj]
      obtain rfl := HAA.out (by rw [HN.out]; omega)
      obtain ⟨p, hp⟩ : ∃ p, a.getD j ByteArray.empty = p := ⟨_, rfl⟩
      have HP := Sl.mk hp
      have e0 : w5.cell? ⟨sa, oa + j, none⟩ = some (.string p) := by
        have h1 := HA.out j (by rw [HN.out]; omega)
        rw [HB5.out.cell (p := ⟨sa, oa + j, none⟩) (block_lt_of_cell h1), h1, hp]
      obtain ⟨r, hr⟩ : ∃ r, decide (bytes p ∈ b.map bytes) = r := ⟨_, rfl⟩
      have HR := Sl.mk hr
      have hj0 : (0 : Int) ≤ (j : Int) := by omega
      have hj1 : (j : Int) < (n : Int) := by omega
      clear hp hr hj
      cases r with
      | true =>
        have HNX : Sl (fstIn (a.drop j) b = some p) := ⟨fst_yes (by rw [HN.out]; omega) HP.out (of_decide_eq_true HR.out)⟩
        go_wp2_with fail
        refine (HIN.out j true p _ HB5.out HR.out).mono ?_
        rintro e w6 ⟨rfl, rfl⟩
        go_wp2
        go_round
        case rel => exact ⟨j, some p, by omega, rfl, rfl, rfl, HNX⟩
        case measure => simp [intOf]
      | false =>
        have HNX : Sl (fstIn (a.drop j) b = o') := ⟨by rw [fst_no (by rw [HN.out]; omega) HP.out (of_decide_eq_false HR.out)]; exact HO'.out⟩
        go_wp2_with fail
        refine (HIN.out j false p _ HB5.out HR.out).mono ?_
        rintro e w6 ⟨rfl, rfl⟩
        go_wp2
        go_round
        case rel => exact ⟨j, o', by omega, rfl, rfl, rfl, HNX⟩
        case measure => simp [intOf]
theorem first_walk (x : Value) (a : List ByteArray) (y : Value) (b : List ByteArray) (w : World) (hg : Globs w) (ha : StrA w x a) (hla : a.length ≤ maxLen) (hsa : ∀ s ∈ a, s.size ≤ maxLen) (hb : StrA w y b) (hlb : b.length ≤ maxLen) (hsb : ∀ s ∈ b, s.size ≤ maxLen) :
    Calls Tryd.prog 5 #[x, y] w fun e w' => e = .returned (.bool true) ∧ Below w.heap.size w w' := by
  by_cases h : fewB a = true ∧ fewB b = true
  · exact (first_walk_good x y a b w hg ha hb h.1 h.2).mono fun _ _ ⟨h1, h2⟩ => ⟨h1, h2.out⟩
  · refine (first_walk_bad x y a b w hg ha hb hla hsa hlb hsb ?_).mono fun _ _ ⟨h1, h2⟩ => ⟨h1, h2.out⟩
    cases hf : fewB a with
    | false => exact .inl rfl
    | true =>
      cases hf2 : fewB b with
      | false => exact .inr rfl
      | true => exact absurd ⟨hf, hf2⟩ h
end Go.Proofs.YtcdpkabbmdannaaDoor
