/- NamesSome's walk. -/
import Derived.Test.YtcdpkabbmdannaaDoorS
namespace Go.Proofs.YtcdpkabbmdannaaDoor
open Go.RowKit HeadPlain

theorem fst_mem {a b : List ByteArray} {t : ByteArray} (h : fstIn a b = some t) : bytes t ∈ a.map bytes ∧ bytes t ∈ b.map bytes :=
  ⟨List.mem_map.2 ⟨t, List.mem_of_find?_eq_some h, rfl⟩, of_decide_eq_true (List.find?_some (p := fun x => decide (bytes x ∈ b.map bytes)) h)⟩
theorem fst_before {a b : List ByteArray} {o : Option ByteArray} {k : Nat} (ho : fstIn a b = o) (hk : k < a.length) (h : ∀ j, j ≤ k → bytes (a.getD j ByteArray.empty) ≠ bytes (wantS o)) : bytes (a.getD k ByteArray.empty) ∉ b.map bytes := by
  intro hb
  have hg : ∀ j (hj : j < a.length), a.getD j ByteArray.empty = a[j] := fun j hj => by rw [List.getD_eq_getElem?_getD, List.getElem?_eq_getElem hj]; rfl
  cases o with
  | none =>
    unfold fstIn at ho
    rw [List.find?_eq_none] at ho
    have := ho (a.getD k ByteArray.empty) (getD_mem hk)
    exact this (decide_eq_true hb)
  | some t =>
    unfold fstIn at ho
    obtain ⟨_, as', bs, rfl, hn⟩ := List.find?_eq_some_iff_append.1 ho
    by_cases hl : as'.length ≤ k
    · have h1 := h as'.length hl
      rw [hg as'.length (by simp)] at h1
      simp [wantS] at h1
    · have h2 := hn (as'[k]'(by omega)) (List.getElem_mem _)
      rw [hg k hk, List.getElem_append_left (by omega)] at hb
      rw [decide_eq_true hb] at h2
      cases h2
theorem fst_some_iff (a b : List ByteArray) : (fstIn a b).isSome = (fstIn b a).isSome := by
  have key : ∀ a b : List ByteArray, (fstIn a b).isSome = true → (fstIn b a).isSome = true := fun a b h => by
    obtain ⟨t, ht⟩ := Option.isSome_iff_exists.1 h
    obtain ⟨h1, h2⟩ := fst_mem ht
    obtain ⟨u, hu, e⟩ := List.mem_map.1 h2
    unfold fstIn
    rw [List.find?_isSome]
    exact ⟨u, hu, decide_eq_true (by rw [e]; exact h1)⟩
  cases h1 : (fstIn a b).isSome with
  | true => rw [key a b h1]
  | false =>
    cases h2 : (fstIn b a).isSome with
    | true => rw [key b a h2] at h1; cases h1
    | false => rfl
theorem strA_nil (W : World) : StrA W (.slice none 0 0) [] := ⟨none, 0, 0, 0, rfl, Nat.le_refl _, fun h => by simp at h, fun i hi => by simp at hi⟩
set_option maxRecDepth 100000 in
set_option maxHeartbeats 8000000 in
theorem some_walk_good (x y : Value) (a b : List ByteArray) (w : World) (hg : Globs w) (ha : StrA w x a) (hb : StrA w y b) (hfa : fewB a = true) (hfb : fewB b = true) :
    Calls Tryd.prog 7 #[x, y] w fun e w' => e = .returned (.bool true) ∧ Sl (Below w.heap.size w w') := by
  have HG := Sl.mk hg
  have HVA := Sl.mk ha
  have HVB := Sl.mk hb
  obtain ⟨hf1, hf2⟩ := fewB_yes hfa
  obtain ⟨hf3, hf4⟩ := fewB_yes hfb
  have HLA : Sl (a.length ≤ 100 ∧ ∀ s ∈ a, s.size ≤ 1000) := ⟨by omega, fun s h => Nat.le_trans (hf1 s h) (by omega)⟩
  have HLB : Sl (b.length ≤ 100 ∧ ∀ s ∈ b, s.size ≤ 1000) := ⟨by omega, fun s h => Nat.le_trans (hf3 s h) (by omega)⟩
  have HFA : Sl (∀ W, Below w.heap.size w W → Calls Tryd.prog 10 #[x] W fun e w' => e = .returned (.bool true) ∧ W = w') := ⟨fun W hB => few_ex hfa (ha.below hB) (by unfold maxLen; omega) (fun s h => Nat.le_trans (hf1 s h) (by unfold maxLen; omega))⟩
  have HFB : Sl (∀ W, Below w.heap.size w W → Calls Tryd.prog 10 #[y] W fun e w' => e = .returned (.bool true) ∧ W = w') := ⟨fun W hB => few_ex hfb (hb.below hB) (by unfold maxLen; omega) (fun s h => Nat.le_trans (hf3 s h) (by unfold maxLen; omega))⟩
  have HCA : Sl (∀ W, Below w.heap.size w W → StrA (W.alloc (.cells #[] 9)) x a) := ⟨fun W hB => ha.below (hB.alloc hB.size _)⟩
  have HCB : Sl (∀ W, Below w.heap.size w W → StrA (W.alloc (.cells #[] 9)) y b) := ⟨fun W hB => hb.below (hB.alloc hB.size _)⟩
  have HNA : Sl (([] : List ByteArray).length + a.length ≤ 1000000) := ⟨by simp; omega⟩
  have HNB : Sl (([] : List ByteArray).length + b.length ≤ 1000000) := ⟨by simp; omega⟩
  have hal : a.length ≤ 30 := hf2
  obtain ⟨o, ho⟩ : ∃ o, fstIn a b = o := ⟨_, rfl⟩
  have HO := Sl.mk ho
  obtain ⟨ad, ca, sa, oa, rfl, hca, haa, hcell⟩ := ha
  have HA := Sl.mk hcell
  have HAA := Sl.mk haa
  have HIN : Sl (∀ (k : Nat) (r : Bool) (p : ByteArray) (W : World), Below w.heap.size w W → decide (bytes p ∈ b.map bytes) = r → Calls Tryd.prog 17 #[.string p, y] W fun e w' => e = .returned (.bool r) ∧ W = w') := ⟨fun k r p W hB hr => in_ex hr (hb.below hB) (by omega)⟩
  clear hg hb hfa hfb hf1 hf2 hf3 hf4 ho hca haa hcell
  obtain ⟨n, hn⟩ : ∃ n, a.length = n := ⟨_, rfl⟩
  have HN := Sl.mk hn
  rw [hn] at hal HVA HFA HCA ⊢
  clear hn
  go_enter Tryd.func7, Tryd.ntmps7
  go_wp2_with fail
  refine (awake_ex (below0 w) HG.out).mono ?_
  rintro e w1 ⟨rfl, _, HB1⟩
  go_wp2_with fail
  refine (HFA.out _ HB1.out).mono ?_
  rintro e w2 ⟨rfl, rfl⟩
  go_wp2_with fail
  refine (HFB.out _ HB1.out).mono ?_
  rintro e w2 ⟨rfl, rfl⟩
  go_wp2_with (first
    | (refine app_all (o := ⟨some 28, _, _, _, _, _⟩) rfl _ _ rfl w1.heap.size _ _ [] a rfl (own_lit w1) rfl (HCA.out _ HB1.out) HNA.out (by rw [alloc_size]; omega) ?_; intro v3 w3 HO3 HG3; obtain ⟨HB3', HB3⟩ := app_below HB1.out (own_lit w1) HG3.out)
    | (refine app_all (o := ⟨some 31, _, _, _, _, _⟩) rfl _ _ rfl w3.heap.size _ _ [] b rfl (own_lit w3) rfl (HCB.out _ HB3.out) HNB.out (by rw [alloc_size]; omega) ?_; intro v4 w4 HO4 HG4; obtain ⟨HB4', HB4⟩ := app_below HB3.out (own_lit w3) HG4.out))
  rw [List.nil_append] at HO3 HO4
  refine (first_ex HO.out HB4.out (HO3.out.strA.below HB4'.out) HO4.out.strA HLA.out.1 HLB.out.1 HLA.out.2 HLB.out.2).mono ?_
  rintro e w5 ⟨he, HB5', HB5⟩
  rw [strV_eq] at he
  subst he
  obtain ⟨ws, hws⟩ : ∃ ws, wantS o = ws := ⟨_, rfl⟩
  obtain ⟨bs, hbs⟩ : ∃ bs, o.isSome = bs := ⟨_, rfl⟩
  have HWS := Sl.mk hws
  have HBS := Sl.mk hbs
  have HBK : Sl ((fstIn b a).isSome = bs) := ⟨by rw [← fst_some_iff, HO.out]; exact hbs⟩
  have HINA : Sl (bs = true → ∀ W, Below w.heap.size w W → Calls Tryd.prog 17 #[.string ws, .slice ad n ca] W fun e w' => e = .returned (.bool true) ∧ W = w') := ⟨fun hb W hB => by
    refine in_ex (decide_eq_true ?_) (HVA.out.below hB) (by rw [HN.out]; omega)
    obtain ⟨t, ht⟩ := Option.isSome_iff_exists.1 (hbs.trans hb)
    rw [← hws, ht]
    rw [ht] at HO
    exact (fst_mem HO.out).1⟩
  have HINB : Sl (bs = true → decide (bytes ws ∈ b.map bytes) = true) := ⟨fun hb => by
    refine decide_eq_true ?_
    obtain ⟨t, ht⟩ := Option.isSome_iff_exists.1 (hbs.trans hb)
    rw [← hws, ht]
    rw [ht] at HO
    exact (fst_mem HO.out).2⟩
  rw [hws, hbs]
  clear hws hbs HO3 HO4 HG3 HG4 HB3' HB4' HB5'
  go_wp2_with (refine app_all (o := ⟨some 38, _, _, _, _, _⟩) rfl _ _ rfl w5.heap.size _ _ [] b rfl (own_lit w5) rfl (HCB.out _ HB5.out) HNB.out (by rw [alloc_size]; omega) ?_; intro v6 w6 HO6 HG6; obtain ⟨HB6', HB6⟩ := app_below HB5.out (own_lit w5) HG6.out)
  rw [List.nil_append] at HO6
  refine (first_ex (o := none) rfl HB6.out (strA_nil _) HO6.out.strA (by decide) HLB.out.1 (by intro s hs; cases hs) HLB.out.2).mono ?_
  rintro e WZ ⟨he, _, hz⟩
  have he2 : e = .returned (.tuple #[.string ByteArray.empty, .bool false]) := he
  subst he2
  clear he HO6 HG6 HB6'
  cases bs with
  | false =>
    have HZ : Sl (Below w.heap.size w WZ) := hz
    clear hz
    go_wp2_with fail
    go_loop [9] (fun i => ∃ k : Nat, k ≤ n ∧ i = .int .i64 k ∧ Sl (∀ j, j < k → bytes (a.getD j ByteArray.empty) ≠ bytes ws)) (fun i => n - (intOf i).toNat)
    case atStart => exact ⟨0, Nat.zero_le _, rfl, ⟨fun j hj => by omega⟩⟩
    case round =>
      obtain ⟨k, hk, rfl, HE⟩ := hrel
      by_cases hlt : k < n
      · obtain rfl := HAA.out (by rw [HN.out]; omega)
        obtain ⟨p, hp⟩ : ∃ p, a.getD k ByteArray.empty = p := ⟨_, rfl⟩
        have HP := Sl.mk hp
        have e0 : WZ.cell? ⟨sa, oa + k, none⟩ = some (.string p) := by
          have h1 := HA.out k (by rw [HN.out]; omega)
          rw [HZ.out.cell (p := ⟨sa, oa + k, none⟩) (block_lt_of_cell h1), h1, hp]
        have hk0 : (0 : Int) ≤ (k : Int) := by omega
        have hk1 : (k : Int) < (n : Int) := by omega
        clear hp
        obtain ⟨q, hq⟩ : ∃ q, (p.toList == ws.toList) = q := ⟨_, rfl⟩
        have HQ : Sl (decide (bytes p = bytes ws) = q) := ⟨by rw [← beq_bytes2]; exact hq⟩
        cases q with
        | true =>
          go_wp2_with (first
            | (refine app_all (o := ⟨some 81, _, _, _, _, _⟩) rfl _ _ rfl WZ.heap.size _ _ [] b rfl (own_lit WZ) rfl (HCB.out _ HZ.out) HNB.out (by rw [alloc_size]; omega) ?_; intro v8 w8 HO8 HG8; obtain ⟨HB8', HB8⟩ := app_below HZ.out (own_lit WZ) HG8.out)
            | (refine app_all (o := ⟨some 84, _, _, _, _, _⟩) rfl _ _ rfl w8.heap.size _ _ [] a rfl (own_lit w8) rfl (HCA.out _ HB8.out) HNA.out (by rw [alloc_size]; omega) ?_; intro v9 w9 HO9 HG9; obtain ⟨HB9', HB9⟩ := app_below HB8.out (own_lit w8) HG9.out))
          rw [List.nil_append] at HO8 HO9
          refine (first_ex (o := fstIn b a) rfl HB9.out (HO8.out.strA.below HB9'.out) HO9.out.strA HLB.out.1 HLA.out.1 HLB.out.2 HLA.out.2).mono ?_
          rintro e w10 ⟨he, _, HB10⟩
          rw [strV_eq, HBK.out] at he
          subst he
          go_wp2
          go_ret
          exact ⟨ret_bool (by simp), HB10⟩
        | false =>
          have hr : decide (bytes p ∈ b.map bytes) = false := decide_eq_false (by
            rw [← HP.out]
            refine fst_before HO.out (by rw [HN.out]; exact hlt) (fun j hj => ?_)
            rw [HWS.out]
            by_cases e : j = k
            · subst e; rw [HP.out]; exact of_decide_eq_false HQ.out
            · exact HE.out j (by omega))
          have HR := Sl.mk hr
          clear hr
          go_wp2_with fail
          refine (HIN.out k false p _ HZ.out HR.out).mono ?_
          rintro e w6 ⟨rfl, rfl⟩
          go_wp2
          go_round
          case rel =>
            refine ⟨k + 1, by omega, by go_num, ⟨fun j hj => ?_⟩⟩
            by_cases e : j = k
            · subst e; rw [HP.out]; exact of_decide_eq_false HQ.out
            · exact HE.out j (by omega)
          case measure => simp [intOf]; omega
      · have hge : ((k : Int) < (n : Int)) = False := eq_false (by omega)
        go_wp2_with (first
          | (refine app_all (o := ⟨some 81, _, _, _, _, _⟩) rfl _ _ rfl WZ.heap.size _ _ [] b rfl (own_lit WZ) rfl (HCB.out _ HZ.out) HNB.out (by rw [alloc_size]; omega) ?_; intro v8 w8 HO8 HG8; obtain ⟨HB8', HB8⟩ := app_below HZ.out (own_lit WZ) HG8.out)
          | (refine app_all (o := ⟨some 84, _, _, _, _, _⟩) rfl _ _ rfl w8.heap.size _ _ [] a rfl (own_lit w8) rfl (HCA.out _ HB8.out) HNA.out (by rw [alloc_size]; omega) ?_; intro v9 w9 HO9 HG9; obtain ⟨HB9', HB9⟩ := app_below HB8.out (own_lit w8) HG9.out))
        rw [List.nil_append] at HO8 HO9
        refine (first_ex (o := fstIn b a) rfl HB9.out (HO8.out.strA.below HB9'.out) HO9.out.strA HLB.out.1 HLA.out.1 HLB.out.2 HLA.out.2).mono ?_
        rintro e w10 ⟨he, _, HB10⟩
        rw [strV_eq, HBK.out] at he
        subst he
        go_wp2
        go_ret
        exact ⟨ret_bool (by simp), HB10⟩
  | true =>
    go_wp2_with fail
    refine (HINA.out trivial _ hz.out).mono ?_
    rintro e wx ⟨rfl, rfl⟩
    go_wp2_with fail
    refine (HIN.out 0 true ws _ hz.out (HINB.out trivial)).mono ?_
    rintro e wx ⟨rfl, rfl⟩
    have HZ : Sl (Below w.heap.size w WZ) := hz
    clear hz
    go_wp2_with fail
    go_loop [9] (fun i => ∃ k : Nat, k ≤ n ∧ i = .int .i64 k ∧ Sl (∀ j, j < k → bytes (a.getD j ByteArray.empty) ≠ bytes ws)) (fun i => n - (intOf i).toNat)
    case atStart => exact ⟨0, Nat.zero_le _, rfl, ⟨fun j hj => by omega⟩⟩
    case round =>
      obtain ⟨k, hk, rfl, HE⟩ := hrel
      by_cases hlt : k < n
      · obtain rfl := HAA.out (by rw [HN.out]; omega)
        obtain ⟨p, hp⟩ : ∃ p, a.getD k ByteArray.empty = p := ⟨_, rfl⟩
        have HP := Sl.mk hp
        have e0 : WZ.cell? ⟨sa, oa + k, none⟩ = some (.string p) := by
          have h1 := HA.out k (by rw [HN.out]; omega)
          rw [HZ.out.cell (p := ⟨sa, oa + k, none⟩) (block_lt_of_cell h1), h1, hp]
        have hk0 : (0 : Int) ≤ (k : Int) := by omega
        have hk1 : (k : Int) < (n : Int) := by omega
        clear hp
        obtain ⟨q, hq⟩ : ∃ q, (p.toList == ws.toList) = q := ⟨_, rfl⟩
        have HQ : Sl (decide (bytes p = bytes ws) = q) := ⟨by rw [← beq_bytes2]; exact hq⟩
        cases q with
        | true =>
          go_wp2_with (first
            | (refine app_all (o := ⟨some 81, _, _, _, _, _⟩) rfl _ _ rfl WZ.heap.size _ _ [] b rfl (own_lit WZ) rfl (HCB.out _ HZ.out) HNB.out (by rw [alloc_size]; omega) ?_; intro v8 w8 HO8 HG8; obtain ⟨HB8', HB8⟩ := app_below HZ.out (own_lit WZ) HG8.out)
            | (refine app_all (o := ⟨some 84, _, _, _, _, _⟩) rfl _ _ rfl w8.heap.size _ _ [] a rfl (own_lit w8) rfl (HCA.out _ HB8.out) HNA.out (by rw [alloc_size]; omega) ?_; intro v9 w9 HO9 HG9; obtain ⟨HB9', HB9⟩ := app_below HB8.out (own_lit w8) HG9.out))
          rw [List.nil_append] at HO8 HO9
          refine (first_ex (o := fstIn b a) rfl HB9.out (HO8.out.strA.below HB9'.out) HO9.out.strA HLB.out.1 HLA.out.1 HLB.out.2 HLA.out.2).mono ?_
          rintro e w10 ⟨he, _, HB10⟩
          rw [strV_eq, HBK.out] at he
          subst he
          go_wp2
          go_ret
          exact ⟨ret_bool (by simp), HB10⟩
        | false =>
          have hr : decide (bytes p ∈ b.map bytes) = false := decide_eq_false (by
            rw [← HP.out]
            refine fst_before HO.out (by rw [HN.out]; exact hlt) (fun j hj => ?_)
            rw [HWS.out]
            by_cases e : j = k
            · subst e; rw [HP.out]; exact of_decide_eq_false HQ.out
            · exact HE.out j (by omega))
          have HR := Sl.mk hr
          clear hr
          go_wp2_with fail
          refine (HIN.out k false p _ HZ.out HR.out).mono ?_
          rintro e w6 ⟨rfl, rfl⟩
          go_wp2
          go_round
          case rel =>
            refine ⟨k + 1, by omega, by go_num, ⟨fun j hj => ?_⟩⟩
            by_cases e : j = k
            · subst e; rw [HP.out]; exact of_decide_eq_false HQ.out
            · exact HE.out j (by omega)
          case measure => simp [intOf]; omega
      · have hge : ((k : Int) < (n : Int)) = False := eq_false (by omega)
        go_wp2_with (first
          | (refine app_all (o := ⟨some 81, _, _, _, _, _⟩) rfl _ _ rfl WZ.heap.size _ _ [] b rfl (own_lit WZ) rfl (HCB.out _ HZ.out) HNB.out (by rw [alloc_size]; omega) ?_; intro v8 w8 HO8 HG8; obtain ⟨HB8', HB8⟩ := app_below HZ.out (own_lit WZ) HG8.out)
          | (refine app_all (o := ⟨some 84, _, _, _, _, _⟩) rfl _ _ rfl w8.heap.size _ _ [] a rfl (own_lit w8) rfl (HCA.out _ HB8.out) HNA.out (by rw [alloc_size]; omega) ?_; intro v9 w9 HO9 HG9; obtain ⟨HB9', HB9⟩ := app_below HB8.out (own_lit w8) HG9.out))
        rw [List.nil_append] at HO8 HO9
        refine (first_ex (o := fstIn b a) rfl HB9.out (HO8.out.strA.below HB9'.out) HO9.out.strA HLB.out.1 HLA.out.1 HLB.out.2 HLA.out.2).mono ?_
        rintro e w10 ⟨he, _, HB10⟩
        rw [strV_eq, HBK.out] at he
        subst he
        go_wp2
        go_ret
        exact ⟨ret_bool (by simp), HB10⟩
theorem some_walk (x : Value) (a : List ByteArray) (y : Value) (b : List ByteArray) (w : World) (hg : Globs w) (ha : StrA w x a) (hla : a.length ≤ maxLen) (hsa : ∀ s ∈ a, s.size ≤ maxLen) (hb : StrA w y b) (hlb : b.length ≤ maxLen) (hsb : ∀ s ∈ b, s.size ≤ maxLen) :
    Calls Tryd.prog 7 #[x, y] w fun e w' => e = .returned (.bool true) ∧ Below w.heap.size w w' := by
  by_cases h : fewB a = true ∧ fewB b = true
  · exact (some_walk_good x y a b w hg ha hb h.1 h.2).mono fun _ _ ⟨h1, h2⟩ => ⟨h1, h2.out⟩
  · refine (some_walk_bad x y a b w hg ha hb hla hsa hlb hsb ?_).mono fun _ _ ⟨h1, h2⟩ => ⟨h1, h2.out⟩
    cases hf : fewB a with
    | false => exact .inl rfl
    | true =>
      cases hf2 : fewB b with
      | false => exact .inr rfl
      | true => exact absurd ⟨hf, hf2⟩ h
end Go.Proofs.YtcdpkabbmdannaaDoor
