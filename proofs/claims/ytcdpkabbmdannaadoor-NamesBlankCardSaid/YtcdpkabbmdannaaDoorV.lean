/- NamesBlank's walk. -/
import Derived.Test.YtcdpkabbmdannaaDoorR
import Derived.Test.YtcdpkabbmdannaaDoorU
namespace Go.Proofs.YtcdpkabbmdannaaDoor
open Go.RowKit HeadPlain

theorem tell_same {a b : List ByteArray} (h : toksAll (a.map bytes) = toksAll (b.map bytes)) : (tell a).all tokT = (tell b).all tokT ∧ ((tell b).all tokT = true → tell a = tell b) := by
  rw [tell_toks, tell_toks] at h
  cases ha : (tell a).all tokT <;> cases hb : (tell b).all tokT <;> rw [ha, hb] at h
  · exact ⟨rfl, fun h => by cases h⟩
  · simp at h
  · simp at h
  · exact ⟨rfl, fun _ => map_inj (by simpa using h)⟩
theorem list_no2 {w0 W : World} {l : List ByteArray} {v : Value} (h : (tell l).all tokT = false) (hB : Below w0.heap.size w0 W) (hg : Globs w0) (hv : StrA W v l) (hl : l.length ≤ 1000000) (hs : ∀ s ∈ l, s.size ≤ maxLen) (hT : (tell l).length ≤ 1000000) :
    Calls Tryd.prog 11 #[v] W fun e w' => e = .returned (.tuple #[.slice none 0 0, .int .i64 60]) ∧ Sl (Below W.heap.size W w') ∧ Sl (Below w0.heap.size w0 w') :=
  (list_any l v W hl hs hT (hg.of hB) hv).mono fun _ _ ⟨h1, h2⟩ => by
    rcases h1 with ⟨h0, _⟩ | ⟨_, he⟩
    · rw [h] at h0; cases h0
    · exact ⟨he, h2, ⟨below_then hB h2.out⟩⟩
theorem blanks_all {s : ByteArray} (h : ∀ j, j < s.size → (bytes s).getD j 0 = 32 ∨ (bytes s).getD j 0 = 9 ∨ (bytes s).getD j 0 = 44) : ∀ x ∈ bytes s, x = 32 ∨ x = 9 ∨ x = 44 := fun x hx => by
  obtain ⟨j, hj, rfl⟩ := List.getElem_of_mem hx
  have h1 := h j (by rw [← bytes_length]; exact hj)
  rw [List.getD_eq_getElem?_getD, List.getElem?_eq_getElem hj] at h1
  exact h1
theorem one_tell (x : ByteArray) (n : Nat) (h : x.size ≤ n) : (tell [x]).length ≤ n + 1 := by
  have := tell_len [x] n (fun s hs => by rw [List.mem_singleton.1 hs]; exact h)
  simpa using this
theorem toksAll_one (x : ByteArray) : toksAll ([x].map bytes) = toks (bytes x) := by rw [List.map_singleton, toksAll, toksAll, comb_nil]
set_option maxRecDepth 100000 in
set_option maxHeartbeats 8000000 in
theorem blank_walk_good (v : Value) (l : List ByteArray) (s : ByteArray) (w : World) (hg : Globs w) (hv : StrA w v l) (hfl : fewB l = true) (hsl : s.size ≤ 20) :
    Calls Tryd.prog 8 #[v, .string s] w fun e w' => e = .returned (.bool true) ∧ Sl (Below w.heap.size w w') := by
  have HG := Sl.mk hg
  obtain ⟨hf1, hf2⟩ := fewB_yes hfl
  have HF1 := Sl.mk hf1
  have HFL : Sl (∀ W, Below w.heap.size w W → Calls Tryd.prog 10 #[v] W fun e w' => e = .returned (.bool true) ∧ W = w') := ⟨fun W hB => few_ex hfl (hv.below hB) (by unfold maxLen; omega) (fun s h => Nat.le_trans (hf1 s h) (by unfold maxLen; omega))⟩
  obtain ⟨ad, ca, sa, oa, rfl, hca, haa, hcell⟩ := hv
  have HA := Sl.mk hcell
  have HAA := Sl.mk haa
  clear hg hfl hf1 hca haa hcell
  obtain ⟨n, hn⟩ : ∃ n, l.length = n := ⟨_, rfl⟩
  have HN := Sl.mk hn
  rw [hn] at hf2 HFL ⊢
  clear hn
  have h20 : ((20 : Int) < (s.size : Int)) = False := eq_false (by omega)
  go_enter Tryd.func8, Tryd.ntmps8
  go_wp2_with fail
  refine (awake_ex (below0 w) HG.out).mono ?_
  rintro e w1 ⟨rfl, _, HB1⟩
  go_wp2_with fail
  refine (HFL.out _ HB1.out).mono ?_
  rintro e w2 ⟨rfl, rfl⟩
  go_wp2_with fail
  go_loop [5] (fun i => ∃ k : Nat, k ≤ s.size ∧ i = .int .i64 k ∧ Sl (∀ j, j < k → (bytes s).getD j 0 = 32 ∨ (bytes s).getD j 0 = 9 ∨ (bytes s).getD j 0 = 44)) (fun i => s.size - (intOf i).toNat)
  case atStart => exact ⟨0, Nat.zero_le _, rfl, ⟨fun j hj => by omega⟩⟩
  case round =>
    obtain ⟨k, hk, rfl, HS⟩ := hrel
    by_cases hlt : k < s.size
    · obtain ⟨c, hc⟩ : ∃ c, (s[k]'hlt).toNat = c := ⟨_, rfl⟩
      have HC : Sl ((bytes s).getD k 0 = c) := ⟨by rw [bytes_getD s k hlt, ← hc]; rfl⟩
      have hk0 : (0 : Int) ≤ (k : Int) := by omega
      have hk1 : (k : Int) < (s.size : Int) := by omega
      by_cases h1 : c = 32
      · subst h1
        go_wp2
        refine ⟨⟨k + 1, by omega, by go_num, ⟨fun j hj => ?_⟩⟩, by simp [intOf]; omega⟩
        by_cases e : j = k
        · subst e; exact .inl HC.out
        · exact HS.out j (by omega)
      · by_cases h2 : c = 9
        · subst h2
          go_wp2
          refine ⟨⟨k + 1, by omega, by go_num, ⟨fun j hj => ?_⟩⟩, by simp [intOf]; omega⟩
          by_cases e : j = k
          · subst e; exact .inr (.inl HC.out)
          · exact HS.out j (by omega)
        · by_cases h3 : c = 44
          · subst h3
            go_wp2
            refine ⟨⟨k + 1, by omega, by go_num, ⟨fun j hj => ?_⟩⟩, by simp [intOf]; omega⟩
            by_cases e : j = k
            · subst e; exact .inr (.inr HC.out)
            · exact HS.out j (by omega)
          · have h1' : ((c : Int) != 32) = true := bne_iff_ne.2 (by omega)
            have h2' : ((c : Int) != 9) = true := bne_iff_ne.2 (by omega)
            have h3' : ((c : Int) != 44) = true := bne_iff_ne.2 (by omega)
            go_wp2
            go_ret
            exact ⟨rfl, HB1⟩
    · have hge : ((k : Int) < (s.size : Int)) = False := eq_false (by omega)
      have HBL : Sl (∀ x ∈ bytes s, x = 32 ∨ x = 9 ∨ x = 44) := ⟨blanks_all (fun j hj => HS.out j (by omega))⟩
      clear HS
      go_wp2_with fail
      go_loop [6, 7, 8] (fun o t i => ∃ (k : Nat) (a b : ByteArray), k ≤ n ∧ o = .string a ∧ t = .string b ∧ i = .int .i64 k ∧ a.size ≤ k * 301 ∧ b.size ≤ k * 341 ∧ Sl (bytes a = ((l.take k).map bytes).flatMap fun t => t ++ [44]) ∧ Sl (bytes b = ((l.take k).map bytes).flatMap fun t => bytes s ++ t ++ bytes s ++ [44])) (fun _ _ i => n - (intOf i).toNat)
      case atStart => exact ⟨0, ByteArray.empty, ByteArray.empty, Nat.zero_le _, rfl, rfl, rfl, by simp, by simp, ⟨rfl⟩, ⟨rfl⟩⟩
      case round =>
        obtain ⟨k, a, b, hk, rfl, rfl, rfl, has, hbs, HA1, HB2⟩ := hrel
        by_cases hlt : k < n
        · obtain rfl := HAA.out (by rw [HN.out]; omega)
          obtain ⟨p, hp⟩ : ∃ p, l.getD k ByteArray.empty = p := ⟨_, rfl⟩
          have HP := Sl.mk hp
          have hps : p.size ≤ 300 := HF1.out p (by rw [← hp]; exact getD_mem (by rw [HN.out]; exact hlt))
          have e0 : w1.cell? ⟨sa, oa + k, none⟩ = some (.string p) := by
            have h1 := HA.out k (by rw [HN.out]; omega)
            rw [HB1.out.cell (p := ⟨sa, oa + k, none⟩) (block_lt_of_cell h1), h1, hp]
          have hk0 : (0 : Int) ≤ (k : Int) := by omega
          have hk1 : (k : Int) < (n : Int) := by omega
          have hal : a.size ≤ 20000 := by omega
          have hbl : b.size ≤ 20000 := by omega
          clear hp
          go_wp2
          have e1 : ByteArray.size { data := #[44] } = 1 := rfl
          refine ⟨⟨k + 1, _, _, by omega, rfl, rfl, by go_num, ?_, ?_, ⟨?_⟩, ⟨?_⟩⟩, by simp [intOf]; omega⟩
          · rw [ByteArray.size_append, ByteArray.size_append, e1]
            omega
          · rw [ByteArray.size_append, ByteArray.size_append, ByteArray.size_append, ByteArray.size_append, e1]
            omega
          · rw [take_snoc' (by rw [HN.out]; exact hlt), HP.out, List.map_append, List.flatMap_append, ← HA1.out, bytes_append, bytes_append]
            show _ = bytes a ++ ((bytes p ++ [44]) ++ [])
            rw [List.append_nil]
            rfl
          · rw [take_snoc' (by rw [HN.out]; exact hlt), HP.out, List.map_append, List.flatMap_append, ← HB2.out, bytes_append, bytes_append, bytes_append, bytes_append]
            show _ = bytes b ++ ((bytes s ++ bytes p ++ bytes s ++ [44]) ++ [])
            rw [List.append_nil]
            rfl
        · have hge2 : ((k : Int) < (n : Int)) = False := eq_false (by omega)
          have hal : a.size ≤ 20000 := by omega
          have hbl : b.size ≤ 20000 := by omega
          have HTA : Sl ((tell [a]).all tokT = (tell l).all tokT ∧ ((tell l).all tokT = true → tell [a] = tell l)) := ⟨tell_same (by
            rw [toksAll_one, HA1.out, List.take_of_length_le (by rw [HN.out]; omega)]
            exact toks_joined _)⟩
          have HTB : Sl ((tell [b]).all tokT = (tell l).all tokT ∧ ((tell l).all tokT = true → tell [b] = tell l)) := ⟨tell_same (by
            rw [toksAll_one, HB2.out, List.take_of_length_le (by rw [HN.out]; omega)]
            exact toks_blanks HBL.out _)⟩
          have HLA : Sl ((∀ s ∈ [a], s.size ≤ maxLen) ∧ (tell [a]).length ≤ 1000000) := ⟨fun s hs => by rw [List.mem_singleton.1 hs]; unfold maxLen; omega, by have := one_tell a 20000 hal; omega⟩
          have HLB : Sl ((∀ s ∈ [b], s.size ≤ maxLen) ∧ (tell [b]).length ≤ 1000000) := ⟨fun s hs => by rw [List.mem_singleton.1 hs]; unfold maxLen; omega, by have := one_tell b 20000 hbl; omega⟩
          obtain ⟨r, hr⟩ : ∃ r, (tell l).all tokT = r := ⟨_, rfl⟩
          have HRA : Sl ((tell [a]).all tokT = r) := ⟨HTA.out.1.trans hr⟩
          have HRB : Sl ((tell [b]).all tokT = r) := ⟨HTB.out.1.trans hr⟩
          have HTE : Sl (r = true → tell [a] = tell l ∧ tell [b] = tell l) := ⟨fun h => ⟨HTA.out.2 (hr.trans h), HTB.out.2 (hr.trans h)⟩⟩
          have HLL : Sl ((tell l).length ≤ 1000000) := ⟨by
            have := tell_len l 300 HF1.out
            rw [HN.out] at this
            have := Nat.mul_le_mul_right 301 hf2
            omega⟩
          clear HTA HTB hr HA1 HB2 HBL HF1
          cases r with
          | true =>
            go_wp2_with fail
            refine (list_yes2 HRA.out (HB1.out.alloc HB1.out.size _) HG.out (strA_lit w1 [a] _ rfl) (by simp) HLA.out.1 HLA.out.2).mono ?_
            rintro e w3 ⟨⟨av, rfl, HAV⟩, _, HB3⟩
            rw [(HTE.out (by trivial)).1] at HAV
            go_wp2_with fail
            refine (list_yes2 HRB.out (HB3.out.alloc HB3.out.size _) HG.out (strA_lit w3 [b] _ rfl) (by simp) HLB.out.1 HLB.out.2).mono ?_
            rintro e w4 ⟨⟨bv, rfl, HBV⟩, HB4', HB4⟩
            have H34 : Sl (Below w3.heap.size w3 w4) := ⟨below_then ((Below.refl _ w3).alloc (Nat.le_refl _) _) HB4'.out⟩
            rw [(HTE.out (by trivial)).2] at HBV
            go_wp2_with fail
            refine (row_ex (a := tell l) (b := tell l) (r := true) (decide_eq_true rfl) HB4.out (HAV.out.below H34.out) HBV.out HLL.out).mono ?_
            rintro e w5 ⟨rfl, _, HB5⟩
            go_wp2
            go_ret
            exact ⟨rfl, HB5⟩
          | false =>
            go_wp2_with fail
            refine (list_no2 HRA.out (HB1.out.alloc HB1.out.size _) HG.out (strA_lit w1 [a] _ rfl) (by simp) HLA.out.1 HLA.out.2).mono ?_
            rintro e w3 ⟨rfl, _, HB3⟩
            go_wp2_with fail
            refine (list_no2 HRB.out (HB3.out.alloc HB3.out.size _) HG.out (strA_lit w3 [b] _ rfl) (by simp) HLB.out.1 HLB.out.2).mono ?_
            rintro e w4 ⟨rfl, HB4', HB4⟩
            go_wp2_with fail
            refine (row_ex (a := []) (b := []) (r := true) (decide_eq_true rfl) HB4.out (strA_nil _) (strA_nil _) (by decide)).mono ?_
            rintro e w5 ⟨rfl, _, HB5⟩
            go_wp2
            go_ret
            exact ⟨rfl, HB5⟩
set_option maxRecDepth 100000 in
set_option maxHeartbeats 2000000 in
theorem blank_walk_bad (v : Value) (l : List ByteArray) (token : ByteArray) (w : World) (hg : Globs w) (hv : StrA w v l) (hl : l.length ≤ maxLen) (hs : ∀ s ∈ l, s.size ≤ maxLen) (ht : token.size ≤ maxLen) (hbad : fewB l = false ∨ 20 < token.size) :
    Calls Tryd.prog 8 #[v, .string token] w fun e w' => e = .returned (.bool true) ∧ Sl (Below w.heap.size w w') := by
  have HG := Sl.mk hg
  have HV := Sl.mk hv
  have HFEW : Sl (∀ r, fewB l = r → ∀ W, Below w.heap.size w W → Calls Tryd.prog 10 #[v] W fun e w' => e = .returned (.bool r) ∧ W = w') := ⟨fun r hr W hB => few_ex hr (hv.below hB) hl hs⟩
  unfold maxLen at ht
  clear hg hv hl hs
  obtain ⟨r, hr⟩ : ∃ r, fewB l = r := ⟨_, rfl⟩
  have HR := Sl.mk hr
  rw [hr] at hbad
  clear hr
  cases r with
  | false =>
    clear hbad
    go_enter Tryd.func8, Tryd.ntmps8
    go_wp2_with fail
    refine (awake_ex (below0 w) HG.out).mono ?_
    rintro e w1 ⟨rfl, _, HB1⟩
    go_wp2_with fail
    refine (HFEW.out _ HR.out _ HB1.out).mono ?_
    rintro e w2 ⟨rfl, rfl⟩
    go_wp2_with fail
    refine (awake_ex HB1.out HG.out).mono ?_
    rintro e w3 ⟨rfl, _, HB3⟩
    go_wp2
    go_ret
    exact ⟨rfl, HB3⟩
  | true =>
    have h3 : ((20 : Int) < (token.size : Int)) = True := eq_true (by rcases hbad with h | h; cases h; omega)
    clear hbad
    go_enter Tryd.func8, Tryd.ntmps8
    go_wp2_with fail
    refine (awake_ex (below0 w) HG.out).mono ?_
    rintro e w1 ⟨rfl, _, HB1⟩
    go_wp2_with fail
    refine (HFEW.out _ HR.out _ HB1.out).mono ?_
    rintro e w2 ⟨rfl, rfl⟩
    go_wp2_with fail
    refine (awake_ex HB1.out HG.out).mono ?_
    rintro e w3 ⟨rfl, _, HB3⟩
    go_wp2
    go_ret
    exact ⟨rfl, HB3⟩
theorem blank_walk (v : Value) (l : List ByteArray) (token : ByteArray) (w : World) (hg : Globs w) (hv : StrA w v l) (hl : l.length ≤ maxLen) (hs : ∀ s ∈ l, s.size ≤ maxLen) (ht : token.size ≤ maxLen) :
    Calls Tryd.prog 8 #[v, .string token] w fun e w' => e = .returned (.bool true) ∧ Below w.heap.size w w' := by
  by_cases h : fewB l = true ∧ token.size ≤ 20
  · exact (blank_walk_good v l token w hg hv h.1 h.2).mono fun _ _ ⟨h1, h2⟩ => ⟨h1, h2.out⟩
  · refine (blank_walk_bad v l token w hg hv hl hs ht ?_).mono fun _ _ ⟨h1, h2⟩ => ⟨h1, h2.out⟩
    cases hf : fewB l with
    | false => exact .inl rfl
    | true => exact .inr (Nat.lt_of_not_le (fun h2 => h ⟨hf, h2⟩))
end Go.Proofs.YtcdpkabbmdannaaDoor
