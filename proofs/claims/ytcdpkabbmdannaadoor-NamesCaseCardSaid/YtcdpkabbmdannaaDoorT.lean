/- NamesCase's walk. -/
import Derived.Test.YtcdpkabbmdannaaDoorBad
namespace Go.Proofs.YtcdpkabbmdannaaDoor
open Go.RowKit HeadPlain

set_option maxRecDepth 100000 in
set_option maxHeartbeats 2000000 in
theorem case_walk_bad (v : Value) (l : List ByteArray) (token : ByteArray) (w : World) (hg : Globs w) (hv : StrA w v l) (hl : l.length ≤ maxLen) (hs : ∀ s ∈ l, s.size ≤ maxLen) (ht : token.size ≤ maxLen) (hbad : fewB l = false ∨ 300 < token.size) :
    Calls Tryd.prog 6 #[v, .string token] w fun e w' => e = .returned (.bool true) ∧ Sl (Below w.heap.size w w') := by
  have HG := Sl.mk hg
  have HV := Sl.mk hv
  have HFEW : Sl (∀ r, fewB l = r → ∀ W, Below w.heap.size w W → Calls Tryd.prog 10 #[v] W fun e w' => e = .returned (.bool r) ∧ W = w') := ⟨fun r hr W hB => few_ex hr (hv.below hB) hl hs⟩
  unfold maxLen at ht
  clear hg hv hl hs
  obtain ⟨r, hr⟩ : ∃ r, fewB l = r := ⟨_, rfl⟩
  have HR := Sl.mk hr
  rw [hr] at hbad
  clear hr
  cases r with
  | false =>
    clear hbad
    go_enter Tryd.func6, Tryd.ntmps6
    go_wp2_with fail
    refine (awake_ex (below0 w) HG.out).mono ?_
    rintro e w1 ⟨rfl, _, HB1⟩
    go_wp2_with fail
    refine (HFEW.out _ HR.out _ HB1.out).mono ?_
    rintro e w2 ⟨rfl, rfl⟩
    go_wp2_with fail
    refine (awake_ex HB1.out HG.out).mono ?_
    rintro e w3 ⟨rfl, _, HB3⟩
    go_wp2
    go_ret
    exact ⟨rfl, HB3⟩
  | true =>
    have h3 : ((300 : Int) < (token.size : Int)) = True := eq_true (by rcases hbad with h | h; cases h; omega)
    clear hbad
    go_enter Tryd.func6, Tryd.ntmps6
    go_wp2_with fail
    refine (awake_ex (below0 w) HG.out).mono ?_
    rintro e w1 ⟨rfl, _, HB1⟩
    go_wp2_with fail
    refine (HFEW.out _ HR.out _ HB1.out).mono ?_
    rintro e w2 ⟨rfl, rfl⟩
    go_wp2_with fail
    refine (awake_ex HB1.out HG.out).mono ?_
    rintro e w3 ⟨rfl, _, HB3⟩
    go_wp2
    go_ret
    exact ⟨rfl, HB3⟩
theorem hasB_upT (token : ByteArray) (l : List ByteArray) : hasB (upS token) l = hasB token l := by
  unfold hasB; rw [upS_bytes, hasT_same]
theorem hasB_upL (token : ByteArray) (l : List ByteArray) : hasB token (l.map upS) = hasB token l := by
  unfold hasB
  rw [show (l.map upS).map bytes = (l.map bytes).map fun x => x.map up by rw [List.map_map, List.map_map]; exact List.map_congr_left (fun x _ => upS_bytes x), hasT_up]
theorem map_take_snoc {l : List ByteArray} {k : Nat} {p : ByteArray} (f : ByteArray → ByteArray) (hk : k < l.length) (hp : l.getD k ByteArray.empty = p) : (l.take (k + 1)).map f = (l.take k).map f ++ [f p] := by
  rw [take_snoc' hk, hp, List.map_append, List.map_singleton]
set_option maxRecDepth 100000 in
set_option maxHeartbeats 4000000 in
theorem case_walk_good (v : Value) (l : List ByteArray) (token : ByteArray) (w : World) (hg : Globs w) (hv : StrA w v l) (hf : fewB l = true) (ht : token.size ≤ 300) :
    Calls Tryd.prog 6 #[v, .string token] w fun e w' => e = .returned (.bool true) ∧ Sl (Below w.heap.size w w') := by
  have HG := Sl.mk hg
  have HV := Sl.mk hv
  obtain ⟨hf1, hf2⟩ := fewB_yes hf
  have HL : Sl (l.length ≤ 100 ∧ ∀ s ∈ l, s.size ≤ 1000) := ⟨by omega, fun s h => Nat.le_trans (hf1 s h) (by omega)⟩
  have HTK : Sl (token.size ≤ maxLen) := ⟨by unfold maxLen; omega⟩
  have HFEW : Sl (∀ W, Below w.heap.size w W → Calls Tryd.prog 10 #[v] W fun e w' => e = .returned (.bool true) ∧ W = w') := ⟨fun W hB => few_ex hf (hv.below hB) (by unfold maxLen; omega) (fun s h => Nat.le_trans (hf1 s h) (by unfold maxLen; omega))⟩
  have h3 : ((300 : Int) < (token.size : Int)) = False := eq_false (by omega)
  have HCP : Sl (∀ W, Below w.heap.size w W → StrA (W.alloc (.cells #[] 9)) v l) := ⟨fun W hB => hv.below (hB.alloc hB.size _)⟩
  have HLN : Sl (([] : List ByteArray).length + l.length ≤ 1000000) := ⟨by simp; omega⟩
  obtain ⟨q, hq⟩ : ∃ q, hasB token l = q := ⟨_, rfl⟩
  have HQ := Sl.mk hq
  have HQ1 : Sl (hasB (upS token) l = q) := ⟨by rw [hasB_upT]; exact hq⟩
  have HQ2 : Sl (hasB token (l.map upS) = q) := ⟨by rw [hasB_upL]; exact hq⟩
  have hqq : (q == q) = true := by simp
  have HUT : Sl ((upS token).size ≤ maxLen) := ⟨by rw [upS_size]; exact HTK.out⟩
  have HLU : Sl ((l.map upS).length ≤ 100 ∧ ∀ s ∈ l.map upS, s.size ≤ 1000) := ⟨by rw [List.length_map]; exact HL.out.1, fun s h => by
    obtain ⟨x, hx, rfl⟩ := List.mem_map.1 h
    rw [upS_size]; exact HL.out.2 x hx⟩
  have HUPT : Sl (∀ W, Calls Tryd.prog 21 #[.string token] W fun e w' => e = .returned (.string (upS token)) ∧ Sl (Below W.heap.size W w')) := ⟨fun W => upperL_any token W (by omega)⟩
  have HUPL : Sl (∀ (p : ByteArray) W, p ∈ l → Calls Tryd.prog 21 #[.string p] W fun e w' => e = .returned (.string (upS p)) ∧ Sl (Below W.heap.size W w')) := ⟨fun p W hp => upperL_any p W (by have := hf1 p hp; omega)⟩
  have hnl : l.length ≤ 30 := hf2
  obtain ⟨ad, ca, sa, oa, rfl, hca, haa, hcell⟩ := hv
  have HA := Sl.mk hcell
  have HAA := Sl.mk haa
  clear hg hf hf1 hf2 hq hca haa hcell
  obtain ⟨n, hn⟩ : ∃ n, l.length = n := ⟨_, rfl⟩
  have HN := Sl.mk hn
  rw [hn] at hnl HV HFEW HCP ⊢
  clear hn
  go_enter Tryd.func6, Tryd.ntmps6
  go_wp2_with fail
  refine (awake_ex (below0 w) HG.out).mono ?_
  rintro e w1 ⟨rfl, _, HB1⟩
  go_wp2_with fail
  refine (HFEW.out _ HB1.out).mono ?_
  rintro e w2 ⟨rfl, rfl⟩
  go_wp2_with fail
  have hz1 := HB1.out.size
  go_loopw [5, 6] (fun u i wr => ∃ (k : Nat) (m : List ByteArray), k ≤ n ∧ i = .int .i64 k ∧ m.length ≤ k ∧ Sl ((l.take k).map upS = m) ∧ Sl (OwnS wr w1.heap.size u m) ∧ Sl (Below w1.heap.size w1 wr)) (fun _ i _ => n - (intOf i).toNat)
  case atStart => exact ⟨0, [], Nat.zero_le _, rfl, Nat.le_refl _, ⟨rfl⟩, ⟨own_lit w1⟩, ⟨(Below.refl _ _).alloc (Nat.le_refl _) _⟩⟩
  case round =>
    obtain ⟨k, m, hk, rfl, hml, HM0, HO, HB⟩ := hrel
    obtain ⟨xa, xc, hu⟩ := HO.out.slice
    subst hu
    by_cases hlt : k < n
    · obtain rfl := HAA.out (by rw [HN.out]; omega)
      obtain ⟨p, hp⟩ : ∃ p, l.getD k ByteArray.empty = p := ⟨_, rfl⟩
      have HP := Sl.mk hp
      have HM : Sl (p ∈ l) := ⟨by rw [← hp]; exact getD_mem (by rw [HN.out]; exact hlt)⟩
      have HBW : Sl (Below w.heap.size w wr) := ⟨below_then HB1.out HB.out⟩
      have e0 : wr.cell? ⟨sa, oa + k, none⟩ = some (.string p) := by
        have h1 := HA.out k (by rw [HN.out]; omega)
        rw [HBW.out.cell (p := ⟨sa, oa + k, none⟩) (block_lt_of_cell h1), h1, hp]
      have hk0 : (0 : Int) ≤ (k : Int) := by omega
      have hk1 : (k : Int) < (n : Int) := by omega
      clear hp
      go_wp2_with fail
      refine (HUPL.out p _ HM.out).mono ?_
      rintro e w4 ⟨rfl, HB4⟩
      have hz4 := HB4.out.size
      have hz := HB.out.size
      have HO4 : Sl (OwnS (w4.alloc (.cells #[.string (upS p)] 9)) w1.heap.size (.slice xa m.length xc) m) := ⟨(HO.out.below HB4.out).below ((Below.refl _ w4).alloc (Nat.le_refl _) _)⟩
      go_wp2_with (refine app_str rfl rfl _ _ rfl w1.heap.size _ m (upS p) rfl HO4.out ⟨w4.heap.size, 0, none⟩ 1 rfl (by simp) rfl (by omega) (by rw [alloc_size]; omega) ?_; intro v' w5 HO5 HG5)
      refine ⟨⟨k + 1, m ++ [upS p], by omega, by go_num, by simp; omega, ⟨?_⟩, HO5, ⟨?_⟩⟩, by simp [intOf]; omega⟩
      · rw [map_take_snoc upS (by rw [HN.out]; exact hlt) HP.out, HM0.out]
      · exact ((HB.out.trans (HB4.out.mono hz)).alloc (by omega) _).grown HG5.out (by rw [alloc_size]; omega) (fun j hj => own_ge HO4.out hj)
    · have hge : ((k : Int) < (n : Int)) = False := eq_false (by omega)
      have hz := HB.out.size
      have HBW : Sl (Below w.heap.size w wr) := ⟨below_then HB1.out HB.out⟩
      have HU : Sl (StrA wr (.slice xa m.length xc) (l.map upS)) := ⟨by
        have h1 := HO.out.strA
        have h2 := HM0.out
        rw [List.take_of_length_le (by rw [HN.out]; omega)] at h2
        rw [h2]
        exact h1⟩
      go_wp2_with (refine app_all (o := ⟨some 39, _, _, _, _, _⟩) rfl _ _ rfl wr.heap.size _ _ [] l rfl (own_lit wr) rfl (HCP.out _ HBW.out) HLN.out (by rw [alloc_size]; omega) ?_; intro v6 w6 HO6 HG6; obtain ⟨HB6', HB6⟩ := app_below HBW.out (own_lit wr) HG6.out)
      rw [List.nil_append] at HO6
      refine (has_ex HQ.out HB6.out HG.out HO6.out.strA HL.out.1 HL.out.2 HTK.out).mono ?_
      rintro e w7 ⟨rfl, HB7', HB7⟩
      go_wp2_with fail
      refine (HUPT.out _).mono ?_
      rintro e w8 ⟨rfl, HB8'⟩
      have HB8 := Sl.mk (below_then HB7.out HB8'.out)
      go_wp2_with (refine app_all (o := ⟨some 46, _, _, _, _, _⟩) rfl _ _ rfl w8.heap.size _ _ [] l rfl (own_lit w8) rfl (HCP.out _ HB8.out) HLN.out (by rw [alloc_size]; omega) ?_; intro v9 w9 HO9 HG9; obtain ⟨HB9', HB9⟩ := app_below HB8.out (own_lit w8) HG9.out)
      rw [List.nil_append] at HO9
      refine (has_ex HQ1.out HB9.out HG.out HO9.out.strA HL.out.1 HL.out.2 HUT.out).mono ?_
      rintro e w10 ⟨rfl, HB10', HB10⟩
      have HU10 := Sl.mk (((((HU.out.below HB6'.out).below HB7'.out).below HB8'.out).below HB9'.out).below HB10'.out)
      go_wp2_with fail
      refine (has_ex HQ2.out HB10.out HG.out HU10.out HLU.out.1 HLU.out.2 HTK.out).mono ?_
      rintro e w11 ⟨rfl, _, HB11⟩
      go_wp2
      go_ret
      exact ⟨rfl, HB11⟩
theorem case_walk (v : Value) (l : List ByteArray) (token : ByteArray) (w : World) (hg : Globs w) (hv : StrA w v l) (hl : l.length ≤ maxLen) (hs : ∀ s ∈ l, s.size ≤ maxLen) (ht : token.size ≤ maxLen) :
    Calls Tryd.prog 6 #[v, .string token] w fun e w' => e = .returned (.bool true) ∧ Below w.heap.size w w' := by
  by_cases h : fewB l = true ∧ token.size ≤ 300
  · exact (case_walk_good v l token w hg hv h.1 h.2).mono fun _ _ ⟨h1, h2⟩ => ⟨h1, h2.out⟩
  · refine (case_walk_bad v l token w hg hv hl hs ht ?_).mono fun _ _ ⟨h1, h2⟩ => ⟨h1, h2.out⟩
    cases hf : fewB l with
    | false => exact .inl rfl
    | true => exact .inr (Nat.lt_of_not_le (fun h2 => h ⟨hf, h2⟩))
end Go.Proofs.YtcdpkabbmdannaaDoor
