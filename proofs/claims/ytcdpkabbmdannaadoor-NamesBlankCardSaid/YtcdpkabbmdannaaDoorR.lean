/- NamesJoin's walk. -/
import Derived.Test.YtcdpkabbmdannaaDoorBad
namespace Go.Proofs.YtcdpkabbmdannaaDoor
open Go.RowKit HeadPlain

theorem tell_append (a b : List ByteArray) : tell (a ++ b) = tell a ++ tell b := by unfold tell; rw [List.flatMap_append]
theorem tell_le (l : List ByteArray) (b : Nat) (h : ∀ s ∈ l, s.size ≤ b) : ∀ t ∈ tell l, t.size ≤ b := fun t ht => by
  unfold tell at ht
  obtain ⟨s, hs, ht⟩ := List.mem_flatMap.1 ht
  unfold tellC at ht
  obtain ⟨p, hp, rfl⟩ := List.mem_map.1 (List.mem_filter.1 ht).1
  exact Nat.le_trans (trimS_le p) (Nat.le_trans (cuts_le s p hp) (h s hs))
theorem list_yes2 {w0 W : World} {l : List ByteArray} {v : Value} (h : (tell l).all tokT = true) (hB : Below w0.heap.size w0 W) (hg : Globs w0) (hv : StrA W v l) (hl : l.length ≤ 1000000) (hs : ∀ s ∈ l, s.size ≤ maxLen) (hT : (tell l).length ≤ 1000000) :
    Calls Tryd.prog 11 #[v] W fun e w' => (∃ v, e = .returned (.tuple #[v, .int .i64 0]) ∧ Sl (StrA w' v (tell l))) ∧ Sl (Below W.heap.size W w') ∧ Sl (Below w0.heap.size w0 w') :=
  (list_any l v W hl hs hT (hg.of hB) hv).mono fun _ _ ⟨h1, h2⟩ => by
    rcases h1 with ⟨_, v, he, ho⟩ | ⟨h0, _⟩
    · exact ⟨⟨v, he, ⟨ho.strA⟩⟩, h2, ⟨below_then hB h2.out⟩⟩
    · rw [h] at h0; cases h0
/-- Tokens written anew. -/
theorem tell_anew {z : List ByteArray} {s : ByteArray} (hz : z.all tokT = true) (h : bytes s = (z.map bytes).flatMap fun t => 32 :: t ++ [9, 44]) : (tell [s]).all tokT = true ∧ tell [s] = z := by
  have h1 : toks (bytes s) = some (z.map bytes) := by
    rw [h]
    refine toks_anew _ (fun t ht => ?_)
    obtain ⟨x, hx, rfl⟩ := List.mem_map.1 ht
    exact List.all_eq_true.1 hz x hx
  have h2 : toksAll ([s].map bytes) = some (z.map bytes) := by
    rw [List.map_singleton, toksAll, toksAll, comb_nil]; exact h1
  refine ⟨?_, (toks_tell h2).symm⟩
  rw [tell_toks] at h2
  split at h2
  · assumption
  · cases h2
set_option maxRecDepth 100000 in
set_option maxHeartbeats 8000000 in
theorem join_walk_good (x y : Value) (a b : List ByteArray) (w : World) (hg : Globs w) (ha : StrA w x a) (hb : StrA w y b) (hfa : fewB a = true) (hfb : fewB b = true) :
    Calls Tryd.prog 4 #[x, y] w fun e w' => e = .returned (.bool true) ∧ Sl (Below w.heap.size w w') := by
  have HG := Sl.mk hg
  have HVA := Sl.mk ha
  have HVB := Sl.mk hb
  obtain ⟨hf1, hf2⟩ := fewB_yes hfa
  obtain ⟨hf3, hf4⟩ := fewB_yes hfb
  have HLA : Sl (a.length ≤ 100 ∧ ∀ s ∈ a, s.size ≤ 1000) := ⟨by omega, fun s h => Nat.le_trans (hf1 s h) (by omega)⟩
  have HLB : Sl (b.length ≤ 100 ∧ ∀ s ∈ b, s.size ≤ 1000) := ⟨by omega, fun s h => Nat.le_trans (hf3 s h) (by omega)⟩
  have HFA : Sl (∀ W, Below w.heap.size w W → Calls Tryd.prog 10 #[x] W fun e w' => e = .returned (.bool true) ∧ W = w') := ⟨fun W hB => few_ex hfa (ha.below hB) (by unfold maxLen; omega) (fun s h => Nat.le_trans (hf1 s h) (by unfold maxLen; omega))⟩
  have HFB : Sl (∀ W, Below w.heap.size w W → Calls Tryd.prog 10 #[y] W fun e w' => e = .returned (.bool true) ∧ W = w') := ⟨fun W hB => few_ex hfb (hb.below hB) (by unfold maxLen; omega) (fun s h => Nat.le_trans (hf3 s h) (by unfold maxLen; omega))⟩
  have HCA : Sl (∀ W, Below w.heap.size w W → StrA (W.alloc (.cells #[] 9)) x a) := ⟨fun W hB => ha.below (hB.alloc hB.size _)⟩
  have HCB : Sl (∀ W, Below w.heap.size w W → StrA (W.alloc (.cells #[] 9)) y b) := ⟨fun W hB => hb.below (hB.alloc hB.size _)⟩
  have HNA : Sl (([] : List ByteArray).length + a.length ≤ 1000000) := ⟨by simp; omega⟩
  have HNB : Sl (([] : List ByteArray).length + b.length ≤ 1000000) := ⟨by simp; omega⟩
  have hal : a.length ≤ 30 := hf2
  have HZL : Sl ((tell (a ++ b)).length ≤ 18060 ∧ ∀ t ∈ tell (a ++ b), t.size ≤ 300) := ⟨by
    have h0 : ∀ s ∈ a ++ b, s.size ≤ 300 := fun s h => by
      rcases List.mem_append.1 h with h | h
      · exact hf1 s h
      · exact hf3 s h
    have := tell_len (a ++ b) 300 h0
    rw [List.length_append] at this
    exact ⟨by have := Nat.mul_le_mul_right 301 (Nat.add_le_add hf2 hf4); omega, tell_le _ 300 h0⟩⟩
  have HTA : Sl ((tell a).length ≤ 18060 ∧ (tell b).length ≤ 18060) := ⟨by
    have := HZL.out.1
    rw [tell_append, List.length_append] at this
    omega⟩
  have HLAB : Sl ((a ++ b).length ≤ 100 ∧ ∀ s ∈ a ++ b, s.size ≤ 1000) := ⟨by rw [List.length_append]; omega, fun s h => by
    rcases List.mem_append.1 h with h | h
    · exact HLA.out.2 s h
    · exact HLB.out.2 s h⟩
  have HAB : Sl (a.length + b.length ≤ 1000000) := ⟨by omega⟩
  obtain ⟨ra, hra⟩ : ∃ r, (tell a).all tokT = r := ⟨_, rfl⟩
  obtain ⟨rb, hrb⟩ : ∃ r, (tell b).all tokT = r := ⟨_, rfl⟩
  have HRA := Sl.mk hra
  have HRB := Sl.mk hrb
  have HRAB : Sl ((tell (a ++ b)).all tokT = (ra && rb)) := ⟨by rw [tell_append, List.all_append, hra, hrb]⟩
  clear hg ha hb hfa hfb hf1 hf2 hf3 hf4 hra hrb hal
  go_enter Tryd.func4, Tryd.ntmps4
  go_wp2_with fail
  refine (awake_ex (below0 w) HG.out).mono ?_
  rintro e w1 ⟨rfl, _, HB1⟩
  go_wp2_with fail
  refine (HFA.out _ HB1.out).mono ?_
  rintro e w2 ⟨rfl, rfl⟩
  go_wp2_with fail
  refine (HFB.out _ HB1.out).mono ?_
  rintro e w2 ⟨rfl, rfl⟩
  cases ra with
  | false =>
    cases rb with
    | false =>
      go_wp2_with (refine app_all (o := ⟨some 31, _, _, _, _, _⟩) rfl _ _ rfl w1.heap.size _ _ [] a rfl (own_lit w1) rfl (HCA.out _ HB1.out) HNA.out (by rw [alloc_size]; omega) ?_; intro v3 w3 HO3 HG3; obtain ⟨HB3', HB3⟩ := app_below HB1.out (own_lit w1) HG3.out)
      rw [List.nil_append] at HO3
      refine (list_no HRA.out HB3.out HG.out HO3.out.strA HLA.out.1 HLA.out.2).mono ?_
      rintro e w4 ⟨rfl, HB4', HB4⟩
      go_wp2_with (refine app_all (o := ⟨some 38, _, _, _, _, _⟩) rfl _ _ rfl w4.heap.size _ _ [] b rfl (own_lit w4) rfl (HCB.out _ HB4.out) HNB.out (by rw [alloc_size]; omega) ?_; intro v5 w5 HO5 HG5; obtain ⟨HB5', HB5⟩ := app_below HB4.out (own_lit w4) HG5.out)
      rw [List.nil_append] at HO5
      refine (list_no HRB.out HB5.out HG.out HO5.out.strA HLB.out.1 HLB.out.2).mono ?_
      rintro e w6 ⟨rfl, HB6', HB6⟩
      go_wp2_with (first
        | (refine app_all (o := ⟨some 45, _, _, _, _, _⟩) rfl _ _ rfl w6.heap.size _ _ [] a rfl (own_lit w6) rfl (HCA.out _ HB6.out) HNA.out (by rw [alloc_size]; omega) ?_; intro v7 w7 HO7 HG7; obtain ⟨HB7', HB7⟩ := app_below HB6.out (own_lit w6) HG7.out)
        | (refine app_all (o := ⟨some 47, _, _, _, _, _⟩) rfl _ _ rfl w6.heap.size _ _ ([] ++ a) b rfl HO7.out rfl (HVB.out.below HB7.out) HAB.out (by have := HB7'.out.size; omega) ?_; intro v8 w8 HO8 HG8))
      have HB8' : Sl (Below w6.heap.size w6 w8) := ⟨HB7'.out.grown HG8.out HB7'.out.size (fun k hk => own_ge HO7.out hk)⟩
      have HB8 := Sl.mk (below_then HB6.out HB8'.out)
      rw [List.nil_append] at HO8
      refine (list_no HRAB.out HB8.out HG.out HO8.out.strA HLAB.out.1 HLAB.out.2).mono ?_
      rintro e w9 ⟨rfl, _, HB9⟩
      go_wp2
      go_ret
      exact ⟨rfl, HB9⟩
    | true =>
      go_wp2_with (refine app_all (o := ⟨some 31, _, _, _, _, _⟩) rfl _ _ rfl w1.heap.size _ _ [] a rfl (own_lit w1) rfl (HCA.out _ HB1.out) HNA.out (by rw [alloc_size]; omega) ?_; intro v3 w3 HO3 HG3; obtain ⟨HB3', HB3⟩ := app_below HB1.out (own_lit w1) HG3.out)
      rw [List.nil_append] at HO3
      refine (list_no HRA.out HB3.out HG.out HO3.out.strA HLA.out.1 HLA.out.2).mono ?_
      rintro e w4 ⟨rfl, HB4', HB4⟩
      go_wp2_with (refine app_all (o := ⟨some 38, _, _, _, _, _⟩) rfl _ _ rfl w4.heap.size _ _ [] b rfl (own_lit w4) rfl (HCB.out _ HB4.out) HNB.out (by rw [alloc_size]; omega) ?_; intro v5 w5 HO5 HG5; obtain ⟨HB5', HB5⟩ := app_below HB4.out (own_lit w4) HG5.out)
      rw [List.nil_append] at HO5
      refine (list_yes HRB.out HB5.out HG.out HO5.out.strA HLB.out.1 HLB.out.2).mono ?_
      rintro e w6 ⟨⟨yv, rfl, HY⟩, HB6', HB6⟩
      go_wp2_with (first
        | (refine app_all (o := ⟨some 45, _, _, _, _, _⟩) rfl _ _ rfl w6.heap.size _ _ [] a rfl (own_lit w6) rfl (HCA.out _ HB6.out) HNA.out (by rw [alloc_size]; omega) ?_; intro v7 w7 HO7 HG7; obtain ⟨HB7', HB7⟩ := app_below HB6.out (own_lit w6) HG7.out)
        | (refine app_all (o := ⟨some 47, _, _, _, _, _⟩) rfl _ _ rfl w6.heap.size _ _ ([] ++ a) b rfl HO7.out rfl (HVB.out.below HB7.out) HAB.out (by have := HB7'.out.size; omega) ?_; intro v8 w8 HO8 HG8))
      have HB8' : Sl (Below w6.heap.size w6 w8) := ⟨HB7'.out.grown HG8.out HB7'.out.size (fun k hk => own_ge HO7.out hk)⟩
      have HB8 := Sl.mk (below_then HB6.out HB8'.out)
      rw [List.nil_append] at HO8
      refine (list_no HRAB.out HB8.out HG.out HO8.out.strA HLAB.out.1 HLAB.out.2).mono ?_
      rintro e w9 ⟨rfl, _, HB9⟩
      go_wp2
      go_ret
      exact ⟨rfl, HB9⟩
  | true =>
    cases rb with
    | false =>
      go_wp2_with (refine app_all (o := ⟨some 31, _, _, _, _, _⟩) rfl _ _ rfl w1.heap.size _ _ [] a rfl (own_lit w1) rfl (HCA.out _ HB1.out) HNA.out (by rw [alloc_size]; omega) ?_; intro v3 w3 HO3 HG3; obtain ⟨HB3', HB3⟩ := app_below HB1.out (own_lit w1) HG3.out)
      rw [List.nil_append] at HO3
      refine (list_yes HRA.out HB3.out HG.out HO3.out.strA HLA.out.1 HLA.out.2).mono ?_
      rintro e w4 ⟨⟨xv, rfl, HX⟩, HB4', HB4⟩
      go_wp2_with (refine app_all (o := ⟨some 38, _, _, _, _, _⟩) rfl _ _ rfl w4.heap.size _ _ [] b rfl (own_lit w4) rfl (HCB.out _ HB4.out) HNB.out (by rw [alloc_size]; omega) ?_; intro v5 w5 HO5 HG5; obtain ⟨HB5', HB5⟩ := app_below HB4.out (own_lit w4) HG5.out)
      rw [List.nil_append] at HO5
      refine (list_no HRB.out HB5.out HG.out HO5.out.strA HLB.out.1 HLB.out.2).mono ?_
      rintro e w6 ⟨rfl, HB6', HB6⟩
      go_wp2_with (first
        | (refine app_all (o := ⟨some 45, _, _, _, _, _⟩) rfl _ _ rfl w6.heap.size _ _ [] a rfl (own_lit w6) rfl (HCA.out _ HB6.out) HNA.out (by rw [alloc_size]; omega) ?_; intro v7 w7 HO7 HG7; obtain ⟨HB7', HB7⟩ := app_below HB6.out (own_lit w6) HG7.out)
        | (refine app_all (o := ⟨some 47, _, _, _, _, _⟩) rfl _ _ rfl w6.heap.size _ _ ([] ++ a) b rfl HO7.out rfl (HVB.out.below HB7.out) HAB.out (by have := HB7'.out.size; omega) ?_; intro v8 w8 HO8 HG8))
      have HB8' : Sl (Below w6.heap.size w6 w8) := ⟨HB7'.out.grown HG8.out HB7'.out.size (fun k hk => own_ge HO7.out hk)⟩
      have HB8 := Sl.mk (below_then HB6.out HB8'.out)
      rw [List.nil_append] at HO8
      refine (list_no HRAB.out HB8.out HG.out HO8.out.strA HLAB.out.1 HLAB.out.2).mono ?_
      rintro e w9 ⟨rfl, _, HB9⟩
      go_wp2
      go_ret
      exact ⟨rfl, HB9⟩
    | true =>
      go_wp2_with (refine app_all (o := ⟨some 31, _, _, _, _, _⟩) rfl _ _ rfl w1.heap.size _ _ [] a rfl (own_lit w1) rfl (HCA.out _ HB1.out) HNA.out (by rw [alloc_size]; omega) ?_; intro v3 w3 HO3 HG3; obtain ⟨HB3', HB3⟩ := app_below HB1.out (own_lit w1) HG3.out)
      rw [List.nil_append] at HO3
      refine (list_yes HRA.out HB3.out HG.out HO3.out.strA HLA.out.1 HLA.out.2).mono ?_
      rintro e w4 ⟨⟨xv, rfl, HX⟩, HB4', HB4⟩
      go_wp2_with (refine app_all (o := ⟨some 38, _, _, _, _, _⟩) rfl _ _ rfl w4.heap.size _ _ [] b rfl (own_lit w4) rfl (HCB.out _ HB4.out) HNB.out (by rw [alloc_size]; omega) ?_; intro v5 w5 HO5 HG5; obtain ⟨HB5', HB5⟩ := app_below HB4.out (own_lit w4) HG5.out)
      rw [List.nil_append] at HO5
      refine (list_yes HRB.out HB5.out HG.out HO5.out.strA HLB.out.1 HLB.out.2).mono ?_
      rintro e w6 ⟨⟨yv, rfl, HY⟩, HB6', HB6⟩
      go_wp2_with (first
        | (refine app_all (o := ⟨some 45, _, _, _, _, _⟩) rfl _ _ rfl w6.heap.size _ _ [] a rfl (own_lit w6) rfl (HCA.out _ HB6.out) HNA.out (by rw [alloc_size]; omega) ?_; intro v7 w7 HO7 HG7; obtain ⟨HB7', HB7⟩ := app_below HB6.out (own_lit w6) HG7.out)
        | (refine app_all (o := ⟨some 47, _, _, _, _, _⟩) rfl _ _ rfl w6.heap.size _ _ ([] ++ a) b rfl HO7.out rfl (HVB.out.below HB7.out) HAB.out (by have := HB7'.out.size; omega) ?_; intro v8 w8 HO8 HG8))
      have HB8' : Sl (Below w6.heap.size w6 w8) := ⟨HB7'.out.grown HG8.out HB7'.out.size (fun k hk => own_ge HO7.out hk)⟩
      have HB8 := Sl.mk (below_then HB6.out HB8'.out)
      rw [List.nil_append] at HO8
      refine (list_yes HRAB.out HB8.out HG.out HO8.out.strA HLAB.out.1 HLAB.out.2).mono ?_
      rintro e w9 ⟨⟨zv, rfl, HZ⟩, HB9', HB9⟩
      go_wp2_with fail
      have HZZ : Sl (StrA w9 zv (tell (a ++ b))) := HZ
      obtain ⟨z, hz⟩ : ∃ z, tell (a ++ b) = z := ⟨_, rfl⟩
      have HZE := Sl.mk hz
      have HZT : Sl (z.all tokT = true) := ⟨by rw [← hz, HRAB.out]; rfl⟩
      rw [hz] at HZ HZL HZZ
      obtain ⟨zd, zc, zb, zo, hze, _, zad, zcell⟩ := HZ.out
      subst hze
      have HCZ := Sl.mk zcell
      have HAZ := Sl.mk zad
      have hzl := HZL.out.1
      clear hz zad zcell HZ HO3 HO5 HO7 HO8 HG3 HG5 HG7 HG8
      obtain ⟨m, hm⟩ : ∃ m, z.length = m := ⟨_, rfl⟩
      have HM := Sl.mk hm
      rw [hm] at hzl HZZ ⊢
      clear hm
      go_loop [11, 12] (fun t i => ∃ (k : Nat) (u : ByteArray), k ≤ m ∧ t = .string u ∧ i = .int .i64 k ∧ u.size ≤ k * 303 ∧ Sl (bytes u = ((z.take k).map bytes).flatMap fun t => 32 :: t ++ [9, 44])) (fun _ i => m - (intOf i).toNat)
      case atStart => exact ⟨0, ByteArray.empty, Nat.zero_le _, rfl, rfl, by simp, ⟨rfl⟩⟩
      case round =>
        obtain ⟨k, u, hk, rfl, rfl, hus, HU⟩ := hrel
        by_cases hlt : k < m
        · obtain rfl := HAZ.out (by rw [HM.out]; omega)
          obtain ⟨p, hp⟩ : ∃ p, z.getD k ByteArray.empty = p := ⟨_, rfl⟩
          have HP := Sl.mk hp
          have hps : p.size ≤ 300 := HZL.out.2 p (by rw [← hp]; exact getD_mem (by rw [HM.out]; exact hlt))
          have e0 : w9.cell? ⟨zb, zo + k, none⟩ = some (.string p) := by rw [HCZ.out k (by rw [HM.out]; omega), hp]
          have hk0 : (0 : Int) ≤ (k : Int) := by omega
          have hk1 : (k : Int) < (m : Int) := by omega
          have hub : u.size ≤ 6000000 := by omega
          clear hp
          go_wp2
          refine ⟨⟨k + 1, _, by omega, rfl, by go_num, ?_, ⟨?_⟩⟩, by simp [intOf]; omega⟩
          · rw [ByteArray.size_append, ByteArray.size_append, ByteArray.size_append]
            have e1 : ByteArray.size { data := #[32] } = 1 := rfl
            have e2 : ByteArray.size { data := #[9, 44] } = 2 := rfl
            rw [e1, e2]
            omega
          · rw [take_snoc' (by rw [HM.out]; exact hlt), HP.out, List.map_append, List.flatMap_append, ← HU.out, bytes_append, bytes_append, bytes_append]
            show _ = bytes u ++ ((32 :: bytes p ++ [9, 44]) ++ [])
            rw [List.append_nil]
            rfl
        · have hge : ((k : Int) < (m : Int)) = False := eq_false (by omega)
          have HUU := Sl.mk (tell_anew HZT.out (by
            have := HU.out
            rw [List.take_of_length_le (by rw [HM.out]; omega)] at this
            exact this))
          have hul : u.size ≤ 6000000 := by omega
          have HUL : Sl ((∀ s ∈ [u], s.size ≤ maxLen) ∧ (tell [u]).length ≤ 1000000) := ⟨fun s hs => by rw [List.mem_singleton.1 hs]; unfold maxLen; omega, by rw [HUU.out.2, HM.out]; omega⟩
          have H69 : Sl (Below w6.heap.size w6 w9) := ⟨below_then HB8'.out HB9'.out⟩
          have H49 : Sl (Below w4.heap.size w4 w9) := ⟨below_then (below_then HB5'.out HB6'.out) H69.out⟩
          have HXA : Sl (∀ W, Below w9.heap.size w9 W → StrA (W.alloc (.cells #[] 9)) xv (tell a)) := ⟨fun W hB => HX.out.below (below_then H49.out (hB.alloc hB.size _))⟩
          have HYA : Sl (∀ W, Below w9.heap.size w9 W → StrA W yv (tell b)) := ⟨fun W hB => HY.out.below (below_then H69.out hB)⟩
          have HNX : Sl (([] : List ByteArray).length + (tell a).length ≤ 1000000) := ⟨by have := HTA.out.1; simp; omega⟩
          have HNY : Sl ((tell a).length + (tell b).length ≤ 1000000) := ⟨by have := HTA.out; omega⟩
          clear hul HB5' HB6' HB8' HB9' HX HY
          go_wp2_with fail
          refine (list_yes2 HUU.out.1 (HB9.out.alloc HB9.out.size _) HG.out (strA_lit w9 [u] _ rfl) (by simp) HUL.out.1 HUL.out.2).mono ?_
          rintro e w10 ⟨⟨gv, rfl, HGV⟩, HB10', HB10⟩
          have H90 : Sl (Below w9.heap.size w9 w10) := ⟨below_then ((Below.refl _ w9).alloc (Nat.le_refl _) _) HB10'.out⟩
          rw [HUU.out.2] at HGV
          go_wp2_with (first
            | (refine app_allG (o := ⟨some 90, _, _, _, _, _⟩) rfl _ _ rfl w10.heap.size _ _ [] (tell a) rfl (own_lit w10) rfl (HXA.out _ H90.out) HNX.out (by rw [alloc_size]; omega) ?_; intro v11 w11 HO11 HG11; obtain ⟨HB11', HB11⟩ := app_below H90.out (own_lit w10) HG11.out)
            | (refine app_allG (o := ⟨some 92, _, _, _, _, _⟩) rfl _ _ rfl w10.heap.size _ _ ([] ++ tell a) (tell b) rfl HO11.out rfl (HYA.out _ HB11.out) HNY.out (by have := HB11'.out.size; omega) ?_; intro v12 w12 HO12 HG12))
          have HB12' : Sl (Below w10.heap.size w10 w12) := ⟨HB11'.out.grown HG12.out HB11'.out.size (fun k hk => own_ge HO11.out hk)⟩
          have HB12 := Sl.mk (below_then HB10.out HB12'.out)
          have H9c := Sl.mk (below_then H90.out HB12'.out)
          rw [List.nil_append] at HO12
          refine (row_ex (a := z) (b := tell a ++ tell b) (r := true) (decide_eq_true (by rw [← tell_append, HZE.out])) HB12.out (HZZ.out.below H9c.out) HO12.out.strA (by rw [HM.out]; omega)).mono ?_
          rintro e w13 ⟨rfl, HB13', HB13⟩
          go_wp2_with fail
          refine (row_ex (a := z) (b := z) (r := true) (decide_eq_true rfl) HB13.out (HGV.out.below (below_then HB12'.out HB13'.out)) (HZZ.out.below (below_then H9c.out HB13'.out)) (by rw [HM.out]; omega)).mono ?_
          rintro e w14 ⟨rfl, HB14', HB14⟩
          go_wp2
          go_ret
          exact ⟨rfl, HB14⟩
theorem join_walk (x : Value) (a : List ByteArray) (y : Value) (b : List ByteArray) (w : World) (hg : Globs w) (ha : StrA w x a) (hla : a.length ≤ maxLen) (hsa : ∀ s ∈ a, s.size ≤ maxLen) (hb : StrA w y b) (hlb : b.length ≤ maxLen) (hsb : ∀ s ∈ b, s.size ≤ maxLen) :
    Calls Tryd.prog 4 #[x, y] w fun e w' => e = .returned (.bool true) ∧ Below w.heap.size w w' := by
  by_cases h : fewB a = true ∧ fewB b = true
  · exact (join_walk_good x y a b w hg ha hb h.1 h.2).mono fun _ _ ⟨h1, h2⟩ => ⟨h1, h2.out⟩
  · refine (join_walk_bad x y a b w hg ha hb hla hsa hlb hsb ?_).mono fun _ _ ⟨h1, h2⟩ => ⟨h1, h2.out⟩
    cases hf : fewB a with
    | false => exact .inl rfl
    | true =>
      cases hf2 : fewB b with
      | false => exact .inr rfl
      | true => exact absurd ⟨hf, hf2⟩ h
end Go.Proofs.YtcdpkabbmdannaaDoor
