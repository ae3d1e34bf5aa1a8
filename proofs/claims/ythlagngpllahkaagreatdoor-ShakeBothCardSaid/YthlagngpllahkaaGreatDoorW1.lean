/- shake: ShakeAllows' walk. -/
import Derived.Test.YthlagngpllahkaaGreatDoorS16
set_option maxRecDepth 100000
namespace Go.Proofs.YthlagngpllahkaaGreatDoor
open Go.RowKit HeadPlain Nam

/-- A row of strings behind another one, where a guard lets it run. -/
theorem app_allG {w : World} {ops : Array Oper} {rest : List Oper} {o : Oper} {a : Act} {Q : Exit → Act → World → Prop} (hw : Region.wanted o (yielded ops a.tmps) = true) (s x : Operand)
    (ho : o.op = .call { callee := .builtin .append, args := #[s, x], argTypes := #[28, 28] }) (base : Nat) (v src : Value) (m l : List ByteArray) (hs : a.eval s = v) (hown : OwnS w base v m)
    (hx : a.eval x = src) (hsrc : StrA w src l) (hl : m.length + l.length ≤ 1000000) (hbase : base ≤ w.heap.size)
    (h : ∀ v' w', Sl (OwnS w' base v' (m ++ l)) → Sl (w.grownBy w' v.ownBlock) → wpList Tryz.prog ops Q rest (a.put o.dst v') w') : wpList Tryz.prog ops Q (o :: rest) a w := by
  refine wpList_step fun K hK => ?_
  rw [if_pos hw]
  obtain ⟨v', w', hr, h2, h3⟩ := add_all hown hsrc hl hbase o.type
  unfold Oper.wp execOp
  simp only [ho, resolve, invoke, builtin, Sem.run_bind, Sem.run_pure, Result.andThen_ok, List.map_toArray, List.map_cons, List.map_nil, hs, hx, hr]
  exact hK _ _ (h v' w' ⟨h2⟩ ⟨h3⟩)
theorem allow_none (o : ByteArray) : allowB o [] = true := rfl
theorem inB_append (a b : List ByteArray) (o : ByteArray) : inB (a ++ b) o = (inB a o || inB b o) := by unfold inB; rw [List.any_append]
theorem allow_own (a : List ByteArray) (o : ByteArray) : allowB o ([] ++ a ++ [o]) = true := by
  unfold allowB
  rw [inB_append, show inB [o] o = true by unfold inB; simp]
  simp
theorem allow_more (a b : List ByteArray) (o : ByteArray) (h0 : a.length ≠ 0) (h : allowB o a = true) : allowB o (a ++ b) = true := by
  unfold allowB at h ⊢
  rw [decide_eq_false h0, Bool.false_or] at h
  rw [inB_append, h]
  simp
set_option maxHeartbeats 1000000 in
theorem allows_bad_big (x y : Value) (o : ByteArray) (w : World) (hg : GlobA w) (hbad : 300 < o.size) :
    Calls Tryz.prog 11 #[.string o, x, y] w fun e w' => e = .returned (.bool true) ∧ Sl (Below w.heap.size w w') := by
  have HG := Sl.mk hg
  have h3 : ((300 : Int) < (o.size : Int)) = True := eq_true (by omega)
  clear hg hbad
  go_enter Tryz.func11, Tryz.ntmps11
  go_wp2_with fail
  refine (awake_ex (below0 w) HG.out).mono ?_
  rintro e w1 ⟨rfl, _, HB1⟩
  go_wp2_with fail
  refine (awake_ex HB1.out HG.out).mono ?_
  rintro e w3 ⟨rfl, _, HB3⟩
  go_wp2
  go_ret
  exact ⟨rfl, HB3⟩
set_option maxHeartbeats 1000000 in
theorem allows_bad_a (x y : Value) (o : ByteArray) (a : List ByteArray) (w : World) (hg : GlobA w) (ha : StrA w x a) (hla : a.length ≤ maxLen) (hsa : ∀ s ∈ a, s.size ≤ maxLen) (hbad : fewB a = false) (ho : o.size ≤ 300) :
    Calls Tryz.prog 11 #[.string o, x, y] w fun e w' => e = .returned (.bool true) ∧ Sl (Below w.heap.size w w') := by
  have HG := Sl.mk hg
  have HFA : Sl (∀ r, fewB a = r → ∀ W, Below w.heap.size w W → Calls Tryz.prog 17 #[x] W fun e w' => e = .returned (.bool r) ∧ W = w') := ⟨fun r hr W hB => few_ex hr (ha.below hB) hla hsa⟩
  have HR := Sl.mk hbad
  have h3 : ((300 : Int) < (o.size : Int)) = False := eq_false (by omega)
  clear hg hbad ha hla hsa
  go_enter Tryz.func11, Tryz.ntmps11
  go_wp2_with fail
  refine (awake_ex (below0 w) HG.out).mono ?_
  rintro e w1 ⟨rfl, _, HB1⟩
  go_wp2_with fail
  refine (HFA.out _ HR.out _ HB1.out).mono ?_
  rintro e w2 ⟨rfl, rfl⟩
  go_wp2_with fail
  refine (awake_ex HB1.out HG.out).mono ?_
  rintro e w3 ⟨rfl, _, HB3⟩
  go_wp2
  go_ret
  exact ⟨rfl, HB3⟩
set_option maxHeartbeats 1000000 in
theorem allows_bad_b (x y : Value) (o : ByteArray) (a b : List ByteArray) (w : World) (hg : GlobA w) (ha : StrA w x a) (hla : a.length ≤ maxLen) (hsa : ∀ s ∈ a, s.size ≤ maxLen) (hb : StrA w y b) (hlb : b.length ≤ maxLen) (hsb : ∀ s ∈ b, s.size ≤ maxLen) (hbad : fewB b = false) (hfa : fewB a = true) (ho : o.size ≤ 300) :
    Calls Tryz.prog 11 #[.string o, x, y] w fun e w' => e = .returned (.bool true) ∧ Sl (Below w.heap.size w w') := by
  have HG := Sl.mk hg
  have HFA : Sl (∀ r, fewB a = r → ∀ W, Below w.heap.size w W → Calls Tryz.prog 17 #[x] W fun e w' => e = .returned (.bool r) ∧ W = w') := ⟨fun r hr W hB => few_ex hr (ha.below hB) hla hsa⟩
  have HFB : Sl (∀ r, fewB b = r → ∀ W, Below w.heap.size w W → Calls Tryz.prog 17 #[y] W fun e w' => e = .returned (.bool r) ∧ W = w') := ⟨fun r hr W hB => few_ex hr (hb.below hB) hlb hsb⟩
  have HR := Sl.mk hbad
  have HRA := Sl.mk hfa
  have h3 : ((300 : Int) < (o.size : Int)) = False := eq_false (by omega)
  clear hg hbad ha hla hsa hb hlb hsb hfa
  go_enter Tryz.func11, Tryz.ntmps11
  go_wp2_with fail
  refine (awake_ex (below0 w) HG.out).mono ?_
  rintro e w1 ⟨rfl, _, HB1⟩
  go_wp2_with fail
  refine (HFA.out _ HRA.out _ HB1.out).mono ?_
  rintro e w2 ⟨rfl, rfl⟩
  go_wp2_with fail
  refine (HFB.out _ HR.out _ HB1.out).mono ?_
  rintro e w2 ⟨rfl, rfl⟩
  go_wp2_with fail
  refine (awake_ex HB1.out HG.out).mono ?_
  rintro e w3 ⟨rfl, _, HB3⟩
  go_wp2
  go_ret
  exact ⟨rfl, HB3⟩
set_option maxHeartbeats 4000000 in
theorem allows_good (x y : Value) (o : ByteArray) (a b : List ByteArray) (w : World) (hg : GlobA w) (ha : StrA w x a) (hb : StrA w y b) (ho : o.size ≤ 300) (hfa : fewB a = true) (hfb : fewB b = true) :
    Calls Tryz.prog 11 #[.string o, x, y] w fun e w' => e = .returned (.bool true) ∧ Sl (Below w.heap.size w w') := by
  have HG := Sl.mk hg
  obtain ⟨hfa1, hfa2⟩ := fewB_yes hfa
  obtain ⟨hfb1, hfb2⟩ := fewB_yes hfb
  have HFA : Sl (∀ W, Below w.heap.size w W → Calls Tryz.prog 17 #[x] W fun e w' => e = .returned (.bool true) ∧ W = w') := ⟨fun W hB => few_ex hfa (ha.below hB) (by unfold maxLen; omega) (fun s h => Nat.le_trans (hfa1 s h) (by unfold maxLen; omega))⟩
  have HFB : Sl (∀ W, Below w.heap.size w W → Calls Tryz.prog 17 #[y] W fun e w' => e = .returned (.bool true) ∧ W = w') := ⟨fun W hB => few_ex hfb (hb.below hB) (by unfold maxLen; omega) (fun s h => Nat.le_trans (hfb1 s h) (by unfold maxLen; omega))⟩
  have h3 : ((300 : Int) < (o.size : Int)) = False := eq_false (by omega)
  have HXA : Sl (∀ W, Below w.heap.size w W → StrA (W.alloc (.cells #[] 9)) x a) := ⟨fun W hB => ha.below (hB.alloc hB.size _)⟩
  have HYB : Sl (∀ W, Below w.heap.size w W → StrA W y b) := ⟨fun W hB => hb.below hB⟩
  have HLA : Sl (a.length ≤ 30) := ⟨hfa2⟩
  have HLB : Sl (b.length ≤ 30) := ⟨hfb2⟩
  obtain ⟨p, hp⟩ : ∃ p, allowB o a = p := ⟨_, rfl⟩
  have HP := Sl.mk hp
  obtain ⟨q, hq⟩ : ∃ q, allowB o (a ++ b) = q := ⟨_, rfl⟩
  have HQ := Sl.mk hq
  have HM : Sl (a.length ≠ 0 → p = true → q = true) := ⟨fun h0 h1 => by subst hp; subst hq; exact allow_more a b o h0 h1⟩
  clear hp hq hg hfa hfb hfa1 hfa2 hfb1 hfb2 hb
  obtain ⟨xd, xc, xs, xo, rfl, hxc, hxa, hxcell⟩ := ha
  clear hxc hxa hxcell
  obtain ⟨n, hn⟩ : ∃ n, a.length = n := ⟨_, rfl⟩
  rw [hn] at HXA HFA HM ⊢
  have HN := Sl.mk hn
  clear hn
  go_enter Tryz.func11, Tryz.ntmps11
  go_wp2_with fail
  refine (awake_ex (below0 w) HG.out).mono ?_
  rintro e w1 ⟨rfl, _, HB1⟩
  go_wp2_with fail
  refine (HFA.out _ HB1.out).mono ?_
  rintro e w2 ⟨rfl, rfl⟩
  go_wp2_with fail
  refine (HFB.out _ HB1.out).mono ?_
  rintro e w2 ⟨rfl, rfl⟩
  go_wp2_with (refine app_all (o := ⟨some 30, _, _, _, _, _⟩) rfl _ _ rfl w1.heap.size _ _ [] a rfl (own_lit w1) rfl (HXA.out _ HB1.out) (by have := HLA.out; simp; omega) (by rw [alloc_size]; omega) ?_; intro v3 w3 HO3 HG3; obtain ⟨HB3', HB3⟩ := app_below HB1.out (own_lit w1) HG3.out)
  rw [List.nil_append] at HO3
  refine (allowed_any o a v3 w3 p HP.out HO3.out.strA (by have := HLA.out; omega)).mono ?_
  rintro e w4 ⟨rfl, rfl⟩
  go_wp2_with (first
    | (refine app_all (o := ⟨some 35, _, _, _, _, _⟩) rfl _ _ rfl w3.heap.size _ _ [] a rfl (own_lit w3) rfl (HXA.out _ HB3.out) (by have := HLA.out; simp; omega) (by rw [alloc_size]; omega) ?_; intro v5 w5 HO5 HG5; obtain ⟨HB5', HB5⟩ := app_below HB3.out (own_lit w3) HG5.out)
    | (refine app_all (o := ⟨some 37, _, _, _, _, _⟩) rfl _ _ rfl w3.heap.size _ _ ([] ++ a) b rfl HO5.out rfl (HYB.out _ HB5.out) (by have := HLA.out; have := HLB.out; simp; omega) (by have := HB5'.out.size; omega) ?_; intro v6 w6 HO6 HG6))
  have HB6' : Sl (Below w3.heap.size w3 w6) := ⟨HB5'.out.grown HG6.out HB5'.out.size (fun k hk => own_ge HO5.out hk)⟩
  have HB6 := Sl.mk (below_then HB3.out HB6'.out)
  rw [List.nil_append] at HO6
  refine (allowed_any o (a ++ b) v6 w6 q HQ.out HO6.out.strA (by have := HLA.out; have := HLB.out; simp; omega)).mono ?_
  rintro e w7 ⟨rfl, rfl⟩
  go_wp2_with fail
  refine (allowed_any o [] _ w6 true (allow_none o) (strA_nil w6) (by decide)).mono ?_
  rintro e w7 ⟨rfl, rfl⟩
  clear HB6' HO6 HG6 HB5 HB5' HO5 HG5 HB3 HB3' HO3 HG3 HP HQ
  by_cases h0 : n = 0
  · have h4 : ((n : Int) == 0) = true := by simp [h0]
    clear h0 HM
    go_wp2_with (first
      | (refine app_allG (o := ⟨some 57, _, _, _, _, _⟩) rfl _ _ rfl w6.heap.size _ _ [] a rfl (own_lit w6) rfl (HXA.out _ HB6.out) (by have := HLA.out; simp; omega) (by rw [alloc_size]; omega) ?_; intro v8 w8 HO8 HG8; obtain ⟨HB8', HB8⟩ := app_below HB6.out (own_lit w6) HG8.out; have HO8b : Sl (OwnS (w8.alloc (.cells #[.string o] 9)) w6.heap.size v8 ([] ++ a)) := ⟨HO8.out.below ((Below.refl _ w8).alloc (Nat.le_refl _) _)⟩; have HL8 : Sl (StrA (w8.alloc (.cells #[.string o] 9)) (.slice (some ⟨w8.heap.size, 0, none⟩) 1 1) [o]) := ⟨strA_lit w8 [o] _ rfl⟩)
      | (refine app_allG (o := ⟨some 60, _, _, _, _, _⟩) rfl _ _ rfl w6.heap.size _ _ ([] ++ a) [o] rfl HO8b.out rfl HL8.out (by have := HLA.out; simp; omega) (by have := HB8'.out.size; rw [alloc_size]; omega) ?_; intro v9 w9 HO9 HG9))
    have HB9' : Sl (Below w6.heap.size w6 w9) := ⟨(HB8'.out.alloc HB8'.out.size _).grown HG9.out (by rw [alloc_size]; have := HB8'.out.size; omega) (fun k hk => own_ge HO8b.out hk)⟩
    have HB9 := Sl.mk (below_then HB6.out HB9'.out)
    refine (allowed_any o _ v9 w9 true (allow_own a o) HO9.out.strA (by have := HLA.out; simp; omega)).mono ?_
    rintro e w10 ⟨rfl, rfl⟩
    go_wp2
    go_ret
    exact ⟨rfl, HB9⟩
  have h4 : ((n : Int) == 0) = false := by simp; omega
  have HM2 := HM.out h0
  clear h0 HM
  cases p with
  | false =>
    clear HM2
    go_wp2_with (first
      | (refine app_allG (o := ⟨some 57, _, _, _, _, _⟩) rfl _ _ rfl w6.heap.size _ _ [] a rfl (own_lit w6) rfl (HXA.out _ HB6.out) (by have := HLA.out; simp; omega) (by rw [alloc_size]; omega) ?_; intro v8 w8 HO8 HG8; obtain ⟨HB8', HB8⟩ := app_below HB6.out (own_lit w6) HG8.out; have HO8b : Sl (OwnS (w8.alloc (.cells #[.string o] 9)) w6.heap.size v8 ([] ++ a)) := ⟨HO8.out.below ((Below.refl _ w8).alloc (Nat.le_refl _) _)⟩; have HL8 : Sl (StrA (w8.alloc (.cells #[.string o] 9)) (.slice (some ⟨w8.heap.size, 0, none⟩) 1 1) [o]) := ⟨strA_lit w8 [o] _ rfl⟩)
      | (refine app_allG (o := ⟨some 60, _, _, _, _, _⟩) rfl _ _ rfl w6.heap.size _ _ ([] ++ a) [o] rfl HO8b.out rfl HL8.out (by have := HLA.out; simp; omega) (by have := HB8'.out.size; rw [alloc_size]; omega) ?_; intro v9 w9 HO9 HG9))
    have HB9' : Sl (Below w6.heap.size w6 w9) := ⟨(HB8'.out.alloc HB8'.out.size _).grown HG9.out (by rw [alloc_size]; have := HB8'.out.size; omega) (fun k hk => own_ge HO8b.out hk)⟩
    have HB9 := Sl.mk (below_then HB6.out HB9'.out)
    refine (allowed_any o _ v9 w9 true (allow_own a o) HO9.out.strA (by have := HLA.out; simp; omega)).mono ?_
    rintro e w10 ⟨rfl, rfl⟩
    go_wp2
    go_ret
    exact ⟨rfl, HB9⟩
  | true =>
    obtain rfl := HM2 rfl
    clear HM2
    go_wp2_with (first
      | (refine app_allG (o := ⟨some 57, _, _, _, _, _⟩) rfl _ _ rfl w6.heap.size _ _ [] a rfl (own_lit w6) rfl (HXA.out _ HB6.out) (by have := HLA.out; simp; omega) (by rw [alloc_size]; omega) ?_; intro v8 w8 HO8 HG8; obtain ⟨HB8', HB8⟩ := app_below HB6.out (own_lit w6) HG8.out; have HO8b : Sl (OwnS (w8.alloc (.cells #[.string o] 9)) w6.heap.size v8 ([] ++ a)) := ⟨HO8.out.below ((Below.refl _ w8).alloc (Nat.le_refl _) _)⟩; have HL8 : Sl (StrA (w8.alloc (.cells #[.string o] 9)) (.slice (some ⟨w8.heap.size, 0, none⟩) 1 1) [o]) := ⟨strA_lit w8 [o] _ rfl⟩)
      | (refine app_allG (o := ⟨some 60, _, _, _, _, _⟩) rfl _ _ rfl w6.heap.size _ _ ([] ++ a) [o] rfl HO8b.out rfl HL8.out (by have := HLA.out; simp; omega) (by have := HB8'.out.size; rw [alloc_size]; omega) ?_; intro v9 w9 HO9 HG9))
    have HB9' : Sl (Below w6.heap.size w6 w9) := ⟨(HB8'.out.alloc HB8'.out.size _).grown HG9.out (by rw [alloc_size]; have := HB8'.out.size; omega) (fun k hk => own_ge HO8b.out hk)⟩
    have HB9 := Sl.mk (below_then HB6.out HB9'.out)
    refine (allowed_any o _ v9 w9 true (allow_own a o) HO9.out.strA (by have := HLA.out; simp; omega)).mono ?_
    rintro e w10 ⟨rfl, rfl⟩
    go_wp2
    go_ret
    exact ⟨rfl, HB9⟩
theorem allows_walk (o : ByteArray) (x : Value) (a : List ByteArray) (y : Value) (b : List ByteArray) (w : World) (hg : GlobA w) (hs : o.size ≤ maxLen) (ha : StrA w x a) (hla : a.length ≤ maxLen) (hsa : ∀ s ∈ a, s.size ≤ maxLen) (hb : StrA w y b) (hlb : b.length ≤ maxLen) (hsb : ∀ s ∈ b, s.size ≤ maxLen) :
    Calls Tryz.prog 11 #[.string o, x, y] w fun e w' => e = .returned (.bool true) ∧ Below w.heap.size w w' := by
  have fin : ∀ {e w'}, e = Ending.returned (.bool true) ∧ Sl (Below w.heap.size w w') → e = Ending.returned (.bool true) ∧ Below w.heap.size w w' := fun ⟨h1, h2⟩ => ⟨h1, h2.out⟩
  by_cases h1 : 300 < o.size
  · exact (allows_bad_big x y o w hg h1).mono fun _ _ h => fin h
  cases hfa : fewB a with
  | false => exact (allows_bad_a x y o a w hg ha hla hsa hfa (by omega)).mono fun _ _ h => fin h
  | true =>
    cases hfb : fewB b with
    | false => exact (allows_bad_b x y o a b w hg ha hla hsa hb hlb hsb hfb hfa (by omega)).mono fun _ _ h => fin h
    | true => exact (allows_good x y o a b w hg ha hb (by omega) hfa hfb).mono fun _ _ h => fin h
end Go.Proofs.YthlagngpllahkaaGreatDoor
