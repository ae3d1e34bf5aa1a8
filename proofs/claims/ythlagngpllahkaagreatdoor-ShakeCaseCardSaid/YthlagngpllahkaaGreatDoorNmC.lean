/- Has: whether lists have a token. -/
import Derived.Test.YthlagngpllahkaaGreatDoorNmB
import Derived.Test.YthlagngpllahkaaGreatDoorNmA
set_option maxRecDepth 100000
namespace Go.Proofs.YthlagngpllahkaaGreatDoor.Nam
open Go.RowKit Go.Shelf HeadPlain Flow

theorem has1_any (x token : ByteArray) (bt : Nat) (W : World) (hb : Box W bt 9 (.string token)) (ht : token.size ≤ maxLen) :
    Calls Tryz.prog 134 #[.string x, .pointer (some ⟨bt, 0, none⟩)] W fun e w' => e = .returned (.bool (same (bytes token) (bytes x))) ∧ Still W w' := by
  have c0 := hb.cell
  have HS : Sl (∀ V, Calls Tryz.prog 66 #[.string token, .string x] V fun e w' => e = .returned (.bool (same (bytes token) (bytes x))) ∧ Still V w') := ⟨fun V => same_any token x V ht⟩
  clear hb ht
  obtain ⟨r, hr⟩ : ∃ r, same (bytes token) (bytes x) = r := ⟨_, rfl⟩
  rw [hr] at HS ⊢
  clear hr
  go_enter Tryz.func134, Tryz.ntmps134
  go_wp2_with (go_at_call 66; refine (HS.out _).mono ?_; rintro e w' ⟨rfl, hs⟩; have H2 := Sl.mk hs; clear hs)
  go_ret
  exact ⟨rfl, H2.out⟩
theorem Box.still {W W' : World} {b : Nat} {t : TypeId} {v : Value} (h : Box W b t v) (hs : Still W W') : Box W' b t v := by unfold Box; rw [hs.heap]; exact h
def IdxR (l : List ByteArray) (token : ByteArray) (e : Ending) : Prop := ∃ z : Int, e = .returned (.int .i64 z) ∧ decide (0 ≤ z) = l.any fun x => same (bytes token) (bytes x)
theorem any_hit {l : List ByteArray} {p : ByteArray → Bool} {k : Nat} (hk : k < l.length) (h : p (l.getD k ByteArray.empty) = true) : l.any p = true := by
  rw [List.any_eq_true]
  rw [List.getD_eq_getElem?_getD, List.getElem?_eq_getElem hk] at h
  exact ⟨_, List.getElem_mem hk, h⟩
theorem any_miss {l : List ByteArray} {p : ByteArray → Bool} (h : ∀ j, j < l.length → p (l.getD j ByteArray.empty) = false) : l.any p = false := by
  rw [List.any_eq_false]
  intro x hx
  obtain ⟨j, hj, rfl⟩ := List.mem_iff_getElem.1 hx
  have := h j hj
  rw [List.getD_eq_getElem?_getD, List.getElem?_eq_getElem hj] at this
  simpa using this
set_option maxRecDepth 100000 in
set_option maxHeartbeats 800000 in
theorem idx_any (l : List ByteArray) (v : Value) (token : ByteArray) (bt : Nat) (W : World) (hv : StrA W v l) (hl : l.length ≤ 1000000) (hb : Box W bt 9 (.string token)) (ht : token.size ≤ maxLen) :
    Calls Tryz.prog 127 #[v, .func (.func 134) #[] #[.pointer (some ⟨bt, 0, none⟩)]] W fun e w' => IdxR l token e ∧ Still W w' := by
  obtain ⟨ad, ca, sa, oa, rfl, hca, haa, hcell⟩ := hv
  have HA := Sl.mk hcell
  have HAA := Sl.mk haa
  have HB := Sl.mk hb
  have HT := Sl.mk ht
  clear hcell haa hca hb ht
  obtain ⟨n, hn⟩ : ∃ n, l.length = n := ⟨_, rfl⟩
  have HN := Sl.mk hn
  rw [hn] at hl ⊢
  clear hn
  go_enter Tryz.func127, Tryz.ntmps127
  go_wp2
  go_loopw [8] (fun i wr => ∃ k : Nat, k ≤ n ∧ i = .int .i64 k ∧ Sl (Still W wr) ∧ Sl (∀ j, j < k → same (bytes token) (bytes (l.getD j ByteArray.empty)) = false)) (fun i _ => n - (intOf i).toNat)
  case atStart => exact ⟨0, Nat.zero_le _, rfl, ⟨Still.refl _⟩, ⟨fun j hj => by omega⟩⟩
  case round =>
    obtain ⟨k, hk, rfl, HS, HE⟩ := hrel
    by_cases hlt : k < n
    · obtain rfl := HAA.out (by rw [HN.out]; omega)
      obtain ⟨p, hp⟩ : ∃ p, l.getD k ByteArray.empty = p := ⟨_, rfl⟩
      have HP := Sl.mk hp
      have e0 : wr.cell? ⟨sa, oa + k, none⟩ = some (.string p) := by
        rw [World.cell?_of_block (w := W) (by rw [HS.out.heap]), HA.out k (by rw [HN.out]; omega), hp]
      have hk0 : (0 : Int) ≤ (k : Int) := by omega
      have hk1 : (k : Int) < (n : Int) := by omega
      have HC : Sl (Calls Tryz.prog 134 #[.string p, .pointer (some ⟨bt, 0, none⟩)] wr fun e w' => e = .returned (.bool (same (bytes token) (bytes p))) ∧ Still wr w') := ⟨has1_any p token bt wr (HB.out.still HS.out) HT.out⟩
      obtain ⟨r, hr⟩ : ∃ r, same (bytes token) (bytes p) = r := ⟨_, rfl⟩
      have HR := Sl.mk hr
      rw [hr] at HC
      clear hp hr
      cases r with
      | true =>
        go_wp2_with (go_at_call 134; refine HC.out.mono ?_; rintro e w' ⟨rfl, hs⟩; have H2 := Sl.mk hs; clear hs)
        go_ret
        refine ⟨⟨_, rfl, ?_⟩, HS.out.trans H2.out⟩
        rw [any_hit (k := k) (by rw [HN.out]; exact hlt) (by rw [HP.out]; exact HR.out)]
        exact decide_eq_true (by omega)
      | false =>
        go_wp2_with (go_at_call 134; refine HC.out.mono ?_; rintro e w' ⟨rfl, hs⟩; have H2 := Sl.mk hs; clear hs)
        refine ⟨⟨k + 1, by omega, by go_num, ⟨HS.out.trans H2.out⟩, ⟨fun j hj => ?_⟩⟩, by simp [intOf]; omega⟩
        by_cases e : j = k
        · subst e; rw [HP.out]; exact HR.out
        · exact HE.out j (by omega)
    · have hge : ((k : Int) < (n : Int)) = False := eq_false (by omega)
      go_wp2
      go_ret
      refine ⟨⟨_, rfl, ?_⟩, HS.out⟩
      rw [any_miss (fun j hj => HE.out j (by rw [HN.out] at hj; omega))]
      rfl
theorem contains_any (l : List ByteArray) (v : Value) (token : ByteArray) (bt : Nat) (W : World) (hv : StrA W v l) (hl : l.length ≤ 1000000) (hb : Box W bt 9 (.string token)) (ht : token.size ≤ maxLen) :
    Calls Tryz.prog 99 #[v, .func (.func 134) #[] #[.pointer (some ⟨bt, 0, none⟩)]] W fun e w' => e = .returned (.bool (l.any fun x => same (bytes token) (bytes x))) ∧ Still W w' := by
  have HI := Sl.mk (idx_any l v token bt W hv hl hb ht)
  obtain ⟨r, hr⟩ : ∃ r, (l.any fun x => same (bytes token) (bytes x)) = r := ⟨_, rfl⟩
  have HR := Sl.mk hr
  rw [hr]
  clear hr hv hb
  go_enter Tryz.func99, Tryz.ntmps99
  go_wp2_with (go_at_call 127; refine HI.out.mono ?_; rintro e w' ⟨⟨z, rfl, hz⟩, hs⟩; have H2 := Sl.mk hs; have H3 : Sl (decide (0 ≤ z) = r) := ⟨hz.trans HR.out⟩; clear hs hz)
  go_ret
  exact ⟨ret_bool H3.out, H2.out⟩
/-- What Has answers. -/
def hasB (token : ByteArray) (l : List ByteArray) : Bool := hasT (bytes token) (l.map bytes)
theorem hasB_eq (token : ByteArray) (l : List ByteArray) : hasB token l = ((tell l).all tokT && (tell l).any fun x => same (bytes token) (bytes x)) := by
  unfold hasB hasT
  rw [tell_toks]
  cases h : (tell l).all tokT with
  | false => rfl
  | true =>
    simp only [if_true, Bool.true_and, List.any_map]
    congr 1
    funext x
    exact same_comm _ _
set_option maxRecDepth 100000 in
set_option maxHeartbeats 1000000 in
theorem has_any (token : ByteArray) (l : List ByteArray) (v : Value) (w : World) (hl : l.length ≤ 1000000) (hs : ∀ s ∈ l, s.size ≤ maxLen) (hT : (tell l).length ≤ 1000000) (ht : token.size ≤ maxLen) (hg : Globs w) (hv : StrA w v l) :
    Calls Tryz.prog 109 #[.string token, v] w fun e w' => e = .returned (.bool (hasB token l)) ∧ Sl (Below w.heap.size w w') := by
  have hw1 := Boxed.new w 9 (.string token)
  obtain ⟨w1, hW1⟩ : ∃ w1, w.alloc (.cells #[.string token] 9) = w1 := ⟨_, rfl⟩
  have HB0 : Sl (Below w.heap.size w w1) := ⟨by rw [← hW1]; exact (Below.refl _ _).alloc (Nat.le_refl _) _⟩
  have HBX : Sl (Box w1 w.heap.size 9 (.string token)) := ⟨by rw [← hW1]; exact hw1⟩
  have HL : Sl (Calls Tryz.prog 77 #[v] w1 fun e w' => ListR w1 w' l e ∧ Sl (Below w1.heap.size w1 w')) := ⟨list_any l v w1 hl hs hT (hg.of HB0.out) (hv.below HB0.out)⟩
  have HHB := Sl.mk (hasB_eq token l)
  have HT := Sl.mk ht
  have HTT := Sl.mk hT
  clear hs hg hv ht hw1 hT
  obtain ⟨r, hr⟩ : ∃ r, hasB token l = r := ⟨_, rfl⟩
  rw [hr] at HHB ⊢
  clear hr
  obtain ⟨bt, hbt⟩ : ∃ bt, w.heap.size = bt := ⟨_, rfl⟩
  have HBT := Sl.mk hbt
  rw [hbt] at HB0 HBX ⊢
  go_enter Tryz.func109, Tryz.ntmps109
  go_wp2_with (go_at_call 77; refine HL.out.mono ?_; rintro e w' ⟨(⟨ha, v', rfl, ho⟩ | ⟨ha, rfl⟩), HB1⟩)
  · have HA := Sl.mk ha
    have HO := Sl.mk ho
    clear ha ho
    refine (contains_any (tell l) v' token bt w' HO.out.strA HTT.out (HBX.out.below HB1.out) HT.out).mono ?_
    rintro e w2 ⟨rfl, hs⟩
    have HS := Sl.mk hs
    clear hs
    have HR : Sl (((tell l).any fun x => same (bytes token) (bytes x)) = r) := ⟨by rw [HHB.out, HA.out, Bool.true_and]⟩
    go_wp2
    go_ret
    exact ⟨ret_bool HR.out, ⟨(HB0.out.trans (HB1.out.mono (by have := HB0.out.size; omega))).trans ((HS.out.below).mono (by have := HB0.out.size; have := HB1.out.size; omega))⟩⟩
  · have HA := Sl.mk ha
    clear ha
    have HR : Sl (false = r) := ⟨by rw [HHB.out, HA.out, Bool.false_and]⟩
    go_ret
    exact ⟨ret_bool HR.out, ⟨HB0.out.trans (HB1.out.mono (by have := HB0.out.size; omega))⟩⟩
end Go.Proofs.YthlagngpllahkaaGreatDoor.Nam
/- Rows of strings: appended to another one, whole; compared; whether they are few; whether a text is among them; whether none is there twice; letters' case. The document's functions and the statements' own. -/
namespace Go.Proofs.YthlagngpllahkaaGreatDoor.Nam
open Go.RowKit HeadPlain

/-- A row of strings behind another one. -/
theorem add_all {Z : World} {base : Nat} {v0 x : Value} {m l : List ByteArray} (hown : OwnS Z base v0 m) (hx : StrA Z x l) (hl : m.length + l.length ≤ 1000000) (hbase : base ≤ Z.heap.size) (ty : TypeId) :
    ∃ v1 w1, (Builtin.append_ #[28, 28] ty #[v0, x]).run Tryz.prog Z = .ok v1 w1 ∧ OwnS w1 base v1 (m ++ l) ∧ Z.grownBy w1 v0.ownBlock := by
  obtain ⟨i0, hi0, hz0, hz1, hz2⟩ := info9
  obtain ⟨ad, cap, sb, so, rfl, hcap, had, hcell⟩ := hx
  have key : ∀ a : Addr, (0 < l.length → a = ⟨sb, so, none⟩) → ∃ v1 w1, (Builtin.append_ #[28, 28] ty #[v0, .slice (some a) l.length cap]).run Tryz.prog Z = .ok v1 w1 ∧ OwnS w1 base v1 (m ++ l) ∧ Z.grownBy w1 v0.ownBlock := fun a ha => by
    obtain ⟨v', w', h1, h2, h3, _⟩ := run_append_own (P := Tryz.prog) Z base 28 ty 9 i0 _ 1 16 Tryz.underlying28 hi0 hz0 hz1 hz2 rfl (by decide) v0 m.length (m.map Value.string) hown a l.length cap (l.map Value.string) (by simp) (fun j u hu => by
      have hj : j < l.length := by have := (List.getElem?_eq_some_iff.1 hu).1; simpa using this
      obtain rfl := ha (by omega)
      rw [Addr.add_mid, hcell j hj]
      rw [List.getElem?_map, List.getElem?_eq_getElem hj] at hu
      injection hu with hu
      subst hu
      rw [List.getD_eq_getElem?_getD, List.getElem?_eq_getElem hj]; rfl) (fun u hu => by simp at hu; obtain ⟨s, _, rfl⟩ := hu; rfl) (by unfold maxLen; omega) (by omega) hbase
    refine ⟨v', w', h1, ?_, h3⟩
    unfold OwnS
    rw [List.length_append, List.map_append]
    exact h2
  cases ad with
  | some a => exact key a (fun h => by have := had h; injection this)
  | none =>
    have hz : l.length = 0 := by
      by_cases h : 0 < l.length
      · have := had h; cases this
      · omega
    have hf : l = [] := List.eq_nil_of_length_eq_zero hz
    subst hf
    refine ⟨v0, Z, ?_, by rw [List.append_nil]; exact hown, grown_refl _ _⟩
    rcases hown.2 with ⟨rfl, _⟩ | ⟨g, c, cur, rfl, _, _, hnc, _⟩
    · simp [Builtin.append_, run_underlying Tryz.underlying28, sizeOf, typeInfo, hi0, Builtin.lenOf, Builtin.firstCells]
    · simp [Builtin.append_, run_underlying Tryz.underlying28, sizeOf, typeInfo, hi0, Builtin.lenOf, Builtin.firstCells, storeCells]
      intro hc
      exact absurd hc (by omega)
theorem app_all {w : World} {ops : Array Oper} {rest : List Oper} {o : Oper} {a : Act} {Q : Exit → Act → World → Prop} (hgd : o.guard = none) (s x : Operand)
    (ho : o.op = .call { callee := .builtin .append, args := #[s, x], argTypes := #[28, 28] }) (base : Nat) (v src : Value) (m l : List ByteArray) (hs : a.eval s = v) (hown : OwnS w base v m)
    (hx : a.eval x = src) (hsrc : StrA w src l) (hl : m.length + l.length ≤ 1000000) (hbase : base ≤ w.heap.size)
    (h : ∀ v' w', Sl (OwnS w' base v' (m ++ l)) → Sl (w.grownBy w' v.ownBlock) → wpList Tryz.prog ops Q rest (a.put o.dst v') w') : wpList Tryz.prog ops Q (o :: rest) a w := by
  refine wpList_plain hgd fun K hK => ?_
  obtain ⟨v', w', hr, h2, h3⟩ := add_all hown hsrc hl hbase o.type
  unfold Oper.wp execOp
  simp only [ho, resolve, invoke, builtin, Sem.run_bind, Sem.run_pure, Result.andThen_ok, List.map_toArray, List.map_cons, List.map_nil, hs, hx, hr]
  exact hK _ _ (h v' w' ⟨h2⟩ ⟨h3⟩)
/-- An empty row, made new. -/
theorem own_lit (R : World) : OwnS (R.alloc (.cells #[] 9)) R.heap.size (.slice (some ⟨R.heap.size, 0, none⟩) 0 0) [] := World.ownsRow_lit R #[] 0 (Nat.le_refl _) (by decide) rfl
theorem row_any (a b : List ByteArray) (x y : Value) (W : World) (ha : StrA W x a) (hb : StrA W y b) (hL : a.length ≤ 1000000) :
    Calls Tryz.prog 43 #[x, y] W fun e w' => e = .returned (.bool (decide (a.map bytes = b.map bytes))) ∧ Still W w' := by
  obtain ⟨ad, ca, sa, oa, rfl, hca, haa, hcella⟩ := ha
  obtain ⟨bd, cb, sb, ob, rfl, hcb, hab, hcellb⟩ := hb
  have HA := Sl.mk hcella
  have HB := Sl.mk hcellb
  have HAA := Sl.mk haa
  have HAB := Sl.mk hab
  clear hcella hcellb haa hab
  by_cases hl : a.length = b.length
  · have HL := Sl.mk hl
    obtain ⟨n, hn⟩ : ∃ n, a.length = n := ⟨_, rfl⟩
    have HN := Sl.mk hn
    have HNb : Sl (b.length = n) := ⟨by rw [← hl]; exact hn⟩
    rw [← hl, hn]
    rw [hn] at hL
    clear hl hn hca hcb
    go_enter Tryz.func43, Tryz.ntmps43
    go_wp2
    go_loopw [5] (fun i wr => ∃ k : Nat, k ≤ n ∧ i = .int .i64 k ∧ Sl (Still W wr) ∧ Sl (∀ j, j < k → bytes (a.getD j ByteArray.empty) = bytes (b.getD j ByteArray.empty))) (fun i _ => n - (intOf i).toNat)
    case atStart => exact ⟨0, Nat.zero_le _, rfl, ⟨Still.refl _⟩, ⟨fun j hj => by omega⟩⟩
    case round =>
      obtain ⟨k, hk, rfl, HS, HE⟩ := hrel
      by_cases hlt : k < n
      · obtain rfl := HAA.out (by rw [HN.out]; omega)
        obtain rfl := HAB.out (by rw [HNb.out]; omega)
        obtain ⟨p, hp⟩ : ∃ p, a.getD k ByteArray.empty = p := ⟨_, rfl⟩
        obtain ⟨q, hq⟩ : ∃ q, b.getD k ByteArray.empty = q := ⟨_, rfl⟩
        have HP := Sl.mk hp
        have HQ := Sl.mk hq
        have e0 : wr.cell? ⟨sa, oa + k, none⟩ = some (.string p) := by
          rw [World.cell?_of_block (w := W) (by rw [HS.out.heap]), HA.out k (by rw [HN.out]; omega), hp]
        have e1 : wr.cell? ⟨sb, ob + k, none⟩ = some (.string q) := by
          rw [World.cell?_of_block (w := W) (by rw [HS.out.heap]), HB.out k (by rw [HNb.out]; omega), hq]
        have hk0 : (0 : Int) ≤ (k : Int) := by omega
        have hk1 : (k : Int) < (n : Int) := by omega
        clear hp hq
        obtain ⟨r, hr⟩ : ∃ r, (p.toList == q.toList) = r := ⟨_, rfl⟩
        have HRR := Sl.mk hr
        go_wp2
        go_quiet (fail)
        cases r with
        | true =>
          go_wp2
          refine ⟨⟨k + 1, by omega, by go_num, ⟨HS.out.drewN _⟩, ⟨fun j hj => ?_⟩⟩, by simp [intOf]; omega⟩
          by_cases e : j = k
          · subst e
            rw [HP.out, HQ.out]
            have := HRR.out
            rw [beq_bytes2] at this
            exact of_decide_eq_true this
          · exact HE.out j (by omega)
        | false =>
          go_wp2
          go_ret
          refine ⟨ret_bool ?_, HS.out.drewN _⟩
          refine (decide_eq_false (map_bytes_ne k (by rw [HN.out]; omega) HL.out ?_)).symm
          rw [HP.out, HQ.out]
          have := HRR.out
          rw [beq_bytes2] at this
          exact of_decide_eq_false this
      · have hge : ((k : Int) < (n : Int)) = False := eq_false (by omega)
        have HY : Sl (decide (a.map bytes = b.map bytes) = true) := ⟨decide_eq_true (map_bytes_eq HL.out (fun j hj => HE.out j (by rw [HN.out] at hj; omega)))⟩
        go_wp2
        go_ret
        exact ⟨ret_bool HY.out.symm, HS.out⟩
  · have hl' : ((a.length : Int) == (b.length : Int)) = false := by simp; omega
    have HY : Sl (decide (a.map bytes = b.map bytes) = false) := ⟨decide_eq_false (fun e => hl (by have := congrArg List.length e; simpa using this))⟩
    go_enter Tryz.func43, Tryz.ntmps43
    go_wp2
    go_ret
    exact ⟨ret_bool HY.out.symm, Still.refl _⟩
/-- Not too many texts, none too long. -/
def fewB (l : List ByteArray) : Bool := (l.all fun s => decide (s.size ≤ 300)) && decide (l.length ≤ 30)
theorem fewB_yes {l : List ByteArray} (h : fewB l = true) : (∀ s ∈ l, s.size ≤ 300) ∧ l.length ≤ 30 := by
  unfold fewB at h
  rw [Bool.and_eq_true, List.all_eq_true, decide_eq_true_eq] at h
  exact ⟨fun s hs => of_decide_eq_true (h.1 s hs), h.2⟩
theorem getD_mem {l : List ByteArray} {k : Nat} (hk : k < l.length) : l.getD k ByteArray.empty ∈ l := by
  rw [List.getD_eq_getElem?_getD, List.getElem?_eq_getElem hk]; exact List.getElem_mem _
set_option maxHeartbeats 800000 in
theorem few_any (l : List ByteArray) (v : Value) (W : World) (hv : StrA W v l) (hl : l.length ≤ maxLen) (hs : ∀ s ∈ l, s.size ≤ maxLen) : Calls Tryz.prog 17 #[v] W fun e w' => e = .returned (.bool (fewB l)) ∧ W = w' := by
  obtain ⟨ad, ca, sa, oa, rfl, hca, haa, hcell⟩ := hv
  unfold maxLen at hl hs
  have HA := Sl.mk hcell
  have HAA := Sl.mk haa
  have HSZ := Sl.mk hs
  clear hcell haa hca hs
  obtain ⟨n, hn⟩ : ∃ n, l.length = n := ⟨_, rfl⟩
  have HN := Sl.mk hn
  rw [hn] at hl ⊢
  clear hn
  go_enter Tryz.func17, Tryz.ntmps17
  go_wp2
  go_loop [3] (fun i => ∃ k : Nat, k ≤ n ∧ i = .int .i64 k ∧ Sl (∀ j, j < k → (l.getD j ByteArray.empty).size ≤ 300)) (fun i => n - (intOf i).toNat)
  case atStart => exact ⟨0, Nat.zero_le _, rfl, ⟨fun j hj => by omega⟩⟩
  case round =>
    obtain ⟨k, hk, rfl, HE⟩ := hrel
    by_cases hlt : k < n
    · obtain rfl := HAA.out (by rw [HN.out]; omega)
      obtain ⟨p, hp⟩ : ∃ p, l.getD k ByteArray.empty = p := ⟨_, rfl⟩
      have HP := Sl.mk hp
      have hps : p.size ≤ 2 ^ 63 - 1 := HSZ.out p (by rw [← hp]; exact getD_mem (by rw [HN.out]; exact hlt))
      have e0 : W.cell? ⟨sa, oa + k, none⟩ = some (.string p) := by rw [HA.out k (by rw [HN.out]; omega), hp]
      have hk0 : (0 : Int) ≤ (k : Int) := by omega
      have hk1 : (k : Int) < (n : Int) := by omega
      clear hp
      by_cases h3 : p.size ≤ 300
      · have h3' : ((300 : Int) < (p.size : Int)) = False := eq_false (by omega)
        go_wp2
        go_round
        case rel =>
          refine ⟨k + 1, by omega, by go_num, ⟨fun j hj => ?_⟩⟩
          by_cases e : j = k
          · subst e; rw [HP.out]; exact h3
          · exact HE.out j (by omega)
        case measure => simp [intOf]; omega
      · have h3' : ((300 : Int) < (p.size : Int)) = True := eq_true (by omega)
        go_wp2
        go_ret
        refine ⟨ret_bool ?_, rfl⟩
        unfold fewB
        rw [show (l.all fun s => decide (s.size ≤ 300)) = false from by
          rw [List.all_eq_false]
          exact ⟨p, by rw [← HP.out]; exact getD_mem (by rw [HN.out]; exact hlt), by simpa using h3⟩]
        rfl
    · have hge : ((k : Int) < (n : Int)) = False := eq_false (by omega)
      have HALL : Sl ((l.all fun s => decide (s.size ≤ 300)) = true) := ⟨by
        rw [List.all_eq_true]
        intro s hs
        obtain ⟨j, hj, rfl⟩ := List.mem_iff_getElem.1 hs
        have := HE.out j (by rw [HN.out] at hj; omega)
        rw [List.getD_eq_getElem?_getD, List.getElem?_eq_getElem hj] at this
        exact decide_eq_true this⟩
      go_wp2
      go_ret
      refine ⟨ret_bool ?_, rfl⟩
      unfold fewB
      rw [HALL.out, Bool.true_and, HN.out, Bool.eq_iff_iff]
      simp
      omega
set_option maxHeartbeats 800000 in
theorem in_any (s : ByteArray) (l : List ByteArray) (v : Value) (W : World) (hv : StrA W v l) (hl : l.length ≤ 1000000) : Calls Tryz.prog 27 #[.string s, v] W fun e w' => e = .returned (.bool (decide (bytes s ∈ l.map bytes))) ∧ W = w' := by
  obtain ⟨ad, ca, sa, oa, rfl, hca, haa, hcell⟩ := hv
  have HA := Sl.mk hcell
  have HAA := Sl.mk haa
  clear hcell haa hca
  obtain ⟨n, hn⟩ : ∃ n, l.length = n := ⟨_, rfl⟩
  have HN := Sl.mk hn
  rw [hn] at hl ⊢
  clear hn
  go_enter Tryz.func27, Tryz.ntmps27
  go_wp2
  go_loop [5] (fun i => ∃ k : Nat, k ≤ n ∧ i = .int .i64 k ∧ Sl (∀ j, j < k → bytes s ≠ bytes (l.getD j ByteArray.empty))) (fun i => n - (intOf i).toNat)
  case atStart => exact ⟨0, Nat.zero_le _, rfl, ⟨fun j hj => by omega⟩⟩
  case round =>
    obtain ⟨k, hk, rfl, HE⟩ := hrel
    by_cases hlt : k < n
    · obtain rfl := HAA.out (by rw [HN.out]; omega)
      obtain ⟨p, hp⟩ : ∃ p, l.getD k ByteArray.empty = p := ⟨_, rfl⟩
      have HP := Sl.mk hp
      have HM : Sl (p ∈ l) := ⟨by rw [← hp]; exact getD_mem (by rw [HN.out]; exact hlt)⟩
      have e0 : W.cell? ⟨sa, oa + k, none⟩ = some (.string p) := by rw [HA.out k (by rw [HN.out]; omega), hp]
      have hk0 : (0 : Int) ≤ (k : Int) := by omega
      have hk1 : (k : Int) < (n : Int) := by omega
      clear hp
      obtain ⟨r, hr⟩ : ∃ r, (p.toList == s.toList) = r := ⟨_, rfl⟩
      have HR : Sl (decide (bytes p = bytes s) = r) := ⟨by rw [← beq_bytes2]; exact hr⟩
      cases r with
      | true =>
        go_wp2
        go_ret
        refine ⟨ret_bool (decide_eq_true ?_).symm, rfl⟩
        have := of_decide_eq_true HR.out
        rw [← this]
        exact ⟨p, HM.out, rfl⟩
      | false =>
        go_wp2
        go_round
        case rel =>
          refine ⟨k + 1, by omega, by go_num, ⟨fun j hj => ?_⟩⟩
          by_cases e : j = k
          · subst e; rw [HP.out]; exact fun e => of_decide_eq_false HR.out e.symm
          · exact HE.out j (by omega)
        case measure => simp [intOf]; omega
    · have hge : ((k : Int) < (n : Int)) = False := eq_false (by omega)
      go_wp2
      go_ret
      refine ⟨ret_bool (decide_eq_false (fun e => ?_)).symm, rfl⟩
      obtain ⟨x, hx, hb⟩ := e
      obtain ⟨j, hj, rfl⟩ := List.mem_iff_getElem.1 hx
      have := HE.out j (by rw [HN.out] at hj; omega)
      rw [List.getD_eq_getElem?_getD, List.getElem?_eq_getElem hj] at this
      exact this hb.symm

/-- Is none there twice, as the document says it: none is among those ahead of it. -/
theorem nodup_prefix (l : List (List Nat)) : l.Nodup ↔ ∀ i, i < l.length → l.getD i [] ∉ l.take i := by
  constructor
  · intro h i hi hm
    obtain ⟨j, hj, e⟩ := List.mem_iff_getElem.1 hm
    have hj' : j < i := by rw [List.length_take] at hj; omega
    rw [List.getElem_take] at e
    rw [List.getD_eq_getElem?_getD, List.getElem?_eq_getElem hi] at e
    have := (List.pairwise_iff_getElem.1 h) j i (by omega) hi hj'
    exact this e
  · intro h
    refine List.pairwise_iff_getElem.2 (fun i j hi hj hij e => h j hj ?_)
    rw [List.getD_eq_getElem?_getD, List.getElem?_eq_getElem hj]
    refine List.mem_iff_getElem.2 ⟨i, by rw [List.length_take]; omega, ?_⟩
    rw [List.getElem_take]; exact e
theorem strA_take {W : World} {a : Option Addr} {n cap sb so : Nat} {l : List ByteArray} (hn : l.length = n) (hc : n ≤ cap) (ha : 0 < n → a = some ⟨sb, so, none⟩) (h : ∀ i, i < n → W.cell? ⟨sb, so + i, none⟩ = some (.string (l.getD i ByteArray.empty))) {k : Nat} (hk : k < n) :
    StrA W (.slice a k cap) (l.take k) := by
  refine ⟨a, cap, sb, so, by rw [List.length_take, Nat.min_eq_left (by omega)], by rw [List.length_take]; omega, fun _ => ha (by omega), fun i hi => ?_⟩
  rw [List.length_take] at hi
  rw [h i (by omega)]
  congr 2
  rw [List.getD_eq_getElem?_getD, List.getD_eq_getElem?_getD, List.getElem?_take_of_lt (by omega)]
set_option maxHeartbeats 800000 in
theorem onceR_any (l : List ByteArray) (v : Value) (W : World) (hv : StrA W v l) (hl : l.length ≤ 1000000) : Calls Tryz.prog 42 #[v] W fun e w' => e = .returned (.bool (decide (l.map bytes).Nodup)) ∧ Still W w' := by
  obtain ⟨ad, ca, sa, oa, rfl, hca, haa, hcell⟩ := hv
  obtain ⟨r0, hr0⟩ : ∃ r0, decide (l.map bytes).Nodup = r0 := ⟨_, rfl⟩
  have HD : Sl (decide (∀ i, i < (l.map bytes).length → (l.map bytes).getD i [] ∉ (l.map bytes).take i) = r0) := ⟨by rw [← hr0]; congr 1; exact propext (nodup_prefix _).symm⟩
  rw [hr0]
  clear hr0
  obtain ⟨n, hn⟩ : ∃ n, l.length = n := ⟨_, rfl⟩
  rw [hn] at hl hca haa hcell ⊢
  have HN := Sl.mk hn
  have HA := Sl.mk hcell
  have HAA := Sl.mk haa
  clear hcell haa hn
  go_enter Tryz.func42, Tryz.ntmps42
  go_wp2
  go_loopw [3] (fun i wr => ∃ k : Nat, k ≤ n ∧ i = .int .i64 k ∧ Sl (Still W wr) ∧ Sl (∀ j, j < k → bytes (l.getD j ByteArray.empty) ∉ (l.take j).map bytes)) (fun i _ => n - (intOf i).toNat)
  case atStart => exact ⟨0, Nat.zero_le _, rfl, ⟨Still.refl _⟩, ⟨fun j hj => by omega⟩⟩
  case round =>
    obtain ⟨k, hk, rfl, HS, HE⟩ := hrel
    by_cases hlt : k < n
    · have HT : Sl (∀ V, Still W V → Calls Tryz.prog 27 #[.string (l.getD k ByteArray.empty), .slice ad k ca] V fun e w' => e = .returned (.bool (decide (bytes (l.getD k ByteArray.empty) ∈ (l.take k).map bytes))) ∧ V = w') := ⟨fun V hV =>
        in_any _ _ _ V (strA_take HN.out hca HAA.out (fun i hi => by rw [World.cell?_of_block (w := W) (by rw [hV.heap])]; exact HA.out i hi) hlt) (by rw [List.length_take]; omega)⟩
      obtain rfl := HAA.out (by omega)
      obtain ⟨p, hp⟩ : ∃ p, l.getD k ByteArray.empty = p := ⟨_, rfl⟩
      have HP := Sl.mk hp
      have e0 : wr.cell? ⟨sa, oa + k, none⟩ = some (.string p) := by
        rw [World.cell?_of_block (w := W) (by rw [HS.out.heap]), HA.out k hlt, hp]
      rw [hp] at HT
      obtain ⟨r, hr⟩ : ∃ r, decide (bytes p ∈ (l.take k).map bytes) = r := ⟨_, rfl⟩
      have HR := Sl.mk hr
      rw [hr] at HT
      clear hr hp
      have hk0 : (0 : Int) ≤ (k : Int) := by omega
      have hk1 : (k : Int) < (n : Int) := by omega
      have hk2 : (k : Int) ≤ (ca : Int) := by omega
      have HQ : Sl (∀ a, Calls Tryz.prog 27 #[.string p, .slice (some ⟨sa, oa, none⟩) k ca] (wr.drewN a) fun e w' => e = .returned (.bool r) ∧ w' = wr.drewN a) := ⟨fun a => (HT.out _ (HS.out.drewN a)).mono fun _ _ ⟨h1, h2⟩ => ⟨h1, h2.symm⟩⟩
      clear HT
      go_wp2
      go_quiet (first | (go_at_call 27; exact Calls.quiet_of_same (HQ.out _)))
      cases r with
      | true =>
        go_wp2
        go_ret
        refine ⟨ret_bool ?_, HS.out.drewN _⟩
        rw [← HD.out]
        refine (decide_eq_false (fun h => ?_)).symm
        have := h k (by rw [List.length_map, HN.out]; exact hlt)
        refine this ?_
        have h2 := of_decide_eq_true HR.out
        rw [← HP.out, List.map_take] at h2
        rw [List.getD_eq_getElem?_getD, List.getElem?_map]
        rw [List.getD_eq_getElem?_getD] at h2
        rw [List.getElem?_eq_getElem (by rw [HN.out]; exact hlt)] at h2 ⊢
        exact h2
      | false =>
        go_wp2
        refine ⟨⟨k + 1, by omega, by go_num, ⟨HS.out.drewN _⟩, ⟨fun j hj => ?_⟩⟩, by simp [intOf]; omega⟩
        by_cases e : j = k
        · subst e; rw [HP.out]; exact of_decide_eq_false HR.out
        · exact HE.out j (by omega)
    · have hge : ((k : Int) < (n : Int)) = False := eq_false (by omega)
      go_wp2
      go_ret
      refine ⟨ret_bool ?_, HS.out⟩
      rw [← HD.out]
      refine (decide_eq_true (fun i hi => ?_)).symm
      rw [List.length_map] at hi
      have := HE.out i (by rw [HN.out] at hi; omega)
      rw [List.map_take] at this
      rw [List.getD_eq_getElem?_getD, List.getElem?_map]
      rw [List.getD_eq_getElem?_getD] at this
      rw [List.getElem?_eq_getElem hi] at this ⊢
      exact this

end Go.Proofs.YthlagngpllahkaaGreatDoor.Nam
