/- What the laws over two rows of strings answer where one of them is too long: awake's answer. An append behind a guard. -/
import Derived.Test.YtcdpkabbmdannaaDoorP
namespace Go.Proofs.YtcdpkabbmdannaaDoor
open Go.RowKit HeadPlain

/-- A row of strings behind another one, where a guard lets it run. -/
theorem app_allG {w : World} {ops : Array Oper} {rest : List Oper} {o : Oper} {a : Act} {Q : Exit → Act → World → Prop} (hw : Region.wanted o (yielded ops a.tmps) = true) (s x : Operand)
    (ho : o.op = .call { callee := .builtin .append, args := #[s, x], argTypes := #[22, 22] }) (base : Nat) (v src : Value) (m l : List ByteArray) (hs : a.eval s = v) (hown : OwnS w base v m)
    (hx : a.eval x = src) (hsrc : StrA w src l) (hl : m.length + l.length ≤ 1000000) (hbase : base ≤ w.heap.size)
    (h : ∀ v' w', Sl (OwnS w' base v' (m ++ l)) → Sl (w.grownBy w' v.ownBlock) → wpList Tryd.prog ops Q rest (a.put o.dst v') w') : wpList Tryd.prog ops Q (o :: rest) a w := by
  refine wpList_step fun K hK => ?_
  rw [if_pos hw]
  obtain ⟨v', w', hr, h2, h3⟩ := add_all hown hsrc hl hbase o.type
  unfold Oper.wp execOp
  simp only [ho, resolve, invoke, builtin, Sem.run_bind, Sem.run_pure, Result.andThen_ok, List.map_toArray, List.map_cons, List.map_nil, hs, hx, hr]
  exact hK _ _ (h v' w' ⟨h2⟩ ⟨h3⟩)
set_option maxRecDepth 100000 in
set_option maxHeartbeats 2000000 in
theorem join_walk_bad (x y : Value) (a b : List ByteArray) (w : World) (hg : Globs w) (ha : StrA w x a) (hb : StrA w y b) (hla : a.length ≤ maxLen) (hsa : ∀ s ∈ a, s.size ≤ maxLen) (hlb : b.length ≤ maxLen) (hsb : ∀ s ∈ b, s.size ≤ maxLen) (hbad : fewB a = false ∨ fewB b = false) :
    Calls Tryd.prog 4 #[x, y] w fun e w' => e = .returned (.bool true) ∧ Sl (Below w.heap.size w w') := by
  have HG := Sl.mk hg
  have HFA : Sl (∀ r, fewB a = r → ∀ W, Below w.heap.size w W → Calls Tryd.prog 10 #[x] W fun e w' => e = .returned (.bool r) ∧ W = w') := ⟨fun r hr W hB => few_ex hr (ha.below hB) hla hsa⟩
  have HFB : Sl (∀ r, fewB b = r → ∀ W, Below w.heap.size w W → Calls Tryd.prog 10 #[y] W fun e w' => e = .returned (.bool r) ∧ W = w') := ⟨fun r hr W hB => few_ex hr (hb.below hB) hlb hsb⟩
  clear hg ha hb hla hsa hlb hsb
  obtain ⟨r, hr⟩ : ∃ r, fewB a = r := ⟨_, rfl⟩
  have HR := Sl.mk hr
  rw [hr] at hbad
  clear hr
  cases r with
  | false =>
    clear hbad
    go_enter Tryd.func4, Tryd.ntmps4
    go_wp2_with fail
    refine (awake_ex (below0 w) HG.out).mono ?_
    rintro e w1 ⟨rfl, _, HB1⟩
    go_wp2_with fail
    refine (HFA.out _ HR.out _ HB1.out).mono ?_
    rintro e w2 ⟨rfl, rfl⟩
    go_wp2_with fail
    refine (awake_ex HB1.out HG.out).mono ?_
    rintro e w3 ⟨rfl, _, HB3⟩
    go_wp2
    go_ret
    exact ⟨rfl, HB3⟩
  | true =>
    have HR2 : Sl (fewB b = false) := ⟨by rcases hbad with h | h; cases h; exact h⟩
    clear hbad
    go_enter Tryd.func4, Tryd.ntmps4
    go_wp2_with fail
    refine (awake_ex (below0 w) HG.out).mono ?_
    rintro e w1 ⟨rfl, _, HB1⟩
    go_wp2_with fail
    refine (HFA.out _ HR.out _ HB1.out).mono ?_
    rintro e w2 ⟨rfl, rfl⟩
    go_wp2_with fail
    refine (HFB.out _ HR2.out _ HB1.out).mono ?_
    rintro e w2 ⟨rfl, rfl⟩
    go_wp2_with fail
    refine (awake_ex HB1.out HG.out).mono ?_
    rintro e w3 ⟨rfl, _, HB3⟩
    go_wp2
    go_ret
    exact ⟨rfl, HB3⟩
set_option maxRecDepth 100000 in
set_option maxHeartbeats 2000000 in
theorem first_walk_bad (x y : Value) (a b : List ByteArray) (w : World) (hg : Globs w) (ha : StrA w x a) (hb : StrA w y b) (hla : a.length ≤ maxLen) (hsa : ∀ s ∈ a, s.size ≤ maxLen) (hlb : b.length ≤ maxLen) (hsb : ∀ s ∈ b, s.size ≤ maxLen) (hbad : fewB a = false ∨ fewB b = false) :
    Calls Tryd.prog 5 #[x, y] w fun e w' => e = .returned (.bool true) ∧ Sl (Below w.heap.size w w') := by
  have HG := Sl.mk hg
  have HFA : Sl (∀ r, fewB a = r → ∀ W, Below w.heap.size w W → Calls Tryd.prog 10 #[x] W fun e w' => e = .returned (.bool r) ∧ W = w') := ⟨fun r hr W hB => few_ex hr (ha.below hB) hla hsa⟩
  have HFB : Sl (∀ r, fewB b = r → ∀ W, Below w.heap.size w W → Calls Tryd.prog 10 #[y] W fun e w' => e = .returned (.bool r) ∧ W = w') := ⟨fun r hr W hB => few_ex hr (hb.below hB) hlb hsb⟩
  clear hg ha hb hla hsa hlb hsb
  obtain ⟨r, hr⟩ : ∃ r, fewB a = r := ⟨_, rfl⟩
  have HR := Sl.mk hr
  rw [hr] at hbad
  clear hr
  cases r with
  | false =>
    clear hbad
    go_enter Tryd.func5, Tryd.ntmps5
    go_wp2_with fail
    refine (awake_ex (below0 w) HG.out).mono ?_
    rintro e w1 ⟨rfl, _, HB1⟩
    go_wp2_with fail
    refine (HFA.out _ HR.out _ HB1.out).mono ?_
    rintro e w2 ⟨rfl, rfl⟩
    go_wp2_with fail
    refine (awake_ex HB1.out HG.out).mono ?_
    rintro e w3 ⟨rfl, _, HB3⟩
    go_wp2
    go_ret
    exact ⟨rfl, HB3⟩
  | true =>
    have HR2 : Sl (fewB b = false) := ⟨by rcases hbad with h | h; cases h; exact h⟩
    clear hbad
    go_enter Tryd.func5, Tryd.ntmps5
    go_wp2_with fail
    refine (awake_ex (below0 w) HG.out).mono ?_
    rintro e w1 ⟨rfl, _, HB1⟩
    go_wp2_with fail
    refine (HFA.out _ HR.out _ HB1.out).mono ?_
    rintro e w2 ⟨rfl, rfl⟩
    go_wp2_with fail
    refine (HFB.out _ HR2.out _ HB1.out).mono ?_
    rintro e w2 ⟨rfl, rfl⟩
    go_wp2_with fail
    refine (awake_ex HB1.out HG.out).mono ?_
    rintro e w3 ⟨rfl, _, HB3⟩
    go_wp2
    go_ret
    exact ⟨rfl, HB3⟩
set_option maxRecDepth 100000 in
set_option maxHeartbeats 2000000 in
theorem some_walk_bad (x y : Value) (a b : List ByteArray) (w : World) (hg : Globs w) (ha : StrA w x a) (hb : StrA w y b) (hla : a.length ≤ maxLen) (hsa : ∀ s ∈ a, s.size ≤ maxLen) (hlb : b.length ≤ maxLen) (hsb : ∀ s ∈ b, s.size ≤ maxLen) (hbad : fewB a = false ∨ fewB b = false) :
    Calls Tryd.prog 7 #[x, y] w fun e w' => e = .returned (.bool true) ∧ Sl (Below w.heap.size w w') := by
  have HG := Sl.mk hg
  have HFA : Sl (∀ r, fewB a = r → ∀ W, Below w.heap.size w W → Calls Tryd.prog 10 #[x] W fun e w' => e = .returned (.bool r) ∧ W = w') := ⟨fun r hr W hB => few_ex hr (ha.below hB) hla hsa⟩
  have HFB : Sl (∀ r, fewB b = r → ∀ W, Below w.heap.size w W → Calls Tryd.prog 10 #[y] W fun e w' => e = .returned (.bool r) ∧ W = w') := ⟨fun r hr W hB => few_ex hr (hb.below hB) hlb hsb⟩
  clear hg ha hb hla hsa hlb hsb
  obtain ⟨r, hr⟩ : ∃ r, fewB a = r := ⟨_, rfl⟩
  have HR := Sl.mk hr
  rw [hr] at hbad
  clear hr
  cases r with
  | false =>
    clear hbad
    go_enter Tryd.func7, Tryd.ntmps7
    go_wp2_with fail
    refine (awake_ex (below0 w) HG.out).mono ?_
    rintro e w1 ⟨rfl, _, HB1⟩
    go_wp2_with fail
    refine (HFA.out _ HR.out _ HB1.out).mono ?_
    rintro e w2 ⟨rfl, rfl⟩
    go_wp2_with fail
    refine (awake_ex HB1.out HG.out).mono ?_
    rintro e w3 ⟨rfl, _, HB3⟩
    go_wp2
    go_ret
    exact ⟨rfl, HB3⟩
  | true =>
    have HR2 : Sl (fewB b = false) := ⟨by rcases hbad with h | h; cases h; exact h⟩
    clear hbad
    go_enter Tryd.func7, Tryd.ntmps7
    go_wp2_with fail
    refine (awake_ex (below0 w) HG.out).mono ?_
    rintro e w1 ⟨rfl, _, HB1⟩
    go_wp2_with fail
    refine (HFA.out _ HR.out _ HB1.out).mono ?_
    rintro e w2 ⟨rfl, rfl⟩
    go_wp2_with fail
    refine (HFB.out _ HR2.out _ HB1.out).mono ?_
    rintro e w2 ⟨rfl, rfl⟩
    go_wp2_with fail
    refine (awake_ex HB1.out HG.out).mono ?_
    rintro e w3 ⟨rfl, _, HB3⟩
    go_wp2
    go_ret
    exact ⟨rfl, HB3⟩
end Go.Proofs.YtcdpkabbmdannaaDoor
