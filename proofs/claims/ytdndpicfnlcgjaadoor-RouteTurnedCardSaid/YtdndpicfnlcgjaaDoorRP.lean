/- route: a copy of strings; what lies beside a call. -/
import Derived.Test.YtdndpicfnlcgjaaDoorRO
set_option maxRecDepth 100000
namespace Go.Proofs.YtdndpicfnlcgjaaDoor.Rou
open Go.RowKit Nam
open RoutePlain (Rt below better fits pick stem)

/-- Strings behind a row of strings of one's own. -/
theorem add_strsA {Z : World} {base : Nat} {v0 x : Value} {m l : List ByteArray} (hown : OwnS Z base v0 m) (hx : StrA Z x l) (hl : m.length + l.length ≤ 1000000) (hbase : base ≤ Z.heap.size) :
    ∃ v1 w1, (Builtin.append_ #[23, 23] 23 #[v0, x]).run Tryd.prog Z = .ok v1 w1 ∧ OwnS w1 base v1 (m ++ l) ∧ Z.grownBy w1 v0.ownBlock := by
  obtain ⟨i0, hi0, hz0, hz1, hz2⟩ := info9
  obtain ⟨ad, cap, sb, so, rfl, hm, had, hcell⟩ := hx
  cases ad with
  | some a =>
    obtain ⟨v', w', h1, h2, h3, h4⟩ := own_appT (P := Tryd.prog) (w := Z) base 23 23 9 i0 _ 1 16 Tryd.underlying23 hi0 hz0 hz1 hz2 rfl (by decide) v0 m.length (m.map Value.string) hown a l.length cap (l.map Value.string) (by simp) (fun j u hu => by
      have hj : j < l.length := by have := (List.getElem?_eq_some_iff.1 hu).1; simpa using this
      have had' := had (by omega)
      injection had' with had'
      subst had'
      rw [Addr.add_mid, hcell j hj, ← hu, List.getElem?_map, List.getElem?_eq_getElem hj, List.getD_eq_getElem?_getD, List.getElem?_eq_getElem hj]; rfl) (fun u hu => by
        obtain ⟨y, _, rfl⟩ := List.mem_map.1 hu; rfl) (by unfold maxLen; omega) (by omega) hbase
    refine ⟨v', w', h1, ?_, h3⟩
    unfold OwnS
    rw [List.length_append, List.map_append]
    exact h2
  | none =>
    have hf : l = [] := by
      by_cases h : 0 < l.length
      · have := had h; cases this
      · exact List.eq_nil_of_length_eq_zero (by omega)
    subst hf
    refine ⟨v0, Z, ?_, by rw [List.append_nil]; exact hown, grown_refl _ _⟩
    rcases hown.2 with ⟨rfl, _⟩ | ⟨g, c, cur, rfl, _, _, hnc, _⟩
    · simp [Builtin.append_, run_underlying Tryd.underlying23, sizeOf, typeInfo, hi0, Builtin.lenOf, Builtin.firstCells]
    · simp [Builtin.append_, run_underlying Tryd.underlying23, sizeOf, typeInfo, hi0, Builtin.lenOf, Builtin.firstCells, storeCells]
      intro hc
      exact absurd hc (by omega)
theorem run_appS {ev : Operand → Value} {o : Oper} {x y : Operand} {Z w1 : World} {v0 src v1 : Value} {t : TypeId} (ho : o.op = .call { callee := .builtin .append, args := #[x, y], argTypes := #[t, t] }) (ht : o.type = t) (hs : ev x = v0) (hx : ev y = src)
    (hap : (Builtin.append_ #[t, t] t #[v0, src]).run Tryd.prog Z = .ok v1 w1) : (execOp ev o).run Tryd.prog Z = .ok (.value v1) w1 := by
  unfold execOp
  simp only [ho, ht, resolve, invoke, builtin, Sem.run_bind, Sem.run_pure, Result.andThen_ok, List.map_toArray, List.map_cons, List.map_nil, hs, hx, hap]
/-- A copy of strings: an empty row of one's own, in a new block, and what is appended to it. -/
theorem copy_row {w : World} {x : Value} {l : List ByteArray} (hx : StrA w x l) (hl : l.length ≤ 1000000) :
    ∃ v1 w1, (Builtin.append_ #[23, 23] 23 #[.slice (some ⟨w.heap.size, 0, none⟩) 0 0, x]).run Tryd.prog (w.alloc (.cells #[] 9)) = .ok v1 w1 ∧ StrA w1 v1 l ∧ Below w.heap.size w w1 := by
  have hB := (Below.refl w.heap.size w).alloc (Nat.le_refl _) (.cells #[] 9)
  have h0 : OwnS (w.alloc (.cells #[] 9)) w.heap.size (.slice (some ⟨w.heap.size, 0, none⟩) 0 0) [] := World.ownsRow_made w #[] 0 (Nat.le_refl _) (by unfold maxLen; omega) rfl
  obtain ⟨v1, w1, h1, h2, h3⟩ := add_strsA h0 (hx.below hB) (by simpa using hl) hB.size
  refine ⟨v1, w1, h1, h2.strA, hB.grown h3 hB.size (fun k hk => ?_)⟩
  have : some w.heap.size = some k := hk
  injection this with this
  omega
/-- The same, where something was laid between the row and what is appended. -/
theorem copy_row2 {w : World} {o : Obj} {x : Value} {l : List ByteArray} (hx : StrA w x l) (hl : l.length ≤ 1000000) :
    ∃ v1 w1, (Builtin.append_ #[23, 23] 23 #[.slice (some ⟨w.heap.size, 0, none⟩) 0 0, x]).run Tryd.prog ((w.alloc (.cells #[] 9)).alloc o) = .ok v1 w1 ∧ StrA w1 v1 l ∧ Below w.heap.size w w1 ∧ w1.heap[w.heap.size + 1]? = some o := by
  have hB := (Below.refl w.heap.size w).alloc (Nat.le_refl _) (.cells #[] 9)
  have hB2 := hB.alloc hB.size o
  have h0 : OwnS (w.alloc (.cells #[] 9)) w.heap.size (.slice (some ⟨w.heap.size, 0, none⟩) 0 0) [] := World.ownsRow_made w #[] 0 (Nat.le_refl _) (by unfold maxLen; omega) rfl
  obtain ⟨v1, w1, h1, h2, h3⟩ := add_strsA (h0.below ((Below.refl _ _).alloc (Nat.le_refl _) o)) (hx.below hB2) (by simpa using hl) hB2.size
  refine ⟨v1, w1, h1, h2.strA, hB2.grown h3 hB2.size (fun k hk => ?_), ?_⟩
  · have : some w.heap.size = some k := hk
    injection this with this
    omega
  · rw [h3.block _ (by simp only [alloc_size]; omega) (fun e => by
      have : some (w.heap.size + 1) = some w.heap.size := e
      injection this with this
      omega)]
    exact alloc_new _ _ _ (by rw [alloc_size])
section
variable {P : Program} {md : Region.Mode} {ops : Array Oper} {Q : Exit → Act → World → Prop} {S : World → Prop}
theorem heldAC {fuel : Nat} {listed : Array Bool} {a : Act} {w : World} {di dj : Option Tmp} {opi opj : Op} {ti tj : TypeId} (i j : Nat) (vi : Value) (wi : World) (f : FuncId) (args : Array Value)
    (hi : opIsT ops i di opi none ti) (hj : opIsT ops j dj opj none tj) (hr : Region.ready md ops listed = [j, i])
    (yi : ∀ o : Oper, o.op = opi → o.type = ti → (execOp a.eval o).run P w = .ok (.value vi) wi) (yj : ∀ o : Oper, o.op = opj → o.type = tj → (execOp a.eval o).run P w = .ok (.enter f args) w) (hS : S wi)
    (h1 : wpAnyH P md ops Q S fuel (listed.setIfInBounds i true) (a.put di vi) wi)
    (h2 : Calls P f args w fun e w' => ∃ v, e = .returned v ∧ S w' ∧ wpAnyH P md ops Q S fuel (listed.setIfInBounds j true) (a.put dj v) w') : wpAnyH P md ops Q S (fuel + 1) listed a w := by
  obtain ⟨o, ho, hd, hop, hg, ht⟩ := op_ofT hi
  obtain ⟨o', ho', hd', hop', hg', ht'⟩ := op_ofT hj
  refine wpAnyH_all hr (by simp) (fun k hk => ?_)
  rcases List.mem_cons.1 hk with rfl | hk
  · refine wpOp_step ho' (fun K hK => ?_)
    rw [if_pos (wanted_of hg' rfl)]
    unfold Oper.wp
    rw [yj o' hop' ht', Oper.upon_enter]
    refine h2.mono ?_
    rintro e w' ⟨v, rfl, hS', h'⟩
    rw [hd']
    exact hK _ _ ⟨hS', h'⟩
  · rw [List.mem_singleton] at hk
    subst hk
    refine wpOp_step ho (fun K hK => ?_)
    rw [if_pos (wanted_of hg rfl)]
    unfold Oper.wp
    rw [yi o hop ht, Oper.upon_value, hd]
    exact hK _ _ ⟨hS, h1⟩
end
end Go.Proofs.YtdndpicfnlcgjaaDoor.Rou
