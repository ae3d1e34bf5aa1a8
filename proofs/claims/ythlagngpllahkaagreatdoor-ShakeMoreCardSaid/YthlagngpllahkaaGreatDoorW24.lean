/- shake: fields appended whole, parts of a row of fields. -/
import Derived.Test.YthlagngpllahkaaGreatDoorS4
set_option maxRecDepth 100000
namespace Go.Proofs.YthlagngpllahkaaGreatDoor
open Go.RowKit HeadPlain

theorem fields_hi {W : World} {a : Option Addr} {n c k : Nat} {fs : List FV} (h : FieldsAt W (.slice a n c) fs) (hn : fs.length = n) (hk : k ≤ n) : FieldsAt W (sliced a 0 k c 2) (fs.take k) := by
  obtain ⟨a', cap, sb, so, e, hc, h2, h3, h4⟩ := h
  injection e with e1 e2 e3
  subst e1 e3
  have hl : (fs.take k).length = k := by rw [List.length_take]; omega
  refine ⟨_, c - 0, sb, so, by unfold sliced; rw [hl]; rfl, by omega, by omega, fun h0 => ?_, fun i hi => ?_⟩
  · have := h3 (by omega)
    subst this
    split
    · rfl
    · simp [Addr.add_mid]
  · have := h4 i (by omega)
    rwa [List.getD_eq_getElem?_getD, List.getElem?_take_of_lt (by omega), ← List.getD_eq_getElem?_getD]
theorem fields_lo {W : World} {a : Option Addr} {n c k : Nat} {fs : List FV} (h : FieldsAt W (.slice a n c) fs) (hn : fs.length = n) (hk : k ≤ n) : FieldsAt W (sliced a k n c 2) (fs.drop k) := by
  obtain ⟨a', cap, sb, so, e, hc, h2, h3, h4⟩ := h
  injection e with e1 e2 e3
  subst e1 e3
  have hl : (fs.drop k).length = n - k := by rw [List.length_drop]; omega
  refine ⟨_, c - k, sb, so + k * 2, by unfold sliced; rw [hl], by omega, by omega, fun h0 => ?_, fun i hi => ?_⟩
  · have := h3 (by omega)
    subst this
    rw [if_neg (by omega)]
    simp [Addr.add_mid]
  · have := h4 (k + i) (by omega)
    rw [List.getD_eq_getElem?_getD, List.getElem?_drop, ← List.getD_eq_getElem?_getD, show so + k * 2 + i * 2 = so + (k + i) * 2 by omega]
    exact this
theorem fields_n {W : World} {a : Option Addr} {n c : Nat} {fs : List FV} (h : FieldsAt W (.slice a n c) fs) : n = fs.length ∧ n ≤ c := by
  obtain ⟨a', cap, sb, so, e, hc, h2, h3, h4⟩ := h
  injection e with e1 e2 e3
  omega
theorem size60 : (Tryz.prog.info? 60).map (·.size) = some 2 := by kernel_rfl
theorem exec_hi {a : Act} {o : Oper} {x y : Operand} {bd : Option Addr} {n c k : Nat} {W : World} (ho : o.op = .slice 23 x none (some y) none) (hx : a.eval x = .slice bd n c) (hy : a.eval y = .int .i64 (k : Int)) (h : k ≤ c) :
    (execOp a.eval o).run Tryz.prog W = .ok (.value (sliced bd 0 k c 2)) W := by
  have hs := Tryz.underlying23
  obtain ⟨i0, hi, hz0, hz1, hz2⟩ := info48
  unfold execOp
  simp only [ho, hx, hy, Option.map_none, Option.map_some, Sem.run_bind]
  rw [run_sliceAt_slice (h := hs), run_slice_h (ht := hs) (h0 := by omega) (h2 := by omega)]
  simp [sizeOf, typeInfo, show Tryz.prog.elem 23 = 60 from rfl, hi, hz1]
theorem exec_lo {a : Act} {o : Oper} {x y : Operand} {bd : Option Addr} {n c k : Nat} {W : World} (ho : o.op = .slice 23 x (some y) none none) (hx : a.eval x = .slice bd n c) (hy : a.eval y = .int .i64 (k : Int)) (h : k ≤ n) :
    (execOp a.eval o).run Tryz.prog W = .ok (.value (sliced bd k n c 2)) W := by
  have hs := Tryz.underlying23
  obtain ⟨i0, hi, hz0, hz1, hz2⟩ := info48
  unfold execOp
  simp only [ho, hx, hy, Option.map_none, Option.map_some, Sem.run_bind]
  rw [run_sliceAt_slice (h := hs), run_slice_l (ht := hs) (h0 := by omega) (h1 := by omega)]
  simp [sizeOf, typeInfo, show Tryz.prog.elem 23 = 60 from rfl, hi, hz1]
/-- A row of fields behind another one. -/
theorem add_fall {Z : World} {base : Nat} {v0 x : Value} {m l : List FV} (hown : OwnF Z base v0 m) (hx : FieldsAt Z x l) (hl : m.length + l.length ≤ 100000) (hbase : base ≤ Z.heap.size) :
    ∃ v1 w1, (Builtin.append_ #[23, 23] 23 #[v0, x]).run Tryz.prog Z = .ok v1 w1 ∧ OwnF w1 base v1 (m ++ l) ∧ Z.grownBy w1 v0.ownBlock := by
  obtain ⟨i0, hi0, hz0, hz1, hz2⟩ := info48
  obtain ⟨ad, cap, sb, so, rfl, hcap, _, had, hcell⟩ := hx
  have key : ∀ a : Addr, (0 < l.length → a = ⟨sb, so, none⟩) → ∃ v1 w1, (Builtin.append_ #[23, 23] 23 #[v0, .slice (some a) l.length cap]).run Tryz.prog Z = .ok v1 w1 ∧ OwnF w1 base v1 (m ++ l) ∧ Z.grownBy w1 v0.ownBlock := fun a ha => by
    obtain ⟨v', w', h1, h2, h3, _⟩ := run_append_own (P := Tryz.prog) Z base 23 23 60 i0 _ 2 32 Tryz.underlying23 hi0 hz0 hz1 hz2 rfl (by decide) v0 m.length (cellsF m) hown a l.length cap (cellsF l) (cellsF_length l) (fun j u hu => by
      obtain ⟨i, hi, h⟩ := cellsF_one hu
      obtain rfl := ha (by omega)
      obtain ⟨g1, g2, _, _⟩ := hcell i hi
      rw [Addr.add_mid]
      rcases h with ⟨rfl, rfl⟩ | ⟨rfl, rfl⟩
      · exact g1
      · rw [← Nat.add_assoc]; exact g2) cellsF_oneCell (by unfold maxLen; omega) (by omega) hbase
    refine ⟨v', w', h1, ?_, h3⟩
    unfold OwnF
    rw [List.length_append, cellsF_append]
    exact h2
  cases ad with
  | some a => exact key a (fun h => by have := had h; injection this)
  | none =>
    have hz : l.length = 0 := by
      by_cases h : 0 < l.length
      · have := had h; cases this
      · omega
    have hf : l = [] := List.eq_nil_of_length_eq_zero hz
    subst hf
    refine ⟨v0, Z, ?_, by rw [List.append_nil]; exact hown, grown_refl _ _⟩
    rcases hown.2 with ⟨rfl, _⟩ | ⟨g, c, cur, rfl, _, _, hnc, _⟩
    · simp [Builtin.append_, run_underlying Tryz.underlying23, sizeOf, typeInfo, hi0, Builtin.lenOf, Builtin.firstCells]
    · simp [Builtin.append_, run_underlying Tryz.underlying23, sizeOf, typeInfo, hi0, Builtin.lenOf, Builtin.firstCells, storeCells]
      intro hc
      exact absurd hc (by omega)
theorem run_appF {a : Act} {o : Oper} {x y : Operand} {Z w1 : World} {v0 src v1 : Value} (ho : o.op = .call { callee := .builtin .append, args := #[x, y], argTypes := #[23, 23] }) (ht : o.type = 23) (hs : a.eval x = v0) (hx : a.eval y = src)
    (hap : (Builtin.append_ #[23, 23] 23 #[v0, src]).run Tryz.prog Z = .ok v1 w1) : (execOp a.eval o).run Tryz.prog Z = .ok (.value v1) w1 := by
  unfold execOp
  simp only [ho, ht, resolve, invoke, builtin, Sem.run_bind, Sem.run_pure, Result.andThen_ok, List.map_toArray, List.map_cons, List.map_nil, hs, hx, hap]
end Go.Proofs.YthlagngpllahkaaGreatDoor
