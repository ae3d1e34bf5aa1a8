/- Rows of strings: the call's own, appended to; any slice of strings. -/
import Derived.Test.YtdndpicfnlcgjaaDoorBase
set_option maxRecDepth 100000
namespace Go.Proofs.YtdndpicfnlcgjaaDoor
open Go.RowKit

theorem info9 : ∃ i, Tryd.prog.info? 9 = some i ∧ i.zero = some (.string ByteArray.empty) ∧ i.size = 1 ∧ i.bytes = 16 := by
  have h5 : (Tryd.prog.info? 9).map (fun i => (i.zero, i.size, i.bytes)) = some (some (.string ByteArray.empty), 1, 16) := by kernel_rfl
  cases hi : Tryd.prog.info? 9 with
  | none => rw [hi] at h5; cases h5
  | some i =>
    rw [hi] at h5
    simp only [Option.map_some, Option.some.injEq, Prod.mk.injEq] at h5
    exact ⟨i, rfl, h5.1, h5.2.1, h5.2.2⟩
/-- A row of strings of its own. -/
def OwnS (W : World) (base : Nat) (v : Value) (l : List ByteArray) : Prop := W.ownsRow base 9 1 v l.length (l.map Value.string)
theorem OwnS.slice {W : World} {base : Nat} {v : Value} {l : List ByteArray} (h : OwnS W base v l) : ∃ a c, v = .slice a l.length c := by
  obtain ⟨_, h2⟩ := h
  rcases h2 with ⟨rfl, hz⟩ | ⟨g, cap, cur, rfl, _⟩
  · rw [hz]; exact ⟨_, _, rfl⟩
  · exact ⟨_, _, rfl⟩
theorem OwnS.below {w w' : World} {base : Nat} {v : Value} {l : List ByteArray} (h : OwnS w base v l) (hb : Below w.heap.size w w') : OwnS w' base v l := own_below h hb
/-- One value more, in its own row, beside a block of another kind. -/
theorem app_str {P : Program} {w : World} {ops : Array Oper} {rest : List Oper} {o : Oper} {a : Act} {Q : Exit → Act → World → Prop} (hP : P = Tryd.prog) (hgd : o.guard = none) (s x : Operand)
    (ho : o.op = .call { callee := .builtin .append, args := #[s, x], argTypes := #[23, 23] }) (base : Nat) (v : Value) (l : List ByteArray) (y : ByteArray) (hs : a.eval s = v) (hown : OwnS w base v l)
    (ad : Addr) (c : Nat) (hx : a.eval x = .slice (some ad) 1 c) (hy : w.cell? ad = some (.string y)) (hsp : ad.spot = none) (hl : l.length ≤ 1000000) (hbase : base ≤ w.heap.size)
    (h : ∀ v' w', Sl (OwnS w' base v' (l ++ [y])) → Sl (w.grownBy w' v.ownBlock) → wpList P ops Q rest (a.put o.dst v') w') : wpList P ops Q (o :: rest) a w := by
  subst hP
  obtain ⟨i0, hi, hz0, hz1, hz2⟩ := info9
  refine wpList_append_own _ hgd s x 23 ho base 9 i0 (.string ByteArray.empty) 1 16 Tryd.underlying23 hi hz0 hz1 hz2 rfl (by decide) v l.length (l.map Value.string) hs hown ad 1 c [.string y] hx rfl ?_ ?_ ?_ ?_ hbase ?_
  · intro j u hu
    match j, hu with
    | 0, hu =>
      obtain ⟨b, off, spot⟩ := ad
      simp only at hsp
      subst hsp
      rw [Addr.add_mid]
      injection hu with hu
      subst hu
      exact hy
  · intro u hu; simp at hu; subst hu; rfl
  · unfold maxLen; omega
  · omega
  · intro v' w' h1 h2 _
    refine h v' w' ⟨?_⟩ ⟨h2⟩
    unfold OwnS
    rw [List.length_append, List.map_append]
    exact h1
/-- A block of another kind stays when a row of strings grows. -/
theorem stays {w w' : World} {base g : Nat} {v : Value} {l : List ByteArray} {cs : Array Value} {t : TypeId} (ho : OwnS w base v l) (hg : w.grownBy w' v.ownBlock) (h : w.heap[g]? = some (.cells cs t (0, 0))) (ht : t ≠ 9) : w'.heap[g]? = some (.cells cs t (0, 0)) := by
  rw [hg.block g (lt_of_block h) (fun e => by
    obtain ⟨_, h2⟩ := ho
    rcases h2 with ⟨rfl, _⟩ | ⟨k, cap, cur, rfl, _, hh, _⟩
    · cases e
    · have e2 : g = k := by simpa [Value.ownBlock] using e
      subst e2
      rw [h] at hh
      injection hh with hh
      injection hh with _ h4
      exact ht h4)]
  exact h
/-- The strings l are the elements of the slice v. -/
def StrA (W : World) (v : Value) (l : List ByteArray) : Prop :=
  ∃ (a : Option Addr) (cap sb so : Nat), v = .slice a l.length cap ∧ l.length ≤ cap ∧ (0 < l.length → a = some ⟨sb, so, none⟩) ∧ ∀ i, i < l.length → W.cell? ⟨sb, so + i, none⟩ = some (.string (l.getD i ByteArray.empty))
theorem StrA.below {w w' : World} {v : Value} {l : List ByteArray} (h : StrA w v l) (hb : Below w.heap.size w w') : StrA w' v l := by
  obtain ⟨a, cap, sb, so, h1, h2, h3, h4⟩ := h
  exact ⟨a, cap, sb, so, h1, h2, h3, fun i hi => by
    have := h4 i hi
    rw [hb.cell (p := ⟨sb, so + i, none⟩) (block_lt_of_cell this)]; exact this⟩
theorem OwnS.strA {w : World} {base : Nat} {v : Value} {l : List ByteArray} (h : OwnS w base v l) : StrA w v l := by
  obtain ⟨h1, h2⟩ := h
  rcases h2 with ⟨rfl, hz⟩ | ⟨g, cap, cur, rfl, hg, hh, hc1, hc2, hsz, htk⟩
  · exact ⟨none, 0, 0, 0, by rw [hz], by omega, fun h => by omega, fun i hi => by omega⟩
  · refine ⟨some ⟨g, 0, none⟩, cap, g, 0, rfl, hc1, fun _ => rfl, fun i hi => ?_⟩
    have hu : (l.map Value.string)[i]? = some (.string (l.getD i ByteArray.empty)) := by
      rw [List.getElem?_map, List.getElem?_eq_getElem hi, List.getD_eq_getElem?_getD, List.getElem?_eq_getElem hi]; rfl
    rw [Nat.zero_add, cell_of_row _ _ _ _ _ _ hh]
    rw [← htk] at hu
    have hj : i < (cur.toList.take (l.length * 1)).length := (List.getElem?_eq_some_iff.1 hu).1
    rw [List.length_take] at hj
    rw [List.getElem?_take_of_lt (by omega)] at hu
    simpa using hu
theorem map_bytes_eq {a b : List ByteArray} (hl : a.length = b.length) (h : ∀ j, j < a.length → bytes (a.getD j ByteArray.empty) = bytes (b.getD j ByteArray.empty)) : a.map bytes = b.map bytes := by
  apply List.ext_getElem (by simpa using hl)
  intro i h1 h2
  have hi : i < a.length := by simpa using h1
  have := h i hi
  simpa [List.getD_eq_getElem?_getD, List.getElem?_eq_getElem hi, List.getElem?_eq_getElem (hl ▸ hi : i < b.length)] using this
theorem map_bytes_ne {a b : List ByteArray} (k : Nat) (hk : k < a.length) (hl : a.length = b.length) (h : bytes (a.getD k ByteArray.empty) ≠ bytes (b.getD k ByteArray.empty)) : a.map bytes ≠ b.map bytes := by
  intro e
  apply h
  have := congrArg (fun l => l[k]?) e
  simpa [List.getD_eq_getElem?_getD, List.getElem?_eq_getElem hk, List.getElem?_eq_getElem (hl ▸ hk : k < b.length)] using this

end Go.Proofs.YtdndpicfnlcgjaaDoor
