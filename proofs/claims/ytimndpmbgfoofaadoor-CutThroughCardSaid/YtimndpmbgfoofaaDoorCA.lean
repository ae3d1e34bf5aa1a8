/- cut: frames in a block of their own, and what is written to them. -/
import Derived.Test.YtimndpmbgfoofaaDoorSmD
import Derived.Test.YtimndpmbgfoofaaDoorCutPlain
import Derived.Test.YtimndpmbgfoofaaDoorCutStream
set_option maxRecDepth 100000
namespace Go.Proofs.YtimndpmbgfoofaaDoor.Cut
open Go.RowKit MaskPlain Mas Fra Stm
open FramePlain (Fr Fr0 form chk ctl zero4)

/-- What is written from a place on. -/
def putL (cs : List Value) : Nat → List Value → List Value
  | _, [] => cs
  | o, v :: vs => putL (cs.set o v) (o + 1) vs
theorem setCells_row (g : Nat) (t : TypeId) : ∀ (vs : List Value) (o : Nat) (cs : List Value) (W : World), W.heap[g]? = some (.cells cs.toArray t (0, 0)) → (W.setCells g o vs).heap[g]? = some (.cells (putL cs o vs).toArray t (0, 0))
  | [], _, _, _, h => h
  | v :: vs, o, cs, W, h => by
    have h1 := heap_setCell_same W g o _ t v h
    rw [show cs.toArray.setIfInBounds o v = (cs.set o v).toArray from by simp] at h1
    exact setCells_row g t vs (o + 1) (cs.set o v) _ h1
theorem putL_app (a : List Value) : ∀ (vs : List Value) (b : List Value) (o : Nat), putL (a ++ b) (a.length + o) vs = a ++ putL b o vs
  | [], _, _ => rfl
  | v :: vs, b, o => by
    simp only [putL]
    rw [List.set_append_right _ _ (by omega), show a.length + o - a.length = o from by omega, Nat.add_assoc]
    exact putL_app a vs (b.set o v) (o + 1)
theorem putL_one (a b : List Value) (v : Value) (o : Nat) : putL (a ++ b) (a.length + o) [v] = a ++ putL b o [v] := putL_app a [v] b o
theorem cvs_put : ∀ (fs : List Fr) (i : Nat) (f : Fr), i < fs.length → putL (cvs fs) (i * 8) (cv f) = cvs (fs.set i f)
  | [], i, _, hi => absurd hi (by simp)
  | g :: fs, 0, f, _ => by
    rw [List.set_cons_zero, cvs_cons, cvs_cons]
    rfl
  | g :: fs, i + 1, f, hi => by
    rw [List.set_cons_succ, cvs_cons, cvs_cons, show (i + 1) * 8 = (cv g).length + i * 8 from by simp [cv]; omega, putL_app, cvs_put fs i f (by simpa using hi)]
theorem cvs_set : ∀ (fs : List Fr) (i j : Nat) (u : Value) (f : Fr), i < fs.length → j < 8 → cv f = (cv (fs.getD i Fr0)).set j u → (cvs fs).set (i * 8 + j) u = cvs (fs.set i f)
  | [], i, _, _, _, hi, _, _ => absurd hi (by simp)
  | g :: fs, 0, j, u, f, _, hj, h => by
    rw [List.set_cons_zero, cvs_cons, cvs_cons, Nat.zero_mul, Nat.zero_add, List.set_append_left _ _ (by simpa [cv] using hj), h]
    rfl
  | g :: fs, i + 1, j, u, f, hi, hj, h => by
    rw [List.set_cons_succ, cvs_cons, cvs_cons, List.set_append_right _ _ (by simp [cv]; omega), show (i + 1) * 8 + j - (cv g).length = i * 8 + j from by simp [cv]; omega,
      cvs_set fs i j u f (by simpa using hi) hj (by simpa using h)]
/-- A block that holds these frames. -/
def RowF (W : World) (g : Nat) (fs : List Fr) : Prop := W.heap[g]? = some (.cells (cvs fs).toArray 44 (0, 0))
section
variable {W W' : World} {g : Nat} {fs : List Fr}
theorem RowF.lt (h : RowF W g fs) : g < W.heap.size := (Array.getElem?_eq_some_iff.1 h).1
theorem RowF.below (h : RowF W g fs) (k : Below W.heap.size W W') : RowF W' g fs := by
  unfold RowF; rw [k.block g h.lt]; exact h
theorem RowF.grown {r : Option Nat} (h : RowF W g fs) (k : W.grownBy W' r) (hr : r ≠ some g) : RowF W' g fs := by
  unfold RowF; rw [k.block g h.lt (fun e => hr e.symm)]; exact h
theorem RowF.cell (h : RowF W g fs) {i j : Nat} (hi : i < fs.length) (hj : j < 8) : W.cell? ⟨g, i * 8 + j, none⟩ = (cv (fs.getD i Fr0))[j]? := by
  rw [cell_of_row _ _ _ _ _ _ h, List.getElem?_toArray, cvs_get fs i hi j hj]
theorem RowF.froz (h : RowF W g fs) (i : Nat) : W.frozen? ⟨g, i, none⟩ = false := frozen_of_row _ _ _ _ _ h
theorem RowF.set (h : RowF W g fs) (i j : Nat) (u : Value) (f : Fr) (hi : i < fs.length) (hj : j < 8) (hf : cv f = (cv (fs.getD i Fr0)).set j u) : RowF (W.setCell ⟨g, i * 8 + j, none⟩ u) g (fs.set i f) := by
  have h1 := heap_setCell_same W g (i * 8 + j) _ 44 u h
  unfold RowF
  rw [h1, ← cvs_set fs i j u f hi hj hf]
  simp
theorem RowF.put (h : RowF W g fs) (i : Nat) (f : Fr) (hi : i < fs.length) : RowF (W.setCells g (i * 8) (cv f)) g (fs.set i f) := by
  unfold RowF
  rw [← cvs_put fs i f hi]
  exact setCells_row g 44 (cv f) (i * 8) (cvs fs) W h
theorem RowF.range (h : RowF W g fs) (i : Nat) (hi : i < fs.length) : W.rangeAt g (i * 8) (cv (fs.getD i Fr0)) := fun j u hu => by
  have hj : j < 8 := by have := (List.getElem?_eq_some_iff.1 hu).1; simpa [cv] using this
  rw [h.cell hi hj]; exact hu
theorem RowF.there (h : RowF W g fs) (i : Nat) (hi : i < fs.length) : W.there g (i * 8) 8 := fun j hj => by
  refine ⟨?_, h.froz _⟩
  rw [h.cell hi hj]
  obtain ⟨u, hu⟩ := cv_some (fs.getD i Fr0) j hj
  rw [hu]; rfl
theorem RowF.frs (h : RowF W g fs) {n cap : Nat} (hn : fs.length = n) (hc : n ≤ cap) : FrsAt W (.slice (some ⟨g, 0, none⟩) n cap) fs := by
  subst hn
  refine ⟨_, cap, g, 0, rfl, hc, fun _ => rfl, fun i hi j hj => ?_⟩
  rw [Nat.zero_add]; exact h.cell hi hj
end
/-- A frame of a row is stored whole. -/
theorem store_mid {W : World} {ev : Operand → Value} {o : Oper} {x y : Operand} {g i : Nat} {fs : List Fr} {f : Fr} (ho : o.op = .store 44 x y) (hx : ev x = .pointer (some ⟨g, i * 8, none⟩)) (hy : ev y = .agg (cv f).toArray) (h : RowF W g fs) (hi : i < fs.length) :
    (execOp ev o).run Tryd.prog W = .ok .skip (W.setCells g (i * 8) (cv f)) := by
  unfold execOp
  simp only [ho, hx, hy, Sem.run_bind, Sem.run_pure, Result.andThen_ok, run_storeAt_mid (P := Tryd.prog) W g (i * 8) 44 (cv f).toArray (h.there i hi) (by kernel_rfl) (by simp [cv, Value.oneCell'])]
/-- A frame within a row is loaded whole. -/
theorem load_mid {W : World} {ev : Operand → Value} {o : Oper} {x : Operand} {b i : Nat} {cs : List Value} (ho : o.op = .load 44 x) (hx : ev x = .pointer (some ⟨b, i, none⟩)) (hs : cs.length = 8) (h : W.rangeAt b i cs) : (execOp ev o).run Tryd.prog W = .ok (.value (.agg cs.toArray)) W := by
  unfold execOp
  simp only [ho, hx, Instr.loadAt, Instr.sureAddr, Sem.run_bind, Sem.run_pure, Result.andThen_ok, run_loadVar_mid (P := Tryd.prog) W b i 44 cs _ h Tryd.underlying44 rfl (by rw [hs]; kernel_rfl)]
theorem FrsAt.range {W : World} {sb so n cap : Nat} {fs : List Fr} (h : FrsAt W (.slice (some ⟨sb, so, none⟩) n cap) fs) (i : Nat) (hi : i < fs.length) : W.rangeAt sb (so + i * 8) (cv (fs.getD i Fr0)) := fun j u hu => by
  obtain ⟨a, cap', sb', so', he, _, h3, h4⟩ := h
  injection he with e1 e2 e3
  rw [h3 (by omega)] at e1
  injection e1 with e1
  injection e1 with e4 e5
  subst e4 e5
  have hj : j < 8 := by have := (List.getElem?_eq_some_iff.1 hu).1; simpa [cv] using this
  rw [h4 i hi j hj]; exact hu
theorem range_below {w W : World} {b i : Nat} {cs : List Value} (h : w.rangeAt b i cs) (hB : Below w.heap.size w W) : W.rangeAt b i cs := fun j u hu => by
  have h2 := h j u hu
  rw [hB.cell (p := ⟨b, i + j, none⟩) (block_lt_of_cell h2)]; exact h2
/-- Frames made anew. -/
theorem cv0 : cv Fr0 = [.bool false, .int .i64 0, .bool false, .int .u8 0, .int .u8 0, .int .u8 0, .int .u8 0, .string ByteArray.empty] := rfl
theorem made_list : ∀ (n : Nat), madeCells (Value.agg #[.bool false, .int .i64 0, .bool false, .int .u8 0, .int .u8 0, .int .u8 0, .int .u8 0, .string ByteArray.empty]).cells (n * 8) = (cvs (List.replicate n Fr0)).toArray := fun n => by
  apply Array.ext_getElem?
  intro i
  have h0 : (cvs (List.replicate n Fr0)).toArray[i]? = (cvs (List.replicate n Fr0))[i]? := by simp
  rw [h0]
  by_cases h : i < n * 8
  · have h1 : i / 8 < n := by omega
    have h2 := cvs_get (List.replicate n Fr0) (i / 8) (by simpa using h1) (i % 8) (by omega)
    rw [show i / 8 * 8 + i % 8 = i from by omega] at h2
    have h3 : (List.replicate n Fr0).getD (i / 8) Fr0 = Fr0 := by simp [List.getD, h1]
    rw [h2, h3, cv0]
    simp [madeCells, Value.cells, h]
    have h8 : i % 8 < 8 := Nat.mod_lt _ (by decide)
    generalize i % 8 = k at h8 ⊢
    match k, h8 with
    | 0, _ => rfl
    | 1, _ => rfl
    | 2, _ => rfl
    | 3, _ => rfl
    | 4, _ => rfl
    | 5, _ => rfl
    | 6, _ => rfl
    | 7, _ => rfl
  · rw [Array.getElem?_eq_none (by simp [madeCells]; omega), List.getElem?_eq_none (by rw [cvs_length]; simp; omega)]
theorem make_frs (X : Int) (n : Nat) (hX : X = (n : Int)) (hn : n ≤ 2000000) (w : World) :
    ∃ V, (Instr.makeSlice 23 (.int .i64 X) (.int .i64 X)).run Tryd.prog w = .ok (.slice (some ⟨w.heap.size, 0, none⟩) n n) V ∧ V = w.alloc (.cells (cvs (List.replicate n Fr0)).toArray 44) := by
  subst hX
  obtain ⟨i, hi, hz, h1, h2⟩ := info43
  have := run_make (P := Tryd.prog) w 23 44 i _ Tryd.underlying23 hi hz .i64 .i64 (n : Int) (n : Int) (by omega) (by omega) (by rw [h2]; omega) (by omega)
  rw [h1] at this
  rw [show ((n : Int).toNat) = n from by omega, made_list] at this
  exact ⟨_, this, rfl⟩
theorem row_made (w : World) (n : Nat) : RowF (w.alloc (.cells (cvs (List.replicate n Fr0)).toArray 44)) w.heap.size (List.replicate n Fr0) := alloc_new _ _ _ rfl
end Go.Proofs.YtimndpmbgfoofaaDoor.Cut
