/- What the rows' condition on the tables of packages mask and utf gives the walk; the door's own heap meets it. -/
import Derived.Test.YtimndpmbgfoofaaDoorMaA
import Derived.Test.YtimndpmbgfoofaaDoorUtA
import Derived.ProofKit
import Derived.LaidMore
import Derived.Lib.LaidTab
import Derived.Stop.Joined
import Derived.Stop.LaidErr
import Derived.OpenShut
set_option maxRecDepth 100000
namespace Go.Proofs.YtimndpmbgfoofaaDoor.LaidM
open Go.ChangeShapes Go.WideShapes Go.ChangeAt Go.RowKit Mas

/-- A row of the table as data. -/
def rowData (r : Row) : DataW Unit := .agg [.lit (.int .u8 (r.first : Int)), .lit (.int .i64 (r.behind : Int)), .lit (.int .u64 (r.least : Int)), .lit (.int .u64 (r.most : Int))]
theorem row_cells {enc : TypeId × Value → Unit} {w : World} {base : Nat} {sp : Nat → Bool} {held : Bool} {fuel : Nat} {cs : List Value} {r : Row} {p : List MemPlace}
    (h : DataW.trod enc Tryd.prog w base sp held fuel 117 cs = some (rowData r, p)) : cs = r.cells := by
  obtain ⟨xs, n, _, hx, hl, hlen, hf⟩ := DataW.trod_struct Tryd.underlying117 h
  have cw : Tryd.prog.cellsOf 117 = 4 := by kernel_rfl
  have cu : Tryd.prog.cellsOf 100 = 1 := by kernel_rfl
  have c3 : Tryd.prog.cellsOf 3 = 1 := by kernel_rfl
  have c5 : Tryd.prog.cellsOf 5 = 1 := by kernel_rfl
  rw [cw] at hl
  match xs, hlen with
  | [y0, y1, y2, y3], _ =>
    have h0 := hf 0 _ rfl
    have h1 := hf 1 _ rfl
    have h2 := hf 2 _ rfl
    have h3 := hf 3 _ rfl
    simp only [List.getElem?_cons_zero, List.getElem?_cons_succ] at h0 h1 h2 h3
    have hx1 := congrArg Prod.fst hx
    simp only [rowData, List.map_cons, List.map_nil, DataW.agg.injEq, List.cons.injEq, and_true] at hx1
    obtain ⟨e0, e1, e2, e3⟩ := hx1
    obtain ⟨d0, p0⟩ := y0
    obtain ⟨d1, p1⟩ := y1
    obtain ⟨d2, p2⟩ := y2
    obtain ⟨d3, p3⟩ := y3
    simp only at e0 e1 e2 e3
    subst e0 e1 e2 e3
    obtain ⟨z0, g0, hz0, _⟩ := DataW.trod_int Tryd.underlying5 h0
    obtain ⟨z1, g1, hz1, _⟩ := DataW.trod_int Tryd.underlying3 h1
    obtain ⟨z2, g2, hz2, _⟩ := DataW.trod_int Tryd.underlying100 h2
    obtain ⟨z3, g3, hz3, _⟩ := DataW.trod_int Tryd.underlying100 h3
    match cs, hl with
    | [a0, a1, a2, a3], _ =>
      simp [c3, c5, cu] at g0 g1 g2 g3 hz0 hz1 hz2 hz3
      subst g0 g1 g2 g3
      rw [← hz0.1, ← hz1.1, ← hz2.1, ← hz3.1]
      rfl
theorem table_cells {enc : TypeId × Value → Unit} {w : World} {base : Nat} {sp : Nat → Bool} {held : Bool} {fuel : Nat} {cs : List Value} {p : List MemPlace}
    (h : DataW.trod enc Tryd.prog w base sp held fuel 118 cs = some (.agg [rowData row0, rowData row1], p)) : cs = table := by
  obtain ⟨xs, n, _, hx, hl, hlen, hf⟩ := DataW.trod_array Tryd.underlying118 h
  have ct : Tryd.prog.cellsOf 118 = 8 := by kernel_rfl
  have cw : Tryd.prog.cellsOf 117 = 4 := by kernel_rfl
  rw [ct] at hl
  rw [cw] at hf
  have hx1 := congrArg Prod.fst hx
  simp only [DataW.agg.injEq] at hx1
  match xs, hlen with
  | [y0, y1], _ =>
    obtain ⟨d0, p0⟩ := y0
    obtain ⟨d1, p1⟩ := y1
    simp only [List.map_cons, List.map_nil, List.cons.injEq, and_true] at hx1
    obtain ⟨rfl, rfl⟩ := hx1
    have k0 := row_cells (hf 0 (by decide))
    have k1 := row_cells (hf 1 (by decide))
    simp only [Nat.zero_mul, Nat.one_mul, List.drop_zero] at k0 k1
    rw [← List.take_append_drop 4 cs, k0, ← List.take_of_length_le (l := cs.drop 4) (i := 4) (by rw [List.length_drop, hl]; decide), k1]
    rfl
end Go.Proofs.YtimndpmbgfoofaaDoor.LaidM
namespace Go.Proofs.YtimndpmbgfoofaaDoor.LaidU
open Go.ChangeShapes Go.WideShapes Go.ChangeAt Go.RowKit UtfPlain Utf

/-- A row of the table as data. -/
def rowData (r : Row) : DataW Unit := .agg [Lib.tabData .u8 [(r.lo : Int), (r.hi : Int)], .lit (.int .i64 (r.more : Int)), Lib.tabData .u8 [(r.slo : Int), (r.shi : Int)]]
theorem row_cells {enc : TypeId × Value → Unit} {w : World} {base : Nat} {sp : Nat → Bool} {held : Bool} {fuel : Nat} {cs : List Value} {r : Row} {p : List MemPlace}
    (h : DataW.trod enc Tryd.prog w base sp held fuel 132 cs = some (rowData r, p)) : cs = r.cells := by
  obtain ⟨xs, n, _, hx, hl, hlen, hf⟩ := DataW.trod_struct Tryd.underlying132 h
  have c51 : Tryd.prog.cellsOf 132 = 5 := by kernel_rfl
  have c43 : Tryd.prog.cellsOf 123 = 2 := by kernel_rfl
  have c3 : Tryd.prog.cellsOf 3 = 1 := by kernel_rfl
  have c5 : Tryd.prog.cellsOf 5 = 1 := by kernel_rfl
  rw [c51] at hl
  match xs, hlen with
  | [y0, y1, y2], _ =>
    have h0 := hf 0 _ rfl
    have h1 := hf 1 _ rfl
    have h2 := hf 2 _ rfl
    simp only [List.getElem?_cons_zero, List.getElem?_cons_succ] at h0 h1 h2
    have hx1 := congrArg Prod.fst hx
    simp only [rowData, List.map_cons, List.map_nil, DataW.agg.injEq, List.cons.injEq, and_true] at hx1
    obtain ⟨e0, e1, e2⟩ := hx1
    obtain ⟨d0, p0⟩ := y0
    obtain ⟨d1, p1⟩ := y1
    obtain ⟨d2, p2⟩ := y2
    simp only at e0 e1 e2
    subst e0 e1 e2
    have g0 := Lib.cells_of_tab Tryd.underlying123 Tryd.underlying5 c5 c43 h0
    have g2 := Lib.cells_of_tab Tryd.underlying123 Tryd.underlying5 c5 c43 h2
    obtain ⟨z, g1, hz, _⟩ := DataW.trod_int Tryd.underlying3 h1
    match cs, hl with
    | [a0, a1, a2, a3, a4], _ =>
      simp [c3] at g0 g1 g2 hz
      obtain ⟨rfl, rfl⟩ := g0
      obtain ⟨rfl, rfl⟩ := g2
      subst g1
      rw [← hz.1]
      rfl
theorem table_cells {enc : TypeId × Value → Unit} {w : World} {base : Nat} {sp : Nat → Bool} {held : Bool} {fuel : Nat} {cs : List Value} {p : List MemPlace}
    (h : DataW.trod enc Tryd.prog w base sp held fuel 133 cs = some (.agg (rows.map rowData), p)) : cs = table := by
  obtain ⟨xs, n, _, hx, hl, hlen, hf⟩ := DataW.trod_array Tryd.underlying133 h
  have c52 : Tryd.prog.cellsOf 133 = 45 := by kernel_rfl
  have c51 : Tryd.prog.cellsOf 132 = 5 := by kernel_rfl
  rw [c52] at hl
  rw [c51] at hf
  have hx1 := congrArg Prod.fst hx
  simp only [DataW.agg.injEq] at hx1
  have key : ∀ i, i < 9 → (cs.drop (i * 5)).take 5 = (row i).cells := by
    intro i hi
    have h1 := hf i hi
    have h2 : (xs.map (·.1))[i]? = some (rowData (row i)) := by
      rw [← hx1, List.getElem?_map]
      have : rows[i]? = some (row i) := by
        unfold row; rw [List.getD]; have hr : i < rows.length := hi
        rw [List.getElem?_eq_getElem hr]; rfl
      rw [this]; rfl
    rw [List.getElem?_map, Option.map_eq_some_iff] at h2
    obtain ⟨⟨d, q⟩, h3, h4⟩ := h2
    rw [h3] at h1
    simp only at h4
    subst h4
    exact row_cells h1
  have k0 := key 0 (by decide)
  have k1 := key 1 (by decide)
  have k2 := key 2 (by decide)
  have k3 := key 3 (by decide)
  have k4 := key 4 (by decide)
  have k5 := key 5 (by decide)
  have k6 := key 6 (by decide)
  have k7 := key 7 (by decide)
  have k8 := key 8 (by decide)
  have e : cs = cs.take 5 ++ ((cs.drop 5).take 5 ++ ((cs.drop 10).take 5 ++ ((cs.drop 15).take 5 ++ ((cs.drop 20).take 5 ++ ((cs.drop 25).take 5 ++ ((cs.drop 30).take 5 ++ ((cs.drop 35).take 5 ++ (cs.drop 40).take 5))))))) := by
    have st : ∀ k, cs.drop k = (cs.drop k).take 5 ++ cs.drop (k + 5) := fun k => by
      conv => lhs; rw [← List.take_append_drop 5 (cs.drop k)]
      rw [List.drop_drop]
    have l40 : (cs.drop 40).take 5 = cs.drop 40 := List.take_of_length_le (by rw [List.length_drop, hl]; decide)
    rw [l40, ← st 35, ← st 30, ← st 25, ← st 20, ← st 15, ← st 10, ← st 5, List.take_append_drop]
  simp only [Nat.zero_mul, Nat.one_mul, List.drop_zero, Nat.reduceMul] at k0 k1 k2 k3 k4 k5 k6 k7 k8
  rw [e, k0, k1, k2, k3, k4, k5, k6, k7, k8]
  rfl
end Go.Proofs.YtimndpmbgfoofaaDoor.LaidU
namespace Go.Proofs.YtimndpmbgfoofaaDoor
open Go.ChangeShapes Go.WideShapes Go.ChangeAt Go.RowKit

theorem ownKnobs : ownKnob Tryd.prog.godebug = none := by kernel_rfl
/-- The list that the row bears. -/
def laidList : List (String × DataW Unit) := Rows.cutThroughRow.laid
theorem door_met (os : Os) (args : Array Value) : laidMetH Tryd.prog laidList ((World.doorLaid Tryd.prog 105 os).forCall (fun _ _ => 0) ⟨#[], args, []⟩).memory :=
  laidMetH_of_parts3 (fuel := 8) (laidMet_of_run' 8 (by kernel_rfl) (by kernel_rfl)) (by kernel_rfl) (by kernel_rfl)
theorem globs_of_laid {W : World} (h : laidMetH Tryd.prog laidList W) : Mas.Globs W ∧ Utf.Globs W := by
  rw [MakeChecks.laidMetH_plain _ _ _ (by kernel_rfl)] at h
  have h2 := laidMet.tail h
  refine ⟨?_, ?_⟩
  · obtain ⟨ps, ⟨g', t', cs, fuel, p, q, hg', ht', hvar, hd, _, _⟩, _⟩ := h
    obtain rfl := Option.some.inj ((show Tryd.prog.globalNamed "pendentive/mask.wides" = some 0 by kernel_rfl).symm.trans hg')
    obtain rfl := Option.some.inj ((show (Tryd.prog.globals[0]?).map (·.type) = some 118 by kernel_rfl).symm.trans ht')
    have hc := LaidM.table_cells hd
    refine ⟨fun j v hv => ?_⟩
    rw [Nat.zero_add, World.var?_cell hg' hvar j, ← hv, ← hc]
    simp
  · obtain ⟨ps, ⟨g', t', cs, fuel, p, q, hg', ht', hvar, hd, _, _⟩, _⟩ := h2
    obtain rfl := Option.some.inj ((show Tryd.prog.globalNamed "pendentive/utf.starts" = some 1 by kernel_rfl).symm.trans hg')
    obtain rfl := Option.some.inj ((show (Tryd.prog.globals[1]?).map (·.type) = some 133 by kernel_rfl).symm.trans ht')
    have hc := LaidU.table_cells hd
    refine ⟨fun j v hv => ?_⟩
    rw [Nat.zero_add, World.var?_cell hg' hvar j, ← hv, ← hc]
    simp
end Go.Proofs.YtimndpmbgfoofaaDoor
