/- What the rows' condition on the table of package mask gives the walks; the door's own heap meets it. -/
import Derived.Test.YtimndpmbgfoofaaDoorMaA
import Derived.ProofKit
import Derived.LaidMore
import Derived.Lib.LaidTab
import Derived.Stop.Joined
import Derived.Stop.LaidErr
import Derived.OpenShut
set_option maxRecDepth 100000
namespace Go.Proofs.YtimndpmbgfoofaaDoor
open Go.ChangeShapes Go.WideShapes Go.ChangeAt Go.RowKit Mas

theorem ownKnobs : ownKnob Tryd.prog.godebug = none := by kernel_rfl
/-- The list that every row bears. -/
def laidList : List (String × DataW Unit) := Rows.cutFramesRow.laid
theorem door_met (os : Os) (args : Array Value) : laidMetH Tryd.prog laidList ((World.doorLaid Tryd.prog 105 os).forCall (fun _ _ => 0) ⟨#[], args, []⟩).memory :=
  laidMetH_of_parts3 (fuel := 8) (laidMet_of_run' 8 (by kernel_rfl) (by kernel_rfl)) (by kernel_rfl) (by kernel_rfl)
/-- A row of the table as data. -/
def rowData (r : Row) : DataW Unit := .agg [.lit (.int .u8 (r.first : Int)), .lit (.int .i64 (r.behind : Int)), .lit (.int .u64 (r.least : Int)), .lit (.int .u64 (r.most : Int))]
theorem row_cells {enc : TypeId × Value → Unit} {w : World} {base : Nat} {sp : Nat → Bool} {held : Bool} {fuel : Nat} {cs : List Value} {r : Row} {p : List MemPlace}
    (h : DataW.trod enc Tryd.prog w base sp held fuel 117 cs = some (rowData r, p)) : cs = r.cells := by
  obtain ⟨xs, n, _, hx, hl, hlen, hf⟩ := DataW.trod_struct Tryd.underlying117 h
  have cw : Tryd.prog.cellsOf 117 = 4 := by kernel_rfl
  have cu : Tryd.prog.cellsOf 100 = 1 := by kernel_rfl
  have c3 : Tryd.prog.cellsOf 3 = 1 := by kernel_rfl
  have c5 : Tryd.prog.cellsOf 5 = 1 := by kernel_rfl
  rw [cw] at hl
  match xs, hlen with
  | [y0, y1, y2, y3], _ =>
    have h0 := hf 0 _ rfl
    have h1 := hf 1 _ rfl
    have h2 := hf 2 _ rfl
    have h3 := hf 3 _ rfl
    simp only [List.getElem?_cons_zero, List.getElem?_cons_succ] at h0 h1 h2 h3
    have hx1 := congrArg Prod.fst hx
    simp only [rowData, List.map_cons, List.map_nil, DataW.agg.injEq, List.cons.injEq, and_true] at hx1
    obtain ⟨e0, e1, e2, e3⟩ := hx1
    obtain ⟨d0, p0⟩ := y0
    obtain ⟨d1, p1⟩ := y1
    obtain ⟨d2, p2⟩ := y2
    obtain ⟨d3, p3⟩ := y3
    simp only at e0 e1 e2 e3
    subst e0 e1 e2 e3
    obtain ⟨z0, g0, hz0, _⟩ := DataW.trod_int Tryd.underlying5 h0
    obtain ⟨z1, g1, hz1, _⟩ := DataW.trod_int Tryd.underlying3 h1
    obtain ⟨z2, g2, hz2, _⟩ := DataW.trod_int Tryd.underlying100 h2
    obtain ⟨z3, g3, hz3, _⟩ := DataW.trod_int Tryd.underlying100 h3
    match cs, hl with
    | [a0, a1, a2, a3], _ =>
      simp [c3, c5, cu] at g0 g1 g2 g3 hz0 hz1 hz2 hz3
      subst g0 g1 g2 g3
      rw [← hz0.1, ← hz1.1, ← hz2.1, ← hz3.1]
      rfl
theorem table_cells {enc : TypeId × Value → Unit} {w : World} {base : Nat} {sp : Nat → Bool} {held : Bool} {fuel : Nat} {cs : List Value} {p : List MemPlace}
    (h : DataW.trod enc Tryd.prog w base sp held fuel 118 cs = some (.agg [rowData row0, rowData row1], p)) : cs = table := by
  obtain ⟨xs, n, _, hx, hl, hlen, hf⟩ := DataW.trod_array Tryd.underlying118 h
  have ct : Tryd.prog.cellsOf 118 = 8 := by kernel_rfl
  have cw : Tryd.prog.cellsOf 117 = 4 := by kernel_rfl
  rw [ct] at hl
  rw [cw] at hf
  have hx1 := congrArg Prod.fst hx
  simp only [DataW.agg.injEq] at hx1
  match xs, hlen with
  | [y0, y1], _ =>
    obtain ⟨d0, p0⟩ := y0
    obtain ⟨d1, p1⟩ := y1
    simp only [List.map_cons, List.map_nil, List.cons.injEq, and_true] at hx1
    obtain ⟨rfl, rfl⟩ := hx1
    have k0 := row_cells (hf 0 (by decide))
    have k1 := row_cells (hf 1 (by decide))
    simp only [Nat.zero_mul, Nat.one_mul, List.drop_zero] at k0 k1
    rw [← List.take_append_drop 4 cs, k0, ← List.take_of_length_le (l := cs.drop 4) (i := 4) (by rw [List.length_drop, hl]; decide), k1]
    rfl
theorem globs_of_laid {W : World} (h : laidMetH Tryd.prog laidList W) : Globs W := by
  rw [MakeChecks.laidMetH_plain _ _ _ (by kernel_rfl)] at h
  obtain ⟨ps, ⟨g', t', cs, fuel, p, q, hg', ht', hvar, hd, _, _⟩, _⟩ := h
  obtain rfl := Option.some.inj ((show Tryd.prog.globalNamed "pendentive/mask.wides" = some 0 by kernel_rfl).symm.trans hg')
  obtain rfl := Option.some.inj ((show (Tryd.prog.globals[0]?).map (·.type) = some 118 by kernel_rfl).symm.trans ht')
  have hc := table_cells hd
  refine ⟨fun j v hv => ?_⟩
  rw [Nat.zero_add, World.var?_cell hg' hvar j, ← hv, ← hc]
  simp
end Go.Proofs.YtimndpmbgfoofaaDoor
