/- What the rows' condition on the package's table, and the shape of the world, give the walks; a world that meets it; the wrap with both. -/
import Derived.Test.YthlagngpllahkaaGreatDoorS0
import Derived.Test.YthlagngpllahkaaGreatDoorRows
import Derived.ProofKit
import Derived.LaidMore
import Derived.Lib.LaidTab
import Derived.Stop.Joined
import Derived.Stop.LaidErr
import Derived.OpenShut
import Derived.HandedShaped
import Derived.Lay
set_option maxRecDepth 100000
namespace Go.Proofs.YthlagngpllahkaaGreatDoor
open Go.ChangeShapes Go.WideShapes Go.ChangeAt Go.RowKit

theorem ownKnobs : ownKnob Tryz.prog.godebug = none := by kernel_rfl
/-- The list that every row bears. -/
def laidList : List (String × DataW Unit) := Rows.shakeQuestionRow.laid
theorem lay_met (os : Os) (args : Array Value) : laidMetH Tryz.prog laidList ((World.laidAll Tryz.prog os laidList).forCall (fun _ _ => 0) ⟨#[], args, []⟩).memory := by
  rw [MakeChecks.laidMetH_plain _ _ _ (by kernel_rfl)]
  exact laidMet_laidAll _ (by kernel_rfl) (by kernel_rfl)
theorem lay_shaped (os : Os) (args : Array Value) : ((World.laidAll Tryz.prog os laidList).forCall (fun _ _ => 0) ⟨#[], args, []⟩).Shaped Tryz.prog :=
  World.shaped_of_ZipB (by kernel_rfl) (by kernel_rfl)

def spanData : DataW Unit := .agg [Lib.tabData .u8 [97, 122], Lib.tabData .u8 [65, 90], Lib.tabData .u8 [48, 57]]
theorem span_cells {enc : TypeId × Value → Unit} {w : World} {base : Nat} {sp : Nat → Bool} {held : Bool} {fuel : Nat} {cs : List Value} {p : List MemPlace}
    (h : DataW.trod enc Tryz.prog w base sp held fuel 150 cs = some (spanData, p)) : cs = spans := by
  obtain ⟨xs, n, _, hx, hl, hlen, hf⟩ := DataW.trod_array Tryz.underlying150 h
  have c53 : Tryz.prog.cellsOf 150 = 6 := by kernel_rfl
  have c52 : Tryz.prog.cellsOf 149 = 2 := by kernel_rfl
  have c5 : Tryz.prog.cellsOf 5 = 1 := by kernel_rfl
  rw [c53] at hl
  rw [c52] at hf
  have hx1 := congrArg Prod.fst hx
  simp only [spanData, DataW.agg.injEq] at hx1
  match xs, hlen with
  | [y0, y1, y2], _ =>
    simp only [List.map_cons, List.map_nil, List.cons.injEq, and_true] at hx1
    obtain ⟨e0, e1, e2⟩ := hx1
    have h0 := hf 0 (by decide)
    have h1 := hf 1 (by decide)
    have h2 := hf 2 (by decide)
    simp only [List.getElem?_cons_zero, List.getElem?_cons_succ] at h0 h1 h2
    obtain ⟨d0, p0⟩ := y0
    obtain ⟨d1, p1⟩ := y1
    obtain ⟨d2, p2⟩ := y2
    simp only at e0 e1 e2
    subst e0 e1 e2
    have g0 := Lib.cells_of_tab Tryz.underlying149 Tryz.underlying5 c5 c52 h0
    have g1 := Lib.cells_of_tab Tryz.underlying149 Tryz.underlying5 c5 c52 h1
    have g2 := Lib.cells_of_tab Tryz.underlying149 Tryz.underlying5 c5 c52 h2
    match cs, hl with
    | [a0, a1, a2, a3, a4, a5], _ =>
      simp at g0 g1 g2
      obtain ⟨rfl, rfl⟩ := g0
      obtain ⟨rfl, rfl⟩ := g1
      obtain ⟨rfl, rfl⟩ := g2
      rfl
theorem globs_of_laid {W : World} (h : laidMetH Tryz.prog laidList W) (hsh : W.ShapedOpen Tryz.prog) : GlobA W := by
  rw [MakeChecks.laidMetH_plain _ _ _ (by kernel_rfl)] at h
  have hp := Lib.tabIs_of_head (k := .u64) (zs := Lib.pow10Tab) (g := 5) (t := 199) (e := 108) (n := 20) (by kernel_rfl) (by kernel_rfl) Tryz.underlying199 Tryz.underlying108 (by kernel_rfl) (by kernel_rfl) (laidMet.tail (laidMet.tail h))
  have hs := Lib.tabIs_of_head (k := .u32) (zs := [1732584193, 4023233417, 2562383102, 271733878, 3285377520]) (g := 0) (t := 142) (e := 141) (n := 5) (by kernel_rfl) (by kernel_rfl) Tryz.underlying142 Tryz.underlying141 (by kernel_rfl) (by kernel_rfl) (laidMet.tail (laidMet.tail (laidMet.tail h)))
  have hr := Lib.tabIs_of_head (k := .u32) (zs := [1518500249, 1859775393, 2400959708, 3395469782]) (g := 4) (t := 175) (e := 141) (n := 4) (by kernel_rfl) (by kernel_rfl) Tryz.underlying175 Tryz.underlying141 (by kernel_rfl) (by kernel_rfl) (laidMet.tail (laidMet.tail (laidMet.tail (laidMet.tail h))))
  have hb := Lib.tabIs_of_head (k := .u8) (zs := [65, 66, 67, 68, 69, 70, 71, 72, 73, 74, 75, 76, 77, 78, 79, 80, 81, 82, 83, 84, 85, 86, 87, 88, 89, 90, 97, 98, 99, 100, 101, 102, 103, 104, 105, 106, 107, 108, 109, 110, 111, 112, 113, 114, 115, 116, 117, 118, 119, 120, 121, 122, 48, 49, 50, 51, 52, 53, 54, 55, 56, 57, 43, 47]) (g := 1) (t := 143) (e := 5) (n := 64) (by kernel_rfl) (by kernel_rfl) Tryz.underlying143 Tryz.underlying5 (by kernel_rfl) (by kernel_rfl) (laidMet.tail (laidMet.tail (laidMet.tail (laidMet.tail (laidMet.tail (laidMet.tail h))))))
  have h7 := laidMet.tail (laidMet.tail (laidMet.tail (laidMet.tail (laidMet.tail (laidMet.tail (laidMet.tail h))))))
  obtain ⟨ps, ⟨g', t', cs, fuel, p, q, hg', ht', hvar, hd, _, _⟩, _⟩ := h7
  obtain rfl := Option.some.inj ((show Tryz.prog.globalNamed "pendentive/head.tokenSpans" = some 2 by kernel_rfl).symm.trans hg')
  obtain rfl := Option.some.inj ((show (Tryz.prog.globals[2]?).map (·.type) = some 150 by kernel_rfl).symm.trans ht')
  have hc := span_cells hd
  refine ⟨⟨fun j v hv => ?_, fun j v hv => ?_⟩, ⟨fun j v hv => ?_⟩, ⟨fun j v hv => ?_, Go.Proofs.cell_of_shapedOpen_int (zero := #[.int .i64 0]) (t := 3) hsh (of_decide_eq_true (by kernel_rfl)) (by kernel_rfl) rfl (by kernel_rfl) (by kernel_rfl) Tryz.underlying3⟩, hp⟩
  · have hj : j < 5 := (List.getElem?_eq_some_iff.1 hv).1
    rw [Nat.zero_add, hs.cell (by kernel_rfl) j hj, ← hv, Sha.u32s_get Sha.start j hj]
    match j, hj with
    | 0, _ | 1, _ | 2, _ | 3, _ | 4, _ => rfl
  · have hj : j < 4 := (List.getElem?_eq_some_iff.1 hv).1
    rw [Nat.zero_add, hr.cell (by kernel_rfl) j hj, ← hv, Sha.u32s_get Sha.ks j hj]
    match j, hj with
    | 0, _ | 1, _ | 2, _ | 3, _ => rfl
  · have hj : j < 64 := by
      have := (List.getElem?_eq_some_iff.1 hv).1
      simpa [Bas.table] using this
    rw [Nat.zero_add, hb.cell (by kernel_rfl) j hj, ← hv, Bas.u8s_get Bas.table j (by simpa [Bas.table] using hj)]
    have key : ∀ i : Fin 64, ([65, 66, 67, 68, 69, 70, 71, 72, 73, 74, 75, 76, 77, 78, 79, 80, 81, 82, 83, 84, 85, 86, 87, 88, 89, 90, 97, 98, 99, 100, 101, 102, 103, 104, 105, 106, 107, 108, 109, 110, 111, 112, 113, 114, 115, 116, 117, 118, 119, 120, 121, 122, 48, 49, 50, 51, 52, 53, 54, 55, 56, 57, 43, 47] : List Int).getD i.val 0 = ((Bas.table.getD i.val 0 : Nat) : Int) := by decide
    rw [← key ⟨j, hj⟩]
  · rw [Nat.zero_add, World.var?_cell hg' hvar j, ← hv, ← hc]
    simp
/-- A call's contract, over a world of shape in which the listed variables are laid, is the row's. -/
theorem handed_shake {H : Type} {enc : TypeId × Value → H} {os : Os} {f : FuncId} {fn : Func} {s : ChangeSpec}
    (started : os.Started) (noInit : Tryz.prog.inits.idxOf? f = none) (hfn : Tryz.prog.funcs[f]? = some fn)
    (witness : ∃ (w : World) (tape : Tape) (i : Input), w.os = os ∧ (w.forCall tape i).Shaped Tryz.prog ∧ i.vars = [] ∧ Input.okWide Tryz.prog (w.forCall tape i) .any w.heap.size f i ∧
      ((s.pre enc Tryz.prog fn [] false (w.forCall tape i).memory i.args ∧ laidMetH Tryz.prog laidList (w.forCall tape i).memory) ∧ sizedMet enc Tryz.prog fn (OpenSpec.ofChange s) false (w.forCall tape i).memory i.args) ∧ ({} : Assume).holds Tryz.prog (lone (Frame.enter Tryz.prog f i.args .normal) [] (w.forCall tape i)))
    (contract : ∀ (W : World) (base : Nat) (args : Array Value) (ds gs : List (DataW H)) (before : List MemPlace),
      (∀ (j : Nat) t v, fn.params[j]? = some t → args[j]? = some v → Value.okWide Tryz.prog W .any base t v) →
      DataW.Whole enc Tryz.prog fn.params.toList s.vars false W args.toList ds gs before → GlobA W →
      Calls Tryz.prog f args W fun e W' => ∃ v, e = .returned v ∧ s.post enc Tryz.prog fn false true false false W args v W') :
    ReturnsInHanded {} Tryz.checked os f .any (fun w args => (s.pre enc Tryz.prog fn [] false w args ∧ laidMetH Tryz.prog laidList w) ∧ sizedMet enc Tryz.prog fn (OpenSpec.ofChange s) false w args) (s.post enc Tryz.prog fn false true false false) := by
  refine returnsInHanded_of_calls (C := Tryz.checked) ownKnobs started noInit witness ?_
  intro w tape i _ hsh _ hok hpre _
  obtain ⟨_, _, _, fn', hfn', _, _, _, _, hval⟩ := hok
  have e : fn' = fn := Option.some.inj (hfn'.symm.trans hfn)
  subst e
  obtain ⟨⟨⟨ds, gs, before, hw, _⟩, hx⟩, _⟩ := hpre
  have hw' := DataW.Whole.of_heap (w' := w.forCall tape i) (by rfl) hw
  have hx' : laidMetH Tryz.prog laidList (w.forCall tape i) := hx.of_heap (by rfl)
  refine (contract (w.forCall tape i) w.heap.size i.args ds gs before hval hw' (globs_of_laid hx' hsh)).mono fun e W' ⟨v, he, hp⟩ => ?_
  subst he
  exact ChangeSpec.post_blind hp
end Go.Proofs.YthlagngpllahkaaGreatDoor
