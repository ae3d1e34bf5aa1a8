/- begin -/
import Derived.Test.YtlkfkglcefhbgaaDoorA
namespace Go.Proofs.YtlkfkglcefhbgaaDoor
open Go.RowKit

/-- A row of the table: the first byte's bounds, how many follow, the second one's bounds. -/
structure Row where
  lo : Nat
  hi : Nat
  more : Nat
  slo : Nat
  shi : Nat
def rows : List Row := [⟨0, 127, 0, 0, 0⟩, ⟨194, 223, 1, 128, 191⟩, ⟨224, 224, 2, 160, 191⟩, ⟨225, 236, 2, 128, 191⟩, ⟨237, 237, 2, 128, 159⟩, ⟨238, 239, 2, 128, 191⟩, ⟨240, 240, 3, 144, 191⟩, ⟨241, 243, 3, 128, 191⟩, ⟨244, 244, 3, 128, 143⟩]
def Row.cells (r : Row) : List Value := [.int .u8 r.lo, .int .u8 r.hi, .int .i64 r.more, .int .u8 r.slo, .int .u8 r.shi]
def table : List Value := rows.flatMap Row.cells
/-- The table lies in memory as the program's text lays it. -/
structure Globs (w : World) : Prop where
  t : w.rangeAt 0 0 table
/-- A checker's cells. -/
def ChkAt (w : World) (b n0 n1 l : Nat) (bad : Bool) : Prop := w.heap[b]? = some (.cells #[.int .u8 n0, .int .u8 n1, .int .i64 l, .bool bad] 45 (0, 0))

theorem Globs.cell0 {w : World} (h : Globs w) : w.cell? ⟨0, 0, none⟩ = some (.int .u8 ((0 : Nat) : Int)) := h.t 0 _ rfl
theorem Globs.size {w : World} (h : Globs w) : 1 ≤ w.heap.size := by
  have := block_lt_of_cell h.cell0; omega
theorem Globs.below {w w' : World} {B : Nat} (h : Globs w) (hb : Below B w w') (hB : 1 ≤ B) : Globs w' :=
  ⟨fun j v hv => by rw [hb.cell (p := ⟨0, 0 + j, none⟩) (show 0 < B by omega)]; exact h.t j v hv⟩
def row (k : Nat) : Row := rows.getD k ⟨0, 0, 0, 0, 0⟩
theorem index_row (k : Nat) (hk : k < 9) (W : World) : (Instr.index 52 (.agg table.toArray) (.int .i64 (k : Int))).run Tryd.prog W = .ok (.agg (row k).cells.toArray) W := by
  match k, hk with
  | 0, _ => show _ = _; kernel_rfl
  | 1, _ => show _ = _; kernel_rfl
  | 2, _ => show _ = _; kernel_rfl
  | 3, _ => show _ = _; kernel_rfl
  | 4, _ => show _ = _; kernel_rfl
  | 5, _ => show _ = _; kernel_rfl
  | 6, _ => show _ = _; kernel_rfl
  | 7, _ => show _ = _; kernel_rfl
  | 8, _ => show _ = _; kernel_rfl

theorem grown_drew (w : World) (r : Option Nat) : w.grownBy w.drew r := ⟨rfl, rfl, rfl, Nat.le_refl _, fun _ _ _ => rfl⟩
/-- The checker at b stands as s says. -/
def ChkSt (w : World) (b : Nat) (s : St) (bad : Bool) : Prop := ∃ m0 m1, ChkAt w b m0 m1 s.1 bad ∧ (s.1 ≠ 0 → m0 = s.2.1 ∧ m1 = s.2.2)
/-- No row ahead of the k-th takes v. -/
def Past (v k : Nat) : Prop := ∀ j, j < k → ¬ ((row j).lo ≤ v ∧ v ≤ (row j).hi)
theorem past_none {v : Nat} (h : Past v 9) : lead v = none := by
  have h0 := h 0 (by decide)
  have h1 := h 1 (by decide)
  have h2 := h 2 (by decide)
  have h3 := h 3 (by decide)
  have h4 := h 4 (by decide)
  have h5 := h 5 (by decide)
  have h6 := h 6 (by decide)
  have h7 := h 7 (by decide)
  have h8 := h 8 (by decide)
  simp only [row, rows, List.getD_cons_zero, List.getD_cons_succ] at h0 h1 h2 h3 h4 h5 h6 h7 h8
  by_cases a : v < 194
  · exact lead2n (by omega) a
  · exact lead5 (by omega)
theorem row_lead {v k lo hi more slo shi : Nat} (hk : k < 9) (hr : (⟨lo, hi, more, slo, shi⟩ : Row) = row k) (h : lo ≤ v ∧ v ≤ hi) : ∃ t, lead v = some t ∧ more = t.1 ∧ (t.1 ≠ 0 → slo = t.2.1 ∧ shi = t.2.2) := by
  match k, hk with
  | 0, _ => injection hr with e1 e2 e3 e4 e5; subst e1 e2 e3 e4 e5; exact ⟨_, lead1 (by omega), rfl, fun h => by simp [s0] at h⟩
  | 1, _ => injection hr with e1 e2 e3 e4 e5; subst e1 e2 e3 e4 e5; exact ⟨_, lead2 (by omega) (by omega), rfl, fun _ => ⟨rfl, rfl⟩⟩
  | 2, _ => injection hr with e1 e2 e3 e4 e5; subst e1 e2 e3 e4 e5; obtain rfl : v = 224 := by omega
            exact ⟨_, rfl, rfl, fun _ => ⟨rfl, rfl⟩⟩
  | 3, _ => injection hr with e1 e2 e3 e4 e5; subst e1 e2 e3 e4 e5; refine ⟨_, lead3 (by omega) (by omega), rfl, fun _ => ?_⟩
            have := lo3_cases v
            have := hi3_cases v
            constructor <;> simp only <;> omega
  | 4, _ => injection hr with e1 e2 e3 e4 e5; subst e1 e2 e3 e4 e5; obtain rfl : v = 237 := by omega
            exact ⟨_, rfl, rfl, fun _ => ⟨rfl, rfl⟩⟩
  | 5, _ => injection hr with e1 e2 e3 e4 e5; subst e1 e2 e3 e4 e5; refine ⟨_, lead3 (by omega) (by omega), rfl, fun _ => ?_⟩
            have := lo3_cases v
            have := hi3_cases v
            constructor <;> simp only <;> omega
  | 6, _ => injection hr with e1 e2 e3 e4 e5; subst e1 e2 e3 e4 e5; obtain rfl : v = 240 := by omega
            exact ⟨_, rfl, rfl, fun _ => ⟨rfl, rfl⟩⟩
  | 7, _ => injection hr with e1 e2 e3 e4 e5; subst e1 e2 e3 e4 e5; refine ⟨_, lead4 (by omega) (by omega), rfl, fun _ => ?_⟩
            have := lo4_cases v
            have := hi4_cases v
            constructor <;> simp only <;> omega
  | 8, _ => injection hr with e1 e2 e3 e4 e5; subst e1 e2 e3 e4 e5; obtain rfl : v = 244 := by omega
            exact ⟨_, rfl, rfl, fun _ => ⟨rfl, rfl⟩⟩
structure BR (w : World) (v k : Nat) (wr : World) : Prop where
  p : Past v k
  b : Below w.heap.size w wr
/-- What comes of one byte more: o is what the plain function answers. -/
inductive Took (w : World) (b : Nat) (bad : Bool) (o : Option St) : Ending → World → Prop where
  | yes (t : St) (w' : World) (h : o = some t) (c : ChkSt w' b t bad) (g : w.grownBy w' (some b)) : Took w b bad o (.returned (.bool true)) w'
  | no (w' : World) (h : o = none) (g : Below w.heap.size w w') : Took w b bad o (.returned (.bool false)) w'
theorem three_cells (w2 : World) (b n0 n1 l slo shi more : Nat) (bad : Bool) (h : w2.heap[b]? = some (.cells #[.int .u8 n0, .int .u8 n1, .int .i64 l, .bool bad] 45 (0, 0))) :
    ChkAt (((w2.setCell ⟨b, 0, none⟩ (.int .u8 slo)).setCell ⟨b, 1, none⟩ (.int .u8 shi)).setCell ⟨b, 2, none⟩ (.int .i64 more)).drew b slo shi more bad := by
  show (((w2.setCell ⟨b, 0, none⟩ (.int .u8 slo)).setCell ⟨b, 1, none⟩ (.int .u8 shi)).setCell ⟨b, 2, none⟩ (.int .i64 more)).heap[b]? = _
  rw [heap_setCell_same _ _ _ _ _ _ (heap_setCell_same _ _ _ _ _ _ (heap_setCell_same _ _ _ _ _ _ h))]
  rfl

set_option maxHeartbeats 400000 in
theorem begin_any (b n0 n1 l v : Nat) (bad : Bool) (w : World) (hg : Globs w) (hc : ChkAt w b n0 n1 l bad) :
    Calls Tryd.prog 26 #[.pointer (some ⟨b, 0, none⟩), .int .u8 v] w (Took w b bad (lead v)) := by
  have HI52 : Sl ((Tryd.prog.info? 52).map (·.size) = some table.length) := ⟨by kernel_rfl⟩
  have HG := Sl.mk hg
  have HC := Sl.mk hc
  clear hg hc
  go_enter Tryd.func26, Tryd.ntmps26
  go_wp2_with (first | (refine wpList_load_mid rfl 52 (.global 0) rfl 0 0 rfl table (.array 9 51) HG.out.t Tryd.underlying52 rfl HI52.out ?_))
  go_loopw [8] (fun i wr => ∃ k : Nat, k ≤ 9 ∧ i = .int .i64 k ∧ BR w v k wr) (fun i _ => 9 - (intOf i).toNat)
  case atStart => exact ⟨0, by omega, rfl, ⟨fun j hj => by omega, Below.refl _ _⟩⟩
  case round =>
    obtain ⟨k, hk, rfl, hrel⟩ := hrel
    have HR := Sl.mk hrel
    clear hrel
    by_cases hlt : k < 9
    · have hidx := index_row k hlt
      obtain ⟨r, hr⟩ : ∃ r, r = row k := ⟨_, rfl⟩
      rw [← hr] at hidx
      have HRW := Sl.mk hr
      clear hr
      obtain ⟨lo, hi, more, slo, shi⟩ := r
      simp only [Row.cells] at hidx
      by_cases hin : lo ≤ v ∧ v ≤ hi
      · have hd : decide (lo ≤ v ∧ v ≤ hi) = true := decide_eq_true hin
        have HIN := Sl.mk hin
        have HH := Sl.mk (hold_any lo hi v)
        rw [hd] at HH
        clear hd hin
        go_wp2_with fail
        refine (HH.out _).mono ?_
        rintro e w2 ⟨rfl, hb2⟩
        have HS2 : Sl (w2.heap[wr.heap.size]? = some (.cells #[.int .u8 lo, .int .u8 hi, .int .i64 more, .int .u8 slo, .int .u8 shi] 51 (0, 0))) := ⟨by
          rw [hb2.block _ (by rw [alloc_size]; omega)]; exact alloc_new _ _ _ rfl⟩
        have HB2 : Sl (Below w.heap.size w w2) := ⟨(HR.out.b.alloc HR.out.b.size _).trans (hb2.mono (HR.out.b.alloc HR.out.b.size _).size)⟩
        have HC2 : Sl (w2.heap[b]? = some (.cells #[.int .u8 n0, .int .u8 n1, .int .i64 l, .bool bad] 45 (0, 0))) := ⟨by
          rw [HB2.out.block _ (Array.getElem?_eq_some_iff.1 HC.out).1]; exact HC.out⟩
        have hne : wr.heap.size ≠ b := by have := (Array.getElem?_eq_some_iff.1 HC.out).1; have := HR.out.b.size; omega
        clear hb2
        generalize wr.heap.size = g at *
        have c2 : w2.cell? ⟨g, 2, none⟩ = some (.int .i64 more) := by rw [cell_of_row _ _ _ _ _ _ HS2.out]; rfl
        have c3 : w2.cell? ⟨g, 3, none⟩ = some (.int .u8 slo) := by rw [cell_of_row _ _ _ _ _ _ HS2.out]; rfl
        have c4 : w2.cell? ⟨g, 4, none⟩ = some (.int .u8 shi) := by rw [cell_of_row _ _ _ _ _ _ HS2.out]; rfl
        have d0 : w2.cell? ⟨b, 0, none⟩ = some (.int .u8 n0) := by rw [cell_of_row _ _ _ _ _ _ HC2.out]; rfl
        have d1 : w2.cell? ⟨b, 1, none⟩ = some (.int .u8 n1) := by rw [cell_of_row _ _ _ _ _ _ HC2.out]; rfl
        have d2 : w2.cell? ⟨b, 2, none⟩ = some (.int .i64 l) := by rw [cell_of_row _ _ _ _ _ _ HC2.out]; rfl
        have f0 : w2.frozen? ⟨b, 0, none⟩ = false := frozen_of_row _ _ _ _ _ HC2.out
        have f1 : w2.frozen? ⟨b, 1, none⟩ = false := frozen_of_row _ _ _ _ _ HC2.out
        have f2 : w2.frozen? ⟨b, 2, none⟩ = false := frozen_of_row _ _ _ _ _ HC2.out
        go_wp2
        go_region
        have HF := Sl.mk (three_cells w2 b n0 n1 l slo shi more bad HC2.out)
        have HGR : Sl (w.grownBy (((w2.setCell ⟨b, 0, none⟩ (.int .u8 slo)).setCell ⟨b, 1, none⟩ (.int .u8 shi)).setCell ⟨b, 2, none⟩ (.int .i64 more)).drew (some b)) := ⟨
          grown_trans (grown_below HB2.out _) (grown_trans (grown_trans (grown_trans (grown_setCell _ _ _ _) (grown_setCell _ _ _ _)) (grown_setCell _ _ _ _)) (grown_drew _ _))⟩
        clear c2 c3 c4 d0 d1 d2 f0 f1 f2
        generalize World.drew _ = w3 at *
        go_wp2
        go_ret
        obtain ⟨t, ht, h1, h2⟩ := row_lead hlt HRW.out HIN.out
        exact .yes t _ ht ⟨slo, shi, by rw [← h1]; exact HF.out, h2⟩ HGR.out
      · have hd : decide (lo ≤ v ∧ v ≤ hi) = false := decide_eq_false hin
        have HIN := Sl.mk hin
        have HH := Sl.mk (hold_any lo hi v)
        rw [hd] at HH
        clear hd hin
        go_wp2_with fail
        refine (HH.out _).mono ?_
        rintro e w2 ⟨rfl, hb2⟩
        have HB2 : Sl (Below w.heap.size w w2) := ⟨(HR.out.b.alloc HR.out.b.size _).trans (hb2.mono (HR.out.b.alloc HR.out.b.size _).size)⟩
        clear hb2
        go_wp2
        go_roundw
        case rel => exact ⟨k + 1, by omega, by go_num, ⟨fun j hj => by
          by_cases e : j = k
          · subst e; have h := HIN.out; rw [← HRW.out]; exact h
          · exact HR.out.p j (by omega), HB2.out⟩⟩
        case measure => simp [intOf]; omega
    · have hge : ¬ (k : Int) < 9 := by omega
      have HN : Sl (lead v = none) := ⟨past_none (by have e : k = 9 := by omega
                                                     rw [← e]; exact HR.out.p)⟩
      go_wp2
      go_ret
      exact .no _ HN.out HR.out.b
end Go.Proofs.YtlkfkglcefhbgaaDoor
