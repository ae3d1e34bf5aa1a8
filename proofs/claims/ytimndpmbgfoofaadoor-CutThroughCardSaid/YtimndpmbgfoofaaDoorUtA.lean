/- The contract of hold of package utf: whether a value lies within bounds; nothing that was in memory changes. -/
import Derived.Test.YtimndpmbgfoofaaDoorBase
import Derived.Test.YtimndpmbgfoofaaDoorHeld
import Derived.Test.YtimndpmbgfoofaaDoorUtfPlain
namespace Go.Proofs.YtimndpmbgfoofaaDoor.Utf
open Go.RowKit UtfPlain

set_option maxHeartbeats 400000 in
theorem hold_any (lo hi b : Nat) (w : World) :
    Calls Tryd.prog 82 #[.agg #[.int .u8 lo, .int .u8 hi], .int .u8 b] w fun e w' => e = .returned (.bool (decide (lo ≤ b ∧ b ≤ hi))) ∧ Below w.heap.size w w' := by
  go_enter Tryd.func82, Tryd.ntmps82
  go_wp2
  all_goals
    go_ret
    refine ⟨ret_bool ?_, (Below.refl _ _).alloc (Nat.le_refl _) _⟩
    simp [*]
end Go.Proofs.YtimndpmbgfoofaaDoor.Utf
/- begin -/
namespace Go.Proofs.YtimndpmbgfoofaaDoor.Utf
open Go.RowKit UtfPlain

/-- A row of the table: the first byte's bounds, how many follow, the second one's bounds. -/
structure Row where
  lo : Nat
  hi : Nat
  more : Nat
  slo : Nat
  shi : Nat
def rows : List Row := [⟨0, 127, 0, 0, 0⟩, ⟨194, 223, 1, 128, 191⟩, ⟨224, 224, 2, 160, 191⟩, ⟨225, 236, 2, 128, 191⟩, ⟨237, 237, 2, 128, 159⟩, ⟨238, 239, 2, 128, 191⟩, ⟨240, 240, 3, 144, 191⟩, ⟨241, 243, 3, 128, 191⟩, ⟨244, 244, 3, 128, 143⟩]
def Row.cells (r : Row) : List Value := [.int .u8 r.lo, .int .u8 r.hi, .int .i64 r.more, .int .u8 r.slo, .int .u8 r.shi]
def table : List Value := rows.flatMap Row.cells
/-- The table lies in memory as the program's text lays it. -/
structure Globs (w : World) : Prop where
  t : w.rangeAt 1 0 table
/-- A checker's cells. -/
def ChkAt (w : World) (b n0 n1 l : Nat) (bad : Bool) : Prop := w.heap[b]? = some (.cells #[.int .u8 n0, .int .u8 n1, .int .i64 l, .bool bad] 125 (0, 0))

theorem Globs.cell0 {w : World} (h : Globs w) : w.cell? ⟨1, 0, none⟩ = some (.int .u8 ((0 : Nat) : Int)) := h.t 0 _ rfl
theorem Globs.size {w : World} (h : Globs w) : 2 ≤ w.heap.size := by
  have h1 : 1 < w.heap.size := block_lt_of_cell h.cell0; omega
theorem Globs.below {w w' : World} {B : Nat} (h : Globs w) (hb : Below B w w') (hB : 2 ≤ B) : Globs w' :=
  ⟨fun j v hv => by rw [hb.cell (p := ⟨1, 0 + j, none⟩) (show 1 < B by omega)]; exact h.t j v hv⟩
def row (k : Nat) : Row := rows.getD k ⟨0, 0, 0, 0, 0⟩
theorem index_row (k : Nat) (hk : k < 9) (W : World) : (Instr.index 133 (.agg table.toArray) (.int .i64 (k : Int))).run Tryd.prog W = .ok (.agg (row k).cells.toArray) W := by
  match k, hk with
  | 0, _ => show _ = _; kernel_rfl
  | 1, _ => show _ = _; kernel_rfl
  | 2, _ => show _ = _; kernel_rfl
  | 3, _ => show _ = _; kernel_rfl
  | 4, _ => show _ = _; kernel_rfl
  | 5, _ => show _ = _; kernel_rfl
  | 6, _ => show _ = _; kernel_rfl
  | 7, _ => show _ = _; kernel_rfl
  | 8, _ => show _ = _; kernel_rfl

theorem grown_drew (w : World) (r : Option Nat) : w.grownBy w.drew r := ⟨rfl, rfl, rfl, Nat.le_refl _, fun _ _ _ => rfl⟩
/-- The checker at b stands as s says. -/
def ChkSt (w : World) (b : Nat) (s : St) (bad : Bool) : Prop := ∃ m0 m1, ChkAt w b m0 m1 s.1 bad ∧ (s.1 ≠ 0 → m0 = s.2.1 ∧ m1 = s.2.2)
/-- No row ahead of the k-th takes v. -/
def Past (v k : Nat) : Prop := ∀ j, j < k → ¬ ((row j).lo ≤ v ∧ v ≤ (row j).hi)
theorem past_none {v : Nat} (h : Past v 9) : lead v = none := by
  have h0 := h 0 (by decide)
  have h1 := h 1 (by decide)
  have h2 := h 2 (by decide)
  have h3 := h 3 (by decide)
  have h4 := h 4 (by decide)
  have h5 := h 5 (by decide)
  have h6 := h 6 (by decide)
  have h7 := h 7 (by decide)
  have h8 := h 8 (by decide)
  simp only [row, rows, List.getD_cons_zero, List.getD_cons_succ] at h0 h1 h2 h3 h4 h5 h6 h7 h8
  by_cases a : v < 194
  · exact lead2n (by omega) a
  · exact lead5 (by omega)
theorem row_lead {v k lo hi more slo shi : Nat} (hk : k < 9) (hr : (⟨lo, hi, more, slo, shi⟩ : Row) = row k) (h : lo ≤ v ∧ v ≤ hi) : ∃ t, lead v = some t ∧ more = t.1 ∧ (t.1 ≠ 0 → slo = t.2.1 ∧ shi = t.2.2) := by
  match k, hk with
  | 0, _ => injection hr with e1 e2 e3 e4 e5; subst e1 e2 e3 e4 e5; exact ⟨_, lead1 (by omega), rfl, fun h => by simp [s0] at h⟩
  | 1, _ => injection hr with e1 e2 e3 e4 e5; subst e1 e2 e3 e4 e5; exact ⟨_, lead2 (by omega) (by omega), rfl, fun _ => ⟨rfl, rfl⟩⟩
  | 2, _ => injection hr with e1 e2 e3 e4 e5; subst e1 e2 e3 e4 e5; obtain rfl : v = 224 := by omega
            exact ⟨_, rfl, rfl, fun _ => ⟨rfl, rfl⟩⟩
  | 3, _ => injection hr with e1 e2 e3 e4 e5; subst e1 e2 e3 e4 e5; refine ⟨_, lead3 (by omega) (by omega), rfl, fun _ => ?_⟩
            have := lo3_cases v
            have := hi3_cases v
            constructor <;> simp only <;> omega
  | 4, _ => injection hr with e1 e2 e3 e4 e5; subst e1 e2 e3 e4 e5; obtain rfl : v = 237 := by omega
            exact ⟨_, rfl, rfl, fun _ => ⟨rfl, rfl⟩⟩
  | 5, _ => injection hr with e1 e2 e3 e4 e5; subst e1 e2 e3 e4 e5; refine ⟨_, lead3 (by omega) (by omega), rfl, fun _ => ?_⟩
            have := lo3_cases v
            have := hi3_cases v
            constructor <;> simp only <;> omega
  | 6, _ => injection hr with e1 e2 e3 e4 e5; subst e1 e2 e3 e4 e5; obtain rfl : v = 240 := by omega
            exact ⟨_, rfl, rfl, fun _ => ⟨rfl, rfl⟩⟩
  | 7, _ => injection hr with e1 e2 e3 e4 e5; subst e1 e2 e3 e4 e5; refine ⟨_, lead4 (by omega) (by omega), rfl, fun _ => ?_⟩
            have := lo4_cases v
            have := hi4_cases v
            constructor <;> simp only <;> omega
  | 8, _ => injection hr with e1 e2 e3 e4 e5; subst e1 e2 e3 e4 e5; obtain rfl : v = 244 := by omega
            exact ⟨_, rfl, rfl, fun _ => ⟨rfl, rfl⟩⟩
structure BR (w : World) (v k : Nat) (wr : World) : Prop where
  p : Past v k
  b : Below w.heap.size w wr
/-- What comes of one byte more: o is what the plain function answers. -/
inductive Took (w : World) (b : Nat) (bad : Bool) (o : Option St) : Ending → World → Prop where
  | yes (t : St) (w' : World) (h : o = some t) (c : ChkSt w' b t bad) (g : w.grownBy w' (some b)) : Took w b bad o (.returned (.bool true)) w'
  | no (w' : World) (h : o = none) (g : Below w.heap.size w w') : Took w b bad o (.returned (.bool false)) w'
theorem three_cells (w2 : World) (b n0 n1 l slo shi more : Nat) (bad : Bool) (h : w2.heap[b]? = some (.cells #[.int .u8 n0, .int .u8 n1, .int .i64 l, .bool bad] 125 (0, 0))) :
    ChkAt (((w2.setCell ⟨b, 0, none⟩ (.int .u8 slo)).setCell ⟨b, 1, none⟩ (.int .u8 shi)).setCell ⟨b, 2, none⟩ (.int .i64 more)).drew b slo shi more bad := by
  show (((w2.setCell ⟨b, 0, none⟩ (.int .u8 slo)).setCell ⟨b, 1, none⟩ (.int .u8 shi)).setCell ⟨b, 2, none⟩ (.int .i64 more)).heap[b]? = _
  rw [heap_setCell_same _ _ _ _ _ _ (heap_setCell_same _ _ _ _ _ _ (heap_setCell_same _ _ _ _ _ _ h))]
  rfl

set_option maxHeartbeats 400000 in
theorem begin_any (b n0 n1 l v : Nat) (bad : Bool) (w : World) (hg : Globs w) (hc : ChkAt w b n0 n1 l bad) :
    Calls Tryd.prog 81 #[.pointer (some ⟨b, 0, none⟩), .int .u8 v] w (Took w b bad (lead v)) := by
  have HI52 : Sl ((Tryd.prog.info? 133).map (·.size) = some table.length) := ⟨by kernel_rfl⟩
  have HG := Sl.mk hg
  have HC := Sl.mk hc
  clear hg hc
  go_enter Tryd.func81, Tryd.ntmps81
  go_wp2_with (first | (refine wpList_load_mid rfl 133 (.global 1) rfl 1 0 rfl table (.array 9 132) HG.out.t Tryd.underlying133 rfl HI52.out ?_))
  go_loopw [8] (fun i wr => ∃ k : Nat, k ≤ 9 ∧ i = .int .i64 k ∧ BR w v k wr) (fun i _ => 9 - (intOf i).toNat)
  case atStart => exact ⟨0, by omega, rfl, ⟨fun j hj => by omega, Below.refl _ _⟩⟩
  case round =>
    obtain ⟨k, hk, rfl, hrel⟩ := hrel
    have HR := Sl.mk hrel
    clear hrel
    by_cases hlt : k < 9
    · have hidx := index_row k hlt
      obtain ⟨r, hr⟩ : ∃ r, r = row k := ⟨_, rfl⟩
      rw [← hr] at hidx
      have HRW := Sl.mk hr
      clear hr
      obtain ⟨lo, hi, more, slo, shi⟩ := r
      simp only [Row.cells] at hidx
      by_cases hin : lo ≤ v ∧ v ≤ hi
      · have hd : decide (lo ≤ v ∧ v ≤ hi) = true := decide_eq_true hin
        have HIN := Sl.mk hin
        have HH := Sl.mk (hold_any lo hi v)
        rw [hd] at HH
        clear hd hin
        go_wp2_with fail
        refine (HH.out _).mono ?_
        rintro e w2 ⟨rfl, hb2⟩
        have HS2 : Sl (w2.heap[wr.heap.size]? = some (.cells #[.int .u8 lo, .int .u8 hi, .int .i64 more, .int .u8 slo, .int .u8 shi] 132 (0, 0))) := ⟨by
          rw [hb2.block _ (by rw [alloc_size]; omega)]; exact alloc_new _ _ _ rfl⟩
        have HB2 : Sl (Below w.heap.size w w2) := ⟨(HR.out.b.alloc HR.out.b.size _).trans (hb2.mono (HR.out.b.alloc HR.out.b.size _).size)⟩
        have HC2 : Sl (w2.heap[b]? = some (.cells #[.int .u8 n0, .int .u8 n1, .int .i64 l, .bool bad] 125 (0, 0))) := ⟨by
          rw [HB2.out.block _ (Array.getElem?_eq_some_iff.1 HC.out).1]; exact HC.out⟩
        have hne : wr.heap.size ≠ b := by have := (Array.getElem?_eq_some_iff.1 HC.out).1; have := HR.out.b.size; omega
        clear hb2
        generalize wr.heap.size = g at *
        have c2 : w2.cell? ⟨g, 2, none⟩ = some (.int .i64 more) := by rw [cell_of_row _ _ _ _ _ _ HS2.out]; rfl
        have c3 : w2.cell? ⟨g, 3, none⟩ = some (.int .u8 slo) := by rw [cell_of_row _ _ _ _ _ _ HS2.out]; rfl
        have c4 : w2.cell? ⟨g, 4, none⟩ = some (.int .u8 shi) := by rw [cell_of_row _ _ _ _ _ _ HS2.out]; rfl
        have d0 : w2.cell? ⟨b, 0, none⟩ = some (.int .u8 n0) := by rw [cell_of_row _ _ _ _ _ _ HC2.out]; rfl
        have d1 : w2.cell? ⟨b, 1, none⟩ = some (.int .u8 n1) := by rw [cell_of_row _ _ _ _ _ _ HC2.out]; rfl
        have d2 : w2.cell? ⟨b, 2, none⟩ = some (.int .i64 l) := by rw [cell_of_row _ _ _ _ _ _ HC2.out]; rfl
        have f0 : w2.frozen? ⟨b, 0, none⟩ = false := frozen_of_row _ _ _ _ _ HC2.out
        have f1 : w2.frozen? ⟨b, 1, none⟩ = false := frozen_of_row _ _ _ _ _ HC2.out
        have f2 : w2.frozen? ⟨b, 2, none⟩ = false := frozen_of_row _ _ _ _ _ HC2.out
        go_wp2
        go_region
        have HF := Sl.mk (three_cells w2 b n0 n1 l slo shi more bad HC2.out)
        have HGR : Sl (w.grownBy (((w2.setCell ⟨b, 0, none⟩ (.int .u8 slo)).setCell ⟨b, 1, none⟩ (.int .u8 shi)).setCell ⟨b, 2, none⟩ (.int .i64 more)).drew (some b)) := ⟨
          grown_trans (grown_below HB2.out _) (grown_trans (grown_trans (grown_trans (grown_setCell _ _ _ _) (grown_setCell _ _ _ _)) (grown_setCell _ _ _ _)) (grown_drew _ _))⟩
        clear c2 c3 c4 d0 d1 d2 f0 f1 f2
        generalize World.drew _ = w3 at *
        go_wp2
        go_ret
        obtain ⟨t, ht, h1, h2⟩ := row_lead hlt HRW.out HIN.out
        exact .yes t _ ht ⟨slo, shi, by rw [← h1]; exact HF.out, h2⟩ HGR.out
      · have hd : decide (lo ≤ v ∧ v ≤ hi) = false := decide_eq_false hin
        have HIN := Sl.mk hin
        have HH := Sl.mk (hold_any lo hi v)
        rw [hd] at HH
        clear hd hin
        go_wp2_with fail
        refine (HH.out _).mono ?_
        rintro e w2 ⟨rfl, hb2⟩
        have HB2 : Sl (Below w.heap.size w w2) := ⟨(HR.out.b.alloc HR.out.b.size _).trans (hb2.mono (HR.out.b.alloc HR.out.b.size _).size)⟩
        clear hb2
        go_wp2
        go_roundw
        case rel => exact ⟨k + 1, by omega, by go_num, ⟨fun j hj => by
          by_cases e : j = k
          · subst e; have h := HIN.out; rw [← HRW.out]; exact h
          · exact HR.out.p j (by omega), HB2.out⟩⟩
        case measure => simp [intOf]; omega
    · have hge : ¬ (k : Int) < 9 := by omega
      have HN : Sl (lead v = none) := ⟨past_none (by have e : k = 9 := by omega
                                                     rw [← e]; exact HR.out.p)⟩
      go_wp2
      go_ret
      exact .no _ HN.out HR.out.b
end Go.Proofs.YtimndpmbgfoofaaDoor.Utf
/- The contract of take of package utf: one byte more; the checker's cells become what the plain function says, nothing else that was in memory changes. Condition: the table is as the text lays it. -/
namespace Go.Proofs.YtimndpmbgfoofaaDoor.Utf
open Go.RowKit UtfPlain

theorem take_cells (w2 : World) (b n0 n1 l : Nat) (m : Int) (k : Nat) (bad : Bool) (hm : m = (k : Int)) (h : w2.heap[b]? = some (.cells #[.int .u8 n0, .int .u8 n1, .int .i64 l, .bool bad] 125 (0, 0))) :
    ChkAt (((w2.setCell ⟨b, 0, none⟩ (.int .u8 128)).setCell ⟨b, 1, none⟩ (.int .u8 191)).setCell ⟨b, 2, none⟩ (.int .i64 m)) b 128 191 k bad := by
  subst hm
  show _ = _
  rw [heap_setCell_same _ _ _ _ _ _ (heap_setCell_same _ _ _ _ _ _ (heap_setCell_same _ _ _ _ _ _ h))]
  rfl

set_option maxHeartbeats 400000 in
theorem take_any (b v : Nat) (s : St) (bad : Bool) (w : World) (hg : Globs w) (hc : ChkSt w b s bad) (hs : s.1 ≤ 3) :
    Calls Tryd.prog 77 #[.pointer (some ⟨b, 0, none⟩), .int .u8 v] w (Took w b bad (ustep s v)) := by
  obtain ⟨n0, n1, hc, hn⟩ := hc
  obtain ⟨l, lo, hi⟩ := s
  simp only at hc hn hs
  have HG := Sl.mk hg
  have HC := Sl.mk hc
  have HN := Sl.mk hn
  have d0 : w.cell? ⟨b, 0, none⟩ = some (.int .u8 n0) := by rw [cell_of_row _ _ _ _ _ _ hc]; rfl
  have d1 : w.cell? ⟨b, 1, none⟩ = some (.int .u8 n1) := by rw [cell_of_row _ _ _ _ _ _ hc]; rfl
  have d2 : w.cell? ⟨b, 2, none⟩ = some (.int .i64 l) := by rw [cell_of_row _ _ _ _ _ _ hc]; rfl
  clear hg hc hn
  by_cases h0 : l = 0
  · subst h0
    have HB := Sl.mk (begin_any b n0 n1 0 v bad)
    have e : ustep (0, lo, hi) v = lead v := by simp [ustep]
    rw [e]; clear e
    go_enter Tryd.func77, Tryd.ntmps77
    go_wp2_with fail
    refine (HB.out _ HG.out HC.out).mono ?_
    intro e w' ht
    cases ht with
    | yes t _ h c g =>
      have H1 := Sl.mk h
      have H2 := Sl.mk c
      have H3 := Sl.mk g
      clear h c g
      go_wp2
      go_ret
      exact .yes t _ H1.out H2.out H3.out
    | no _ h g =>
      have H1 := Sl.mk h
      have H3 := Sl.mk g
      clear h g
      go_wp2
      go_ret
      exact .no _ H1.out H3.out
  · have hq : ((l : Int) == 0) = false := by simp; omega
    obtain ⟨rfl, rfl⟩ := HN.out h0
    have hp : 1 ≤ l := by omega
    clear h0 HN
    by_cases hin : n0 ≤ v ∧ v ≤ n1
    · have hd : decide (n0 ≤ v ∧ v ≤ n1) = true := decide_eq_true hin
      have HH := Sl.mk (hold_any n0 n1 v)
      have HU : Sl (ustep (l, n0, n1) v = some (l - 1, 128, 191)) := ⟨by simp only [ustep]; rw [if_neg (by omega), if_pos hin]⟩
      rw [hd] at HH
      clear hd hin
      go_enter Tryd.func77, Tryd.ntmps77
      go_wp2_with fail
      refine (HH.out _).mono ?_
      rintro e w2 ⟨rfl, hb2⟩
      have HB2 := Sl.mk hb2
      have HC2 : Sl (w2.heap[b]? = some (.cells #[.int .u8 n0, .int .u8 n1, .int .i64 l, .bool bad] 125 (0, 0))) := ⟨by
        rw [hb2.block _ (Array.getElem?_eq_some_iff.1 HC.out).1]; exact HC.out⟩
      clear hb2
      have d0 : w2.cell? ⟨b, 0, none⟩ = some (.int .u8 n0) := by rw [cell_of_row _ _ _ _ _ _ HC2.out]; rfl
      have d1 : w2.cell? ⟨b, 1, none⟩ = some (.int .u8 n1) := by rw [cell_of_row _ _ _ _ _ _ HC2.out]; rfl
      have d2 : w2.cell? ⟨b, 2, none⟩ = some (.int .i64 l) := by rw [cell_of_row _ _ _ _ _ _ HC2.out]; rfl
      have f0 : w2.frozen? ⟨b, 0, none⟩ = false := frozen_of_row _ _ _ _ _ HC2.out
      have f1 : w2.frozen? ⟨b, 1, none⟩ = false := frozen_of_row _ _ _ _ _ HC2.out
      have f2 : w2.frozen? ⟨b, 2, none⟩ = false := frozen_of_row _ _ _ _ _ HC2.out
      go_wp2
      go_ret
      exact .yes _ _ HU.out ⟨128, 191, take_cells w2 b n0 n1 l _ (l - 1) bad (by omega) HC2.out, fun _ => ⟨rfl, rfl⟩⟩
        (grown_trans (grown_below HB2.out _) (grown_trans (grown_trans (grown_setCell _ _ _ _) (grown_setCell _ _ _ _)) (grown_setCell _ _ _ _)))
    · have hd : decide (n0 ≤ v ∧ v ≤ n1) = false := decide_eq_false hin
      have HH := Sl.mk (hold_any n0 n1 v)
      have HU : Sl (ustep (l, n0, n1) v = none) := ⟨by simp only [ustep]; rw [if_neg (by omega), if_neg hin]⟩
      rw [hd] at HH
      clear hd hin
      go_enter Tryd.func77, Tryd.ntmps77
      go_wp2_with fail
      refine (HH.out _).mono ?_
      rintro e w2 ⟨rfl, hb2⟩
      have HB2 := Sl.mk hb2
      clear hb2
      go_wp2
      go_ret
      exact .no _ HU.out HB2.out
end Go.Proofs.YtimndpmbgfoofaaDoor.Utf
/- The contracts of New, Right, Whole, Reset and Feed of package utf. Conditions: the table is as the text lays it; the bytes lie outside the checker. -/
namespace Go.Proofs.YtimndpmbgfoofaaDoor.Utf
open Go.RowKit UtfPlain

/-- The checker at b, where a wrong byte may have come. -/
def ChkO (w : World) (b : Nat) : Option St → Prop
  | some s => ChkSt w b s false
  | none => ∃ n0 n1 l, ChkAt w b n0 n1 l true
/-- How many bytes are right, behind what came. -/
def rt : Option St → List Nat → Nat
  | some s, bs => uright s bs
  | none, _ => 0
/-- What stands behind more bytes. -/
def en (o : Option St) (bs : List Nat) : Option St := o.bind fun s => uend s bs
def OkO (o : Option St) : Prop := ∀ s, o = some s → Ok s
theorem ok_le {s : St} (h : Ok s) : s.1 ≤ 3 := by rcases h with rfl | rfl | rfl | rfl | rfl | rfl | rfl | rfl <;> simp [s0]

theorem new_any (w : World) : Calls Tryd.prog 66 #[] w fun e w' => e = .returned (.pointer (some ⟨w.heap.size, 0, none⟩)) ∧ w' = w.alloc (.cells #[.int .u8 0, .int .u8 0, .int .i64 0, .bool false] 125) := by
  go_enter Tryd.func66, Tryd.ntmps66
  go_wp2
  go_ret
  exact ⟨rfl, rfl⟩
theorem chk_new (w : World) : ChkO (w.alloc (.cells #[.int .u8 0, .int .u8 0, .int .i64 0, .bool false] 125)) w.heap.size (some s0) := ⟨0, 0, alloc_new _ _ _ rfl, fun h => absurd rfl h⟩

theorem right_any (b : Nat) (o : Option St) (w : World) (hc : ChkO w b o) : Calls Tryd.prog 73 #[.pointer (some ⟨b, 0, none⟩)] w fun e w' => e = .returned (.bool o.isSome) ∧ w = w' := by
  obtain ⟨n0, n1, l, bad, hb, hc⟩ : ∃ n0 n1 l bad, bad = !o.isSome ∧ ChkAt w b n0 n1 l bad := by
    cases o with
    | none => obtain ⟨n0, n1, l, h⟩ := hc; exact ⟨n0, n1, l, true, rfl, h⟩
    | some s => obtain ⟨n0, n1, h, _⟩ := hc; exact ⟨n0, n1, s.1, false, rfl, h⟩
  have d3 : w.cell? ⟨b, 3, none⟩ = some (.bool bad) := by rw [cell_of_row _ _ _ _ _ _ hc]; rfl
  have HB := Sl.mk hb
  clear hc hb
  go_enter Tryd.func73, Tryd.ntmps73
  go_wp2
  go_ret
  exact ⟨ret_bool (by rw [HB.out]; simp), rfl⟩
theorem whole_any (b : Nat) (o : Option St) (w : World) (hc : ChkO w b o) (ok : OkO o) : Calls Tryd.prog 72 #[.pointer (some ⟨b, 0, none⟩)] w fun e w' => e = .returned (.bool (decide (o = some s0))) ∧ w = w' := by
  cases o with
  | none =>
    obtain ⟨n0, n1, l, hc⟩ := hc
    have d3 : w.cell? ⟨b, 3, none⟩ = some (.bool true) := by rw [cell_of_row _ _ _ _ _ _ hc]; rfl
    clear hc ok
    go_enter Tryd.func72, Tryd.ntmps72
    go_wp2
    go_ret
    exact ⟨ret_bool (by simp), rfl⟩
  | some s =>
    obtain ⟨n0, n1, hc, _⟩ := hc
    have d3 : w.cell? ⟨b, 3, none⟩ = some (.bool false) := by rw [cell_of_row _ _ _ _ _ _ hc]; rfl
    have d2 : w.cell? ⟨b, 2, none⟩ = some (.int .i64 s.1) := by rw [cell_of_row _ _ _ _ _ _ hc]; rfl
    have hz : Sl (((s.1 : Int) == 0) = decide (some s = some s0)) := ⟨by
      rcases ok s rfl with rfl | rfl | rfl | rfl | rfl | rfl | rfl | rfl <;> decide⟩
    clear hc ok
    go_enter Tryd.func72, Tryd.ntmps72
    go_wp2
    go_ret
    exact ⟨ret_bool hz.out, rfl⟩
theorem SrcN.any {w : World} {v : Value} {bs : List Nat} {b : Nat} (h : SrcN w b v bs) : SrcAt w v bs := by
  obtain ⟨a, cap, sb, so, h0, h1, h3, _, h5⟩ := h
  exact ⟨a, cap, sb, so, h0, h1, h3, h5⟩
theorem SrcAt.below {w w' : World} {v : Value} {bs : List Nat} (h : SrcAt w v bs) (hb : Below w.heap.size w w') : SrcAt w' v bs := by
  obtain ⟨a, cap, sb, so, h0, h1, h3, h5⟩ := h
  exact ⟨a, cap, sb, so, h0, h1, h3, fun i hi => by rw [hb.cell (p := ⟨sb, so + i, none⟩) (block_lt_of_cell (h5 i hi))]; exact h5 i hi⟩
theorem SrcN.below {w w' : World} {v : Value} {bs : List Nat} {b : Nat} (h : SrcN w b v bs) (hb : Below w.heap.size w w') : SrcN w' b v bs := by
  obtain ⟨a, cap, sb, so, h0, h1, h3, h4, h5⟩ := h
  exact ⟨a, cap, sb, so, h0, h1, h3, h4, fun i hi => by rw [hb.cell (p := ⟨sb, so + i, none⟩) (block_lt_of_cell (h5 i hi))]; exact h5 i hi⟩
theorem SrcN.grown {w w' : World} {v : Value} {bs : List Nat} {b : Nat} (h : SrcN w b v bs) (hb : w.grownBy w' (some b)) : SrcN w' b v bs := by
  obtain ⟨a, cap, sb, so, h0, h1, h3, h4, h5⟩ := h
  refine ⟨a, cap, sb, so, h0, h1, h3, h4, fun i hi => ?_⟩
  rw [World.cell?_of_block (w := w) (hb.block sb (block_lt_of_cell (h5 i hi)) (fun e => h4 (by omega) (by injection e)))]
  exact h5 i hi

theorem uend_succ (s : St) (bs : List Nat) (k : Nat) (hk : k < bs.length) : uend s (bs.take (k + 1)) = (uend s (bs.take k)).bind fun t => ustep t (bs.getD k 0) := by
  have e : bs.take (k + 1) = bs.take k ++ [bs.getD k 0] := by
    rw [List.take_succ_eq_append_getElem hk]; simp [List.getD, List.getElem?_eq_getElem hk]
  rw [e, uend_append]
  congr 1
  funext t
  simp only [uend]
  cases ustep t (bs.getD k 0) <;> rfl
theorem uright_stop (s t : St) (bs : List Nat) (k : Nat) (hk : k < bs.length) (h : uend s (bs.take k) = some t) (hs : ustep t (bs.getD k 0) = none) : uright s bs = k ∧ uend s bs = none := by
  have e : bs = bs.take k ++ bs.drop k := (List.take_append_drop k bs).symm
  have ed : bs.drop k = bs.getD k 0 :: bs.drop (k + 1) := by
    rw [List.drop_eq_getElem_cons hk]; simp [List.getD, List.getElem?_eq_getElem hk]
  constructor
  · conv => lhs; rw [e]
    rw [uright_append, h, ed]
    simp only [uright, hs, List.length_take, Nat.min_eq_left (Nat.le_of_lt hk)]
    omega
  · conv => lhs; rw [e]
    rw [uend_append, h, ed]
    simp only [Option.bind_some, uend, hs]
theorem uright_all (s t : St) (bs : List Nat) (h : uend s bs = some t) : uright s bs = bs.length := (uend_iff bs s).1 (by rw [h]; rfl)
theorem uend_ok {s t : St} (bs : List Nat) (hs : Ok s) (h : uend s bs = some t) : Ok t := by
  induction bs generalizing s with
  | nil => injection h with h; subst h; exact hs
  | cons x r ih =>
    simp only [uend] at h
    cases hx : ustep s x with
    | none => rw [hx] at h; cases h
    | some u => rw [hx] at h; exact ih (ustep_ok hs hx) h
theorem OkO.en {o : Option St} (h : OkO o) (bs : List Nat) : OkO (en o bs) := by
  intro t ht
  cases o with
  | none => cases ht
  | some s => exact uend_ok bs (h s rfl) ht

/-- What the loop of Feed holds to. -/
def FR (w : World) (b : Nat) (s : St) (bs : List Nat) (k : Nat) (wr : World) : Prop := ∃ t, uend s (bs.take k) = some t ∧ ChkSt wr b t false ∧ w.grownBy wr (some b)
theorem globs_grown {w w' : World} {b : Nat} (h : Globs w) (hb : 2 ≤ b) (hg : w.grownBy w' (some b)) : Globs w' :=
  ⟨fun j v hv => by
    rw [World.cell?_of_block (w := w) (hg.block 1 (by have := h.size; omega) (fun e => by injection e with e; omega))]
    exact h.t j v hv⟩

set_option maxHeartbeats 400000 in
theorem feed_any (b : Nat) (o : Option St) (bs : List Nat) (v : Value) (w : World) (hg : Globs w) (hc : ChkO w b o) (ok : OkO o) (hv : SrcN w b v bs) (hb : 2 ≤ b) (hL : bs.length ≤ 100000) :
    Calls Tryd.prog 71 #[.pointer (some ⟨b, 0, none⟩), v] w fun e w' => e = .returned (.int .i64 (rt o bs : Nat)) ∧ ChkO w' b (en o bs) ∧ w.grownBy w' (some b) := by
  cases o with
  | none =>
    obtain ⟨a, cap, sb, so, rfl, -⟩ := hv
    obtain ⟨n0, n1, l, hc⟩ := hc
    have d3 : w.cell? ⟨b, 3, none⟩ = some (.bool true) := by rw [cell_of_row _ _ _ _ _ _ hc]; rfl
    have HC := Sl.mk hc
    clear hc ok hg
    go_enter Tryd.func71, Tryd.ntmps71
    go_wp2
    go_ret
    exact ⟨rfl, ⟨n0, n1, l, HC.out⟩, grown_refl _ _⟩
  | some s =>
    have HV := Sl.mk hv
    obtain ⟨a, cap, sb, so, rfl, h1, h3, h4, h5⟩ := hv
    have HC := Sl.mk hc
    obtain ⟨n0, n1, hc, hn⟩ := hc
    have d3 : w.cell? ⟨b, 3, none⟩ = some (.bool false) := by rw [cell_of_row _ _ _ _ _ _ hc]; rfl
    have OKS := Sl.mk (ok s rfl)
    have HG := Sl.mk hg
    have H3 := Sl.mk h3
    have H4 := Sl.mk h4
    have H5 := Sl.mk h5
    clear hc ok hg h3 h4 h5 hn
    go_enter Tryd.func71, Tryd.ntmps71
    go_wp2
    go_loopw [13] (fun i wr => ∃ k : Nat, k ≤ bs.length ∧ i = .int .i64 k ∧ FR w b s bs k wr) (fun i _ => bs.length - (intOf i).toNat)
    case atStart => exact ⟨0, by omega, rfl, s, rfl, HC.out, grown_refl _ _⟩
    case round =>
      obtain ⟨k, hk, rfl, t, ht, hct, hgr⟩ := hrel
      have HT := Sl.mk ht
      have HCT := Sl.mk hct
      have HGR := Sl.mk hgr
      clear ht hct hgr
      by_cases hlt : k < bs.length
      · obtain rfl := H3.out (by omega)
        obtain ⟨x, hx⟩ : ∃ x, x = bs.getD k 0 := ⟨_, rfl⟩
        have hcell : wr.cell? ⟨sb, so + k, none⟩ = some (.int .u8 (x : Int)) := by
          rw [World.cell?_of_block (w := w) (HGR.out.block sb (block_lt_of_cell (H5.out k hlt)) (fun e => H4.out (by omega) (by injection e))), hx]
          exact H5.out k hlt
        have HX := Sl.mk hx
        clear hx
        have HTK := Sl.mk (take_any b x t false wr (globs_grown HG.out hb HGR.out) HCT.out (ok_le (uend_ok _ OKS.out HT.out)))
        go_wp2_with fail
        refine HTK.out.mono ?_
        intro e w' hto
        cases hto with
        | yes u _ h c g =>
          have H1 : Sl (FR w b s bs (k + 1) w') := ⟨⟨u, by rw [uend_succ s bs k hlt, HT.out, ← HX.out]; exact h, c, grown_trans HGR.out g⟩⟩
          clear h c g
          go_wp2
          go_roundw
          case rel => exact ⟨k + 1, by omega, by go_num, H1.out⟩
          case measure => simp [intOf]; omega
        | no _ h g =>
          obtain ⟨q1, q2⟩ := uright_stop s t bs k hlt HT.out (by rw [← HX.out]; exact h)
          have Q1 := Sl.mk q1
          have Q2 := Sl.mk q2
          obtain ⟨m0, m1, hm, _⟩ := HCT.out
          have HM : Sl (w'.heap[b]? = some (.cells #[.int .u8 m0, .int .u8 m1, .int .i64 t.1, .bool false] 125 (0, 0))) := ⟨by
            rw [g.block _ (Array.getElem?_eq_some_iff.1 hm).1]; exact hm⟩
          have HGG : Sl (w.grownBy w' (some b)) := ⟨grown_trans HGR.out (grown_below g _)⟩
          have d3' : w'.cell? ⟨b, 3, none⟩ = some (.bool false) := by rw [cell_of_row _ _ _ _ _ _ HM.out]; rfl
          have f3 : w'.frozen? ⟨b, 3, none⟩ = false := frozen_of_row _ _ _ _ _ HM.out
          clear h g q1 q2 hm
          go_wp2
          go_ret
          refine ⟨by rw [show rt (some s) bs = k from Q1.out]; rfl, ?_, grown_trans HGG.out (grown_setCell _ _ _ _)⟩
          rw [show en (some s) bs = none from Q2.out]
          refine ⟨m0, m1, t.1, ?_⟩
          show _ = _
          rw [heap_setCell_same _ _ _ _ _ _ HM.out]
          rfl
      · have hge : ¬ (k : Int) < (bs.length : Int) := by omega
        have HE : Sl (uend s bs = some t) := ⟨by have h := HT.out; rw [List.take_of_length_le (by omega)] at h; exact h⟩
        go_wp2
        go_ret
        exact ⟨by rw [show rt (some s) bs = bs.length from uright_all s t bs HE.out]; rfl, by rw [show en (some s) bs = some t from HE.out]; exact HCT.out, HGR.out⟩
end Go.Proofs.YtimndpmbgfoofaaDoor.Utf
/- The contracts of Valid and Count of package utf; nothing that was in memory changes. Conditions: the table is as the text lays it; at most 100000 bytes. -/
namespace Go.Proofs.YtimndpmbgfoofaaDoor.Utf
open Go.RowKit UtfPlain

theorem below_grow {b : Nat} {w W W' : World} (h : Below w.heap.size w W) (g : W.grownBy W' (some b)) (hb : w.heap.size ≤ b) : Below w.heap.size w W' :=
  h.grown g h.size (fun k hk => by injection hk with hk; omega)
theorem okO0 : OkO (some s0) := fun s h => by injection h with h; exact .inl h.symm

/-- Are they letters? -/
def vb (bs : List Nat) : Bool := decide (uend s0 bs = some s0)
theorem valid_any (bs : List Nat) (v : Value) (w : World) (hg : Globs w) (hv : SrcAt w v bs) (hL : bs.length ≤ 100000) :
    Calls Tryd.prog 76 #[v] w fun e w' => e = .returned (.bool (vb bs)) ∧ Below w.heap.size w w' := by
  have HG := Sl.mk hg
  have HV := Sl.mk hv
  obtain ⟨a, cap, sb, so, rfl, -⟩ := hv
  clear hg
  go_enter Tryd.func76, Tryd.ntmps76
  go_wp2_with fail
  refine (new_any _).mono ?_
  rintro e w1 ⟨rfl, hw1⟩
  have HB1 : Sl (Below w.heap.size w w1) := ⟨by rw [hw1]; exact (Below.refl _ _).alloc (Nat.le_refl _) _⟩
  have HC1 : Sl (ChkO w1 w.heap.size (some s0)) := ⟨by rw [hw1]; exact chk_new w⟩
  have HV1 : Sl (SrcN w1 w.heap.size (.slice a bs.length cap) bs) := ⟨SrcN.below (HV.out.off (Nat.le_refl _)) HB1.out⟩
  clear hw1
  go_wp2_with fail
  refine (feed_any w.heap.size (some s0) bs _ _ (HG.out.below HB1.out HG.out.size) HC1.out okO0 HV1.out HG.out.size hL).mono ?_
  rintro e w2 ⟨rfl, hc2, hg2⟩
  have HC2 := Sl.mk hc2
  have HB2 : Sl (Below w.heap.size w w2) := ⟨below_grow HB1.out hg2 (Nat.le_refl _)⟩
  clear hc2 hg2
  go_wp2_with fail
  refine (whole_any w.heap.size _ _ HC2.out (okO0.en bs)).mono ?_
  rintro e w3 ⟨rfl, rfl⟩
  go_wp2
  go_ret
  exact ⟨rfl, HB2.out⟩

/-- Bytes that begin a letter. -/
def cont (x : Nat) : Bool := decide (128 ≤ x ∧ x ≤ 191)
def firsts (bs : List Nat) : Nat := bs.countP fun x => !cont x
theorem firsts_no {x : Nat} (r : List Nat) (h : ¬ (128 ≤ x ∧ x ≤ 191)) : firsts (x :: r) = firsts r + 1 := by
  have e : cont x = false := decide_eq_false h
  simp [firsts, e]
theorem firsts_yes {x : Nat} (r : List Nat) (h : 128 ≤ x ∧ x ≤ 191) : firsts (x :: r) = firsts r := by
  have e : cont x = true := decide_eq_true h
  simp [firsts, e]
theorem firsts_succ (bs : List Nat) (k : Nat) (hk : k < bs.length) : firsts (bs.take (k + 1)) = firsts (bs.take k) + if cont (bs.getD k 0) = true then 0 else 1 := by
  have e : bs.take (k + 1) = bs.take k ++ [bs.getD k 0] := by
    rw [List.take_succ_eq_append_getElem hk]; simp [List.getD, List.getElem?_eq_getElem hk]
  rw [e, firsts, List.countP_append]
  congr 1
  generalize bs.getD k 0 = x
  cases h : cont x <;> simp [h]
theorem firsts_le (bs : List Nat) (k : Nat) : firsts (bs.take k) ≤ bs.length := Nat.le_trans List.countP_le_length (by rw [List.length_take]; omega)
theorem firsts_count (bs : List Nat) : ∀ s t : St, Ok s → uend s bs = some t → firsts bs + (if s.1 = 0 then 0 else 1) = ucount s bs + (if t.1 = 0 then 0 else 1) := by
  induction bs with
  | nil => intro s t _ h; injection h with h; subst h; rfl
  | cons x r ih =>
    intro s t hs h
    simp only [uend] at h
    cases hx : ustep s x with
    | none => rw [hx] at h; cases h
    | some u =>
      rw [hx] at h
      have hi := ih u t (ustep_ok hs hx) h
      have hc : ucount s (x :: r) = ucount u r + if u.1 = 0 then 1 else 0 := by simp only [ucount, hx]
      rw [hc]
      by_cases h0 : s.1 = 0
      · have hl : lead x = some u := by rw [← hx, ustep, if_pos h0]
        have hf : firsts (x :: r) = firsts r + 1 := firsts_no r (fun hn => by rw [lead2n hn.1 (by omega)] at hl; cases hl)
        rw [hf, if_pos h0]
        by_cases hu : u.1 = 0
        · rw [if_pos hu] at hi ⊢; omega
        · rw [if_neg hu] at hi ⊢; omega
      · have hin : s.2.1 ≤ x ∧ x ≤ s.2.2 := by
          by_cases q : s.2.1 ≤ x ∧ x ≤ s.2.2
          · exact q
          · rw [ustep, if_neg h0, if_neg q] at hx; cases hx
        have hf : firsts (x :: r) = firsts r := firsts_yes r (by
          rcases hs with rfl | rfl | rfl | rfl | rfl | rfl | rfl | rfl <;> simp [s0] at hin h0 ⊢ <;> omega)
        have hu : u.1 = s.1 - 1 := by rw [ustep, if_neg h0, if_pos hin] at hx; injection hx with hx; rw [← hx]
        rw [hf, if_neg h0]
        by_cases hu : u.1 = 0
        · rw [if_pos hu] at hi ⊢; omega
        · rw [if_neg hu] at hi ⊢; omega
theorem firsts_valid (bs : List Nat) (h : uend s0 bs = some s0) : firsts bs = ucount s0 bs := by
  have := firsts_count bs s0 s0 (.inl rfl) h
  simpa [s0] using this

theorem hold_eq (b : Nat) (w : World) : Calls Tryd.prog 82 #[.agg #[.int .u8 128, .int .u8 191], .int .u8 b] w fun e w' => e = .returned (.bool (cont b)) ∧ Below w.heap.size w w' := hold_any 128 191 b w
/-- What the loop of Count holds to. -/
structure CR (w w1 : World) (wr : World) : Prop where
  b : Below w.heap.size w wr
  c : wr.heap[w1.heap.size]? = some (.cells #[.int .u8 128, .int .u8 191] 123 (0, 0))

/-- Of how many letters. -/
def cb (bs : List Nat) : Nat := if vb bs = true then ucount s0 bs else 0
end Go.Proofs.YtimndpmbgfoofaaDoor.Utf
/- What is the same in all of the statements' walks: contracts in the form in which they are used, and that of awake. -/
namespace Go.Proofs.YtimndpmbgfoofaaDoor.Utf
open Go.RowKit UtfPlain

theorem chk_below {w w' : World} {b : Nat} {o : Option St} (h : ChkO w b o) (hb : Below w.heap.size w w') : ChkO w' b o := by
  cases o with
  | none => obtain ⟨n0, n1, l, h⟩ := h; exact ⟨n0, n1, l, by show _ = _; rw [hb.block _ (Array.getElem?_eq_some_iff.1 h).1]; exact h⟩
  | some s => obtain ⟨n0, n1, h, k⟩ := h; exact ⟨n0, n1, by show _ = _; rw [hb.block _ (Array.getElem?_eq_some_iff.1 h).1]; exact h, k⟩
theorem chk_lt {w : World} {b : Nat} {o : Option St} (h : ChkO w b o) : b < w.heap.size := by
  cases o with
  | none => obtain ⟨n0, n1, l, h⟩ := h; exact (Array.getElem?_eq_some_iff.1 h).1
  | some s => obtain ⟨n0, n1, h, k⟩ := h; exact (Array.getElem?_eq_some_iff.1 h).1
theorem chk_grown {w w' : World} {b c : Nat} {o : Option St} (h : ChkO w b o) (hg : w.grownBy w' (some c)) (hne : b ≠ c) : ChkO w' b o := by
  have hlt := chk_lt h
  have e := hg.block b hlt (fun e => hne (by injection e))
  cases o with
  | none => obtain ⟨n0, n1, l, h⟩ := h; exact ⟨n0, n1, l, by show _ = _; rw [e]; exact h⟩
  | some s => obtain ⟨n0, n1, h, k⟩ := h; exact ⟨n0, n1, by show _ = _; rw [e]; exact h, k⟩
theorem chk_drew {w : World} {b : Nat} {o : Option St} (h : ChkO w b o) : ChkO w.drew b o := by cases o <;> exact h

theorem new_ex (w0 W : World) (hB : Below w0.heap.size w0 W) : Calls Tryd.prog 66 #[] W fun e w' => e = .returned (.pointer (some ⟨W.heap.size, 0, none⟩)) ∧ Sl (ChkO w' W.heap.size (some s0)) ∧ Sl (Below W.heap.size W w') ∧ Sl (Below w0.heap.size w0 w') :=
  (new_any W).mono fun _ _ ⟨he, hw⟩ => ⟨he, ⟨by rw [hw]; exact chk_new W⟩, ⟨by rw [hw]; exact (Below.refl _ _).alloc (Nat.le_refl _) _⟩, ⟨by rw [hw]; exact hB.alloc hB.size _⟩⟩
theorem feed_ex (w0 W : World) (b : Nat) (o : Option St) (bs : List Nat) (v : Value) (n : Nat) (hn : rt o bs = n) (h0 : w0.heap.size ≤ b) (hB : Below w0.heap.size w0 W) (hg : Globs w0) (hc : ChkO W b o) (ok : OkO o) (hv : SrcN W b v bs) (hL : bs.length ≤ 100000) :
    Calls Tryd.prog 71 #[.pointer (some ⟨b, 0, none⟩), v] W fun e w' => e = .returned (.int .i64 (n : Int)) ∧ Sl (ChkO w' b (en o bs)) ∧ Sl (W.grownBy w' (some b)) ∧ Sl (Below w0.heap.size w0 w') :=
  (feed_any b o bs v W (hg.below hB hg.size) hc ok hv (by have := hg.size; omega) hL).mono fun _ _ ⟨he, h1, h2⟩ => ⟨by rw [he, hn], ⟨h1⟩, ⟨h2⟩, ⟨below_grow hB h2 h0⟩⟩
theorem right_ex (b : Nat) (o : Option St) (W : World) (r : Bool) (hc : ChkO W b o) (hr : o.isSome = r) : Calls Tryd.prog 73 #[.pointer (some ⟨b, 0, none⟩)] W fun e w' => e = .returned (.bool r) ∧ W = w' := by
  rw [← hr]; exact right_any b o W hc
theorem whole_ex (b : Nat) (o : Option St) (W : World) (r : Bool) (hc : ChkO W b o) (ok : OkO o) (hr : decide (o = some s0) = r) : Calls Tryd.prog 72 #[.pointer (some ⟨b, 0, none⟩)] W fun e w' => e = .returned (.bool r) ∧ W = w' := by
  rw [← hr]; exact whole_any b o W hc ok
theorem valid_ex (w0 W : World) (bs : List Nat) (v : Value) (r : Bool) (hr : vb bs = r) (hB : Below w0.heap.size w0 W) (hg : Globs w0) (hv : SrcAt W v bs) (hL : bs.length ≤ 100000) :
    Calls Tryd.prog 76 #[v] W fun e w' => e = .returned (.bool r) ∧ Sl (Below W.heap.size W w') ∧ Sl (Below w0.heap.size w0 w') :=
  (valid_any bs v W (hg.below hB hg.size) hv hL).mono fun _ _ ⟨he, h1⟩ => ⟨by rw [he, hr], ⟨h1⟩, ⟨hB.trans (h1.mono hB.size)⟩⟩
end Go.Proofs.YtimndpmbgfoofaaDoor.Utf
/- utf: bytes joined, cut, counted. -/
namespace Go.Proofs.YtimndpmbgfoofaaDoor.Utf
open Go.RowKit UtfPlain

theorem vb_append {a b : List Nat} (h : vb a = true) : vb (a ++ b) = vb b := by
  have h' : uend s0 a = some s0 := of_decide_eq_true h
  unfold vb
  rw [uend_append, h']
  rfl
theorem cb_append {a b : List Nat} (h : vb a = true) (k : vb b = true) : cb (a ++ b) = cb a + cb b := by
  have h' : uend s0 a = some s0 := of_decide_eq_true h
  have e : vb (a ++ b) = true := by rw [vb_append h]; exact k
  unfold cb
  rw [if_pos h, if_pos k, if_pos e, ucount_append, h']
theorem ucount_le (bs : List Nat) : ∀ s, ucount s bs ≤ bs.length := by
  induction bs with
  | nil => intro s; exact Nat.le_refl _
  | cons x r ih =>
    intro s
    simp only [ucount, List.length_cons]
    cases ustep s x with
    | none => exact Nat.zero_le _
    | some u => simp only; have := ih u; split <;> omega
theorem cb_le (bs : List Nat) : cb bs ≤ bs.length := by
  unfold cb; split
  · exact ucount_le bs s0
  · exact Nat.zero_le _

theorem uright_take (l : List Nat) : ∀ (s : St) (i : Nat), uright s (l.take i) = min i (uright s l) := by
  induction l with
  | nil => intro s i; simp [uright]
  | cons b r ih =>
    intro s i
    match i with
    | 0 => simp [uright]
    | i + 1 =>
      simp only [List.take_succ_cons, uright]
      cases ustep s b with
      | none => simp
      | some t => simp only [ih t i]; omega
theorem uend_take_iff (l : List Nat) (s : St) (i : Nat) (hi : i ≤ l.length) : (uend s (l.take i)).isSome = decide (i ≤ uright s l) := by
  rw [Bool.eq_iff_iff, uend_iff, uright_take, List.length_take, decide_eq_true_eq]
  omega

theorem small_run (bs : List Nat) (h : Small 128 bs) : uend s0 bs = some s0 ∧ ucount s0 bs = bs.length := by
  induction bs with
  | nil => exact ⟨rfl, rfl⟩
  | cons x r ih =>
    have hx := h x (by simp)
    have hr := ih (fun y hy => h y (List.mem_cons_of_mem x hy))
    have hs : ustep s0 x = some s0 := by rw [ustep0]; exact lead1 hx
    constructor
    · simp only [uend, hs]; exact hr.1
    · simp only [ucount, hs, List.length_cons]; rw [hr.2]; rfl
theorem vb_small {bs : List Nat} (h : Small 128 bs) : vb bs = true := decide_eq_true (small_run bs h).1
theorem cb_small {bs : List Nat} (h : Small 128 bs) : cb bs = bs.length := by unfold cb; rw [if_pos (vb_small h)]; exact (small_run bs h).2
theorem vb_one (b : Nat) : vb [b] = decide (b < 128) := by
  unfold vb
  refine decide_eq_decide.2 ?_
  have e : uend s0 [b] = lead b := by
    simp only [uend]
    rw [ustep0]
    cases lead b <;> rfl
  rw [e]
  constructor
  · intro h
    by_cases q : b < 128
    · exact q
    · exfalso
      unfold lead at h
      rw [if_neg q] at h
      repeat' split at h
      all_goals first | (injection h with h; injection h with h; cases h) | cases h
  · exact lead1
theorem rt_append (o : Option St) (a b : List Nat) : rt o (a ++ b) = rt o a + rt (en o a) b := by
  cases o with
  | none => rfl
  | some s =>
    show uright s (a ++ b) = uright s a + rt (uend s a) b
    rw [uright_append]
    cases h : uend s a with
    | none => rfl
    | some t => simp only [rt]; rw [uright_all s t a h]
theorem en_append (o : Option St) (a b : List Nat) : en o (a ++ b) = en (en o a) b := by
  cases o with
  | none => rfl
  | some s => exact uend_append a b s
theorem rt_le (o : Option St) (a : List Nat) : rt o a ≤ a.length := by
  cases o with
  | none => exact Nat.zero_le _
  | some s => exact uright_le a s
end Go.Proofs.YtimndpmbgfoofaaDoor.Utf
