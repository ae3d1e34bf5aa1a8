/- The contract of take of package utf: one byte more; the checker's cells become what the plain function says, nothing else that was in memory changes. Condition: the table is as the text lays it. -/
import Derived.Test.YtlkfkglcefhbgaaDoorB
namespace Go.Proofs.YtlkfkglcefhbgaaDoor
open Go.RowKit

theorem take_cells (w2 : World) (b n0 n1 l : Nat) (m : Int) (k : Nat) (bad : Bool) (hm : m = (k : Int)) (h : w2.heap[b]? = some (.cells #[.int .u8 n0, .int .u8 n1, .int .i64 l, .bool bad] 45 (0, 0))) :
    ChkAt (((w2.setCell ⟨b, 0, none⟩ (.int .u8 128)).setCell ⟨b, 1, none⟩ (.int .u8 191)).setCell ⟨b, 2, none⟩ (.int .i64 m)) b 128 191 k bad := by
  subst hm
  show _ = _
  rw [heap_setCell_same _ _ _ _ _ _ (heap_setCell_same _ _ _ _ _ _ (heap_setCell_same _ _ _ _ _ _ h))]
  rfl

set_option maxHeartbeats 400000 in
theorem take_any (b v : Nat) (s : St) (bad : Bool) (w : World) (hg : Globs w) (hc : ChkSt w b s bad) (hs : s.1 ≤ 3) :
    Calls Tryd.prog 22 #[.pointer (some ⟨b, 0, none⟩), .int .u8 v] w (Took w b bad (ustep s v)) := by
  obtain ⟨n0, n1, hc, hn⟩ := hc
  obtain ⟨l, lo, hi⟩ := s
  simp only at hc hn hs
  have HG := Sl.mk hg
  have HC := Sl.mk hc
  have HN := Sl.mk hn
  have d0 : w.cell? ⟨b, 0, none⟩ = some (.int .u8 n0) := by rw [cell_of_row _ _ _ _ _ _ hc]; rfl
  have d1 : w.cell? ⟨b, 1, none⟩ = some (.int .u8 n1) := by rw [cell_of_row _ _ _ _ _ _ hc]; rfl
  have d2 : w.cell? ⟨b, 2, none⟩ = some (.int .i64 l) := by rw [cell_of_row _ _ _ _ _ _ hc]; rfl
  clear hg hc hn
  by_cases h0 : l = 0
  · subst h0
    have HB := Sl.mk (begin_any b n0 n1 0 v bad)
    have e : ustep (0, lo, hi) v = lead v := by simp [ustep]
    rw [e]; clear e
    go_enter Tryd.func22, Tryd.ntmps22
    go_wp2_with fail
    refine (HB.out _ HG.out HC.out).mono ?_
    intro e w' ht
    cases ht with
    | yes t _ h c g =>
      have H1 := Sl.mk h
      have H2 := Sl.mk c
      have H3 := Sl.mk g
      clear h c g
      go_wp2
      go_ret
      exact .yes t _ H1.out H2.out H3.out
    | no _ h g =>
      have H1 := Sl.mk h
      have H3 := Sl.mk g
      clear h g
      go_wp2
      go_ret
      exact .no _ H1.out H3.out
  · have hq : ((l : Int) == 0) = false := by simp; omega
    obtain ⟨rfl, rfl⟩ := HN.out h0
    have hp : 1 ≤ l := by omega
    clear h0 HN
    by_cases hin : n0 ≤ v ∧ v ≤ n1
    · have hd : decide (n0 ≤ v ∧ v ≤ n1) = true := decide_eq_true hin
      have HH := Sl.mk (hold_any n0 n1 v)
      have HU : Sl (ustep (l, n0, n1) v = some (l - 1, 128, 191)) := ⟨by simp only [ustep]; rw [if_neg (by omega), if_pos hin]⟩
      rw [hd] at HH
      clear hd hin
      go_enter Tryd.func22, Tryd.ntmps22
      go_wp2_with fail
      refine (HH.out _).mono ?_
      rintro e w2 ⟨rfl, hb2⟩
      have HB2 := Sl.mk hb2
      have HC2 : Sl (w2.heap[b]? = some (.cells #[.int .u8 n0, .int .u8 n1, .int .i64 l, .bool bad] 45 (0, 0))) := ⟨by
        rw [hb2.block _ (Array.getElem?_eq_some_iff.1 HC.out).1]; exact HC.out⟩
      clear hb2
      have d0 : w2.cell? ⟨b, 0, none⟩ = some (.int .u8 n0) := by rw [cell_of_row _ _ _ _ _ _ HC2.out]; rfl
      have d1 : w2.cell? ⟨b, 1, none⟩ = some (.int .u8 n1) := by rw [cell_of_row _ _ _ _ _ _ HC2.out]; rfl
      have d2 : w2.cell? ⟨b, 2, none⟩ = some (.int .i64 l) := by rw [cell_of_row _ _ _ _ _ _ HC2.out]; rfl
      have f0 : w2.frozen? ⟨b, 0, none⟩ = false := frozen_of_row _ _ _ _ _ HC2.out
      have f1 : w2.frozen? ⟨b, 1, none⟩ = false := frozen_of_row _ _ _ _ _ HC2.out
      have f2 : w2.frozen? ⟨b, 2, none⟩ = false := frozen_of_row _ _ _ _ _ HC2.out
      go_wp2
      go_ret
      exact .yes _ _ HU.out ⟨128, 191, take_cells w2 b n0 n1 l _ (l - 1) bad (by omega) HC2.out, fun _ => ⟨rfl, rfl⟩⟩
        (grown_trans (grown_below HB2.out _) (grown_trans (grown_trans (grown_setCell _ _ _ _) (grown_setCell _ _ _ _)) (grown_setCell _ _ _ _)))
    · have hd : decide (n0 ≤ v ∧ v ≤ n1) = false := decide_eq_false hin
      have HH := Sl.mk (hold_any n0 n1 v)
      have HU : Sl (ustep (l, n0, n1) v = none) := ⟨by simp only [ustep]; rw [if_neg (by omega), if_neg hin]⟩
      rw [hd] at HH
      clear hd hin
      go_enter Tryd.func22, Tryd.ntmps22
      go_wp2_with fail
      refine (HH.out _).mono ?_
      rintro e w2 ⟨rfl, hb2⟩
      have HB2 := Sl.mk hb2
      clear hb2
      go_wp2
      go_ret
      exact .no _ HU.out HB2.out
end Go.Proofs.YtlkfkglcefhbgaaDoor
