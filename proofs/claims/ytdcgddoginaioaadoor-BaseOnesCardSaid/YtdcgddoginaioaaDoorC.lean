/- The contract of group of package base: the four letters of three bytes, of which the first n count. Conditions: the table of letters is as the text lays it; n is 1, 2 or 3. -/
import Derived.Test.YtdcgddoginaioaaDoorB
namespace Go.Proofs.YtdcgddoginaioaaDoor
open Go.RowKit

/-- The table of letters. -/
def table : List Nat := (List.range 64).map letter
/-- The table lies in memory as the program's text lays it. -/
structure Globs (w : World) : Prop where
  t : w.rangeAt 0 0 (u8s table)
theorem Globs.cell {w : World} (h : Globs w) (n : Nat) (hn : n < 64) : w.cell? ⟨0, n, none⟩ = some (.int .u8 ((letter n : Nat) : Int)) := by
  have := h.t n _ (u8s_get table n (by simpa [table] using hn))
  rw [Nat.zero_add] at this
  rw [this]
  simp [table, List.getD, hn]
theorem Globs.size {w : World} (h : Globs w) : 1 ≤ w.heap.size := by
  have := block_lt_of_cell (h.cell 0 (by decide)); omega
theorem Globs.below {w w' : World} {B : Nat} (h : Globs w) (hb : Below B w w') (hB : 1 ≤ B) : Globs w' :=
  ⟨fun j v hv => by rw [hb.cell (p := ⟨0, 0 + j, none⟩) (show 0 < B by omega)]; exact h.t j v hv⟩

/-- The bits of three bytes. -/
def tri (a b c : Nat) : Nat := a * 65536 + b * 256 + c
/-- The i-th letter of three bytes. -/
def let4 (a b c i : Nat) : Nat := letter (tri a b c / 2 ^ (18 - 6 * i) % 64)
/-- The four letters of three bytes, of which the first k are made. -/
def fourTo (a b c k : Nat) : List Nat := (List.range 4).map fun i => if i < k then let4 a b c i else 61

theorem tri_int (a b c : Nat) (ha : a < 256) (hb : b < 256) (hc : c < 256) : bits BinOp.or IntKind.u32 (bits BinOp.or IntKind.u32 ((a : Int) * 65536) ((b : Int) * 256)) (c : Int) = ((tri a b c : Nat) : Int) := by
  have e1 : ((a : Int) * 65536) = ((a * 65536 : Nat) : Int) := by simp
  have e2 : ((b : Int) * 256) = ((b * 256 : Nat) : Int) := by simp
  rw [e1, e2, u32_or_nat _ _ (by omega) (by omega)]
  have o1 : a * 65536 ||| b * 256 = a * 65536 + b * 256 := by
    have := Nat.two_pow_add_eq_or_of_lt (i := 16) (b := b * 256) (by omega) a
    rw [show (2 : Nat) ^ 16 = 65536 from rfl, Nat.mul_comm] at this; exact this.symm
  have o2 : (a * 65536 + b * 256) ||| c = tri a b c := by
    have := Nat.two_pow_add_eq_or_of_lt (i := 8) (b := c) (by omega) (a * 256 + b)
    rw [show (2 : Nat) ^ 8 = 256 from rfl, show 256 * (a * 256 + b) = a * 65536 + b * 256 by omega] at this
    rw [← this]; rfl
  rw [o1, u32_or_nat _ _ (by omega) (by omega), o2]
theorem and63 (q : Nat) (hq : q < 4294967296) : bits BinOp.and IntKind.u32 (q : Int) 63 = ((q % 64 : Nat) : Int) := by
  have e : (63 : Int) = ((63 : Nat) : Int) := rfl
  rw [e, u32_and_nat _ _ hq (by decide), show (63 : Nat) = 2 ^ 6 - 1 from rfl, Nat.and_two_pow_sub_one_eq_mod]
theorem fourTo_length (a b c k : Nat) : (fourTo a b c k).length = 4 := by simp [fourTo]
theorem fourTo_set (a b c k : Nat) (hk : k < 4) : (u8s (fourTo a b c k)).toArray.setIfInBounds k (.int .u8 ((let4 a b c k : Nat) : Int)) = (u8s (fourTo a b c (k + 1))).toArray := by
  simp only [List.setIfInBounds_toArray]
  congr 1
  match k, hk with
  | 0, _ => rfl
  | 1, _ => rfl
  | 2, _ => rfl
  | 3, _ => rfl

/-- What the loop of group holds to. -/
structure GR (w : World) (a b c k : Nat) (wr : World) : Prop where
  f : wr.heap[w.heap.size + 1 + 1]? = some (.cells (u8s (fourTo a b c k)).toArray 42 (0, 0))
  r : wr.heap[w.heap.size + 1]? = some (.cells (u8s [0, 0, 0, 0]).toArray 42 (0, 0))
  b : Below w.heap.size w wr

set_option maxHeartbeats 1000000 in
theorem group_any (a b c n : Nat) (w : World) (ha : a < 256) (hb : b < 256) (hc : c < 256) (h1 : 1 ≤ n) (hn : n ≤ 3) (hg : Globs w) :
    Calls Tryd.prog 19 #[.agg #[.int .u8 a, .int .u8 b, .int .u8 c], .int .i64 n] w fun e w' => e = .returned (.agg (u8s (fourTo a b c (n + 1))).toArray) ∧ Below w.heap.size w w' := by
  have HG := Sl.mk hg
  clear hg
  have hT := tri_int a b c ha hb hc
  obtain ⟨T, hTT⟩ : ∃ T, T = tri a b c := ⟨_, rfl⟩
  rw [← hTT] at hT
  have HT := Sl.mk hTT
  have hTl : T < 16777216 := by rw [hTT]; unfold tri; omega
  clear hTT
  go_enter Tryd.func19, Tryd.ntmps19
  go_wp2
  go_loopw [24] (fun i wr => ∃ k : Nat, k ≤ n + 1 ∧ i = .int .i64 k ∧ GR w a b c k wr) (fun i _ => n + 1 - (intOf i).toNat)
  case atStart => exact ⟨0, by omega, rfl, ⟨alloc_new _ _ _ (by simp), by rw [Below.heap_alloc _ _ _ (by simp)]; exact alloc_new _ _ _ (by simp), (((Below.refl _ _).alloc (Nat.le_refl _) _).alloc (by simp) _).alloc (by simp; omega) _⟩⟩
  case round =>
    obtain ⟨k, hk, rfl, hrel⟩ := hrel
    have HR := Sl.mk hrel
    clear hrel
    by_cases hlt : k < n + 1
    · have hk4 : k < 4 := by omega
      have e0 : (18 - 6 * (k : Int)).toNat = 18 - 6 * k := by omega
      have p0 : (0 : Int) ≤ 18 - 6 * (k : Int) := by omega
      obtain ⟨q, hq⟩ : ∃ q : Nat, q = T / 2 ^ (18 - 6 * k) := ⟨_, rfl⟩
      have hq' : (T : Int) / 2 ^ (18 - 6 * k) = (q : Int) := by rw [hq]; simp
      have hql : q < 4294967296 := by rw [hq]; exact Nat.lt_of_le_of_lt (Nat.div_le_self _ _) (by omega)
      have hand := and63 q hql
      obtain ⟨m, hm⟩ : ∃ m : Nat, m = q % 64 := ⟨_, rfl⟩
      rw [← hm] at hand
      have hml : m < 64 := by omega
      have hcl := (HG.out.below HR.out.b HG.out.size).cell m hml
      have HM : Sl (letter m = let4 a b c k) := ⟨by unfold let4; rw [hm, hq, HT.out]⟩
      have hcf : wr.cell? ⟨w.heap.size + 1 + 1, k, none⟩ = some (.int .u8 (((fourTo a b c k).getD k 0 : Nat) : Int)) := by
        rw [cell_of_row _ _ _ _ _ _ HR.out.f, List.getElem?_toArray]; exact u8s_get _ _ (by rw [fourTo_length]; exact hk4)
      have hff : wr.frozen? ⟨w.heap.size + 1 + 1, k, none⟩ = false := frozen_of_row _ _ _ _ _ HR.out.f
      have HR1 : Sl (GR w a b c (k + 1) (wr.setCell ⟨w.heap.size + 1 + 1, k, none⟩ (.int .u8 ((letter m : Nat) : Int)))) := ⟨⟨by
        rw [heap_setCell_same _ _ _ _ _ _ HR.out.f, HM.out, fourTo_set a b c k hk4], by
        rw [heap_setCell_other _ _ _ _ (by simp)]; exact HR.out.r, HR.out.b.setCell (by simp; omega) _⟩⟩
      clear hq hm HR
      go_wp2
      go_roundw
      case rel => exact ⟨k + 1, by omega, by go_num, HR1.out⟩
      case measure => simp [intOf]; omega
    · have hge : ¬ (k : Int) < (n : Int) + 1 := by omega
      have HR1 : Sl (GR w a b c (n + 1) wr) := ⟨by
        have e : k = n + 1 := by omega
        rw [← e]; exact HR.out⟩
      clear HR
      have HI : Sl ((Tryd.prog.info? 42).map (·.size) = some (u8s (fourTo a b c (n + 1))).toArray.size) := ⟨by
        have : (Tryd.prog.info? 42).map (·.size) = some 4 := by kernel_rfl
        simpa [fourTo_length] using this⟩
      have HO : Sl ((u8s [0, 0, 0, 0]).toArray.size = (u8s (fourTo a b c (n + 1))).toArray.size) := ⟨by simp [fourTo_length]⟩
      go_wp2_with (first | (refine wpList_load_row rfl 42 (.tmp 6) rfl (w.heap.size + 1 + 1) rfl 42 _ (0, 0) (.array 4 5) HR1.out.f Tryd.underlying42 rfl HI.out ?_) | (refine wpList_store_row rfl 42 (.tmp 4) (.tmp 38) rfl (w.heap.size + 1) _ rfl rfl 42 _ HR1.out.r HI.out HO.out (all_oneCell_toArray (u8s_one _)) ?_))
      refine bodyPost_ret (v := .agg (u8s (fourTo a b c (n + 1))).toArray) ?_ rfl ⟨rfl, below_setRow HR1.out.b (by omega) _⟩
      exact results_cell_row Tryd.results19 _ _ (w.heap.size + 1) 42 _ (0, 0) (.array 4 5) rfl (setRow_heap _ _ _ _ _ _ HR1.out.r) Tryd.underlying42 rfl HI.out
end Go.Proofs.YtdcgddoginaioaaDoor
