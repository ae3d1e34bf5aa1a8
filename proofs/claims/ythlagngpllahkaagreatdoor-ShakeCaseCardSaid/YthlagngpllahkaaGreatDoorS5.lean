/- shake: a refusal's first line: its number and its words. -/
import Derived.Test.YthlagngpllahkaaGreatDoorS4
import Derived.Lib.AppendIntMem
set_option maxRecDepth 100000
namespace Go.Proofs.YthlagngpllahkaaGreatDoor
open Go.RowKit HeadPlain

/-- A refusal's number and words. -/
def whyV (status : Int) : ByteArray × ByteArray :=
  if status = 403 then ({ data := #[52, 48, 51] }, { data := #[70, 111, 114, 98, 105, 100, 100, 101, 110] }) else
  if status = 404 then ({ data := #[52, 48, 52] }, { data := #[78, 111, 116, 32, 70, 111, 117, 110, 100] }) else
  if status = 405 then ({ data := #[52, 48, 53] }, { data := #[77, 101, 116, 104, 111, 100, 32, 78, 111, 116, 32, 65, 108, 108, 111, 119, 101, 100] }) else
  if status = 426 then ({ data := #[52, 50, 54] }, { data := #[85, 112, 103, 114, 97, 100, 101, 32, 82, 101, 113, 117, 105, 114, 101, 100] }) else
  if status = 502 then ({ data := #[53, 48, 50] }, { data := #[66, 97, 100, 32, 71, 97, 116, 101, 119, 97, 121] }) else
  if status = 503 then ({ data := #[53, 48, 51] }, { data := #[83, 101, 114, 118, 105, 99, 101, 32, 85, 110, 97, 118, 97, 105, 108, 97, 98, 108, 101] }) else
  if status = 504 then ({ data := #[53, 48, 52] }, { data := #[71, 97, 116, 101, 119, 97, 121, 32, 84, 105, 109, 101, 111, 117, 116] }) else
  ({ data := #[52, 48, 48] }, { data := #[66, 97, 100, 32, 82, 101, 113, 117, 101, 115, 116] })
theorem whyV_bytes (status : Int) : (bytes (whyV status).1, bytes (whyV status).2) = why status := by
  unfold whyV why
  by_cases h403 : status = 403
  · rw [if_pos h403, if_pos h403]; rfl
  rw [if_neg h403, if_neg h403]
  by_cases h404 : status = 404
  · rw [if_pos h404, if_pos h404]; rfl
  rw [if_neg h404, if_neg h404]
  by_cases h405 : status = 405
  · rw [if_pos h405, if_pos h405]; rfl
  rw [if_neg h405, if_neg h405]
  by_cases h426 : status = 426
  · rw [if_pos h426, if_pos h426]; rfl
  rw [if_neg h426, if_neg h426]
  by_cases h502 : status = 502
  · rw [if_pos h502, if_pos h502]; rfl
  rw [if_neg h502, if_neg h502]
  by_cases h503 : status = 503
  · rw [if_pos h503, if_pos h503]; rfl
  rw [if_neg h503, if_neg h503]
  by_cases h504 : status = 504
  · rw [if_pos h504, if_pos h504]; rfl
  rw [if_neg h504, if_neg h504]
  rfl
theorem itoa_any (n : Int) (s : ByteArray) (hs : ⟨(Lib.itoa n).toArray⟩ = s) (h0 : 0 ≤ n) (h1 : n ≤ 1000) (V : World) (hg : GlobA V) :
    Calls Tryz.prog 81 #[.int .i64 n] V fun e w' => e = .returned (.string s) ∧ Sl (Below V.heap.size V w') := by
  subst hs
  exact (Tryz.strconv_Itoa n (by omega) (by omega) V hg.p).mono fun _ _ ⟨h, k, os, hw⟩ => ⟨h, ⟨by rw [hw]; exact Lib.below_grow _ _ (Nat.le_refl _) _ _⟩⟩
theorem three_zero {W : World} {g : Nat} (h : W.heap[g]? = some (.cells #[.string { data := #[] }, .string { data := #[] }, .string { data := #[] }] 22 (0, 0))) :
    (W.cell? ⟨g, 0, none⟩ = some (.string { data := #[] }) ∧ W.cell? ⟨g, 1, none⟩ = some (.string { data := #[] }) ∧ W.cell? ⟨g, 2, none⟩ = some (.string { data := #[] })) ∧
    (W.frozen? ⟨g, 0, none⟩ = false ∧ W.frozen? ⟨g, 1, none⟩ = false ∧ W.frozen? ⟨g, 2, none⟩ = false) :=
  ⟨⟨by rw [cell_of_row _ _ _ _ _ _ h]; rfl, by rw [cell_of_row _ _ _ _ _ _ h]; rfl, by rw [cell_of_row _ _ _ _ _ _ h]; rfl⟩,
   ⟨frozen_of_row _ _ _ _ _ h, frozen_of_row _ _ _ _ _ h, frozen_of_row _ _ _ _ _ h⟩⟩
theorem three_cells (w : World) (g : Nat) (a b c : ByteArray) (v0 v1 v2 : Value) (h : w.heap[g]? = some (.cells #[v0, v1, v2] 22 (0, 0))) :
    (((w.setCell ⟨g, 0, none⟩ (.string a)).setCell ⟨g, 1, none⟩ (.string b)).setCell ⟨g, 2, none⟩ (.string c)).heap[g]? = some (.cells #[.string a, .string b, .string c] 22 (0, 0)) := by
  rw [heap_setCell_same _ _ _ _ _ _ (heap_setCell_same _ _ _ _ _ _ (heap_setCell_same _ _ _ _ _ _ h))]
  rfl
theorem ret_three {fn : Func} {p : Tmp} (h : fn.results = #[.cell p 22]) (tmps : Array Value) (w : World) (g : Nat) (t : TypeId) (cs : Array Value) (fr : Nat × Nat)
    (hp : tmps.getD p undef = .pointer (some ⟨g, 0, none⟩)) (hg : w.heap[g]? = some (.cells cs t fr)) (hs : cs.size = 3) :
    (results fn tmps).run Tryz.prog w = .ok (.agg cs) w := by
  have hi : (Tryz.prog.info? 22).map (·.size) = some cs.size := by rw [hs]; kernel_rfl
  have hp' : tmps[p]?.getD undef = .pointer (some ⟨g, 0, none⟩) := by simpa using hp
  simp only [results, h]
  simp [hp', asAddr, run_loadVar_row (P := Tryz.prog) w g t 22 cs fr _ hg Tryz.underlying22 rfl hi]
theorem three_done {w0 W : World} {g : Nat} {a b c : ByteArray} (hB : Below w0.heap.size w0 W) (hg : w0.heap.size ≤ g) :
    Below w0.heap.size w0 (((W.setCell ⟨g, 0, none⟩ (.string a)).setCell ⟨g, 1, none⟩ (.string b)).setCell ⟨g, 2, none⟩ (.string c)) :=
  hB.grown (grown_trans (grown_trans (grown_setCell W g 0 (.string a)) (grown_setCell _ g 1 (.string b))) (grown_setCell _ g 2 (.string c))) hB.size (fun k hk => by injection hk with hk; omega)
def LineR (n s : ByteArray) (e : Ending) : Prop := e = .returned (.agg #[.string bH11, .string n, .string s])
set_option maxHeartbeats 1000000 in
theorem line403 (w : World) (hg : GlobA w) : Calls Tryz.prog 44 #[.int .i64 403] w fun e w' => LineR { data := #[52, 48, 51] } { data := #[70, 111, 114, 98, 105, 100, 100, 101, 110] } e ∧ Sl (Below w.heap.size w w') := by
  have HI : Sl (∀ V, Below w.heap.size w V → Calls Tryz.prog 81 #[.int .i64 403] V fun e w' => e = .returned (.string { data := #[52, 48, 51] }) ∧ Sl (Below V.heap.size V w')) := ⟨fun V hB => itoa_any 403 _ (by kernel_rfl) (by omega) (by omega) V (hg.of hB)⟩
  have HB0 : Sl (∀ o, Below w.heap.size w (w.alloc o)) := ⟨fun o => (Below.refl _ _).alloc (Nat.le_refl _) _⟩
  clear hg
  go_enter Tryz.func44, Tryz.ntmps44
  go_wp2_with fail
  refine (HI.out _ (HB0.out _)).mono ?_
  rintro e w1 ⟨rfl, HB⟩
  have HR : Sl (w1.heap[w.heap.size]? = some (.cells #[.string { data := #[] }, .string { data := #[] }, .string { data := #[] }] 22 (0, 0))) := ⟨by rw [HB.out.block _ (by rw [alloc_size]; omega)]; exact alloc_new _ _ _ rfl⟩
  have HB1 := Sl.mk (below_trans (HB0.out _) HB.out)
  clear HB
  obtain ⟨⟨p0, p1, p2⟩, ⟨q0, q1, q2⟩⟩ := three_zero HR.out
  go_wp2
  refine bodyPost_ret (ret_three rfl _ _ w.heap.size 22 _ (0, 0) rfl (three_cells _ _ _ _ _ _ _ _ HR.out) rfl) rfl ?_
  exact ⟨rfl, ⟨three_done HB1.out (Nat.le_refl _)⟩⟩
set_option maxHeartbeats 1000000 in
theorem line404 (w : World) (hg : GlobA w) : Calls Tryz.prog 44 #[.int .i64 404] w fun e w' => LineR { data := #[52, 48, 52] } { data := #[78, 111, 116, 32, 70, 111, 117, 110, 100] } e ∧ Sl (Below w.heap.size w w') := by
  have HI : Sl (∀ V, Below w.heap.size w V → Calls Tryz.prog 81 #[.int .i64 404] V fun e w' => e = .returned (.string { data := #[52, 48, 52] }) ∧ Sl (Below V.heap.size V w')) := ⟨fun V hB => itoa_any 404 _ (by kernel_rfl) (by omega) (by omega) V (hg.of hB)⟩
  have HB0 : Sl (∀ o, Below w.heap.size w (w.alloc o)) := ⟨fun o => (Below.refl _ _).alloc (Nat.le_refl _) _⟩
  clear hg
  go_enter Tryz.func44, Tryz.ntmps44
  go_wp2_with fail
  refine (HI.out _ (HB0.out _)).mono ?_
  rintro e w1 ⟨rfl, HB⟩
  have HR : Sl (w1.heap[w.heap.size]? = some (.cells #[.string { data := #[] }, .string { data := #[] }, .string { data := #[] }] 22 (0, 0))) := ⟨by rw [HB.out.block _ (by rw [alloc_size]; omega)]; exact alloc_new _ _ _ rfl⟩
  have HB1 := Sl.mk (below_trans (HB0.out _) HB.out)
  clear HB
  obtain ⟨⟨p0, p1, p2⟩, ⟨q0, q1, q2⟩⟩ := three_zero HR.out
  go_wp2
  refine bodyPost_ret (ret_three rfl _ _ w.heap.size 22 _ (0, 0) rfl (three_cells _ _ _ _ _ _ _ _ HR.out) rfl) rfl ?_
  exact ⟨rfl, ⟨three_done HB1.out (Nat.le_refl _)⟩⟩
set_option maxHeartbeats 1000000 in
theorem line405 (w : World) (hg : GlobA w) : Calls Tryz.prog 44 #[.int .i64 405] w fun e w' => LineR { data := #[52, 48, 53] } { data := #[77, 101, 116, 104, 111, 100, 32, 78, 111, 116, 32, 65, 108, 108, 111, 119, 101, 100] } e ∧ Sl (Below w.heap.size w w') := by
  have HI : Sl (∀ V, Below w.heap.size w V → Calls Tryz.prog 81 #[.int .i64 405] V fun e w' => e = .returned (.string { data := #[52, 48, 53] }) ∧ Sl (Below V.heap.size V w')) := ⟨fun V hB => itoa_any 405 _ (by kernel_rfl) (by omega) (by omega) V (hg.of hB)⟩
  have HB0 : Sl (∀ o, Below w.heap.size w (w.alloc o)) := ⟨fun o => (Below.refl _ _).alloc (Nat.le_refl _) _⟩
  clear hg
  go_enter Tryz.func44, Tryz.ntmps44
  go_wp2_with fail
  refine (HI.out _ (HB0.out _)).mono ?_
  rintro e w1 ⟨rfl, HB⟩
  have HR : Sl (w1.heap[w.heap.size]? = some (.cells #[.string { data := #[] }, .string { data := #[] }, .string { data := #[] }] 22 (0, 0))) := ⟨by rw [HB.out.block _ (by rw [alloc_size]; omega)]; exact alloc_new _ _ _ rfl⟩
  have HB1 := Sl.mk (below_trans (HB0.out _) HB.out)
  clear HB
  obtain ⟨⟨p0, p1, p2⟩, ⟨q0, q1, q2⟩⟩ := three_zero HR.out
  go_wp2
  refine bodyPost_ret (ret_three rfl _ _ w.heap.size 22 _ (0, 0) rfl (three_cells _ _ _ _ _ _ _ _ HR.out) rfl) rfl ?_
  exact ⟨rfl, ⟨three_done HB1.out (Nat.le_refl _)⟩⟩
set_option maxHeartbeats 1000000 in
theorem line426 (w : World) (hg : GlobA w) : Calls Tryz.prog 44 #[.int .i64 426] w fun e w' => LineR { data := #[52, 50, 54] } { data := #[85, 112, 103, 114, 97, 100, 101, 32, 82, 101, 113, 117, 105, 114, 101, 100] } e ∧ Sl (Below w.heap.size w w') := by
  have HI : Sl (∀ V, Below w.heap.size w V → Calls Tryz.prog 81 #[.int .i64 426] V fun e w' => e = .returned (.string { data := #[52, 50, 54] }) ∧ Sl (Below V.heap.size V w')) := ⟨fun V hB => itoa_any 426 _ (by kernel_rfl) (by omega) (by omega) V (hg.of hB)⟩
  have HB0 : Sl (∀ o, Below w.heap.size w (w.alloc o)) := ⟨fun o => (Below.refl _ _).alloc (Nat.le_refl _) _⟩
  clear hg
  go_enter Tryz.func44, Tryz.ntmps44
  go_wp2_with fail
  refine (HI.out _ (HB0.out _)).mono ?_
  rintro e w1 ⟨rfl, HB⟩
  have HR : Sl (w1.heap[w.heap.size]? = some (.cells #[.string { data := #[] }, .string { data := #[] }, .string { data := #[] }] 22 (0, 0))) := ⟨by rw [HB.out.block _ (by rw [alloc_size]; omega)]; exact alloc_new _ _ _ rfl⟩
  have HB1 := Sl.mk (below_trans (HB0.out _) HB.out)
  clear HB
  obtain ⟨⟨p0, p1, p2⟩, ⟨q0, q1, q2⟩⟩ := three_zero HR.out
  go_wp2
  refine bodyPost_ret (ret_three rfl _ _ w.heap.size 22 _ (0, 0) rfl (three_cells _ _ _ _ _ _ _ _ HR.out) rfl) rfl ?_
  exact ⟨rfl, ⟨three_done HB1.out (Nat.le_refl _)⟩⟩
set_option maxHeartbeats 1000000 in
theorem line502 (w : World) (hg : GlobA w) : Calls Tryz.prog 44 #[.int .i64 502] w fun e w' => LineR { data := #[53, 48, 50] } { data := #[66, 97, 100, 32, 71, 97, 116, 101, 119, 97, 121] } e ∧ Sl (Below w.heap.size w w') := by
  have HI : Sl (∀ V, Below w.heap.size w V → Calls Tryz.prog 81 #[.int .i64 502] V fun e w' => e = .returned (.string { data := #[53, 48, 50] }) ∧ Sl (Below V.heap.size V w')) := ⟨fun V hB => itoa_any 502 _ (by kernel_rfl) (by omega) (by omega) V (hg.of hB)⟩
  have HB0 : Sl (∀ o, Below w.heap.size w (w.alloc o)) := ⟨fun o => (Below.refl _ _).alloc (Nat.le_refl _) _⟩
  clear hg
  go_enter Tryz.func44, Tryz.ntmps44
  go_wp2_with fail
  refine (HI.out _ (HB0.out _)).mono ?_
  rintro e w1 ⟨rfl, HB⟩
  have HR : Sl (w1.heap[w.heap.size]? = some (.cells #[.string { data := #[] }, .string { data := #[] }, .string { data := #[] }] 22 (0, 0))) := ⟨by rw [HB.out.block _ (by rw [alloc_size]; omega)]; exact alloc_new _ _ _ rfl⟩
  have HB1 := Sl.mk (below_trans (HB0.out _) HB.out)
  clear HB
  obtain ⟨⟨p0, p1, p2⟩, ⟨q0, q1, q2⟩⟩ := three_zero HR.out
  go_wp2
  refine bodyPost_ret (ret_three rfl _ _ w.heap.size 22 _ (0, 0) rfl (three_cells _ _ _ _ _ _ _ _ HR.out) rfl) rfl ?_
  exact ⟨rfl, ⟨three_done HB1.out (Nat.le_refl _)⟩⟩
set_option maxHeartbeats 1000000 in
theorem line503 (w : World) (hg : GlobA w) : Calls Tryz.prog 44 #[.int .i64 503] w fun e w' => LineR { data := #[53, 48, 51] } { data := #[83, 101, 114, 118, 105, 99, 101, 32, 85, 110, 97, 118, 97, 105, 108, 97, 98, 108, 101] } e ∧ Sl (Below w.heap.size w w') := by
  have HI : Sl (∀ V, Below w.heap.size w V → Calls Tryz.prog 81 #[.int .i64 503] V fun e w' => e = .returned (.string { data := #[53, 48, 51] }) ∧ Sl (Below V.heap.size V w')) := ⟨fun V hB => itoa_any 503 _ (by kernel_rfl) (by omega) (by omega) V (hg.of hB)⟩
  have HB0 : Sl (∀ o, Below w.heap.size w (w.alloc o)) := ⟨fun o => (Below.refl _ _).alloc (Nat.le_refl _) _⟩
  clear hg
  go_enter Tryz.func44, Tryz.ntmps44
  go_wp2_with fail
  refine (HI.out _ (HB0.out _)).mono ?_
  rintro e w1 ⟨rfl, HB⟩
  have HR : Sl (w1.heap[w.heap.size]? = some (.cells #[.string { data := #[] }, .string { data := #[] }, .string { data := #[] }] 22 (0, 0))) := ⟨by rw [HB.out.block _ (by rw [alloc_size]; omega)]; exact alloc_new _ _ _ rfl⟩
  have HB1 := Sl.mk (below_trans (HB0.out _) HB.out)
  clear HB
  obtain ⟨⟨p0, p1, p2⟩, ⟨q0, q1, q2⟩⟩ := three_zero HR.out
  go_wp2
  refine bodyPost_ret (ret_three rfl _ _ w.heap.size 22 _ (0, 0) rfl (three_cells _ _ _ _ _ _ _ _ HR.out) rfl) rfl ?_
  exact ⟨rfl, ⟨three_done HB1.out (Nat.le_refl _)⟩⟩
set_option maxHeartbeats 1000000 in
theorem line504 (w : World) (hg : GlobA w) : Calls Tryz.prog 44 #[.int .i64 504] w fun e w' => LineR { data := #[53, 48, 52] } { data := #[71, 97, 116, 101, 119, 97, 121, 32, 84, 105, 109, 101, 111, 117, 116] } e ∧ Sl (Below w.heap.size w w') := by
  have HI : Sl (∀ V, Below w.heap.size w V → Calls Tryz.prog 81 #[.int .i64 504] V fun e w' => e = .returned (.string { data := #[53, 48, 52] }) ∧ Sl (Below V.heap.size V w')) := ⟨fun V hB => itoa_any 504 _ (by kernel_rfl) (by omega) (by omega) V (hg.of hB)⟩
  have HB0 : Sl (∀ o, Below w.heap.size w (w.alloc o)) := ⟨fun o => (Below.refl _ _).alloc (Nat.le_refl _) _⟩
  clear hg
  go_enter Tryz.func44, Tryz.ntmps44
  go_wp2_with fail
  refine (HI.out _ (HB0.out _)).mono ?_
  rintro e w1 ⟨rfl, HB⟩
  have HR : Sl (w1.heap[w.heap.size]? = some (.cells #[.string { data := #[] }, .string { data := #[] }, .string { data := #[] }] 22 (0, 0))) := ⟨by rw [HB.out.block _ (by rw [alloc_size]; omega)]; exact alloc_new _ _ _ rfl⟩
  have HB1 := Sl.mk (below_trans (HB0.out _) HB.out)
  clear HB
  obtain ⟨⟨p0, p1, p2⟩, ⟨q0, q1, q2⟩⟩ := three_zero HR.out
  go_wp2
  refine bodyPost_ret (ret_three rfl _ _ w.heap.size 22 _ (0, 0) rfl (three_cells _ _ _ _ _ _ _ _ HR.out) rfl) rfl ?_
  exact ⟨rfl, ⟨three_done HB1.out (Nat.le_refl _)⟩⟩
set_option maxHeartbeats 1000000 in
theorem line400 (w : World) (hg : GlobA w) : Calls Tryz.prog 44 #[.int .i64 400] w fun e w' => LineR { data := #[52, 48, 48] } { data := #[66, 97, 100, 32, 82, 101, 113, 117, 101, 115, 116] } e ∧ Sl (Below w.heap.size w w') := by
  have HI : Sl (∀ V, Below w.heap.size w V → Calls Tryz.prog 81 #[.int .i64 400] V fun e w' => e = .returned (.string { data := #[52, 48, 48] }) ∧ Sl (Below V.heap.size V w')) := ⟨fun V hB => itoa_any 400 _ (by kernel_rfl) (by omega) (by omega) V (hg.of hB)⟩
  have HB0 : Sl (∀ o, Below w.heap.size w (w.alloc o)) := ⟨fun o => (Below.refl _ _).alloc (Nat.le_refl _) _⟩
  clear hg
  go_enter Tryz.func44, Tryz.ntmps44
  go_wp2_with fail
  refine (HI.out _ (HB0.out _)).mono ?_
  rintro e w1 ⟨rfl, HB⟩
  have HR : Sl (w1.heap[w.heap.size]? = some (.cells #[.string { data := #[] }, .string { data := #[] }, .string { data := #[] }] 22 (0, 0))) := ⟨by rw [HB.out.block _ (by rw [alloc_size]; omega)]; exact alloc_new _ _ _ rfl⟩
  have HB1 := Sl.mk (below_trans (HB0.out _) HB.out)
  clear HB
  obtain ⟨⟨p0, p1, p2⟩, ⟨q0, q1, q2⟩⟩ := three_zero HR.out
  go_wp2
  refine bodyPost_ret (ret_three rfl _ _ w.heap.size 22 _ (0, 0) rfl (three_cells _ _ _ _ _ _ _ _ HR.out) rfl) rfl ?_
  exact ⟨rfl, ⟨three_done HB1.out (Nat.le_refl _)⟩⟩
set_option maxHeartbeats 1000000 in
theorem lineX (w : World) (hg : GlobA w) {status : Int} (h403 : status ≠ 403) (h404 : status ≠ 404) (h405 : status ≠ 405) (h426 : status ≠ 426) (h502 : status ≠ 502) (h503 : status ≠ 503) (h504 : status ≠ 504) (h400 : status ≠ 400) : Calls Tryz.prog 44 #[.int .i64 status] w fun e w' => LineR { data := #[52, 48, 48] } { data := #[66, 97, 100, 32, 82, 101, 113, 117, 101, 115, 116] } e ∧ Sl (Below w.heap.size w w') := by
  have HI : Sl (∀ V, Below w.heap.size w V → Calls Tryz.prog 81 #[.int .i64 400] V fun e w' => e = .returned (.string { data := #[52, 48, 48] }) ∧ Sl (Below V.heap.size V w')) := ⟨fun V hB => itoa_any 400 _ (by kernel_rfl) (by omega) (by omega) V (hg.of hB)⟩
  have HB0 : Sl (∀ o, Below w.heap.size w (w.alloc o)) := ⟨fun o => (Below.refl _ _).alloc (Nat.le_refl _) _⟩
  clear hg
  have e403 : (status == 403) = false := by simpa using h403
  have e404 : (status == 404) = false := by simpa using h404
  have e405 : (status == 405) = false := by simpa using h405
  have e426 : (status == 426) = false := by simpa using h426
  have e502 : (status == 502) = false := by simpa using h502
  have e503 : (status == 503) = false := by simpa using h503
  have e504 : (status == 504) = false := by simpa using h504
  have e400 : (status == 400) = false := by simpa using h400
  clear h403 h404 h405 h426 h502 h503 h504 h400
  go_enter Tryz.func44, Tryz.ntmps44
  go_wp2_with fail
  refine (HI.out _ (HB0.out _)).mono ?_
  rintro e w1 ⟨rfl, HB⟩
  have HR : Sl (w1.heap[w.heap.size]? = some (.cells #[.string { data := #[] }, .string { data := #[] }, .string { data := #[] }] 22 (0, 0))) := ⟨by rw [HB.out.block _ (by rw [alloc_size]; omega)]; exact alloc_new _ _ _ rfl⟩
  have HB1 := Sl.mk (below_trans (HB0.out _) HB.out)
  clear HB
  obtain ⟨⟨p0, p1, p2⟩, ⟨q0, q1, q2⟩⟩ := three_zero HR.out
  go_wp2
  refine bodyPost_ret (ret_three rfl _ _ w.heap.size 22 _ (0, 0) rfl (three_cells _ _ _ _ _ _ _ _ HR.out) rfl) rfl ?_
  exact ⟨rfl, ⟨three_done HB1.out (Nat.le_refl _)⟩⟩
theorem line_any (status : Int) (w : World) (hg : GlobA w) : Calls Tryz.prog 44 #[.int .i64 status] w fun e w' => e = .returned (.agg #[.string bH11, .string (whyV status).1, .string (whyV status).2]) ∧ Sl (Below w.heap.size w w') := by
  by_cases h403 : status = 403
  · subst h403; exact line403 w hg
  by_cases h404 : status = 404
  · subst h404; exact line404 w hg
  by_cases h405 : status = 405
  · subst h405; exact line405 w hg
  by_cases h426 : status = 426
  · subst h426; exact line426 w hg
  by_cases h502 : status = 502
  · subst h502; exact line502 w hg
  by_cases h503 : status = 503
  · subst h503; exact line503 w hg
  by_cases h504 : status = 504
  · subst h504; exact line504 w hg
  have hw : whyV status = ({ data := #[52, 48, 48] }, { data := #[66, 97, 100, 32, 82, 101, 113, 117, 101, 115, 116] }) := by
    unfold whyV
    rw [if_neg h403, if_neg h404, if_neg h405, if_neg h426, if_neg h502, if_neg h503, if_neg h504]
  rw [hw]
  by_cases h400 : status = 400
  · subst h400; exact line400 w hg
  exact lineX w hg h403 h404 h405 h426 h502 h503 h504 h400
end Go.Proofs.YthlagngpllahkaaGreatDoor
