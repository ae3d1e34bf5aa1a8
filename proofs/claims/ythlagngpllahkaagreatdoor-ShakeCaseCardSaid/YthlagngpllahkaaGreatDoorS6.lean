/- shake: a refusal. -/
import Derived.Test.YthlagngpllahkaaGreatDoorS5
set_option maxRecDepth 100000
namespace Go.Proofs.YthlagngpllahkaaGreatDoor
open Go.RowKit HeadPlain

def refuseA : List FV := [(bUp, bWs), (bVer, b13)]
def refuseB : List FV := [(bConn, bClose), (bLen, bNull)]
/-- The head that a question is refused by. -/
def refuseV (status : Int) : HdV := ⟨bH11, (whyV status).1, (whyV status).2, (if status = 426 then refuseA else []) ++ refuseB⟩
theorem refuseV_hd (status : Int) : (refuseV status).hd = refuseH status := by
  have h := whyV_bytes status
  unfold refuseV refuseH HdV.hd
  have h1 : bytes (whyV status).1 = (why status).1 := by rw [← h]
  have h2 : bytes (whyV status).2 = (why status).2 := by rw [← h]
  simp only [h1, h2]
  by_cases h0 : status = 426
  · rw [if_pos h0, if_pos h0]; rfl
  · rw [if_neg h0, if_neg h0]; rfl
theorem refuse_sizes : ∀ f ∈ refuseA ++ refuseB, f.1.size ≤ maxLen ∧ f.2.size ≤ maxLen := by
  intro f hf
  simp only [refuseA, refuseB, List.mem_append, List.mem_cons, List.not_mem_nil, or_false] at hf
  rcases hf with (rfl | rfl) | (rfl | rfl) <;> decide
set_option maxHeartbeats 2000000 in
theorem refusal_other (status : Int) (n s : ByteArray) (hn : (whyV status).1 = n) (hs : (whyV status).2 = s) (w : World) (hg : GlobA w) (h0 : status ≠ 426) :
    Calls Tryz.prog 18 #[.int .i64 status] w fun e w' => Sl (HeadR w' ⟨bH11, n, s, refuseB⟩ e) ∧ Sl (Below w.heap.size w w') := by
  have h426 : (status == 426) = false := by simpa using h0
  clear h0
  have HLN : Sl (∀ V, Below w.heap.size w V → Calls Tryz.prog 44 #[.int .i64 status] V fun e w' => e = .returned (.agg #[.string { data := #[72, 84, 84, 80, 47, 49, 46, 49] }, .string n, .string s]) ∧ Sl (Below V.heap.size V w')) := ⟨fun V hB => by
    have := line_any status V (hg.of hB)
    rw [hn, hs] at this
    exact this⟩
  clear hg
  obtain ⟨w0, hw0⟩ : ∃ w0, w.alloc (.cells #[.string { data := #[] }, .string { data := #[] }, .string { data := #[] }, .slice none 0 0] 25) = w0 := ⟨_, rfl⟩
  have HR0 : Sl (w0.heap[w.heap.size]? = some (.cells #[.string { data := #[] }, .string { data := #[] }, .string { data := #[] }, .slice none 0 0] 25 (0, 0))) := ⟨by rw [← hw0]; exact alloc_new _ _ _ rfl⟩
  have HB0 : Sl (Below w.heap.size w w0) := ⟨by rw [← hw0]; exact (Below.refl _ _).alloc (Nat.le_refl _) _⟩
  have HZ0 : Sl (w0.heap.size = w.heap.size + 1) := ⟨by rw [← hw0, alloc_size]⟩
  clear hn hs
  go_enter Tryz.func18, Tryz.ntmps18
  go_wp2_with fail
  clear hw0
  refine (HLN.out _ HB0.out).mono ?_
  rintro e w1 ⟨rfl, HB⟩
  have HR1 := Sl.mk (box_below HR0.out HB.out)
  have HB1 := Sl.mk (below_trans HB0.out HB.out)
  have hz : w.heap.size < w1.heap.size := by have h1 := HB.out.size; have h2 := HZ0.out; omega
  have HS1 : Sl (w0.heap.size ≤ w1.heap.size) := ⟨HB.out.size⟩
  obtain ⟨A1, hA1⟩ : ∃ A, w1.alloc (.cells #[.string { data := #[72, 84, 84, 80, 47, 49, 46, 49] }, .string n, .string s, .slice none 0 0] 25) = A := ⟨_, rfl⟩
  have Z1 : Sl (A1.heap.size = w1.heap.size + 1) := ⟨by rw [← hA1, alloc_size]⟩
  have hA1b : A1.setCell ⟨w1.heap.size, 3, none⟩ (.slice none 0 0) = A1 := by rw [← hA1, World.setCell_alloc_new]; rfl
  have g3 : A1.frozen? ⟨w1.heap.size, 3, none⟩ = false := by rw [← hA1]; exact frozen_of_row _ _ _ _ _ (alloc_new _ _ _ rfl)
  have e3 : A1.cell? ⟨w1.heap.size, 3, none⟩ = some (.slice none 0 0) := by rw [← hA1, cell_of_row _ _ _ _ _ _ (alloc_new _ _ _ rfl)]; rfl
  obtain ⟨A2, hA2⟩ : ∃ A, A1.alloc (.cells #[.string { data := #[67, 111, 110, 110, 101, 99, 116, 105, 111, 110] }, .string { data := #[99, 108, 111, 115, 101] }, .string { data := #[67, 111, 110, 116, 101, 110, 116, 45, 76, 101, 110, 103, 116, 104] }, .string { data := #[48] }] 60) = A := ⟨_, rfl⟩
  have Z2 : Sl (A2.heap.size = A1.heap.size + 1) := ⟨by rw [← hA2, alloc_size]⟩
  have BA : Sl (Below w1.heap.size w1 A2) := ⟨by rw [← hA2, ← hA1]; exact ((Below.refl _ _).alloc (Nat.le_refl _) _).alloc (by rw [alloc_size]; omega) _⟩
  have HH2 : Sl (A2.heap[w1.heap.size]? = some (.cells #[.string { data := #[72, 84, 84, 80, 47, 49, 46, 49] }, .string n, .string s, .slice none 0 0] 25 (0, 0))) := ⟨by rw [← hA2, alloc_old _ _ _ (by rw [Z1.out]; omega), ← hA1]; exact alloc_new _ _ _ rfl⟩
  have HL2 : Sl (A2.heap[A1.heap.size]? = some (.cells #[.string { data := #[67, 111, 110, 110, 101, 99, 116, 105, 111, 110] }, .string { data := #[99, 108, 111, 115, 101] }, .string { data := #[67, 111, 110, 116, 101, 110, 116, 45, 76, 101, 110, 103, 116, 104] }, .string { data := #[48] }] 60 (0, 0))) := ⟨by rw [← hA2]; exact alloc_new _ _ _ rfl⟩
  have HR2 := Sl.mk (box_below HR1.out BA.out)
  have HB2 := Sl.mk (below_trans HB1.out BA.out)
  go_wp2_with (
    at_builtin
    refine app_flds rfl rfl _ _ rfl w0.heap.size _ [] [(bConn, bClose), (bLen, bNull)] A1.heap.size 2 rfl (ownF_nil A2 w0.heap.size) rfl rfl _ HL2.out rfl (show 0 + 2 ≤ 1000 by omega) (Nat.le_trans HS1.out BA.out.size) ?_
    intro v' w4 HO4 HG4
    obtain ⟨va, vc, hv'⟩ := HO4.out.slice
    subst hv'
    have HH4 := Sl.mk (staysF (ownF_nil A2 w0.heap.size) HG4.out HH2.out (by decide))
    have HR4 := Sl.mk (staysF (ownF_nil A2 w0.heap.size) HG4.out HR2.out (by decide))
    have HB4 : Sl (Below w.heap.size w w4) := ⟨HB2.out.grown HG4.out HB2.out.size (fun k hk => by cases hk)⟩
    have HZ4 : Sl (w1.heap.size < w4.heap.size) := ⟨lt_of_block HH4.out⟩
    clear HG4 HL2 HH2 HR2 HB2 BA hA1 hA1b hA2
    obtain ⟨p0, p1, p2, p3⟩ := head_cells HH4.out
    have f3 : w4.frozen? ⟨w1.heap.size, 3, none⟩ = false := frozen_of_row _ _ _ _ _ HH4.out
    obtain ⟨⟨r0, r1, r2, r3⟩, ⟨q0, q1, q2, q3⟩⟩ := zero_cells HR4.out
    have hz4 := HZ4.out
    have hn1 : (w1.heap.size = w.heap.size) = False := eq_false (by omega)
    have hn2 : (w.heap.size = w1.heap.size) = False := eq_false (by omega))
  obtain ⟨D1, D2, D3⟩ := head_done2 (w0 := w) (a := bH11) (b := n) (c := s) HH4.out HR4.out (by omega) HB4.out (Nat.le_refl _) (by omega) HO4.out (fun f hf => refuse_sizes f (List.mem_append.2 (.inr (by simpa [refuseB] using hf)))) (show 2 < 100000 by omega)
  refine bodyPost_ret (ret_head1 rfl _ _ w.heap.size 25 _ (0, 0) rfl (four_cells _ _ _ _ _ _ _ _ _ _ D1.out) rfl) rfl ?_
  exact ⟨⟨_, _, rfl, D2.out⟩, D3⟩
set_option maxHeartbeats 2000000 in
theorem refusal_up (n s : ByteArray) (hn : (whyV 426).1 = n) (hs : (whyV 426).2 = s) (w : World) (hg : GlobA w) :
    Calls Tryz.prog 18 #[.int .i64 426] w fun e w' => Sl (HeadR w' ⟨bH11, n, s, refuseA ++ refuseB⟩ e) ∧ Sl (Below w.heap.size w w') := by
  have HLN : Sl (∀ V, Below w.heap.size w V → Calls Tryz.prog 44 #[.int .i64 426] V fun e w' => e = .returned (.agg #[.string { data := #[72, 84, 84, 80, 47, 49, 46, 49] }, .string n, .string s]) ∧ Sl (Below V.heap.size V w')) := ⟨fun V hB => by
    have := line_any 426 V (hg.of hB)
    rw [hn, hs] at this
    exact this⟩
  clear hg
  obtain ⟨w0, hw0⟩ : ∃ w0, w.alloc (.cells #[.string { data := #[] }, .string { data := #[] }, .string { data := #[] }, .slice none 0 0] 25) = w0 := ⟨_, rfl⟩
  have HR0 : Sl (w0.heap[w.heap.size]? = some (.cells #[.string { data := #[] }, .string { data := #[] }, .string { data := #[] }, .slice none 0 0] 25 (0, 0))) := ⟨by rw [← hw0]; exact alloc_new _ _ _ rfl⟩
  have HB0 : Sl (Below w.heap.size w w0) := ⟨by rw [← hw0]; exact (Below.refl _ _).alloc (Nat.le_refl _) _⟩
  have HZ0 : Sl (w0.heap.size = w.heap.size + 1) := ⟨by rw [← hw0, alloc_size]⟩
  clear hn hs
  go_enter Tryz.func18, Tryz.ntmps18
  go_wp2_with fail
  clear hw0
  refine (HLN.out _ HB0.out).mono ?_
  rintro e w1 ⟨rfl, HB⟩
  have HR1 := Sl.mk (box_below HR0.out HB.out)
  have HB1 := Sl.mk (below_trans HB0.out HB.out)
  have hz : w.heap.size < w1.heap.size := by have h1 := HB.out.size; have h2 := HZ0.out; omega
  have HS1 : Sl (w0.heap.size ≤ w1.heap.size) := ⟨HB.out.size⟩
  obtain ⟨A1, hA1⟩ : ∃ A, w1.alloc (.cells #[.string { data := #[72, 84, 84, 80, 47, 49, 46, 49] }, .string n, .string s, .slice none 0 0] 25) = A := ⟨_, rfl⟩
  have Z1 : Sl (A1.heap.size = w1.heap.size + 1) := ⟨by rw [← hA1, alloc_size]⟩
  have hA1b : A1.setCell ⟨w1.heap.size, 3, none⟩ (.slice none 0 0) = A1 := by rw [← hA1, World.setCell_alloc_new]; rfl
  have g3 : A1.frozen? ⟨w1.heap.size, 3, none⟩ = false := by rw [← hA1]; exact frozen_of_row _ _ _ _ _ (alloc_new _ _ _ rfl)
  have e3 : A1.cell? ⟨w1.heap.size, 3, none⟩ = some (.slice none 0 0) := by rw [← hA1, cell_of_row _ _ _ _ _ _ (alloc_new _ _ _ rfl)]; rfl
  obtain ⟨A2, hA2⟩ : ∃ A, A1.alloc (.cells #[.string { data := #[85, 112, 103, 114, 97, 100, 101] }, .string { data := #[119, 101, 98, 115, 111, 99, 107, 101, 116] }, .string { data := #[83, 101, 99, 45, 87, 101, 98, 83, 111, 99, 107, 101, 116, 45, 86, 101, 114, 115, 105, 111, 110] }, .string { data := #[49, 51] }] 60) = A := ⟨_, rfl⟩
  have Z2 : Sl (A2.heap.size = A1.heap.size + 1) := ⟨by rw [← hA2, alloc_size]⟩
  have BA : Sl (Below w1.heap.size w1 A2) := ⟨by rw [← hA2, ← hA1]; exact ((Below.refl _ _).alloc (Nat.le_refl _) _).alloc (by rw [alloc_size]; omega) _⟩
  have HH2 : Sl (A2.heap[w1.heap.size]? = some (.cells #[.string { data := #[72, 84, 84, 80, 47, 49, 46, 49] }, .string n, .string s, .slice none 0 0] 25 (0, 0))) := ⟨by rw [← hA2, alloc_old _ _ _ (by rw [Z1.out]; omega), ← hA1]; exact alloc_new _ _ _ rfl⟩
  have HL2 : Sl (A2.heap[A1.heap.size]? = some (.cells #[.string { data := #[85, 112, 103, 114, 97, 100, 101] }, .string { data := #[119, 101, 98, 115, 111, 99, 107, 101, 116] }, .string { data := #[83, 101, 99, 45, 87, 101, 98, 83, 111, 99, 107, 101, 116, 45, 86, 101, 114, 115, 105, 111, 110] }, .string { data := #[49, 51] }] 60 (0, 0))) := ⟨by rw [← hA2]; exact alloc_new _ _ _ rfl⟩
  have HR2 := Sl.mk (box_below HR1.out BA.out)
  have HB2 := Sl.mk (below_trans HB1.out BA.out)
  go_wp2_with (first
   | (at_builtin
      refine app_flds (o := ⟨some 14, _, _, _, _, _⟩) rfl rfl _ _ rfl w0.heap.size _ [] [(bUp, bWs), (bVer, b13)] A1.heap.size 2 rfl (ownF_nil A2 w0.heap.size) rfl rfl _ HL2.out rfl (show 0 + 2 ≤ 1000 by omega) (Nat.le_trans HS1.out BA.out.size) ?_
      intro v' w4 HO4 HG4
      obtain ⟨va, vc, hv'⟩ := HO4.out.slice
      subst hv'
      have HH4 := Sl.mk (staysF (ownF_nil A2 w0.heap.size) HG4.out HH2.out (by decide))
      have HR4 := Sl.mk (staysF (ownF_nil A2 w0.heap.size) HG4.out HR2.out (by decide))
      have HB4 : Sl (Below w.heap.size w w4) := ⟨HB2.out.grown HG4.out HB2.out.size (fun k hk => by cases hk)⟩
      obtain ⟨W5, hW5⟩ : ∃ W, w4.setCell ⟨w1.heap.size, 3, none⟩ (.slice va 2 vc) = W := ⟨_, rfl⟩
      have HH5 : Sl (W5.heap[w1.heap.size]? = some (.cells #[.string { data := #[72, 84, 84, 80, 47, 49, 46, 49] }, .string n, .string s, .slice va 2 vc] 25 (0, 0))) := ⟨by rw [← hW5]; exact agg_setCell _ HH4.out⟩
      have HR5 : Sl (W5.heap[w.heap.size]? = some (.cells #[.string { data := #[] }, .string { data := #[] }, .string { data := #[] }, .slice none 0 0] 25 (0, 0))) := ⟨by rw [← hW5, heap_setCell_other _ _ _ _ (show w.heap.size ≠ w1.heap.size by omega)]; exact HR4.out⟩
      have HO5 : Sl (OwnF W5 w0.heap.size (.slice va 2 vc) [(bUp, bWs), (bVer, b13)]) := ⟨by rw [← hW5]; exact ownsRow_setCell_other HO4.out (ownF_kind HO4.out HH4.out (by decide)) _⟩
      have HB5 : Sl (Below w.heap.size w W5) := ⟨by rw [← hW5]; exact HB4.out.grown (grown_setCell w4 w1.heap.size 3 _) HB4.out.size (fun k hk => by injection hk with hk; omega)⟩
      have f3 : w4.frozen? ⟨w1.heap.size, 3, none⟩ = false := frozen_of_row _ _ _ _ _ HH4.out
      have p34 : w4.cell? ⟨w1.heap.size, 3, none⟩ = some (.slice none 0 0) := (head_cells HH4.out).2.2.2
      have p35 : W5.cell? ⟨w1.heap.size, 3, none⟩ = some (.slice va 2 vc) := (head_cells HH5.out).2.2.2
      have HS5 : Sl (w0.heap.size ≤ W5.heap.size) := ⟨Nat.le_trans HS1.out (Nat.le_of_lt (lt_of_block HH5.out))⟩
      obtain ⟨A6, hA6⟩ : ∃ A, W5.alloc (.cells #[.string { data := #[67, 111, 110, 110, 101, 99, 116, 105, 111, 110] }, .string { data := #[99, 108, 111, 115, 101] }, .string { data := #[67, 111, 110, 116, 101, 110, 116, 45, 76, 101, 110, 103, 116, 104] }, .string { data := #[48] }] 60) = A := ⟨_, rfl⟩
      have BA6 : Sl (Below W5.heap.size W5 A6) := ⟨by rw [← hA6]; exact (Below.refl _ _).alloc (Nat.le_refl _) _⟩
      have HL6 : Sl (A6.heap[W5.heap.size]? = some (.cells #[.string { data := #[67, 111, 110, 110, 101, 99, 116, 105, 111, 110] }, .string { data := #[99, 108, 111, 115, 101] }, .string { data := #[67, 111, 110, 116, 101, 110, 116, 45, 76, 101, 110, 103, 116, 104] }, .string { data := #[48] }] 60 (0, 0))) := ⟨by rw [← hA6]; exact alloc_new _ _ _ rfl⟩
      clear HG4 HL2 HH2 HR2 HB2 BA hA1 hA1b hA2 HO4 HB4 HR4 e3)
   | (at_builtin
      refine app_flds (o := ⟨some 21, _, _, _, _, _⟩) rfl rfl _ _ rfl w0.heap.size _ [(bUp, bWs), (bVer, b13)] [(bConn, bClose), (bLen, bNull)] W5.heap.size 2 rfl (HO5.out.below BA6.out) rfl rfl _ HL6.out rfl (show 2 + 2 ≤ 1000 by omega) (Nat.le_trans HS5.out BA6.out.size) ?_
      intro v' w7 HO7 HG7
      obtain ⟨vb, vd, hv'⟩ := HO7.out.slice
      subst hv'
      have HH7 := Sl.mk (staysF (HO5.out.below BA6.out) HG7.out (box_below HH5.out BA6.out) (by decide))
      have HR7 := Sl.mk (staysF (HO5.out.below BA6.out) HG7.out (box_below HR5.out BA6.out) (by decide))
      have HB7 : Sl (Below w.heap.size w w7) := ⟨(below_trans HB5.out BA6.out).grown HG7.out (below_trans HB5.out BA6.out).size (fun k hk => by have := ownF_ge HO5.out hk; have := HZ0.out; omega)⟩
      have HZ7 : Sl (w1.heap.size < w7.heap.size) := ⟨lt_of_block HH7.out⟩
      clear HG7 HO5 HL6 BA6 hA6 hW5 HH5 HR5 HB5 p34 p35 f3 HH4
      obtain ⟨p0, p1, p2, p3⟩ := head_cells HH7.out
      have f37 : w7.frozen? ⟨w1.heap.size, 3, none⟩ = false := frozen_of_row _ _ _ _ _ HH7.out
      obtain ⟨⟨r0, r1, r2, r3⟩, ⟨q0, q1, q2, q3⟩⟩ := zero_cells HR7.out
      have hz7 := HZ7.out
      have hn1 : (w1.heap.size = w.heap.size) = False := eq_false (by omega)
      have hn2 : (w.heap.size = w1.heap.size) = False := eq_false (by omega)))
  obtain ⟨D1, D2, D3⟩ := head_done2 (w0 := w) (a := bH11) (b := n) (c := s) HH7.out HR7.out (by omega) HB7.out (Nat.le_refl _) (by omega) HO7.out refuse_sizes (show 4 < 100000 by omega)
  refine bodyPost_ret (ret_head1 rfl _ _ w.heap.size 25 _ (0, 0) rfl (four_cells _ _ _ _ _ _ _ _ _ _ D1.out) rfl) rfl ?_
  exact ⟨⟨_, _, rfl, D2.out⟩, D3⟩
theorem refusal_any (status : Int) (w : World) (hg : GlobA w) : Calls Tryz.prog 18 #[.int .i64 status] w fun e w' => Sl (HeadR w' (refuseV status) e) ∧ Sl (Below w.heap.size w w') := by
  by_cases h0 : status = 426
  · subst h0
    have h := refusal_up _ _ rfl rfl w hg
    unfold refuseV
    rw [if_pos rfl]
    exact h
  · have h := refusal_other status _ _ rfl rfl w hg h0
    unfold refuseV
    rw [if_neg h0, List.nil_append]
    exact h
end Go.Proofs.YthlagngpllahkaaGreatDoor
