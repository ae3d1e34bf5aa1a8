/- frame: the contracts in the form in which they are used; awake. -/
import Derived.Test.YtcelhondifaloaaDoorI
set_option maxRecDepth 100000
namespace Go.Proofs.YtcelhondifaloaaDoor
open Go.RowKit MaskPlain FramePlain Mas

theorem putf_no (fin : Bool) (op : Int) (m : Bool) (a b c d : Nat) (s : ByteArray) (k : Nat) (w : World) (hk : Small 256 [a, b, c, d]) (hc : chk (⟨fin, op, m, [a, b, c, d], bytes s⟩ : Fr) = k) (h0 : k ≠ 0) :
    Calls Tryd.prog 11 #[(.agg #[.bool fin, .int .i64 op, .bool m, .int .u8 ((a : Nat) : Int), .int .u8 ((b : Nat) : Int), .int .u8 ((c : Nat) : Int), .int .u8 ((d : Nat) : Int), .string s])] w fun e w' => e = .returned (.tuple #[.slice none 0 0, .int .i64 (k : Int)]) ∧ Sl (Below w.heap.size w w') := by
  have C13 : ∀ W, Calls Tryd.prog 13 #[(.agg #[.bool fin, .int .i64 op, .bool m, .int .u8 ((a : Nat) : Int), .int .u8 ((b : Nat) : Int), .int .u8 ((c : Nat) : Int), .int .u8 ((d : Nat) : Int), .string s])] W fun e w' => e = .returned (.int .i64 (k : Int)) ∧ Sl (Below W.heap.size W w') := fun W => by have := check_any fin op m a b c d s W hk; rw [hc] at this; exact this
  have hne : ((k : Int) != 0) = true := by simp; omega
  obtain ⟨w1, hw1⟩ : ∃ w1, w.alloc (.cells #[.bool fin, .int .i64 op, .bool m, .int .u8 ((a : Nat) : Int), .int .u8 ((b : Nat) : Int), .int .u8 ((c : Nat) : Int), .int .u8 ((d : Nat) : Int), .string s] 24) = w1 := ⟨_, rfl⟩
  have HB1 : Sl (Below w.heap.size w w1) := ⟨by rw [← hw1]; exact (bx_below w _).out⟩
  have HY1 : Sl (w1.heap[w.heap.size]? = some (.cells #[.bool fin, .int .i64 op, .bool m, .int .u8 ((a : Nat) : Int), .int .u8 ((b : Nat) : Int), .int .u8 ((c : Nat) : Int), .int .u8 ((d : Nat) : Int), .string s] 24 (0, 0))) := ⟨by rw [← hw1]; exact bx_new _ _⟩
  obtain ⟨p0, p1, p2, p3, p4, p5, p6, p7⟩ := bx_cells HY1.out
  clear hc h0 hk
  go_enter Tryd.func11, Tryd.ntmps11
  go_wp2_with fail
  refine (C13 _).mono ?_
  rintro e w2 ⟨rfl, HX2⟩
  have HB2 : Sl (Below w.heap.size w w2) := ⟨HB1.out.trans (HX2.out.mono HB1.out.size)⟩
  clear HX2 HB1 HY1 hw1 C13 p0 p1 p2 p3 p4 p5 p6 p7
  go_wp2
  go_ret2
  exact ⟨rfl, HB2⟩
theorem getf_ex (sb so L cap : Nat) (bs : List Nat) (most : Int) (fin : Bool) (op : Int) (m : Bool) (a b c d : Nat) (dt : List Nat) (n k : Nat) (w : World) (hg : Globs w) (hv : SrcAt w (.slice (some ⟨sb, so, none⟩) L cap) bs) (hbl : bs.length = L) (hsm : Small 256 bs) (hm : L ≤ 100000) (hmo : most ≤ 9223372036854775807) (h : getF bs most = (⟨fin, op, m, [a, b, c, d], dt⟩, n, k)) :
    Calls Tryd.prog 16 #[.slice (some ⟨sb, so, none⟩) L cap, .int .i64 most] w fun e w' => e = .returned (.tuple #[.agg #[.bool fin, .int .i64 op, .bool m, .int .u8 ((a : Nat) : Int), .int .u8 ((b : Nat) : Int), .int .u8 ((c : Nat) : Int), .int .u8 ((d : Nat) : Int), .string (strOf dt)], .int .i64 (n : Int), .int .i64 (k : Int)]) ∧ Sl (Below w.heap.size w w') := by
  have := getf_any sb so L cap bs most w hg hv hbl hsm hm hmo
  rw [h] at this
  exact this
/-- Nothing got. -/
theorem getf_err (sb so L cap : Nat) (bs : List Nat) (most : Int) (k : Nat) (w : World) (hg : Globs w) (hv : SrcAt w (.slice (some ⟨sb, so, none⟩) L cap) bs) (hbl : bs.length = L) (hsm : Small 256 bs) (hm : L ≤ 100000) (hmo : most ≤ 9223372036854775807) (h : getF bs most = (Fr0, 0, k)) :
    Calls Tryd.prog 16 #[.slice (some ⟨sb, so, none⟩) L cap, .int .i64 most] w fun e w' => e = .returned (.tuple #[.agg #[.bool false, .int .i64 0, .bool false, .int .u8 0, .int .u8 0, .int .u8 0, .int .u8 0, .string { data := #[] }], .int .i64 0, .int .i64 (k : Int)]) ∧ Sl (Below w.heap.size w w') := by
  have := getf_any sb so L cap bs most w hg hv hbl hsm hm hmo
  rw [h] at this
  exact this
/-- A frame is laid down in a new cell. -/
theorem laid_fr {w W : World} (cs : Array Value) (h : Below w.heap.size w W) : Below w.heap.size w ((W.alloc (.cells #[.bool false, .int .i64 0, .bool false, .int .u8 0, .int .u8 0, .int .u8 0, .int .u8 0, .string { data := #[] }] 24)).setRow W.heap.size cs) ∧ ((W.alloc (.cells #[.bool false, .int .i64 0, .bool false, .int .u8 0, .int .u8 0, .int .u8 0, .int .u8 0, .string { data := #[] }] 24)).setRow W.heap.size cs).heap[W.heap.size]? = some (.cells cs 24 (0, 0)) :=
  ⟨below_setRow (h.alloc h.size _) h.size _, setRow_heap _ _ _ _ _ _ (bx_new W _)⟩
theorem laid_self (W : World) (cs : Array Value) : Below W.heap.size W ((W.alloc (.cells #[.bool false, .int .i64 0, .bool false, .int .u8 0, .int .u8 0, .int .u8 0, .int .u8 0, .string { data := #[] }] 24)).setRow W.heap.size cs) := (laid_fr cs (Below.refl _ _)).1

set_option maxHeartbeats 4000000 in
theorem awake_any (w : World) (hg : Globs w) : Calls Tryd.prog 10 #[] w fun e w' => e = .returned (.bool true) ∧ Sl (Below w.heap.size w w') := by
  have HG := Sl.mk hg
  clear hg
  have hz : Small 256 [0, 0, 0, 0] := fun x hx => by simp at hx; omega
  have C11 : ∀ W, Globs W → Calls Tryd.prog 11 #[.agg #[.bool true, .int .i64 1, .bool false, .int .u8 0, .int .u8 0, .int .u8 0, .int .u8 0, .string { data := #[72, 101, 108, 108, 111] }]] W fun e w' => ∃ g cap, e = .returned (.tuple #[.slice (some ⟨g, 0, none⟩) 7 cap, .int .i64 0]) ∧ Sl (SrcAt w' (.slice (some ⟨g, 0, none⟩) 7 cap) [129, 5, 72, 101, 108, 108, 111]) ∧ Sl (Below W.heap.size W w') := fun W hW => putf_yes true 1 false 0 0 0 0 { data := #[72, 101, 108, 108, 111] } 7 W hW hz (by kernel_rfl) (by kernel_rfl)
  have C16 : ∀ (W : World) g, Globs W → SrcAt W (.slice (some ⟨g, 0, none⟩) 3 3) [137, 0, 1] → Calls Tryd.prog 16 #[.slice (some ⟨g, 0, none⟩) 3 3, .int .i64 100] W fun e w' => e = .returned (.tuple #[.agg #[.bool true, .int .i64 9, .bool false, .int .u8 0, .int .u8 0, .int .u8 0, .int .u8 0, .string { data := #[] }], .int .i64 2, .int .i64 0]) ∧ Sl (Below W.heap.size W w') := fun W g hW hs => getf_ex g 0 3 3 [137, 0, 1] 100 true 9 false 0 0 0 0 [] 2 0 W hW hs rfl (fun x hx => by simp at hx; omega) (by decide) (by decide) (by kernel_rfl)
  have C18 : ∀ W, Globs W → Calls Tryd.prog 18 #[.agg #[.bool false, .int .i64 0, .bool false, .int .u8 0, .int .u8 0, .int .u8 0, .int .u8 0, .string { data := #[97, 98] }]] W fun e w' => e = .returned (.int .i64 4) ∧ Sl (Below W.heap.size W w') := fun W hW => size_any false 0 false 0 0 0 0 { data := #[97, 98] } W hW (by decide)
  have C8 : ∀ W, Calls Tryd.prog 14 #[.int .i64 8] W fun e w' => e = .returned (.bool true) ∧ W = w' := fun W => control_any 8 W
  have C1 : ∀ W, Calls Tryd.prog 14 #[.int .i64 1] W fun e w' => e = .returned (.bool false) ∧ W = w' := fun W => control_any 1 W
  have C13 : ∀ W, Calls Tryd.prog 13 #[.agg #[.bool true, .int .i64 9, .bool false, .int .u8 0, .int .u8 0, .int .u8 0, .int .u8 0, .string { data := #[] }]] W fun e w' => e = .returned (.int .i64 0) ∧ Sl (Below W.heap.size W w') := fun W => check_any true 9 false 0 0 0 0 { data := #[] } W hz
  have heq : ∀ W, (Op.equalIn 10000 24 (.agg #[.bool true, .int .i64 9, .bool false, .int .u8 0, .int .u8 0, .int .u8 0, .int .u8 0, .string { data := #[] }]) (.agg #[.bool true, .int .i64 9, .bool false, .int .u8 0, .int .u8 0, .int .u8 0, .int .u8 0, .string { data := #[] }])).run Tryd.prog W = .ok true W := fun W => (eq_fr true 9 false 0 0 0 0 { data := #[] } true 9 false 0 0 0 0 { data := #[] } hz hz W).trans (congrArg (fun b => Result.ok b W) (by kernel_rfl))
  have hq1 : ((strOf [129, 5, 72, 101, 108, 108, 111]).toList == [129, 5, 72, 101, 108, 108, 111]) = true := beq_str _ (fun x hx => by simp at hx; omega) _ _ rfl
  have HI := fr_info (cs := #[.bool true, .int .i64 9, .bool false, .int .u8 0, .int .u8 0, .int .u8 0, .int .u8 0, .string { data := #[] }]) rfl
  go_enter Tryd.func10, Tryd.ntmps10
  go_wp2_with fail
  refine (C11 _ HG.out).mono ?_
  rintro e w1 ⟨g, cap, rfl, HS1, HB1⟩
  obtain ⟨w2, hw2⟩ : ∃ W, w1.alloc (.cells #[.int .u8 137, .int .u8 0, .int .u8 1] 5) = W := ⟨_, rfl⟩
  have HX2 : Sl (Below w1.heap.size w1 w2) := ⟨by rw [← hw2]; exact (Below.refl _ _).alloc (Nat.le_refl _) _⟩
  have HB2 : Sl (Below w.heap.size w w2) := ⟨HB1.out.trans (HX2.out.mono HB1.out.size)⟩
  have HV2 : Sl (SrcAt w2 (.slice (some ⟨w1.heap.size, 0, none⟩) 3 3) [137, 0, 1]) := ⟨by rw [← hw2]; exact src_new w1 [137, 0, 1] _ _ _ rfl⟩
  have HS2 : Sl (SrcAt w2 (.slice (some ⟨g, 0, none⟩) 7 cap) [129, 5, 72, 101, 108, 108, 111]) := ⟨HS1.out.below (Nat.le_refl _) HX2.out⟩
  clear HX2 HS1
  go_wp2_with fail
  refine (C16 _ _ (HG.out.below HB2.out HG.out.size) HV2.out).mono ?_
  rintro e w3 ⟨rfl, HX3⟩
  have HB3 : Sl (Below w.heap.size w w3) := ⟨HB2.out.trans (HX3.out.mono HB2.out.size)⟩
  obtain ⟨w4, hw4⟩ : ∃ W, (w3.alloc (.cells #[.bool false, .int .i64 0, .bool false, .int .u8 0, .int .u8 0, .int .u8 0, .int .u8 0, .string { data := #[] }] 24)).setRow w3.heap.size #[.bool true, .int .i64 9, .bool false, .int .u8 0, .int .u8 0, .int .u8 0, .int .u8 0, .string { data := #[] }] = W := ⟨_, rfl⟩
  have HB4 : Sl (Below w.heap.size w w4) := ⟨by rw [← hw4]; exact (laid_fr #[.bool true, .int .i64 9, .bool false, .int .u8 0, .int .u8 0, .int .u8 0, .int .u8 0, .string { data := #[] }] HB3.out).1⟩
  have HY4 : Sl (w4.heap[w3.heap.size]? = some (.cells #[.bool true, .int .i64 9, .bool false, .int .u8 0, .int .u8 0, .int .u8 0, .int .u8 0, .string { data := #[] }] 24 (0, 0))) := ⟨by rw [← hw4]; exact (laid_fr #[.bool true, .int .i64 9, .bool false, .int .u8 0, .int .u8 0, .int .u8 0, .int .u8 0, .string { data := #[] }] HB3.out).2⟩
  have HS4 : Sl (SrcAt w4 (.slice (some ⟨g, 0, none⟩) 7 cap) [129, 5, 72, 101, 108, 108, 111]) := ⟨(HS2.out.below (Nat.le_refl _) HX3.out).below (Nat.le_refl _) (by rw [← hw4]; exact laid_self w3 #[.bool true, .int .i64 9, .bool false, .int .u8 0, .int .u8 0, .int .u8 0, .int .u8 0, .string { data := #[] }])⟩
  obtain ⟨c0, c1, c2, c3, c4, c5, c6, c7⟩ := bx8 HY4.out
  have hc1 := HS4.out.conv
  clear HS2 HV2 hw2 HX3
  go_wp2_with (refine wpList_store_row rfl 24 (.tmp 3) (.tmp 14) rfl w3.heap.size #[.bool true, .int .i64 9, .bool false, .int .u8 0, .int .u8 0, .int .u8 0, .int .u8 0, .string { data := #[] }] rfl rfl 24 #[.bool false, .int .i64 0, .bool false, .int .u8 0, .int .u8 0, .int .u8 0, .int .u8 0, .string { data := #[] }] (bx_new w3 _) HI rfl (fr_all _ _ _ _ _ _ _ _) ?_)
  refine (C18 _ (HG.out.below HB4.out HG.out.size)).mono ?_
  rintro e w5 ⟨rfl, HX5⟩
  have HB5 : Sl (Below w.heap.size w w5) := ⟨HB4.out.trans (HX5.out.mono HB4.out.size)⟩
  have HY5 : Sl (w5.heap[w3.heap.size]? = some (.cells #[.bool true, .int .i64 9, .bool false, .int .u8 0, .int .u8 0, .int .u8 0, .int .u8 0, .string { data := #[] }] 24 (0, 0))) := ⟨below_key HY4.out HX5.out⟩
  obtain ⟨d0, d1, d2, d3, d4, d5, d6, d7⟩ := bx8 HY5.out
  clear HX5
  go_wp2_with fail
  refine (C8 _).mono ?_
  rintro e w6 ⟨rfl, rfl⟩
  go_wp2_with fail
  refine (C1 _).mono ?_
  rintro e w6 ⟨rfl, rfl⟩
  go_wp2_with fail
  refine (C13 _).mono ?_
  rintro e w6 ⟨rfl, HX6⟩
  have HB6 : Sl (Below w.heap.size w w6) := ⟨HB5.out.trans (HX6.out.mono HB5.out.size)⟩
  go_wp2
  go_ret
  exact ⟨rfl, HB6⟩
end Go.Proofs.YtcelhondifaloaaDoor
