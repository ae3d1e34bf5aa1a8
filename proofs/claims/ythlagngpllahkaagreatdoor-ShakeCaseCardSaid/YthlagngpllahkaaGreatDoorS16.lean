/- shake: awake: what the chapter's example fixes. -/
import Derived.Test.YthlagngpllahkaaGreatDoorS15
set_option maxRecDepth 100000
namespace Go.Proofs.YthlagngpllahkaaGreatDoor
open Go.RowKit HeadPlain

theorem field_head (a b c : ByteArray) (v : Value) (W : World) : (Instr.field 25 (.agg #[.string a, .string b, .string c, v]) 0).run Tryz.prog W = .ok (.agg #[.string a, .string b, .string c]) W := by rfl
theorem index_three (a b c : ByteArray) (W : World) : (Instr.index 22 (.agg #[.string a, .string b, .string c]) (.int .i64 1)).run Tryz.prog W = .ok (.string b) W := by rfl
theorem strA_nil (V : World) : StrA V (.slice none 0 0) [] := ⟨none, 0, 0, 0, rfl, Nat.le_refl _, fun h => absurd h (by decide), fun i hi => absurd hi (by simp)⟩
set_option maxHeartbeats 4000000 in
theorem awake_any (w : World) (hg : GlobA w) : Calls Tryz.prog 12 #[] w fun e w' => e = .returned (.bool true) ∧ Sl (Below w.heap.size w w') := by
  have HG := Sl.mk hg
  have C1 : Sl (∀ V a c, Below w.heap.size w V → StrA V (.slice a 2 c) exL → Calls Tryz.prog 28 #[.string { data := #[47, 99, 104, 97, 116] }, .string { data := #[97, 46, 98] }, .string { data := #[100, 71, 104, 108, 73, 72, 78, 104, 98, 88, 66, 115, 90, 83, 66, 117, 98, 50, 53, 106, 90, 81, 61, 61] }, .slice a 2 c] V fun e w' => (∃ x y, e = .returned (.tuple #[.agg #[.string { data := #[71, 69, 84] }, .string { data := #[47, 99, 104, 97, 116] }, .string { data := #[72, 84, 84, 80, 47, 49, 46, 49] }, .slice x 6 y], .int .i64 0]) ∧ Sl (FieldsAt w' (.slice x 6 y) (askV exPath exHost exKey exL).fs)) ∧ Sl (Below V.heap.size V w')) := ⟨fun V a c hB hS => (ask_any exPath exHost exKey exL _ V exOk (by decide) (hg.of hB) hS).mono fun e w' ⟨h1, h2⟩ => by
    refine ⟨?_, h2⟩
    rcases h1.out with ⟨_, x, y, he, hF⟩ | ⟨h0, _⟩
    · exact ⟨x, y, he, ⟨hF⟩⟩
    · rw [exAskOk] at h0; cases h0⟩
  have C2 : Sl (∀ V a c, Below w.heap.size w V → FieldsAt V (.slice a 6 c) (askV exPath exHost exKey exL).fs → Calls Tryz.prog 14 #[.agg #[.string { data := #[71, 69, 84] }, .string { data := #[47, 99, 104, 97, 116] }, .string { data := #[72, 84, 84, 80, 47, 49, 46, 49] }, .slice a 6 c]] V fun e w' => (∃ p q r x y, e = .returned (.tuple #[.agg #[.string { data := #[47, 99, 104, 97, 116] }, .string p, .string q, .string r, .slice x 2 y], .int .i64 0])) ∧ Sl (Below V.heap.size V w')) := ⟨fun V a c hB hF => (question_any (askV exPath exHost exKey exL) _ V (hg.of hB) hF (fw_chk exChk)).mono fun e w' ⟨h1, h2⟩ => by
    refine ⟨?_, h2⟩
    rcases h1.out with ⟨h0, _⟩ | ⟨_, x, y, he, _⟩
    · exact absurd exQuest.1 h0
    · rw [exTell] at he
      exact ⟨_, _, _, x, y, he⟩⟩
  have C3 : Sl (∀ V, Below w.heap.size w V → Calls Tryz.prog 22 #[.string { data := #[100, 71, 104, 108, 73, 72, 78, 104, 98, 88, 66, 115, 90, 83, 66, 117, 98, 50, 53, 106, 90, 81, 61, 61] }, .string { data := #[118, 50] }] V fun e w' => (∃ x y, e = .returned (.agg #[.string { data := #[72, 84, 84, 80, 47, 49, 46, 49] }, .string { data := #[49, 48, 49] }, .string { data := #[83, 119, 105, 116, 99, 104, 105, 110, 103, 32, 80, 114, 111, 116, 111, 99, 111, 108, 115] }, .slice x 4 y]) ∧ Sl (FieldsAt w' (.slice x 4 y) (grantV exKey exV2).fs)) ∧ Sl (Below V.heap.size V w')) := ⟨fun V hB => (answer_any exKey exV2 V (hg.of hB) (by decide) (by decide)).mono fun e w' ⟨h1, h2⟩ => by
    obtain ⟨x, y, he, hF⟩ := h1.out
    exact ⟨⟨x, y, he, ⟨hF⟩⟩, h2⟩⟩
  have C4 : Sl (∀ V a c b d, Below w.heap.size w V → FieldsAt V (.slice a 4 c) (grantV exKey exV2).fs → StrA V (.slice b 2 d) exL → Calls Tryz.prog 30 #[.agg #[.string { data := #[72, 84, 84, 80, 47, 49, 46, 49] }, .string { data := #[49, 48, 49] }, .string { data := #[83, 119, 105, 116, 99, 104, 105, 110, 103, 32, 80, 114, 111, 116, 111, 99, 111, 108, 115] }, .slice a 4 c], .string { data := #[100, 71, 104, 108, 73, 72, 78, 104, 98, 88, 66, 115, 90, 83, 66, 117, 98, 50, 53, 106, 90, 81, 61, 61] }, .slice b 2 d] V fun e w' => e = .returned (.tuple #[.string { data := #[118, 50] }, .int .i64 0]) ∧ Sl (Below V.heap.size V w')) := ⟨fun V a c b d hB hF hS => check_shake (grantV exKey exV2) _ exKey exL _ V _ exCheck (hg.of hB) hF (fw_chk (grant_chk exKey exV2 (.inr (by decide)) (by decide))) (by decide) hS (by decide)⟩
  have C5 : Sl (∀ V, Below w.heap.size w V → Calls Tryz.prog 19 #[.string { data := #[100, 71, 104, 108, 73, 72, 78, 104, 98, 88, 66, 115, 90, 83, 66, 117, 98, 50, 53, 106, 90, 81, 61, 61] }] V fun e w' => e = .returned (.string { data := #[115, 51, 112, 80, 76, 77, 66, 105, 84, 120, 97, 81, 57, 107, 89, 71, 122, 122, 104, 90, 82, 98, 75, 43, 120, 79, 111, 61] }) ∧ Sl (Below V.heap.size V w')) := ⟨fun V hB => by
    have := accept_any exKey V (hg.of hB) (by decide)
    rw [exAcc] at this
    exact this⟩
  have C6 : Sl (∀ V, Below w.heap.size w V → Calls Tryz.prog 18 #[.int .i64 403] V fun e w' => (∃ x y, e = .returned (.agg #[.string { data := #[72, 84, 84, 80, 47, 49, 46, 49] }, .string { data := #[52, 48, 51] }, .string { data := #[70, 111, 114, 98, 105, 100, 100, 101, 110] }, .slice x 2 y])) ∧ Sl (Below V.heap.size V w')) := ⟨fun V hB => (refusal_any 403 V (hg.of hB)).mono fun e w' ⟨h1, h2⟩ => by
    obtain ⟨x, y, he, _⟩ := h1.out
    exact ⟨⟨x, y, he⟩, h2⟩⟩
  have C7 : Sl (∀ V, Calls Tryz.prog 26 #[.string { data := #[120] }, .slice none 0 0] V fun e w' => e = .returned (.bool true) ∧ V = w') := ⟨fun V => allowed_any { data := #[120] } [] _ V true rfl (strA_nil V) (by decide)⟩
  clear hg
  go_enter Tryz.func12, Tryz.ntmps12
  go_wp2_with fail
  refine (C1.out _ _ _ ((Below.refl _ _).alloc (Nat.le_refl _) _) (Nam.strA_lit w exL _ rfl)).mono ?_
  rintro e w1 ⟨⟨a1, c1, rfl, HF1⟩, HX1⟩
  have HB1 := Sl.mk (below_trans ((Below.refl _ w).alloc (Nat.le_refl _) _) HX1.out)
  clear HX1
  obtain ⟨w2, hw2⟩ : ∃ V, w1.alloc (.cells #[.string { data := #[71, 69, 84] }, .string { data := #[47, 99, 104, 97, 116] }, .string { data := #[72, 84, 84, 80, 47, 49, 46, 49] }, .slice a1 6 c1] 25) = V := ⟨_, rfl⟩
  have HB2 : Sl (Below w.heap.size w w2) := ⟨by rw [← hw2]; exact HB1.out.alloc HB1.out.size _⟩
  have HF2 : Sl (FieldsAt w2 (.slice a1 6 c1) (askV exPath exHost exKey exL).fs) := ⟨by rw [← hw2]; exact HF1.out.below ((Below.refl _ _).alloc (Nat.le_refl _) _)⟩
  have HX2 : Sl (w2.heap[w1.heap.size]? = some (.cells #[.string { data := #[71, 69, 84] }, .string { data := #[47, 99, 104, 97, 116] }, .string { data := #[72, 84, 84, 80, 47, 49, 46, 49] }, .slice a1 6 c1] 25 (0, 0))) := ⟨by rw [← hw2]; exact alloc_new _ _ _ rfl⟩
  obtain ⟨p0, p1, p2, p3⟩ := head_cells HX2.out
  go_wp2_with fail
  clear hw2 p0 p1 p2 p3
  refine (C2.out _ _ _ HB2.out HF2.out).mono ?_
  rintro e w3 ⟨⟨s1, s2, s3, a3, c3, rfl⟩, HX3⟩
  have HB3 := Sl.mk (below_trans HB2.out HX3.out)
  clear HX3 HF1 HF2 HX2
  obtain ⟨w4, hw4⟩ : ∃ V, w3.alloc (.cells #[.string { data := #[47, 99, 104, 97, 116] }, .string s1, .string s2, .string s3, .slice a3 2 c3] 30) = V := ⟨_, rfl⟩
  have HB4 : Sl (Below w.heap.size w w4) := ⟨by rw [← hw4]; exact HB3.out.alloc HB3.out.size _⟩
  have HX4 : Sl (w4.heap[w3.heap.size]? = some (.cells #[.string { data := #[47, 99, 104, 97, 116] }, .string s1, .string s2, .string s3, .slice a3 2 c3] 30 (0, 0))) := ⟨by rw [← hw4]; exact alloc_new _ _ _ rfl⟩
  go_wp2_with fail
  clear hw4
  refine (C3.out _ HB4.out).mono ?_
  rintro e w5 ⟨⟨a5, c5, rfl, HF5⟩, HX5⟩
  have HB5 := Sl.mk (below_trans HB4.out HX5.out)
  have HO5 := Sl.mk (box_below HX4.out HX5.out)
  clear HX5 HX4
  go_wp2_with fail
  refine (C4.out _ _ _ _ _ (HB5.out.alloc HB5.out.size _) (HF5.out.below ((Below.refl _ _).alloc (Nat.le_refl _) _)) (Nam.strA_lit w5 exL _ rfl)).mono ?_
  rintro e w6 ⟨rfl, HX6⟩
  have HXA : Sl (Below w5.heap.size w5 w6) := ⟨below_trans ((Below.refl _ w5).alloc (Nat.le_refl _) _) HX6.out⟩
  have HB6 := Sl.mk (below_trans HB5.out HXA.out)
  have HO6 := Sl.mk (box_below HO5.out HXA.out)
  clear HX6 HXA HO5 HF5
  go_wp2_with fail
  refine (C5.out _ HB6.out).mono ?_
  rintro e w7 ⟨rfl, HX7⟩
  have HB7 := Sl.mk (below_trans HB6.out HX7.out)
  have HO7 := Sl.mk (box_below HO6.out HX7.out)
  have z0 : w7.cell? ⟨w3.heap.size, 0, none⟩ = some (.string { data := #[47, 99, 104, 97, 116] }) := by rw [cell_of_row _ _ _ _ _ _ HO7.out]; rfl
  have z4 : w7.cell? ⟨w3.heap.size, 4, none⟩ = some (.slice a3 2 c3) := by rw [cell_of_row _ _ _ _ _ _ HO7.out]; rfl
  clear HX7 HO6
  go_wp2_with fail
  refine (C6.out _ HB7.out).mono ?_
  rintro e w8 ⟨⟨a8, c8, rfl⟩, HX8⟩
  have HB8 := Sl.mk (below_trans HB7.out HX8.out)
  clear z0 z4 HX8
  have hf8 := field_head
  have hi8 := index_three
  go_wp2_with fail
  refine (C7.out _).mono ?_
  rintro e w9 ⟨rfl, rfl⟩
  go_wp2
  go_ret
  exact ⟨rfl, HB8⟩
theorem awake_ex {w0 W : World} (hB : Below w0.heap.size w0 W) (hg : GlobA w0) : Calls Tryz.prog 12 #[] W fun e w' => e = .returned (.bool true) ∧ Sl (Below W.heap.size W w') ∧ Sl (Below w0.heap.size w0 w') :=
  exB hB (awake_any W (hg.of hB))
theorem below0 (w : World) : Below w.heap.size w w := Below.refl _ _
end Go.Proofs.YthlagngpllahkaaGreatDoor
