/- shake: ShakeStatus' walk. -/
import Derived.Test.YthlagngpllahkaaGreatDoorW0
set_option maxRecDepth 100000
namespace Go.Proofs.YthlagngpllahkaaGreatDoor
open Go.RowKit HeadPlain

/-- What a refusal's head is known by. -/
structure Refd (status : Int) (r : HdV) : Prop where
  fw : Fw r
  chk : chk r = 0
  len : (text r.hd).length ≤ 2048
  sz : r.b.size = 3
  dig : ∀ j, j < 3 → 48 ≤ (bytes r.b).getD j 0 ∧ (bytes r.b).getD j 0 ≤ 57
  num : numL (bytes r.b) = if status = 403 ∨ status = 404 ∨ status = 405 ∨ status = 426 ∨ status = 502 ∨ status = 503 ∨ status = 504 then status else 400
  one : getV r.fs { data := #[99, 111, 110, 110, 101, 99, 116, 105, 111, 110] } = [bClose]
  stat : statV r = 405
  wrong : checkV r { data := #[120] } [] = none
theorem why_digits (status : Int) : (whyV status).1.size = 3 ∧ ∀ j, j < 3 → 48 ≤ (bytes (whyV status).1).getD j 0 ∧ (bytes (whyV status).1).getD j 0 ≤ 57 := by
  unfold whyV
  by_cases h403 : status = 403
  · rw [if_pos h403]; decide
  rw [if_neg h403]
  by_cases h404 : status = 404
  · rw [if_pos h404]; decide
  rw [if_neg h404]
  by_cases h405 : status = 405
  · rw [if_pos h405]; decide
  rw [if_neg h405]
  by_cases h426 : status = 426
  · rw [if_pos h426]; decide
  rw [if_neg h426]
  by_cases h502 : status = 502
  · rw [if_pos h502]; decide
  rw [if_neg h502]
  by_cases h503 : status = 503
  · rw [if_pos h503]; decide
  rw [if_neg h503]
  by_cases h504 : status = 504
  · rw [if_pos h504]; decide
  rw [if_neg h504]
  decide
theorem refd (status : Int) : Refd status (refuseV status) := by
  have hc := refuse_chk status
  have hd := refuseV_hd status
  have hb : bytes (refuseV status).b = (refuseH status).b := congrArg Hd.b hd
  have hw := why_digits status
  refine ⟨fw_chk hc, hc, (text_le _ hc).2.2, hw.1, hw.2, by rw [hb]; exact refuse_number status, ?_, (stat_err (n := 405) (by rw [hd]; exact refuse_quest keyB status)).1, checkV_none (by rw [hd]; exact refuse_check accB status _ _)⟩
  unfold refuseV
  by_cases h : status = 426
  · simp only [if_pos h]; rfl
  · simp only [if_neg h]; rfl
theorem numL_snoc (l : List Nat) (d : Nat) : numL (l ++ [d]) = 10 * numL l + ((d : Int) - 48) := by
  unfold numL; rw [List.foldl_append]; rfl
theorem numL_take {l : List Nat} {k : Nat} (hk : k < l.length) : numL (l.take (k + 1)) = 10 * numL (l.take k) + ((l.getD k 0 : Nat) - 48) := by
  rw [List.take_succ_eq_append_getElem hk, numL_snoc, List.getD_eq_getElem?_getD, List.getElem?_eq_getElem hk]; rfl
theorem u8_sub {x : Nat} (h1 : 48 ≤ x) (h2 : x ≤ 57) : IntKind.wrap .u8 ((x : Int) - 48) = (x : Int) - 48 := by
  have : ∀ n, n < 10 → IntKind.wrap .u8 ((48 + n : Nat) - 48 : Int) = ((48 + n : Nat) : Int) - 48 := by decide
  have := this (x - 48) (by omega)
  rw [show 48 + (x - 48) = x by omega] at this
  exact this
set_option maxHeartbeats 4000000 in
theorem status_400  (r : HdV) (hr : Refd (400) r) (w : World) (hg : GlobA w) (HC : Sl (∀ V, Below w.heap.size w V → Calls Tryz.prog 18 #[.int .i64 (400)] V fun e w' => Sl (HeadR w' r e) ∧ Sl (Below V.heap.size V w'))) :
    Calls Tryz.prog 10 #[.int .i64 (400)] w fun e w' => e = .returned (.bool true) ∧ Sl (Below w.heap.size w w') := by
  have HG := Sl.mk hg
  have HR := Sl.mk hr
  have HN : Sl (numL (bytes r.b) = 400) := ⟨by rw [hr.num]; decide⟩
  have C2 : Sl (∀ V a c, Below w.heap.size w V → FieldsAt V (.slice a r.fs.length c) r.fs → Calls Tryz.prog 32 #[.agg #[.string r.a, .string r.b, .string r.c, .slice a r.fs.length c]] V fun e w' => (∃ x y, e = .returned (.tuple #[.slice x (text r.hd).length y, .int .i64 0])) ∧ Sl (Below V.heap.size V w')) := ⟨fun V a c hB hF => (show_ex V V r _ (Below.refl _ _) (hg.of hB).h hF ⟨by have := hr.fw.a; unfold maxLen; omega, by have := hr.fw.b; unfold maxLen; omega, by have := hr.fw.c; unfold maxLen; omega⟩ (by have := hr.len; omega)).mono fun e w' ⟨h1, h2, _⟩ => by
    obtain ⟨x, y, he, _⟩ := showR_ok h1.out hr.chk
    exact ⟨⟨x, y, he⟩, h2⟩⟩
  have C3 : Sl (∀ V a c, FieldsAt V (.slice a r.fs.length c) r.fs → Calls Tryz.prog 36 #[.agg #[.string r.a, .string r.b, .string r.c, .slice a r.fs.length c], .string { data := #[99, 111, 110, 110, 101, 99, 116, 105, 111, 110] }] V fun e w' => (∃ x y, e = .returned (.slice x 1 y) ∧ Sl (StrA w' (.slice x 1 y) [bClose])) ∧ Sl (Below V.heap.size V w')) := ⟨fun V a c hF => (get_ex V V r _ { data := #[99, 111, 110, 110, 101, 99, 116, 105, 111, 110] } (Below.refl _ _) hF (by have := hr.fw.n; omega)).mono fun e w' ⟨x, y, h1, h2, h3, _⟩ => by
    rw [hr.one] at h1 h2
    exact ⟨⟨x, y, h1, h2⟩, h3⟩⟩
  have C4 : Sl (∀ V a c, Below w.heap.size w V → FieldsAt V (.slice a r.fs.length c) r.fs → Calls Tryz.prog 14 #[.agg #[.string r.a, .string r.b, .string r.c, .slice a r.fs.length c]] V fun e w' => e = .returned (.tuple #[.agg #[.string { data := #[] }, .string { data := #[] }, .string { data := #[] }, .string { data := #[] }, .slice none 0 0], .int .i64 405]) ∧ Sl (Below V.heap.size V w')) := ⟨fun V a c hB hF => (question_any r _ V (hg.of hB) hF hr.fw).mono fun e w' ⟨h1, h2⟩ => by
    refine ⟨?_, h2⟩
    rcases h1.out with ⟨_, he⟩ | ⟨h0, _⟩
    · rw [hr.stat] at he; exact he
    · rw [hr.stat] at h0; cases h0⟩
  have C5 : Sl (∀ V a c, Below w.heap.size w V → FieldsAt V (.slice a r.fs.length c) r.fs → Calls Tryz.prog 30 #[.agg #[.string r.a, .string r.b, .string r.c, .slice a r.fs.length c], .string { data := #[120] }, .slice none 0 0] V fun e w' => e = .returned (.tuple #[.string { data := #[] }, .int .i64 70]) ∧ Sl (Below V.heap.size V w')) := ⟨fun V a c hB hF => check_shake r _ { data := #[120] } [] _ V none hr.wrong (hg.of hB) hF hr.fw (by decide) (strA_nil V) (by decide)⟩
  obtain ⟨m, hm⟩ : ∃ m, (text r.hd).length = m := ⟨_, rfl⟩
  have hm0 : 0 < m := by
    rw [text, List.length_append] at hm
    rw [← hm]; show 0 < _ + 2; omega
  rw [hm] at C2
  have hs3 := hr.sz
  clear hg hr hm 
  go_enter Tryz.func10, Tryz.ntmps10
  go_wp2_with fail
  refine (HC.out _ (below0 w)).mono ?_
  rintro e w1 ⟨HH, HB1⟩
  obtain ⟨a1, c1, rfl, hF1⟩ := HH.out
  have HF1 := Sl.mk hF1
  clear hF1 HH HC
  obtain ⟨w2, hw2⟩ : ∃ V, w1.alloc (.cells #[.string r.a, .string r.b, .string r.c, .slice a1 r.fs.length c1] 25) = V := ⟨_, rfl⟩
  have HB2 : Sl (Below w.heap.size w w2) := ⟨by rw [← hw2]; exact HB1.out.alloc HB1.out.size _⟩
  have HF2 : Sl (FieldsAt w2 (.slice a1 r.fs.length c1) r.fs) := ⟨by rw [← hw2]; exact HF1.out.below ((Below.refl _ _).alloc (Nat.le_refl _) _)⟩
  have HX2 : Sl (w2.heap[w1.heap.size]? = some (.cells #[.string r.a, .string r.b, .string r.c, .slice a1 r.fs.length c1] 25 (0, 0))) := ⟨by rw [← hw2]; exact alloc_new _ _ _ rfl⟩
  obtain ⟨p0, p1, p2, p3⟩ := head_cells HX2.out
  go_wp2_with fail
  clear hw2 p0 p1 p2 p3
  refine (C2.out _ _ _ HB2.out HF2.out).mono ?_
  rintro e w3 ⟨⟨x3, y3, rfl⟩, HE3⟩
  have HB3 := Sl.mk (below_trans HB2.out HE3.out)
  have HF3 := Sl.mk (HF2.out.below HE3.out)
  have HX3 := Sl.mk (box_below HX2.out HE3.out)
  clear HE3 HF2 HX2 HF1 HB2 HB1
  obtain ⟨p0, p1, p2, p3⟩ := head_cells HX3.out
  go_wp2_with fail
  go_loopw [7, 8] (fun n i wr => ∃ (k : Nat) (z : Int), k ≤ 3 ∧ i = .int .i64 k ∧ n = .int .i64 z ∧ 0 ≤ z ∧ z ≤ 999 ∧ (k = 0 → z = 0) ∧ (k ≤ 1 → z ≤ 9) ∧ (k ≤ 2 → z ≤ 99) ∧ Sl (z = numL ((bytes r.b).take k)) ∧ w3 = wr) (fun _ i _ => 3 - (intOf i).toNat)
  case atStart => exact ⟨0, 0, Nat.zero_le _, rfl, rfl, by omega, by omega, fun _ => rfl, fun _ => by omega, fun _ => by omega, ⟨rfl⟩, rfl⟩
  case round =>
    obtain ⟨k, z, hk, rfl, rfl, hz0, hz1, hz2, hz3, hz4, HZ, rfl⟩ := hrel
    by_cases hlt : k < r.b.size
    · obtain ⟨x, hx⟩ : ∃ x, (r.b[k]'hlt).toNat = x := ⟨_, rfl⟩
      have HXX : Sl ((bytes r.b).getD k 0 = x) := ⟨by rw [bytes_getD r.b k hlt, ← hx]; rfl⟩
      have hd := HR.out.dig k (by omega)
      rw [HXX.out] at hd
      obtain ⟨hd1, hd2⟩ := hd
      have hsub := u8_sub hd1 hd2
      have hlt3 : ((k : Int) < (r.b.size : Int)) = True := eq_true (by omega)
      have hz5 : z ≤ 99 := hz4 (by omega)
      go_wp2
      refine ⟨⟨k + 1, 10 * z + ((x : Int) - 48), by omega, by go_num, by go_num, by omega, by omega, fun h => by omega, fun h => by have := hz2 (by omega); omega, fun h => by have := hz3 (by omega); omega, ⟨?_⟩, trivial⟩, by simp [intOf]; omega⟩
      rw [numL_take (by rw [bytes_length]; exact hlt), HXX.out, ← HZ.out]
    · have hge : ((k : Int) < (r.b.size : Int)) = False := eq_false (by omega)
      have hzz : z = 400 := by rw [HZ.out, List.take_of_length_le (by rw [bytes_length]; omega)]; exact HN.out
      clear hz0 hz1 hz2 hz3 hz4 HZ
      subst hzz
      go_wp2_with fail
      refine (C3.out _ _ _ HF3.out).mono ?_
      rintro e w4 ⟨⟨x4, y4, rfl, HS4⟩, HE4⟩
      have HB4 := Sl.mk (below_trans HB3.out HE4.out)
      have HF4 := Sl.mk (HF3.out.below HE4.out)
      have HX4 := Sl.mk (box_below HX3.out HE4.out)
      clear p0 p1 p2 p3 HE4 HF3 HX3 HB3
      obtain ⟨p0, p1, p2, p3⟩ := head_cells HX4.out
      go_wp2_with fail
      refine (C4.out _ _ _ HB4.out HF4.out).mono ?_
      rintro e w5 ⟨rfl, HE5⟩
      have HB5' := Sl.mk (below_trans HB4.out HE5.out)
      have HF5' := Sl.mk (HF4.out.below HE5.out)
      have HX5' := Sl.mk (box_below HX4.out HE5.out)
      have HS5' := Sl.mk (HS4.out.below HE5.out)
      clear p0 p1 p2 p3 HE5 HF4 HX4 HB4 HS4
      obtain ⟨w6, hw6⟩ : ∃ V, w5.alloc (.cells #[.string { data := #[] }, .string { data := #[] }, .string { data := #[] }, .string { data := #[] }, .slice none 0 0] 30) = V := ⟨_, rfl⟩
      have HE6 : Sl (Below w5.heap.size w5 w6) := ⟨by rw [← hw6]; exact (Below.refl _ _).alloc (Nat.le_refl _) _⟩
      have HB6 := Sl.mk (below_trans HB5'.out HE6.out)
      have HF6 := Sl.mk (HF5'.out.below HE6.out)
      have HX6 := Sl.mk (box_below HX5'.out HE6.out)
      have HS6 := Sl.mk (HS5'.out.below HE6.out)
      obtain ⟨p0, p1, p2, p3⟩ := head_cells HX6.out
      have HO6 : Sl (w6.heap[w5.heap.size]? = some (.cells #[.string { data := #[] }, .string { data := #[] }, .string { data := #[] }, .string { data := #[] }, .slice none 0 0] 30 (0, 0))) := ⟨by rw [← hw6]; exact alloc_new _ _ _ rfl⟩
      obtain ⟨⟨z0, z1, z2, z3, z4⟩, ⟨f0, f1, f2, f3, f4⟩, ⟨s0, s1, s2, s3, s4⟩⟩ := offer_zero HO6.out
      go_wp2_with fail
      clear z0 z1 z2 z3 z4 f0 f1 f2 f3 f4 s0 s1 s2 s3 s4 HO6
      clear hw6 HE6 HB5' HF5' HX5' HS5'
      refine (C5.out _ _ _ HB6.out HF6.out).mono ?_
      rintro e w7 ⟨rfl, HE7⟩
      have HB7 := Sl.mk (below_trans HB6.out HE7.out)
      have HS7 := Sl.mk (HS6.out.below HE7.out)
      clear p0 p1 p2 p3 HF6 HX6 HS6
      go_wp2_with fail
      refine (awake_ex HB7.out HG.out).mono ?_
      rintro e w8 ⟨rfl, HE8, HB8⟩
      have HS8 := Sl.mk (HS7.out.below HE8.out)
      obtain ⟨ad, ca, sa, oa, heq, hca, haa, hcell⟩ := HS8.out
      injection heq with h1 h2 h3
      subst h1 h3
      clear h2
      obtain rfl := haa (by decide)
      have q0 : w8.cell? ⟨sa, oa, none⟩ = some (.string { data := #[99, 108, 111, 115, 101] }) := hcell 0 (by decide)
      clear hcell haa hca HS7 HS8
      go_wp2
      go_ret
      exact ⟨rfl, HB8⟩
set_option maxHeartbeats 4000000 in
theorem status_403  (r : HdV) (hr : Refd (403) r) (w : World) (hg : GlobA w) (HC : Sl (∀ V, Below w.heap.size w V → Calls Tryz.prog 18 #[.int .i64 (403)] V fun e w' => Sl (HeadR w' r e) ∧ Sl (Below V.heap.size V w'))) :
    Calls Tryz.prog 10 #[.int .i64 (403)] w fun e w' => e = .returned (.bool true) ∧ Sl (Below w.heap.size w w') := by
  have HG := Sl.mk hg
  have HR := Sl.mk hr
  have HN : Sl (numL (bytes r.b) = 403) := ⟨by rw [hr.num]; decide⟩
  have C2 : Sl (∀ V a c, Below w.heap.size w V → FieldsAt V (.slice a r.fs.length c) r.fs → Calls Tryz.prog 32 #[.agg #[.string r.a, .string r.b, .string r.c, .slice a r.fs.length c]] V fun e w' => (∃ x y, e = .returned (.tuple #[.slice x (text r.hd).length y, .int .i64 0])) ∧ Sl (Below V.heap.size V w')) := ⟨fun V a c hB hF => (show_ex V V r _ (Below.refl _ _) (hg.of hB).h hF ⟨by have := hr.fw.a; unfold maxLen; omega, by have := hr.fw.b; unfold maxLen; omega, by have := hr.fw.c; unfold maxLen; omega⟩ (by have := hr.len; omega)).mono fun e w' ⟨h1, h2, _⟩ => by
    obtain ⟨x, y, he, _⟩ := showR_ok h1.out hr.chk
    exact ⟨⟨x, y, he⟩, h2⟩⟩
  have C3 : Sl (∀ V a c, FieldsAt V (.slice a r.fs.length c) r.fs → Calls Tryz.prog 36 #[.agg #[.string r.a, .string r.b, .string r.c, .slice a r.fs.length c], .string { data := #[99, 111, 110, 110, 101, 99, 116, 105, 111, 110] }] V fun e w' => (∃ x y, e = .returned (.slice x 1 y) ∧ Sl (StrA w' (.slice x 1 y) [bClose])) ∧ Sl (Below V.heap.size V w')) := ⟨fun V a c hF => (get_ex V V r _ { data := #[99, 111, 110, 110, 101, 99, 116, 105, 111, 110] } (Below.refl _ _) hF (by have := hr.fw.n; omega)).mono fun e w' ⟨x, y, h1, h2, h3, _⟩ => by
    rw [hr.one] at h1 h2
    exact ⟨⟨x, y, h1, h2⟩, h3⟩⟩
  have C4 : Sl (∀ V a c, Below w.heap.size w V → FieldsAt V (.slice a r.fs.length c) r.fs → Calls Tryz.prog 14 #[.agg #[.string r.a, .string r.b, .string r.c, .slice a r.fs.length c]] V fun e w' => e = .returned (.tuple #[.agg #[.string { data := #[] }, .string { data := #[] }, .string { data := #[] }, .string { data := #[] }, .slice none 0 0], .int .i64 405]) ∧ Sl (Below V.heap.size V w')) := ⟨fun V a c hB hF => (question_any r _ V (hg.of hB) hF hr.fw).mono fun e w' ⟨h1, h2⟩ => by
    refine ⟨?_, h2⟩
    rcases h1.out with ⟨_, he⟩ | ⟨h0, _⟩
    · rw [hr.stat] at he; exact he
    · rw [hr.stat] at h0; cases h0⟩
  have C5 : Sl (∀ V a c, Below w.heap.size w V → FieldsAt V (.slice a r.fs.length c) r.fs → Calls Tryz.prog 30 #[.agg #[.string r.a, .string r.b, .string r.c, .slice a r.fs.length c], .string { data := #[120] }, .slice none 0 0] V fun e w' => e = .returned (.tuple #[.string { data := #[] }, .int .i64 70]) ∧ Sl (Below V.heap.size V w')) := ⟨fun V a c hB hF => check_shake r _ { data := #[120] } [] _ V none hr.wrong (hg.of hB) hF hr.fw (by decide) (strA_nil V) (by decide)⟩
  obtain ⟨m, hm⟩ : ∃ m, (text r.hd).length = m := ⟨_, rfl⟩
  have hm0 : 0 < m := by
    rw [text, List.length_append] at hm
    rw [← hm]; show 0 < _ + 2; omega
  rw [hm] at C2
  have hs3 := hr.sz
  clear hg hr hm 
  go_enter Tryz.func10, Tryz.ntmps10
  go_wp2_with fail
  refine (HC.out _ (below0 w)).mono ?_
  rintro e w1 ⟨HH, HB1⟩
  obtain ⟨a1, c1, rfl, hF1⟩ := HH.out
  have HF1 := Sl.mk hF1
  clear hF1 HH HC
  obtain ⟨w2, hw2⟩ : ∃ V, w1.alloc (.cells #[.string r.a, .string r.b, .string r.c, .slice a1 r.fs.length c1] 25) = V := ⟨_, rfl⟩
  have HB2 : Sl (Below w.heap.size w w2) := ⟨by rw [← hw2]; exact HB1.out.alloc HB1.out.size _⟩
  have HF2 : Sl (FieldsAt w2 (.slice a1 r.fs.length c1) r.fs) := ⟨by rw [← hw2]; exact HF1.out.below ((Below.refl _ _).alloc (Nat.le_refl _) _)⟩
  have HX2 : Sl (w2.heap[w1.heap.size]? = some (.cells #[.string r.a, .string r.b, .string r.c, .slice a1 r.fs.length c1] 25 (0, 0))) := ⟨by rw [← hw2]; exact alloc_new _ _ _ rfl⟩
  obtain ⟨p0, p1, p2, p3⟩ := head_cells HX2.out
  go_wp2_with fail
  clear hw2 p0 p1 p2 p3
  refine (C2.out _ _ _ HB2.out HF2.out).mono ?_
  rintro e w3 ⟨⟨x3, y3, rfl⟩, HE3⟩
  have HB3 := Sl.mk (below_trans HB2.out HE3.out)
  have HF3 := Sl.mk (HF2.out.below HE3.out)
  have HX3 := Sl.mk (box_below HX2.out HE3.out)
  clear HE3 HF2 HX2 HF1 HB2 HB1
  obtain ⟨p0, p1, p2, p3⟩ := head_cells HX3.out
  go_wp2_with fail
  go_loopw [7, 8] (fun n i wr => ∃ (k : Nat) (z : Int), k ≤ 3 ∧ i = .int .i64 k ∧ n = .int .i64 z ∧ 0 ≤ z ∧ z ≤ 999 ∧ (k = 0 → z = 0) ∧ (k ≤ 1 → z ≤ 9) ∧ (k ≤ 2 → z ≤ 99) ∧ Sl (z = numL ((bytes r.b).take k)) ∧ w3 = wr) (fun _ i _ => 3 - (intOf i).toNat)
  case atStart => exact ⟨0, 0, Nat.zero_le _, rfl, rfl, by omega, by omega, fun _ => rfl, fun _ => by omega, fun _ => by omega, ⟨rfl⟩, rfl⟩
  case round =>
    obtain ⟨k, z, hk, rfl, rfl, hz0, hz1, hz2, hz3, hz4, HZ, rfl⟩ := hrel
    by_cases hlt : k < r.b.size
    · obtain ⟨x, hx⟩ : ∃ x, (r.b[k]'hlt).toNat = x := ⟨_, rfl⟩
      have HXX : Sl ((bytes r.b).getD k 0 = x) := ⟨by rw [bytes_getD r.b k hlt, ← hx]; rfl⟩
      have hd := HR.out.dig k (by omega)
      rw [HXX.out] at hd
      obtain ⟨hd1, hd2⟩ := hd
      have hsub := u8_sub hd1 hd2
      have hlt3 : ((k : Int) < (r.b.size : Int)) = True := eq_true (by omega)
      have hz5 : z ≤ 99 := hz4 (by omega)
      go_wp2
      refine ⟨⟨k + 1, 10 * z + ((x : Int) - 48), by omega, by go_num, by go_num, by omega, by omega, fun h => by omega, fun h => by have := hz2 (by omega); omega, fun h => by have := hz3 (by omega); omega, ⟨?_⟩, trivial⟩, by simp [intOf]; omega⟩
      rw [numL_take (by rw [bytes_length]; exact hlt), HXX.out, ← HZ.out]
    · have hge : ((k : Int) < (r.b.size : Int)) = False := eq_false (by omega)
      have hzz : z = 403 := by rw [HZ.out, List.take_of_length_le (by rw [bytes_length]; omega)]; exact HN.out
      clear hz0 hz1 hz2 hz3 hz4 HZ
      subst hzz
      go_wp2_with fail
      refine (C3.out _ _ _ HF3.out).mono ?_
      rintro e w4 ⟨⟨x4, y4, rfl, HS4⟩, HE4⟩
      have HB4 := Sl.mk (below_trans HB3.out HE4.out)
      have HF4 := Sl.mk (HF3.out.below HE4.out)
      have HX4 := Sl.mk (box_below HX3.out HE4.out)
      clear p0 p1 p2 p3 HE4 HF3 HX3 HB3
      obtain ⟨p0, p1, p2, p3⟩ := head_cells HX4.out
      go_wp2_with fail
      refine (C4.out _ _ _ HB4.out HF4.out).mono ?_
      rintro e w5 ⟨rfl, HE5⟩
      have HB5' := Sl.mk (below_trans HB4.out HE5.out)
      have HF5' := Sl.mk (HF4.out.below HE5.out)
      have HX5' := Sl.mk (box_below HX4.out HE5.out)
      have HS5' := Sl.mk (HS4.out.below HE5.out)
      clear p0 p1 p2 p3 HE5 HF4 HX4 HB4 HS4
      obtain ⟨w6, hw6⟩ : ∃ V, w5.alloc (.cells #[.string { data := #[] }, .string { data := #[] }, .string { data := #[] }, .string { data := #[] }, .slice none 0 0] 30) = V := ⟨_, rfl⟩
      have HE6 : Sl (Below w5.heap.size w5 w6) := ⟨by rw [← hw6]; exact (Below.refl _ _).alloc (Nat.le_refl _) _⟩
      have HB6 := Sl.mk (below_trans HB5'.out HE6.out)
      have HF6 := Sl.mk (HF5'.out.below HE6.out)
      have HX6 := Sl.mk (box_below HX5'.out HE6.out)
      have HS6 := Sl.mk (HS5'.out.below HE6.out)
      obtain ⟨p0, p1, p2, p3⟩ := head_cells HX6.out
      have HO6 : Sl (w6.heap[w5.heap.size]? = some (.cells #[.string { data := #[] }, .string { data := #[] }, .string { data := #[] }, .string { data := #[] }, .slice none 0 0] 30 (0, 0))) := ⟨by rw [← hw6]; exact alloc_new _ _ _ rfl⟩
      obtain ⟨⟨z0, z1, z2, z3, z4⟩, ⟨f0, f1, f2, f3, f4⟩, ⟨s0, s1, s2, s3, s4⟩⟩ := offer_zero HO6.out
      go_wp2_with fail
      clear z0 z1 z2 z3 z4 f0 f1 f2 f3 f4 s0 s1 s2 s3 s4 HO6
      clear hw6 HE6 HB5' HF5' HX5' HS5'
      refine (C5.out _ _ _ HB6.out HF6.out).mono ?_
      rintro e w7 ⟨rfl, HE7⟩
      have HB7 := Sl.mk (below_trans HB6.out HE7.out)
      have HS7 := Sl.mk (HS6.out.below HE7.out)
      clear p0 p1 p2 p3 HF6 HX6 HS6
      go_wp2_with fail
      refine (awake_ex HB7.out HG.out).mono ?_
      rintro e w8 ⟨rfl, HE8, HB8⟩
      have HS8 := Sl.mk (HS7.out.below HE8.out)
      obtain ⟨ad, ca, sa, oa, heq, hca, haa, hcell⟩ := HS8.out
      injection heq with h1 h2 h3
      subst h1 h3
      clear h2
      obtain rfl := haa (by decide)
      have q0 : w8.cell? ⟨sa, oa, none⟩ = some (.string { data := #[99, 108, 111, 115, 101] }) := hcell 0 (by decide)
      clear hcell haa hca HS7 HS8
      go_wp2
      go_ret
      exact ⟨rfl, HB8⟩
set_option maxHeartbeats 4000000 in
theorem status_404  (r : HdV) (hr : Refd (404) r) (w : World) (hg : GlobA w) (HC : Sl (∀ V, Below w.heap.size w V → Calls Tryz.prog 18 #[.int .i64 (404)] V fun e w' => Sl (HeadR w' r e) ∧ Sl (Below V.heap.size V w'))) :
    Calls Tryz.prog 10 #[.int .i64 (404)] w fun e w' => e = .returned (.bool true) ∧ Sl (Below w.heap.size w w') := by
  have HG := Sl.mk hg
  have HR := Sl.mk hr
  have HN : Sl (numL (bytes r.b) = 404) := ⟨by rw [hr.num]; decide⟩
  have C2 : Sl (∀ V a c, Below w.heap.size w V → FieldsAt V (.slice a r.fs.length c) r.fs → Calls Tryz.prog 32 #[.agg #[.string r.a, .string r.b, .string r.c, .slice a r.fs.length c]] V fun e w' => (∃ x y, e = .returned (.tuple #[.slice x (text r.hd).length y, .int .i64 0])) ∧ Sl (Below V.heap.size V w')) := ⟨fun V a c hB hF => (show_ex V V r _ (Below.refl _ _) (hg.of hB).h hF ⟨by have := hr.fw.a; unfold maxLen; omega, by have := hr.fw.b; unfold maxLen; omega, by have := hr.fw.c; unfold maxLen; omega⟩ (by have := hr.len; omega)).mono fun e w' ⟨h1, h2, _⟩ => by
    obtain ⟨x, y, he, _⟩ := showR_ok h1.out hr.chk
    exact ⟨⟨x, y, he⟩, h2⟩⟩
  have C3 : Sl (∀ V a c, FieldsAt V (.slice a r.fs.length c) r.fs → Calls Tryz.prog 36 #[.agg #[.string r.a, .string r.b, .string r.c, .slice a r.fs.length c], .string { data := #[99, 111, 110, 110, 101, 99, 116, 105, 111, 110] }] V fun e w' => (∃ x y, e = .returned (.slice x 1 y) ∧ Sl (StrA w' (.slice x 1 y) [bClose])) ∧ Sl (Below V.heap.size V w')) := ⟨fun V a c hF => (get_ex V V r _ { data := #[99, 111, 110, 110, 101, 99, 116, 105, 111, 110] } (Below.refl _ _) hF (by have := hr.fw.n; omega)).mono fun e w' ⟨x, y, h1, h2, h3, _⟩ => by
    rw [hr.one] at h1 h2
    exact ⟨⟨x, y, h1, h2⟩, h3⟩⟩
  have C4 : Sl (∀ V a c, Below w.heap.size w V → FieldsAt V (.slice a r.fs.length c) r.fs → Calls Tryz.prog 14 #[.agg #[.string r.a, .string r.b, .string r.c, .slice a r.fs.length c]] V fun e w' => e = .returned (.tuple #[.agg #[.string { data := #[] }, .string { data := #[] }, .string { data := #[] }, .string { data := #[] }, .slice none 0 0], .int .i64 405]) ∧ Sl (Below V.heap.size V w')) := ⟨fun V a c hB hF => (question_any r _ V (hg.of hB) hF hr.fw).mono fun e w' ⟨h1, h2⟩ => by
    refine ⟨?_, h2⟩
    rcases h1.out with ⟨_, he⟩ | ⟨h0, _⟩
    · rw [hr.stat] at he; exact he
    · rw [hr.stat] at h0; cases h0⟩
  have C5 : Sl (∀ V a c, Below w.heap.size w V → FieldsAt V (.slice a r.fs.length c) r.fs → Calls Tryz.prog 30 #[.agg #[.string r.a, .string r.b, .string r.c, .slice a r.fs.length c], .string { data := #[120] }, .slice none 0 0] V fun e w' => e = .returned (.tuple #[.string { data := #[] }, .int .i64 70]) ∧ Sl (Below V.heap.size V w')) := ⟨fun V a c hB hF => check_shake r _ { data := #[120] } [] _ V none hr.wrong (hg.of hB) hF hr.fw (by decide) (strA_nil V) (by decide)⟩
  obtain ⟨m, hm⟩ : ∃ m, (text r.hd).length = m := ⟨_, rfl⟩
  have hm0 : 0 < m := by
    rw [text, List.length_append] at hm
    rw [← hm]; show 0 < _ + 2; omega
  rw [hm] at C2
  have hs3 := hr.sz
  clear hg hr hm 
  go_enter Tryz.func10, Tryz.ntmps10
  go_wp2_with fail
  refine (HC.out _ (below0 w)).mono ?_
  rintro e w1 ⟨HH, HB1⟩
  obtain ⟨a1, c1, rfl, hF1⟩ := HH.out
  have HF1 := Sl.mk hF1
  clear hF1 HH HC
  obtain ⟨w2, hw2⟩ : ∃ V, w1.alloc (.cells #[.string r.a, .string r.b, .string r.c, .slice a1 r.fs.length c1] 25) = V := ⟨_, rfl⟩
  have HB2 : Sl (Below w.heap.size w w2) := ⟨by rw [← hw2]; exact HB1.out.alloc HB1.out.size _⟩
  have HF2 : Sl (FieldsAt w2 (.slice a1 r.fs.length c1) r.fs) := ⟨by rw [← hw2]; exact HF1.out.below ((Below.refl _ _).alloc (Nat.le_refl _) _)⟩
  have HX2 : Sl (w2.heap[w1.heap.size]? = some (.cells #[.string r.a, .string r.b, .string r.c, .slice a1 r.fs.length c1] 25 (0, 0))) := ⟨by rw [← hw2]; exact alloc_new _ _ _ rfl⟩
  obtain ⟨p0, p1, p2, p3⟩ := head_cells HX2.out
  go_wp2_with fail
  clear hw2 p0 p1 p2 p3
  refine (C2.out _ _ _ HB2.out HF2.out).mono ?_
  rintro e w3 ⟨⟨x3, y3, rfl⟩, HE3⟩
  have HB3 := Sl.mk (below_trans HB2.out HE3.out)
  have HF3 := Sl.mk (HF2.out.below HE3.out)
  have HX3 := Sl.mk (box_below HX2.out HE3.out)
  clear HE3 HF2 HX2 HF1 HB2 HB1
  obtain ⟨p0, p1, p2, p3⟩ := head_cells HX3.out
  go_wp2_with fail
  go_loopw [7, 8] (fun n i wr => ∃ (k : Nat) (z : Int), k ≤ 3 ∧ i = .int .i64 k ∧ n = .int .i64 z ∧ 0 ≤ z ∧ z ≤ 999 ∧ (k = 0 → z = 0) ∧ (k ≤ 1 → z ≤ 9) ∧ (k ≤ 2 → z ≤ 99) ∧ Sl (z = numL ((bytes r.b).take k)) ∧ w3 = wr) (fun _ i _ => 3 - (intOf i).toNat)
  case atStart => exact ⟨0, 0, Nat.zero_le _, rfl, rfl, by omega, by omega, fun _ => rfl, fun _ => by omega, fun _ => by omega, ⟨rfl⟩, rfl⟩
  case round =>
    obtain ⟨k, z, hk, rfl, rfl, hz0, hz1, hz2, hz3, hz4, HZ, rfl⟩ := hrel
    by_cases hlt : k < r.b.size
    · obtain ⟨x, hx⟩ : ∃ x, (r.b[k]'hlt).toNat = x := ⟨_, rfl⟩
      have HXX : Sl ((bytes r.b).getD k 0 = x) := ⟨by rw [bytes_getD r.b k hlt, ← hx]; rfl⟩
      have hd := HR.out.dig k (by omega)
      rw [HXX.out] at hd
      obtain ⟨hd1, hd2⟩ := hd
      have hsub := u8_sub hd1 hd2
      have hlt3 : ((k : Int) < (r.b.size : Int)) = True := eq_true (by omega)
      have hz5 : z ≤ 99 := hz4 (by omega)
      go_wp2
      refine ⟨⟨k + 1, 10 * z + ((x : Int) - 48), by omega, by go_num, by go_num, by omega, by omega, fun h => by omega, fun h => by have := hz2 (by omega); omega, fun h => by have := hz3 (by omega); omega, ⟨?_⟩, trivial⟩, by simp [intOf]; omega⟩
      rw [numL_take (by rw [bytes_length]; exact hlt), HXX.out, ← HZ.out]
    · have hge : ((k : Int) < (r.b.size : Int)) = False := eq_false (by omega)
      have hzz : z = 404 := by rw [HZ.out, List.take_of_length_le (by rw [bytes_length]; omega)]; exact HN.out
      clear hz0 hz1 hz2 hz3 hz4 HZ
      subst hzz
      go_wp2_with fail
      refine (C3.out _ _ _ HF3.out).mono ?_
      rintro e w4 ⟨⟨x4, y4, rfl, HS4⟩, HE4⟩
      have HB4 := Sl.mk (below_trans HB3.out HE4.out)
      have HF4 := Sl.mk (HF3.out.below HE4.out)
      have HX4 := Sl.mk (box_below HX3.out HE4.out)
      clear p0 p1 p2 p3 HE4 HF3 HX3 HB3
      obtain ⟨p0, p1, p2, p3⟩ := head_cells HX4.out
      go_wp2_with fail
      refine (C4.out _ _ _ HB4.out HF4.out).mono ?_
      rintro e w5 ⟨rfl, HE5⟩
      have HB5' := Sl.mk (below_trans HB4.out HE5.out)
      have HF5' := Sl.mk (HF4.out.below HE5.out)
      have HX5' := Sl.mk (box_below HX4.out HE5.out)
      have HS5' := Sl.mk (HS4.out.below HE5.out)
      clear p0 p1 p2 p3 HE5 HF4 HX4 HB4 HS4
      obtain ⟨w6, hw6⟩ : ∃ V, w5.alloc (.cells #[.string { data := #[] }, .string { data := #[] }, .string { data := #[] }, .string { data := #[] }, .slice none 0 0] 30) = V := ⟨_, rfl⟩
      have HE6 : Sl (Below w5.heap.size w5 w6) := ⟨by rw [← hw6]; exact (Below.refl _ _).alloc (Nat.le_refl _) _⟩
      have HB6 := Sl.mk (below_trans HB5'.out HE6.out)
      have HF6 := Sl.mk (HF5'.out.below HE6.out)
      have HX6 := Sl.mk (box_below HX5'.out HE6.out)
      have HS6 := Sl.mk (HS5'.out.below HE6.out)
      obtain ⟨p0, p1, p2, p3⟩ := head_cells HX6.out
      have HO6 : Sl (w6.heap[w5.heap.size]? = some (.cells #[.string { data := #[] }, .string { data := #[] }, .string { data := #[] }, .string { data := #[] }, .slice none 0 0] 30 (0, 0))) := ⟨by rw [← hw6]; exact alloc_new _ _ _ rfl⟩
      obtain ⟨⟨z0, z1, z2, z3, z4⟩, ⟨f0, f1, f2, f3, f4⟩, ⟨s0, s1, s2, s3, s4⟩⟩ := offer_zero HO6.out
      go_wp2_with fail
      clear z0 z1 z2 z3 z4 f0 f1 f2 f3 f4 s0 s1 s2 s3 s4 HO6
      clear hw6 HE6 HB5' HF5' HX5' HS5'
      refine (C5.out _ _ _ HB6.out HF6.out).mono ?_
      rintro e w7 ⟨rfl, HE7⟩
      have HB7 := Sl.mk (below_trans HB6.out HE7.out)
      have HS7 := Sl.mk (HS6.out.below HE7.out)
      clear p0 p1 p2 p3 HF6 HX6 HS6
      go_wp2_with fail
      refine (awake_ex HB7.out HG.out).mono ?_
      rintro e w8 ⟨rfl, HE8, HB8⟩
      have HS8 := Sl.mk (HS7.out.below HE8.out)
      obtain ⟨ad, ca, sa, oa, heq, hca, haa, hcell⟩ := HS8.out
      injection heq with h1 h2 h3
      subst h1 h3
      clear h2
      obtain rfl := haa (by decide)
      have q0 : w8.cell? ⟨sa, oa, none⟩ = some (.string { data := #[99, 108, 111, 115, 101] }) := hcell 0 (by decide)
      clear hcell haa hca HS7 HS8
      go_wp2
      go_ret
      exact ⟨rfl, HB8⟩
set_option maxHeartbeats 4000000 in
theorem status_405  (r : HdV) (hr : Refd (405) r) (w : World) (hg : GlobA w) (HC : Sl (∀ V, Below w.heap.size w V → Calls Tryz.prog 18 #[.int .i64 (405)] V fun e w' => Sl (HeadR w' r e) ∧ Sl (Below V.heap.size V w'))) :
    Calls Tryz.prog 10 #[.int .i64 (405)] w fun e w' => e = .returned (.bool true) ∧ Sl (Below w.heap.size w w') := by
  have HG := Sl.mk hg
  have HR := Sl.mk hr
  have HN : Sl (numL (bytes r.b) = 405) := ⟨by rw [hr.num]; decide⟩
  have C2 : Sl (∀ V a c, Below w.heap.size w V → FieldsAt V (.slice a r.fs.length c) r.fs → Calls Tryz.prog 32 #[.agg #[.string r.a, .string r.b, .string r.c, .slice a r.fs.length c]] V fun e w' => (∃ x y, e = .returned (.tuple #[.slice x (text r.hd).length y, .int .i64 0])) ∧ Sl (Below V.heap.size V w')) := ⟨fun V a c hB hF => (show_ex V V r _ (Below.refl _ _) (hg.of hB).h hF ⟨by have := hr.fw.a; unfold maxLen; omega, by have := hr.fw.b; unfold maxLen; omega, by have := hr.fw.c; unfold maxLen; omega⟩ (by have := hr.len; omega)).mono fun e w' ⟨h1, h2, _⟩ => by
    obtain ⟨x, y, he, _⟩ := showR_ok h1.out hr.chk
    exact ⟨⟨x, y, he⟩, h2⟩⟩
  have C3 : Sl (∀ V a c, FieldsAt V (.slice a r.fs.length c) r.fs → Calls Tryz.prog 36 #[.agg #[.string r.a, .string r.b, .string r.c, .slice a r.fs.length c], .string { data := #[99, 111, 110, 110, 101, 99, 116, 105, 111, 110] }] V fun e w' => (∃ x y, e = .returned (.slice x 1 y) ∧ Sl (StrA w' (.slice x 1 y) [bClose])) ∧ Sl (Below V.heap.size V w')) := ⟨fun V a c hF => (get_ex V V r _ { data := #[99, 111, 110, 110, 101, 99, 116, 105, 111, 110] } (Below.refl _ _) hF (by have := hr.fw.n; omega)).mono fun e w' ⟨x, y, h1, h2, h3, _⟩ => by
    rw [hr.one] at h1 h2
    exact ⟨⟨x, y, h1, h2⟩, h3⟩⟩
  have C4 : Sl (∀ V a c, Below w.heap.size w V → FieldsAt V (.slice a r.fs.length c) r.fs → Calls Tryz.prog 14 #[.agg #[.string r.a, .string r.b, .string r.c, .slice a r.fs.length c]] V fun e w' => e = .returned (.tuple #[.agg #[.string { data := #[] }, .string { data := #[] }, .string { data := #[] }, .string { data := #[] }, .slice none 0 0], .int .i64 405]) ∧ Sl (Below V.heap.size V w')) := ⟨fun V a c hB hF => (question_any r _ V (hg.of hB) hF hr.fw).mono fun e w' ⟨h1, h2⟩ => by
    refine ⟨?_, h2⟩
    rcases h1.out with ⟨_, he⟩ | ⟨h0, _⟩
    · rw [hr.stat] at he; exact he
    · rw [hr.stat] at h0; cases h0⟩
  have C5 : Sl (∀ V a c, Below w.heap.size w V → FieldsAt V (.slice a r.fs.length c) r.fs → Calls Tryz.prog 30 #[.agg #[.string r.a, .string r.b, .string r.c, .slice a r.fs.length c], .string { data := #[120] }, .slice none 0 0] V fun e w' => e = .returned (.tuple #[.string { data := #[] }, .int .i64 70]) ∧ Sl (Below V.heap.size V w')) := ⟨fun V a c hB hF => check_shake r _ { data := #[120] } [] _ V none hr.wrong (hg.of hB) hF hr.fw (by decide) (strA_nil V) (by decide)⟩
  obtain ⟨m, hm⟩ : ∃ m, (text r.hd).length = m := ⟨_, rfl⟩
  have hm0 : 0 < m := by
    rw [text, List.length_append] at hm
    rw [← hm]; show 0 < _ + 2; omega
  rw [hm] at C2
  have hs3 := hr.sz
  clear hg hr hm 
  go_enter Tryz.func10, Tryz.ntmps10
  go_wp2_with fail
  refine (HC.out _ (below0 w)).mono ?_
  rintro e w1 ⟨HH, HB1⟩
  obtain ⟨a1, c1, rfl, hF1⟩ := HH.out
  have HF1 := Sl.mk hF1
  clear hF1 HH HC
  obtain ⟨w2, hw2⟩ : ∃ V, w1.alloc (.cells #[.string r.a, .string r.b, .string r.c, .slice a1 r.fs.length c1] 25) = V := ⟨_, rfl⟩
  have HB2 : Sl (Below w.heap.size w w2) := ⟨by rw [← hw2]; exact HB1.out.alloc HB1.out.size _⟩
  have HF2 : Sl (FieldsAt w2 (.slice a1 r.fs.length c1) r.fs) := ⟨by rw [← hw2]; exact HF1.out.below ((Below.refl _ _).alloc (Nat.le_refl _) _)⟩
  have HX2 : Sl (w2.heap[w1.heap.size]? = some (.cells #[.string r.a, .string r.b, .string r.c, .slice a1 r.fs.length c1] 25 (0, 0))) := ⟨by rw [← hw2]; exact alloc_new _ _ _ rfl⟩
  obtain ⟨p0, p1, p2, p3⟩ := head_cells HX2.out
  go_wp2_with fail
  clear hw2 p0 p1 p2 p3
  refine (C2.out _ _ _ HB2.out HF2.out).mono ?_
  rintro e w3 ⟨⟨x3, y3, rfl⟩, HE3⟩
  have HB3 := Sl.mk (below_trans HB2.out HE3.out)
  have HF3 := Sl.mk (HF2.out.below HE3.out)
  have HX3 := Sl.mk (box_below HX2.out HE3.out)
  clear HE3 HF2 HX2 HF1 HB2 HB1
  obtain ⟨p0, p1, p2, p3⟩ := head_cells HX3.out
  go_wp2_with fail
  go_loopw [7, 8] (fun n i wr => ∃ (k : Nat) (z : Int), k ≤ 3 ∧ i = .int .i64 k ∧ n = .int .i64 z ∧ 0 ≤ z ∧ z ≤ 999 ∧ (k = 0 → z = 0) ∧ (k ≤ 1 → z ≤ 9) ∧ (k ≤ 2 → z ≤ 99) ∧ Sl (z = numL ((bytes r.b).take k)) ∧ w3 = wr) (fun _ i _ => 3 - (intOf i).toNat)
  case atStart => exact ⟨0, 0, Nat.zero_le _, rfl, rfl, by omega, by omega, fun _ => rfl, fun _ => by omega, fun _ => by omega, ⟨rfl⟩, rfl⟩
  case round =>
    obtain ⟨k, z, hk, rfl, rfl, hz0, hz1, hz2, hz3, hz4, HZ, rfl⟩ := hrel
    by_cases hlt : k < r.b.size
    · obtain ⟨x, hx⟩ : ∃ x, (r.b[k]'hlt).toNat = x := ⟨_, rfl⟩
      have HXX : Sl ((bytes r.b).getD k 0 = x) := ⟨by rw [bytes_getD r.b k hlt, ← hx]; rfl⟩
      have hd := HR.out.dig k (by omega)
      rw [HXX.out] at hd
      obtain ⟨hd1, hd2⟩ := hd
      have hsub := u8_sub hd1 hd2
      have hlt3 : ((k : Int) < (r.b.size : Int)) = True := eq_true (by omega)
      have hz5 : z ≤ 99 := hz4 (by omega)
      go_wp2
      refine ⟨⟨k + 1, 10 * z + ((x : Int) - 48), by omega, by go_num, by go_num, by omega, by omega, fun h => by omega, fun h => by have := hz2 (by omega); omega, fun h => by have := hz3 (by omega); omega, ⟨?_⟩, trivial⟩, by simp [intOf]; omega⟩
      rw [numL_take (by rw [bytes_length]; exact hlt), HXX.out, ← HZ.out]
    · have hge : ((k : Int) < (r.b.size : Int)) = False := eq_false (by omega)
      have hzz : z = 405 := by rw [HZ.out, List.take_of_length_le (by rw [bytes_length]; omega)]; exact HN.out
      clear hz0 hz1 hz2 hz3 hz4 HZ
      subst hzz
      go_wp2_with fail
      refine (C3.out _ _ _ HF3.out).mono ?_
      rintro e w4 ⟨⟨x4, y4, rfl, HS4⟩, HE4⟩
      have HB4 := Sl.mk (below_trans HB3.out HE4.out)
      have HF4 := Sl.mk (HF3.out.below HE4.out)
      have HX4 := Sl.mk (box_below HX3.out HE4.out)
      clear p0 p1 p2 p3 HE4 HF3 HX3 HB3
      obtain ⟨p0, p1, p2, p3⟩ := head_cells HX4.out
      go_wp2_with fail
      refine (C4.out _ _ _ HB4.out HF4.out).mono ?_
      rintro e w5 ⟨rfl, HE5⟩
      have HB5' := Sl.mk (below_trans HB4.out HE5.out)
      have HF5' := Sl.mk (HF4.out.below HE5.out)
      have HX5' := Sl.mk (box_below HX4.out HE5.out)
      have HS5' := Sl.mk (HS4.out.below HE5.out)
      clear p0 p1 p2 p3 HE5 HF4 HX4 HB4 HS4
      obtain ⟨w6, hw6⟩ : ∃ V, w5.alloc (.cells #[.string { data := #[] }, .string { data := #[] }, .string { data := #[] }, .string { data := #[] }, .slice none 0 0] 30) = V := ⟨_, rfl⟩
      have HE6 : Sl (Below w5.heap.size w5 w6) := ⟨by rw [← hw6]; exact (Below.refl _ _).alloc (Nat.le_refl _) _⟩
      have HB6 := Sl.mk (below_trans HB5'.out HE6.out)
      have HF6 := Sl.mk (HF5'.out.below HE6.out)
      have HX6 := Sl.mk (box_below HX5'.out HE6.out)
      have HS6 := Sl.mk (HS5'.out.below HE6.out)
      obtain ⟨p0, p1, p2, p3⟩ := head_cells HX6.out
      have HO6 : Sl (w6.heap[w5.heap.size]? = some (.cells #[.string { data := #[] }, .string { data := #[] }, .string { data := #[] }, .string { data := #[] }, .slice none 0 0] 30 (0, 0))) := ⟨by rw [← hw6]; exact alloc_new _ _ _ rfl⟩
      obtain ⟨⟨z0, z1, z2, z3, z4⟩, ⟨f0, f1, f2, f3, f4⟩, ⟨s0, s1, s2, s3, s4⟩⟩ := offer_zero HO6.out
      go_wp2_with fail
      clear z0 z1 z2 z3 z4 f0 f1 f2 f3 f4 s0 s1 s2 s3 s4 HO6
      clear hw6 HE6 HB5' HF5' HX5' HS5'
      refine (C5.out _ _ _ HB6.out HF6.out).mono ?_
      rintro e w7 ⟨rfl, HE7⟩
      have HB7 := Sl.mk (below_trans HB6.out HE7.out)
      have HS7 := Sl.mk (HS6.out.below HE7.out)
      clear p0 p1 p2 p3 HF6 HX6 HS6
      go_wp2_with fail
      refine (awake_ex HB7.out HG.out).mono ?_
      rintro e w8 ⟨rfl, HE8, HB8⟩
      have HS8 := Sl.mk (HS7.out.below HE8.out)
      obtain ⟨ad, ca, sa, oa, heq, hca, haa, hcell⟩ := HS8.out
      injection heq with h1 h2 h3
      subst h1 h3
      clear h2
      obtain rfl := haa (by decide)
      have q0 : w8.cell? ⟨sa, oa, none⟩ = some (.string { data := #[99, 108, 111, 115, 101] }) := hcell 0 (by decide)
      clear hcell haa hca HS7 HS8
      go_wp2
      go_ret
      exact ⟨rfl, HB8⟩
set_option maxHeartbeats 4000000 in
theorem status_426  (r : HdV) (hr : Refd (426) r) (w : World) (hg : GlobA w) (HC : Sl (∀ V, Below w.heap.size w V → Calls Tryz.prog 18 #[.int .i64 (426)] V fun e w' => Sl (HeadR w' r e) ∧ Sl (Below V.heap.size V w'))) :
    Calls Tryz.prog 10 #[.int .i64 (426)] w fun e w' => e = .returned (.bool true) ∧ Sl (Below w.heap.size w w') := by
  have HG := Sl.mk hg
  have HR := Sl.mk hr
  have HN : Sl (numL (bytes r.b) = 426) := ⟨by rw [hr.num]; decide⟩
  have C2 : Sl (∀ V a c, Below w.heap.size w V → FieldsAt V (.slice a r.fs.length c) r.fs → Calls Tryz.prog 32 #[.agg #[.string r.a, .string r.b, .string r.c, .slice a r.fs.length c]] V fun e w' => (∃ x y, e = .returned (.tuple #[.slice x (text r.hd).length y, .int .i64 0])) ∧ Sl (Below V.heap.size V w')) := ⟨fun V a c hB hF => (show_ex V V r _ (Below.refl _ _) (hg.of hB).h hF ⟨by have := hr.fw.a; unfold maxLen; omega, by have := hr.fw.b; unfold maxLen; omega, by have := hr.fw.c; unfold maxLen; omega⟩ (by have := hr.len; omega)).mono fun e w' ⟨h1, h2, _⟩ => by
    obtain ⟨x, y, he, _⟩ := showR_ok h1.out hr.chk
    exact ⟨⟨x, y, he⟩, h2⟩⟩
  have C3 : Sl (∀ V a c, FieldsAt V (.slice a r.fs.length c) r.fs → Calls Tryz.prog 36 #[.agg #[.string r.a, .string r.b, .string r.c, .slice a r.fs.length c], .string { data := #[99, 111, 110, 110, 101, 99, 116, 105, 111, 110] }] V fun e w' => (∃ x y, e = .returned (.slice x 1 y) ∧ Sl (StrA w' (.slice x 1 y) [bClose])) ∧ Sl (Below V.heap.size V w')) := ⟨fun V a c hF => (get_ex V V r _ { data := #[99, 111, 110, 110, 101, 99, 116, 105, 111, 110] } (Below.refl _ _) hF (by have := hr.fw.n; omega)).mono fun e w' ⟨x, y, h1, h2, h3, _⟩ => by
    rw [hr.one] at h1 h2
    exact ⟨⟨x, y, h1, h2⟩, h3⟩⟩
  have C4 : Sl (∀ V a c, Below w.heap.size w V → FieldsAt V (.slice a r.fs.length c) r.fs → Calls Tryz.prog 14 #[.agg #[.string r.a, .string r.b, .string r.c, .slice a r.fs.length c]] V fun e w' => e = .returned (.tuple #[.agg #[.string { data := #[] }, .string { data := #[] }, .string { data := #[] }, .string { data := #[] }, .slice none 0 0], .int .i64 405]) ∧ Sl (Below V.heap.size V w')) := ⟨fun V a c hB hF => (question_any r _ V (hg.of hB) hF hr.fw).mono fun e w' ⟨h1, h2⟩ => by
    refine ⟨?_, h2⟩
    rcases h1.out with ⟨_, he⟩ | ⟨h0, _⟩
    · rw [hr.stat] at he; exact he
    · rw [hr.stat] at h0; cases h0⟩
  have C5 : Sl (∀ V a c, Below w.heap.size w V → FieldsAt V (.slice a r.fs.length c) r.fs → Calls Tryz.prog 30 #[.agg #[.string r.a, .string r.b, .string r.c, .slice a r.fs.length c], .string { data := #[120] }, .slice none 0 0] V fun e w' => e = .returned (.tuple #[.string { data := #[] }, .int .i64 70]) ∧ Sl (Below V.heap.size V w')) := ⟨fun V a c hB hF => check_shake r _ { data := #[120] } [] _ V none hr.wrong (hg.of hB) hF hr.fw (by decide) (strA_nil V) (by decide)⟩
  obtain ⟨m, hm⟩ : ∃ m, (text r.hd).length = m := ⟨_, rfl⟩
  have hm0 : 0 < m := by
    rw [text, List.length_append] at hm
    rw [← hm]; show 0 < _ + 2; omega
  rw [hm] at C2
  have hs3 := hr.sz
  clear hg hr hm 
  go_enter Tryz.func10, Tryz.ntmps10
  go_wp2_with fail
  refine (HC.out _ (below0 w)).mono ?_
  rintro e w1 ⟨HH, HB1⟩
  obtain ⟨a1, c1, rfl, hF1⟩ := HH.out
  have HF1 := Sl.mk hF1
  clear hF1 HH HC
  obtain ⟨w2, hw2⟩ : ∃ V, w1.alloc (.cells #[.string r.a, .string r.b, .string r.c, .slice a1 r.fs.length c1] 25) = V := ⟨_, rfl⟩
  have HB2 : Sl (Below w.heap.size w w2) := ⟨by rw [← hw2]; exact HB1.out.alloc HB1.out.size _⟩
  have HF2 : Sl (FieldsAt w2 (.slice a1 r.fs.length c1) r.fs) := ⟨by rw [← hw2]; exact HF1.out.below ((Below.refl _ _).alloc (Nat.le_refl _) _)⟩
  have HX2 : Sl (w2.heap[w1.heap.size]? = some (.cells #[.string r.a, .string r.b, .string r.c, .slice a1 r.fs.length c1] 25 (0, 0))) := ⟨by rw [← hw2]; exact alloc_new _ _ _ rfl⟩
  obtain ⟨p0, p1, p2, p3⟩ := head_cells HX2.out
  go_wp2_with fail
  clear hw2 p0 p1 p2 p3
  refine (C2.out _ _ _ HB2.out HF2.out).mono ?_
  rintro e w3 ⟨⟨x3, y3, rfl⟩, HE3⟩
  have HB3 := Sl.mk (below_trans HB2.out HE3.out)
  have HF3 := Sl.mk (HF2.out.below HE3.out)
  have HX3 := Sl.mk (box_below HX2.out HE3.out)
  clear HE3 HF2 HX2 HF1 HB2 HB1
  obtain ⟨p0, p1, p2, p3⟩ := head_cells HX3.out
  go_wp2_with fail
  go_loopw [7, 8] (fun n i wr => ∃ (k : Nat) (z : Int), k ≤ 3 ∧ i = .int .i64 k ∧ n = .int .i64 z ∧ 0 ≤ z ∧ z ≤ 999 ∧ (k = 0 → z = 0) ∧ (k ≤ 1 → z ≤ 9) ∧ (k ≤ 2 → z ≤ 99) ∧ Sl (z = numL ((bytes r.b).take k)) ∧ w3 = wr) (fun _ i _ => 3 - (intOf i).toNat)
  case atStart => exact ⟨0, 0, Nat.zero_le _, rfl, rfl, by omega, by omega, fun _ => rfl, fun _ => by omega, fun _ => by omega, ⟨rfl⟩, rfl⟩
  case round =>
    obtain ⟨k, z, hk, rfl, rfl, hz0, hz1, hz2, hz3, hz4, HZ, rfl⟩ := hrel
    by_cases hlt : k < r.b.size
    · obtain ⟨x, hx⟩ : ∃ x, (r.b[k]'hlt).toNat = x := ⟨_, rfl⟩
      have HXX : Sl ((bytes r.b).getD k 0 = x) := ⟨by rw [bytes_getD r.b k hlt, ← hx]; rfl⟩
      have hd := HR.out.dig k (by omega)
      rw [HXX.out] at hd
      obtain ⟨hd1, hd2⟩ := hd
      have hsub := u8_sub hd1 hd2
      have hlt3 : ((k : Int) < (r.b.size : Int)) = True := eq_true (by omega)
      have hz5 : z ≤ 99 := hz4 (by omega)
      go_wp2
      refine ⟨⟨k + 1, 10 * z + ((x : Int) - 48), by omega, by go_num, by go_num, by omega, by omega, fun h => by omega, fun h => by have := hz2 (by omega); omega, fun h => by have := hz3 (by omega); omega, ⟨?_⟩, trivial⟩, by simp [intOf]; omega⟩
      rw [numL_take (by rw [bytes_length]; exact hlt), HXX.out, ← HZ.out]
    · have hge : ((k : Int) < (r.b.size : Int)) = False := eq_false (by omega)
      have hzz : z = 426 := by rw [HZ.out, List.take_of_length_le (by rw [bytes_length]; omega)]; exact HN.out
      clear hz0 hz1 hz2 hz3 hz4 HZ
      subst hzz
      go_wp2_with fail
      refine (C3.out _ _ _ HF3.out).mono ?_
      rintro e w4 ⟨⟨x4, y4, rfl, HS4⟩, HE4⟩
      have HB4 := Sl.mk (below_trans HB3.out HE4.out)
      have HF4 := Sl.mk (HF3.out.below HE4.out)
      have HX4 := Sl.mk (box_below HX3.out HE4.out)
      clear p0 p1 p2 p3 HE4 HF3 HX3 HB3
      obtain ⟨p0, p1, p2, p3⟩ := head_cells HX4.out
      go_wp2_with fail
      refine (C4.out _ _ _ HB4.out HF4.out).mono ?_
      rintro e w5 ⟨rfl, HE5⟩
      have HB5' := Sl.mk (below_trans HB4.out HE5.out)
      have HF5' := Sl.mk (HF4.out.below HE5.out)
      have HX5' := Sl.mk (box_below HX4.out HE5.out)
      have HS5' := Sl.mk (HS4.out.below HE5.out)
      clear p0 p1 p2 p3 HE5 HF4 HX4 HB4 HS4
      obtain ⟨w6, hw6⟩ : ∃ V, w5.alloc (.cells #[.string { data := #[] }, .string { data := #[] }, .string { data := #[] }, .string { data := #[] }, .slice none 0 0] 30) = V := ⟨_, rfl⟩
      have HE6 : Sl (Below w5.heap.size w5 w6) := ⟨by rw [← hw6]; exact (Below.refl _ _).alloc (Nat.le_refl _) _⟩
      have HB6 := Sl.mk (below_trans HB5'.out HE6.out)
      have HF6 := Sl.mk (HF5'.out.below HE6.out)
      have HX6 := Sl.mk (box_below HX5'.out HE6.out)
      have HS6 := Sl.mk (HS5'.out.below HE6.out)
      obtain ⟨p0, p1, p2, p3⟩ := head_cells HX6.out
      have HO6 : Sl (w6.heap[w5.heap.size]? = some (.cells #[.string { data := #[] }, .string { data := #[] }, .string { data := #[] }, .string { data := #[] }, .slice none 0 0] 30 (0, 0))) := ⟨by rw [← hw6]; exact alloc_new _ _ _ rfl⟩
      obtain ⟨⟨z0, z1, z2, z3, z4⟩, ⟨f0, f1, f2, f3, f4⟩, ⟨s0, s1, s2, s3, s4⟩⟩ := offer_zero HO6.out
      go_wp2_with fail
      clear z0 z1 z2 z3 z4 f0 f1 f2 f3 f4 s0 s1 s2 s3 s4 HO6
      clear hw6 HE6 HB5' HF5' HX5' HS5'
      refine (C5.out _ _ _ HB6.out HF6.out).mono ?_
      rintro e w7 ⟨rfl, HE7⟩
      have HB7 := Sl.mk (below_trans HB6.out HE7.out)
      have HS7 := Sl.mk (HS6.out.below HE7.out)
      clear p0 p1 p2 p3 HF6 HX6 HS6
      go_wp2_with fail
      refine (awake_ex HB7.out HG.out).mono ?_
      rintro e w8 ⟨rfl, HE8, HB8⟩
      have HS8 := Sl.mk (HS7.out.below HE8.out)
      obtain ⟨ad, ca, sa, oa, heq, hca, haa, hcell⟩ := HS8.out
      injection heq with h1 h2 h3
      subst h1 h3
      clear h2
      obtain rfl := haa (by decide)
      have q0 : w8.cell? ⟨sa, oa, none⟩ = some (.string { data := #[99, 108, 111, 115, 101] }) := hcell 0 (by decide)
      clear hcell haa hca HS7 HS8
      go_wp2
      go_ret
      exact ⟨rfl, HB8⟩
set_option maxHeartbeats 4000000 in
theorem status_502  (r : HdV) (hr : Refd (502) r) (w : World) (hg : GlobA w) (HC : Sl (∀ V, Below w.heap.size w V → Calls Tryz.prog 18 #[.int .i64 (502)] V fun e w' => Sl (HeadR w' r e) ∧ Sl (Below V.heap.size V w'))) :
    Calls Tryz.prog 10 #[.int .i64 (502)] w fun e w' => e = .returned (.bool true) ∧ Sl (Below w.heap.size w w') := by
  have HG := Sl.mk hg
  have HR := Sl.mk hr
  have HN : Sl (numL (bytes r.b) = 502) := ⟨by rw [hr.num]; decide⟩
  have C2 : Sl (∀ V a c, Below w.heap.size w V → FieldsAt V (.slice a r.fs.length c) r.fs → Calls Tryz.prog 32 #[.agg #[.string r.a, .string r.b, .string r.c, .slice a r.fs.length c]] V fun e w' => (∃ x y, e = .returned (.tuple #[.slice x (text r.hd).length y, .int .i64 0])) ∧ Sl (Below V.heap.size V w')) := ⟨fun V a c hB hF => (show_ex V V r _ (Below.refl _ _) (hg.of hB).h hF ⟨by have := hr.fw.a; unfold maxLen; omega, by have := hr.fw.b; unfold maxLen; omega, by have := hr.fw.c; unfold maxLen; omega⟩ (by have := hr.len; omega)).mono fun e w' ⟨h1, h2, _⟩ => by
    obtain ⟨x, y, he, _⟩ := showR_ok h1.out hr.chk
    exact ⟨⟨x, y, he⟩, h2⟩⟩
  have C3 : Sl (∀ V a c, FieldsAt V (.slice a r.fs.length c) r.fs → Calls Tryz.prog 36 #[.agg #[.string r.a, .string r.b, .string r.c, .slice a r.fs.length c], .string { data := #[99, 111, 110, 110, 101, 99, 116, 105, 111, 110] }] V fun e w' => (∃ x y, e = .returned (.slice x 1 y) ∧ Sl (StrA w' (.slice x 1 y) [bClose])) ∧ Sl (Below V.heap.size V w')) := ⟨fun V a c hF => (get_ex V V r _ { data := #[99, 111, 110, 110, 101, 99, 116, 105, 111, 110] } (Below.refl _ _) hF (by have := hr.fw.n; omega)).mono fun e w' ⟨x, y, h1, h2, h3, _⟩ => by
    rw [hr.one] at h1 h2
    exact ⟨⟨x, y, h1, h2⟩, h3⟩⟩
  have C4 : Sl (∀ V a c, Below w.heap.size w V → FieldsAt V (.slice a r.fs.length c) r.fs → Calls Tryz.prog 14 #[.agg #[.string r.a, .string r.b, .string r.c, .slice a r.fs.length c]] V fun e w' => e = .returned (.tuple #[.agg #[.string { data := #[] }, .string { data := #[] }, .string { data := #[] }, .string { data := #[] }, .slice none 0 0], .int .i64 405]) ∧ Sl (Below V.heap.size V w')) := ⟨fun V a c hB hF => (question_any r _ V (hg.of hB) hF hr.fw).mono fun e w' ⟨h1, h2⟩ => by
    refine ⟨?_, h2⟩
    rcases h1.out with ⟨_, he⟩ | ⟨h0, _⟩
    · rw [hr.stat] at he; exact he
    · rw [hr.stat] at h0; cases h0⟩
  have C5 : Sl (∀ V a c, Below w.heap.size w V → FieldsAt V (.slice a r.fs.length c) r.fs → Calls Tryz.prog 30 #[.agg #[.string r.a, .string r.b, .string r.c, .slice a r.fs.length c], .string { data := #[120] }, .slice none 0 0] V fun e w' => e = .returned (.tuple #[.string { data := #[] }, .int .i64 70]) ∧ Sl (Below V.heap.size V w')) := ⟨fun V a c hB hF => check_shake r _ { data := #[120] } [] _ V none hr.wrong (hg.of hB) hF hr.fw (by decide) (strA_nil V) (by decide)⟩
  obtain ⟨m, hm⟩ : ∃ m, (text r.hd).length = m := ⟨_, rfl⟩
  have hm0 : 0 < m := by
    rw [text, List.length_append] at hm
    rw [← hm]; show 0 < _ + 2; omega
  rw [hm] at C2
  have hs3 := hr.sz
  clear hg hr hm 
  go_enter Tryz.func10, Tryz.ntmps10
  go_wp2_with fail
  refine (HC.out _ (below0 w)).mono ?_
  rintro e w1 ⟨HH, HB1⟩
  obtain ⟨a1, c1, rfl, hF1⟩ := HH.out
  have HF1 := Sl.mk hF1
  clear hF1 HH HC
  obtain ⟨w2, hw2⟩ : ∃ V, w1.alloc (.cells #[.string r.a, .string r.b, .string r.c, .slice a1 r.fs.length c1] 25) = V := ⟨_, rfl⟩
  have HB2 : Sl (Below w.heap.size w w2) := ⟨by rw [← hw2]; exact HB1.out.alloc HB1.out.size _⟩
  have HF2 : Sl (FieldsAt w2 (.slice a1 r.fs.length c1) r.fs) := ⟨by rw [← hw2]; exact HF1.out.below ((Below.refl _ _).alloc (Nat.le_refl _) _)⟩
  have HX2 : Sl (w2.heap[w1.heap.size]? = some (.cells #[.string r.a, .string r.b, .string r.c, .slice a1 r.fs.length c1] 25 (0, 0))) := ⟨by rw [← hw2]; exact alloc_new _ _ _ rfl⟩
  obtain ⟨p0, p1, p2, p3⟩ := head_cells HX2.out
  go_wp2_with fail
  clear hw2 p0 p1 p2 p3
  refine (C2.out _ _ _ HB2.out HF2.out).mono ?_
  rintro e w3 ⟨⟨x3, y3, rfl⟩, HE3⟩
  have HB3 := Sl.mk (below_trans HB2.out HE3.out)
  have HF3 := Sl.mk (HF2.out.below HE3.out)
  have HX3 := Sl.mk (box_below HX2.out HE3.out)
  clear HE3 HF2 HX2 HF1 HB2 HB1
  obtain ⟨p0, p1, p2, p3⟩ := head_cells HX3.out
  go_wp2_with fail
  go_loopw [7, 8] (fun n i wr => ∃ (k : Nat) (z : Int), k ≤ 3 ∧ i = .int .i64 k ∧ n = .int .i64 z ∧ 0 ≤ z ∧ z ≤ 999 ∧ (k = 0 → z = 0) ∧ (k ≤ 1 → z ≤ 9) ∧ (k ≤ 2 → z ≤ 99) ∧ Sl (z = numL ((bytes r.b).take k)) ∧ w3 = wr) (fun _ i _ => 3 - (intOf i).toNat)
  case atStart => exact ⟨0, 0, Nat.zero_le _, rfl, rfl, by omega, by omega, fun _ => rfl, fun _ => by omega, fun _ => by omega, ⟨rfl⟩, rfl⟩
  case round =>
    obtain ⟨k, z, hk, rfl, rfl, hz0, hz1, hz2, hz3, hz4, HZ, rfl⟩ := hrel
    by_cases hlt : k < r.b.size
    · obtain ⟨x, hx⟩ : ∃ x, (r.b[k]'hlt).toNat = x := ⟨_, rfl⟩
      have HXX : Sl ((bytes r.b).getD k 0 = x) := ⟨by rw [bytes_getD r.b k hlt, ← hx]; rfl⟩
      have hd := HR.out.dig k (by omega)
      rw [HXX.out] at hd
      obtain ⟨hd1, hd2⟩ := hd
      have hsub := u8_sub hd1 hd2
      have hlt3 : ((k : Int) < (r.b.size : Int)) = True := eq_true (by omega)
      have hz5 : z ≤ 99 := hz4 (by omega)
      go_wp2
      refine ⟨⟨k + 1, 10 * z + ((x : Int) - 48), by omega, by go_num, by go_num, by omega, by omega, fun h => by omega, fun h => by have := hz2 (by omega); omega, fun h => by have := hz3 (by omega); omega, ⟨?_⟩, trivial⟩, by simp [intOf]; omega⟩
      rw [numL_take (by rw [bytes_length]; exact hlt), HXX.out, ← HZ.out]
    · have hge : ((k : Int) < (r.b.size : Int)) = False := eq_false (by omega)
      have hzz : z = 502 := by rw [HZ.out, List.take_of_length_le (by rw [bytes_length]; omega)]; exact HN.out
      clear hz0 hz1 hz2 hz3 hz4 HZ
      subst hzz
      go_wp2_with fail
      refine (C3.out _ _ _ HF3.out).mono ?_
      rintro e w4 ⟨⟨x4, y4, rfl, HS4⟩, HE4⟩
      have HB4 := Sl.mk (below_trans HB3.out HE4.out)
      have HF4 := Sl.mk (HF3.out.below HE4.out)
      have HX4 := Sl.mk (box_below HX3.out HE4.out)
      clear p0 p1 p2 p3 HE4 HF3 HX3 HB3
      obtain ⟨p0, p1, p2, p3⟩ := head_cells HX4.out
      go_wp2_with fail
      refine (C4.out _ _ _ HB4.out HF4.out).mono ?_
      rintro e w5 ⟨rfl, HE5⟩
      have HB5' := Sl.mk (below_trans HB4.out HE5.out)
      have HF5' := Sl.mk (HF4.out.below HE5.out)
      have HX5' := Sl.mk (box_below HX4.out HE5.out)
      have HS5' := Sl.mk (HS4.out.below HE5.out)
      clear p0 p1 p2 p3 HE5 HF4 HX4 HB4 HS4
      obtain ⟨w6, hw6⟩ : ∃ V, w5.alloc (.cells #[.string { data := #[] }, .string { data := #[] }, .string { data := #[] }, .string { data := #[] }, .slice none 0 0] 30) = V := ⟨_, rfl⟩
      have HE6 : Sl (Below w5.heap.size w5 w6) := ⟨by rw [← hw6]; exact (Below.refl _ _).alloc (Nat.le_refl _) _⟩
      have HB6 := Sl.mk (below_trans HB5'.out HE6.out)
      have HF6 := Sl.mk (HF5'.out.below HE6.out)
      have HX6 := Sl.mk (box_below HX5'.out HE6.out)
      have HS6 := Sl.mk (HS5'.out.below HE6.out)
      obtain ⟨p0, p1, p2, p3⟩ := head_cells HX6.out
      have HO6 : Sl (w6.heap[w5.heap.size]? = some (.cells #[.string { data := #[] }, .string { data := #[] }, .string { data := #[] }, .string { data := #[] }, .slice none 0 0] 30 (0, 0))) := ⟨by rw [← hw6]; exact alloc_new _ _ _ rfl⟩
      obtain ⟨⟨z0, z1, z2, z3, z4⟩, ⟨f0, f1, f2, f3, f4⟩, ⟨s0, s1, s2, s3, s4⟩⟩ := offer_zero HO6.out
      go_wp2_with fail
      clear z0 z1 z2 z3 z4 f0 f1 f2 f3 f4 s0 s1 s2 s3 s4 HO6
      clear hw6 HE6 HB5' HF5' HX5' HS5'
      refine (C5.out _ _ _ HB6.out HF6.out).mono ?_
      rintro e w7 ⟨rfl, HE7⟩
      have HB7 := Sl.mk (below_trans HB6.out HE7.out)
      have HS7 := Sl.mk (HS6.out.below HE7.out)
      clear p0 p1 p2 p3 HF6 HX6 HS6
      go_wp2_with fail
      refine (awake_ex HB7.out HG.out).mono ?_
      rintro e w8 ⟨rfl, HE8, HB8⟩
      have HS8 := Sl.mk (HS7.out.below HE8.out)
      obtain ⟨ad, ca, sa, oa, heq, hca, haa, hcell⟩ := HS8.out
      injection heq with h1 h2 h3
      subst h1 h3
      clear h2
      obtain rfl := haa (by decide)
      have q0 : w8.cell? ⟨sa, oa, none⟩ = some (.string { data := #[99, 108, 111, 115, 101] }) := hcell 0 (by decide)
      clear hcell haa hca HS7 HS8
      go_wp2
      go_ret
      exact ⟨rfl, HB8⟩
set_option maxHeartbeats 4000000 in
theorem status_503  (r : HdV) (hr : Refd (503) r) (w : World) (hg : GlobA w) (HC : Sl (∀ V, Below w.heap.size w V → Calls Tryz.prog 18 #[.int .i64 (503)] V fun e w' => Sl (HeadR w' r e) ∧ Sl (Below V.heap.size V w'))) :
    Calls Tryz.prog 10 #[.int .i64 (503)] w fun e w' => e = .returned (.bool true) ∧ Sl (Below w.heap.size w w') := by
  have HG := Sl.mk hg
  have HR := Sl.mk hr
  have HN : Sl (numL (bytes r.b) = 503) := ⟨by rw [hr.num]; decide⟩
  have C2 : Sl (∀ V a c, Below w.heap.size w V → FieldsAt V (.slice a r.fs.length c) r.fs → Calls Tryz.prog 32 #[.agg #[.string r.a, .string r.b, .string r.c, .slice a r.fs.length c]] V fun e w' => (∃ x y, e = .returned (.tuple #[.slice x (text r.hd).length y, .int .i64 0])) ∧ Sl (Below V.heap.size V w')) := ⟨fun V a c hB hF => (show_ex V V r _ (Below.refl _ _) (hg.of hB).h hF ⟨by have := hr.fw.a; unfold maxLen; omega, by have := hr.fw.b; unfold maxLen; omega, by have := hr.fw.c; unfold maxLen; omega⟩ (by have := hr.len; omega)).mono fun e w' ⟨h1, h2, _⟩ => by
    obtain ⟨x, y, he, _⟩ := showR_ok h1.out hr.chk
    exact ⟨⟨x, y, he⟩, h2⟩⟩
  have C3 : Sl (∀ V a c, FieldsAt V (.slice a r.fs.length c) r.fs → Calls Tryz.prog 36 #[.agg #[.string r.a, .string r.b, .string r.c, .slice a r.fs.length c], .string { data := #[99, 111, 110, 110, 101, 99, 116, 105, 111, 110] }] V fun e w' => (∃ x y, e = .returned (.slice x 1 y) ∧ Sl (StrA w' (.slice x 1 y) [bClose])) ∧ Sl (Below V.heap.size V w')) := ⟨fun V a c hF => (get_ex V V r _ { data := #[99, 111, 110, 110, 101, 99, 116, 105, 111, 110] } (Below.refl _ _) hF (by have := hr.fw.n; omega)).mono fun e w' ⟨x, y, h1, h2, h3, _⟩ => by
    rw [hr.one] at h1 h2
    exact ⟨⟨x, y, h1, h2⟩, h3⟩⟩
  have C4 : Sl (∀ V a c, Below w.heap.size w V → FieldsAt V (.slice a r.fs.length c) r.fs → Calls Tryz.prog 14 #[.agg #[.string r.a, .string r.b, .string r.c, .slice a r.fs.length c]] V fun e w' => e = .returned (.tuple #[.agg #[.string { data := #[] }, .string { data := #[] }, .string { data := #[] }, .string { data := #[] }, .slice none 0 0], .int .i64 405]) ∧ Sl (Below V.heap.size V w')) := ⟨fun V a c hB hF => (question_any r _ V (hg.of hB) hF hr.fw).mono fun e w' ⟨h1, h2⟩ => by
    refine ⟨?_, h2⟩
    rcases h1.out with ⟨_, he⟩ | ⟨h0, _⟩
    · rw [hr.stat] at he; exact he
    · rw [hr.stat] at h0; cases h0⟩
  have C5 : Sl (∀ V a c, Below w.heap.size w V → FieldsAt V (.slice a r.fs.length c) r.fs → Calls Tryz.prog 30 #[.agg #[.string r.a, .string r.b, .string r.c, .slice a r.fs.length c], .string { data := #[120] }, .slice none 0 0] V fun e w' => e = .returned (.tuple #[.string { data := #[] }, .int .i64 70]) ∧ Sl (Below V.heap.size V w')) := ⟨fun V a c hB hF => check_shake r _ { data := #[120] } [] _ V none hr.wrong (hg.of hB) hF hr.fw (by decide) (strA_nil V) (by decide)⟩
  obtain ⟨m, hm⟩ : ∃ m, (text r.hd).length = m := ⟨_, rfl⟩
  have hm0 : 0 < m := by
    rw [text, List.length_append] at hm
    rw [← hm]; show 0 < _ + 2; omega
  rw [hm] at C2
  have hs3 := hr.sz
  clear hg hr hm 
  go_enter Tryz.func10, Tryz.ntmps10
  go_wp2_with fail
  refine (HC.out _ (below0 w)).mono ?_
  rintro e w1 ⟨HH, HB1⟩
  obtain ⟨a1, c1, rfl, hF1⟩ := HH.out
  have HF1 := Sl.mk hF1
  clear hF1 HH HC
  obtain ⟨w2, hw2⟩ : ∃ V, w1.alloc (.cells #[.string r.a, .string r.b, .string r.c, .slice a1 r.fs.length c1] 25) = V := ⟨_, rfl⟩
  have HB2 : Sl (Below w.heap.size w w2) := ⟨by rw [← hw2]; exact HB1.out.alloc HB1.out.size _⟩
  have HF2 : Sl (FieldsAt w2 (.slice a1 r.fs.length c1) r.fs) := ⟨by rw [← hw2]; exact HF1.out.below ((Below.refl _ _).alloc (Nat.le_refl _) _)⟩
  have HX2 : Sl (w2.heap[w1.heap.size]? = some (.cells #[.string r.a, .string r.b, .string r.c, .slice a1 r.fs.length c1] 25 (0, 0))) := ⟨by rw [← hw2]; exact alloc_new _ _ _ rfl⟩
  obtain ⟨p0, p1, p2, p3⟩ := head_cells HX2.out
  go_wp2_with fail
  clear hw2 p0 p1 p2 p3
  refine (C2.out _ _ _ HB2.out HF2.out).mono ?_
  rintro e w3 ⟨⟨x3, y3, rfl⟩, HE3⟩
  have HB3 := Sl.mk (below_trans HB2.out HE3.out)
  have HF3 := Sl.mk (HF2.out.below HE3.out)
  have HX3 := Sl.mk (box_below HX2.out HE3.out)
  clear HE3 HF2 HX2 HF1 HB2 HB1
  obtain ⟨p0, p1, p2, p3⟩ := head_cells HX3.out
  go_wp2_with fail
  go_loopw [7, 8] (fun n i wr => ∃ (k : Nat) (z : Int), k ≤ 3 ∧ i = .int .i64 k ∧ n = .int .i64 z ∧ 0 ≤ z ∧ z ≤ 999 ∧ (k = 0 → z = 0) ∧ (k ≤ 1 → z ≤ 9) ∧ (k ≤ 2 → z ≤ 99) ∧ Sl (z = numL ((bytes r.b).take k)) ∧ w3 = wr) (fun _ i _ => 3 - (intOf i).toNat)
  case atStart => exact ⟨0, 0, Nat.zero_le _, rfl, rfl, by omega, by omega, fun _ => rfl, fun _ => by omega, fun _ => by omega, ⟨rfl⟩, rfl⟩
  case round =>
    obtain ⟨k, z, hk, rfl, rfl, hz0, hz1, hz2, hz3, hz4, HZ, rfl⟩ := hrel
    by_cases hlt : k < r.b.size
    · obtain ⟨x, hx⟩ : ∃ x, (r.b[k]'hlt).toNat = x := ⟨_, rfl⟩
      have HXX : Sl ((bytes r.b).getD k 0 = x) := ⟨by rw [bytes_getD r.b k hlt, ← hx]; rfl⟩
      have hd := HR.out.dig k (by omega)
      rw [HXX.out] at hd
      obtain ⟨hd1, hd2⟩ := hd
      have hsub := u8_sub hd1 hd2
      have hlt3 : ((k : Int) < (r.b.size : Int)) = True := eq_true (by omega)
      have hz5 : z ≤ 99 := hz4 (by omega)
      go_wp2
      refine ⟨⟨k + 1, 10 * z + ((x : Int) - 48), by omega, by go_num, by go_num, by omega, by omega, fun h => by omega, fun h => by have := hz2 (by omega); omega, fun h => by have := hz3 (by omega); omega, ⟨?_⟩, trivial⟩, by simp [intOf]; omega⟩
      rw [numL_take (by rw [bytes_length]; exact hlt), HXX.out, ← HZ.out]
    · have hge : ((k : Int) < (r.b.size : Int)) = False := eq_false (by omega)
      have hzz : z = 503 := by rw [HZ.out, List.take_of_length_le (by rw [bytes_length]; omega)]; exact HN.out
      clear hz0 hz1 hz2 hz3 hz4 HZ
      subst hzz
      go_wp2_with fail
      refine (C3.out _ _ _ HF3.out).mono ?_
      rintro e w4 ⟨⟨x4, y4, rfl, HS4⟩, HE4⟩
      have HB4 := Sl.mk (below_trans HB3.out HE4.out)
      have HF4 := Sl.mk (HF3.out.below HE4.out)
      have HX4 := Sl.mk (box_below HX3.out HE4.out)
      clear p0 p1 p2 p3 HE4 HF3 HX3 HB3
      obtain ⟨p0, p1, p2, p3⟩ := head_cells HX4.out
      go_wp2_with fail
      refine (C4.out _ _ _ HB4.out HF4.out).mono ?_
      rintro e w5 ⟨rfl, HE5⟩
      have HB5' := Sl.mk (below_trans HB4.out HE5.out)
      have HF5' := Sl.mk (HF4.out.below HE5.out)
      have HX5' := Sl.mk (box_below HX4.out HE5.out)
      have HS5' := Sl.mk (HS4.out.below HE5.out)
      clear p0 p1 p2 p3 HE5 HF4 HX4 HB4 HS4
      obtain ⟨w6, hw6⟩ : ∃ V, w5.alloc (.cells #[.string { data := #[] }, .string { data := #[] }, .string { data := #[] }, .string { data := #[] }, .slice none 0 0] 30) = V := ⟨_, rfl⟩
      have HE6 : Sl (Below w5.heap.size w5 w6) := ⟨by rw [← hw6]; exact (Below.refl _ _).alloc (Nat.le_refl _) _⟩
      have HB6 := Sl.mk (below_trans HB5'.out HE6.out)
      have HF6 := Sl.mk (HF5'.out.below HE6.out)
      have HX6 := Sl.mk (box_below HX5'.out HE6.out)
      have HS6 := Sl.mk (HS5'.out.below HE6.out)
      obtain ⟨p0, p1, p2, p3⟩ := head_cells HX6.out
      have HO6 : Sl (w6.heap[w5.heap.size]? = some (.cells #[.string { data := #[] }, .string { data := #[] }, .string { data := #[] }, .string { data := #[] }, .slice none 0 0] 30 (0, 0))) := ⟨by rw [← hw6]; exact alloc_new _ _ _ rfl⟩
      obtain ⟨⟨z0, z1, z2, z3, z4⟩, ⟨f0, f1, f2, f3, f4⟩, ⟨s0, s1, s2, s3, s4⟩⟩ := offer_zero HO6.out
      go_wp2_with fail
      clear z0 z1 z2 z3 z4 f0 f1 f2 f3 f4 s0 s1 s2 s3 s4 HO6
      clear hw6 HE6 HB5' HF5' HX5' HS5'
      refine (C5.out _ _ _ HB6.out HF6.out).mono ?_
      rintro e w7 ⟨rfl, HE7⟩
      have HB7 := Sl.mk (below_trans HB6.out HE7.out)
      have HS7 := Sl.mk (HS6.out.below HE7.out)
      clear p0 p1 p2 p3 HF6 HX6 HS6
      go_wp2_with fail
      refine (awake_ex HB7.out HG.out).mono ?_
      rintro e w8 ⟨rfl, HE8, HB8⟩
      have HS8 := Sl.mk (HS7.out.below HE8.out)
      obtain ⟨ad, ca, sa, oa, heq, hca, haa, hcell⟩ := HS8.out
      injection heq with h1 h2 h3
      subst h1 h3
      clear h2
      obtain rfl := haa (by decide)
      have q0 : w8.cell? ⟨sa, oa, none⟩ = some (.string { data := #[99, 108, 111, 115, 101] }) := hcell 0 (by decide)
      clear hcell haa hca HS7 HS8
      go_wp2
      go_ret
      exact ⟨rfl, HB8⟩
set_option maxHeartbeats 4000000 in
theorem status_504  (r : HdV) (hr : Refd (504) r) (w : World) (hg : GlobA w) (HC : Sl (∀ V, Below w.heap.size w V → Calls Tryz.prog 18 #[.int .i64 (504)] V fun e w' => Sl (HeadR w' r e) ∧ Sl (Below V.heap.size V w'))) :
    Calls Tryz.prog 10 #[.int .i64 (504)] w fun e w' => e = .returned (.bool true) ∧ Sl (Below w.heap.size w w') := by
  have HG := Sl.mk hg
  have HR := Sl.mk hr
  have HN : Sl (numL (bytes r.b) = 504) := ⟨by rw [hr.num]; decide⟩
  have C2 : Sl (∀ V a c, Below w.heap.size w V → FieldsAt V (.slice a r.fs.length c) r.fs → Calls Tryz.prog 32 #[.agg #[.string r.a, .string r.b, .string r.c, .slice a r.fs.length c]] V fun e w' => (∃ x y, e = .returned (.tuple #[.slice x (text r.hd).length y, .int .i64 0])) ∧ Sl (Below V.heap.size V w')) := ⟨fun V a c hB hF => (show_ex V V r _ (Below.refl _ _) (hg.of hB).h hF ⟨by have := hr.fw.a; unfold maxLen; omega, by have := hr.fw.b; unfold maxLen; omega, by have := hr.fw.c; unfold maxLen; omega⟩ (by have := hr.len; omega)).mono fun e w' ⟨h1, h2, _⟩ => by
    obtain ⟨x, y, he, _⟩ := showR_ok h1.out hr.chk
    exact ⟨⟨x, y, he⟩, h2⟩⟩
  have C3 : Sl (∀ V a c, FieldsAt V (.slice a r.fs.length c) r.fs → Calls Tryz.prog 36 #[.agg #[.string r.a, .string r.b, .string r.c, .slice a r.fs.length c], .string { data := #[99, 111, 110, 110, 101, 99, 116, 105, 111, 110] }] V fun e w' => (∃ x y, e = .returned (.slice x 1 y) ∧ Sl (StrA w' (.slice x 1 y) [bClose])) ∧ Sl (Below V.heap.size V w')) := ⟨fun V a c hF => (get_ex V V r _ { data := #[99, 111, 110, 110, 101, 99, 116, 105, 111, 110] } (Below.refl _ _) hF (by have := hr.fw.n; omega)).mono fun e w' ⟨x, y, h1, h2, h3, _⟩ => by
    rw [hr.one] at h1 h2
    exact ⟨⟨x, y, h1, h2⟩, h3⟩⟩
  have C4 : Sl (∀ V a c, Below w.heap.size w V → FieldsAt V (.slice a r.fs.length c) r.fs → Calls Tryz.prog 14 #[.agg #[.string r.a, .string r.b, .string r.c, .slice a r.fs.length c]] V fun e w' => e = .returned (.tuple #[.agg #[.string { data := #[] }, .string { data := #[] }, .string { data := #[] }, .string { data := #[] }, .slice none 0 0], .int .i64 405]) ∧ Sl (Below V.heap.size V w')) := ⟨fun V a c hB hF => (question_any r _ V (hg.of hB) hF hr.fw).mono fun e w' ⟨h1, h2⟩ => by
    refine ⟨?_, h2⟩
    rcases h1.out with ⟨_, he⟩ | ⟨h0, _⟩
    · rw [hr.stat] at he; exact he
    · rw [hr.stat] at h0; cases h0⟩
  have C5 : Sl (∀ V a c, Below w.heap.size w V → FieldsAt V (.slice a r.fs.length c) r.fs → Calls Tryz.prog 30 #[.agg #[.string r.a, .string r.b, .string r.c, .slice a r.fs.length c], .string { data := #[120] }, .slice none 0 0] V fun e w' => e = .returned (.tuple #[.string { data := #[] }, .int .i64 70]) ∧ Sl (Below V.heap.size V w')) := ⟨fun V a c hB hF => check_shake r _ { data := #[120] } [] _ V none hr.wrong (hg.of hB) hF hr.fw (by decide) (strA_nil V) (by decide)⟩
  obtain ⟨m, hm⟩ : ∃ m, (text r.hd).length = m := ⟨_, rfl⟩
  have hm0 : 0 < m := by
    rw [text, List.length_append] at hm
    rw [← hm]; show 0 < _ + 2; omega
  rw [hm] at C2
  have hs3 := hr.sz
  clear hg hr hm 
  go_enter Tryz.func10, Tryz.ntmps10
  go_wp2_with fail
  refine (HC.out _ (below0 w)).mono ?_
  rintro e w1 ⟨HH, HB1⟩
  obtain ⟨a1, c1, rfl, hF1⟩ := HH.out
  have HF1 := Sl.mk hF1
  clear hF1 HH HC
  obtain ⟨w2, hw2⟩ : ∃ V, w1.alloc (.cells #[.string r.a, .string r.b, .string r.c, .slice a1 r.fs.length c1] 25) = V := ⟨_, rfl⟩
  have HB2 : Sl (Below w.heap.size w w2) := ⟨by rw [← hw2]; exact HB1.out.alloc HB1.out.size _⟩
  have HF2 : Sl (FieldsAt w2 (.slice a1 r.fs.length c1) r.fs) := ⟨by rw [← hw2]; exact HF1.out.below ((Below.refl _ _).alloc (Nat.le_refl _) _)⟩
  have HX2 : Sl (w2.heap[w1.heap.size]? = some (.cells #[.string r.a, .string r.b, .string r.c, .slice a1 r.fs.length c1] 25 (0, 0))) := ⟨by rw [← hw2]; exact alloc_new _ _ _ rfl⟩
  obtain ⟨p0, p1, p2, p3⟩ := head_cells HX2.out
  go_wp2_with fail
  clear hw2 p0 p1 p2 p3
  refine (C2.out _ _ _ HB2.out HF2.out).mono ?_
  rintro e w3 ⟨⟨x3, y3, rfl⟩, HE3⟩
  have HB3 := Sl.mk (below_trans HB2.out HE3.out)
  have HF3 := Sl.mk (HF2.out.below HE3.out)
  have HX3 := Sl.mk (box_below HX2.out HE3.out)
  clear HE3 HF2 HX2 HF1 HB2 HB1
  obtain ⟨p0, p1, p2, p3⟩ := head_cells HX3.out
  go_wp2_with fail
  go_loopw [7, 8] (fun n i wr => ∃ (k : Nat) (z : Int), k ≤ 3 ∧ i = .int .i64 k ∧ n = .int .i64 z ∧ 0 ≤ z ∧ z ≤ 999 ∧ (k = 0 → z = 0) ∧ (k ≤ 1 → z ≤ 9) ∧ (k ≤ 2 → z ≤ 99) ∧ Sl (z = numL ((bytes r.b).take k)) ∧ w3 = wr) (fun _ i _ => 3 - (intOf i).toNat)
  case atStart => exact ⟨0, 0, Nat.zero_le _, rfl, rfl, by omega, by omega, fun _ => rfl, fun _ => by omega, fun _ => by omega, ⟨rfl⟩, rfl⟩
  case round =>
    obtain ⟨k, z, hk, rfl, rfl, hz0, hz1, hz2, hz3, hz4, HZ, rfl⟩ := hrel
    by_cases hlt : k < r.b.size
    · obtain ⟨x, hx⟩ : ∃ x, (r.b[k]'hlt).toNat = x := ⟨_, rfl⟩
      have HXX : Sl ((bytes r.b).getD k 0 = x) := ⟨by rw [bytes_getD r.b k hlt, ← hx]; rfl⟩
      have hd := HR.out.dig k (by omega)
      rw [HXX.out] at hd
      obtain ⟨hd1, hd2⟩ := hd
      have hsub := u8_sub hd1 hd2
      have hlt3 : ((k : Int) < (r.b.size : Int)) = True := eq_true (by omega)
      have hz5 : z ≤ 99 := hz4 (by omega)
      go_wp2
      refine ⟨⟨k + 1, 10 * z + ((x : Int) - 48), by omega, by go_num, by go_num, by omega, by omega, fun h => by omega, fun h => by have := hz2 (by omega); omega, fun h => by have := hz3 (by omega); omega, ⟨?_⟩, trivial⟩, by simp [intOf]; omega⟩
      rw [numL_take (by rw [bytes_length]; exact hlt), HXX.out, ← HZ.out]
    · have hge : ((k : Int) < (r.b.size : Int)) = False := eq_false (by omega)
      have hzz : z = 504 := by rw [HZ.out, List.take_of_length_le (by rw [bytes_length]; omega)]; exact HN.out
      clear hz0 hz1 hz2 hz3 hz4 HZ
      subst hzz
      go_wp2_with fail
      refine (C3.out _ _ _ HF3.out).mono ?_
      rintro e w4 ⟨⟨x4, y4, rfl, HS4⟩, HE4⟩
      have HB4 := Sl.mk (below_trans HB3.out HE4.out)
      have HF4 := Sl.mk (HF3.out.below HE4.out)
      have HX4 := Sl.mk (box_below HX3.out HE4.out)
      clear p0 p1 p2 p3 HE4 HF3 HX3 HB3
      obtain ⟨p0, p1, p2, p3⟩ := head_cells HX4.out
      go_wp2_with fail
      refine (C4.out _ _ _ HB4.out HF4.out).mono ?_
      rintro e w5 ⟨rfl, HE5⟩
      have HB5' := Sl.mk (below_trans HB4.out HE5.out)
      have HF5' := Sl.mk (HF4.out.below HE5.out)
      have HX5' := Sl.mk (box_below HX4.out HE5.out)
      have HS5' := Sl.mk (HS4.out.below HE5.out)
      clear p0 p1 p2 p3 HE5 HF4 HX4 HB4 HS4
      obtain ⟨w6, hw6⟩ : ∃ V, w5.alloc (.cells #[.string { data := #[] }, .string { data := #[] }, .string { data := #[] }, .string { data := #[] }, .slice none 0 0] 30) = V := ⟨_, rfl⟩
      have HE6 : Sl (Below w5.heap.size w5 w6) := ⟨by rw [← hw6]; exact (Below.refl _ _).alloc (Nat.le_refl _) _⟩
      have HB6 := Sl.mk (below_trans HB5'.out HE6.out)
      have HF6 := Sl.mk (HF5'.out.below HE6.out)
      have HX6 := Sl.mk (box_below HX5'.out HE6.out)
      have HS6 := Sl.mk (HS5'.out.below HE6.out)
      obtain ⟨p0, p1, p2, p3⟩ := head_cells HX6.out
      have HO6 : Sl (w6.heap[w5.heap.size]? = some (.cells #[.string { data := #[] }, .string { data := #[] }, .string { data := #[] }, .string { data := #[] }, .slice none 0 0] 30 (0, 0))) := ⟨by rw [← hw6]; exact alloc_new _ _ _ rfl⟩
      obtain ⟨⟨z0, z1, z2, z3, z4⟩, ⟨f0, f1, f2, f3, f4⟩, ⟨s0, s1, s2, s3, s4⟩⟩ := offer_zero HO6.out
      go_wp2_with fail
      clear z0 z1 z2 z3 z4 f0 f1 f2 f3 f4 s0 s1 s2 s3 s4 HO6
      clear hw6 HE6 HB5' HF5' HX5' HS5'
      refine (C5.out _ _ _ HB6.out HF6.out).mono ?_
      rintro e w7 ⟨rfl, HE7⟩
      have HB7 := Sl.mk (below_trans HB6.out HE7.out)
      have HS7 := Sl.mk (HS6.out.below HE7.out)
      clear p0 p1 p2 p3 HF6 HX6 HS6
      go_wp2_with fail
      refine (awake_ex HB7.out HG.out).mono ?_
      rintro e w8 ⟨rfl, HE8, HB8⟩
      have HS8 := Sl.mk (HS7.out.below HE8.out)
      obtain ⟨ad, ca, sa, oa, heq, hca, haa, hcell⟩ := HS8.out
      injection heq with h1 h2 h3
      subst h1 h3
      clear h2
      obtain rfl := haa (by decide)
      have q0 : w8.cell? ⟨sa, oa, none⟩ = some (.string { data := #[99, 108, 111, 115, 101] }) := hcell 0 (by decide)
      clear hcell haa hca HS7 HS8
      go_wp2
      go_ret
      exact ⟨rfl, HB8⟩
set_option maxHeartbeats 4000000 in
theorem status_low (status : Int) (n400 : status ≠ 400) (n403 : status ≠ 403) (n404 : status ≠ 404) (n405 : status ≠ 405) (n426 : status ≠ 426) (n502 : status ≠ 502) (n503 : status ≠ 503) (n504 : status ≠ 504) (hl : status < 502) (hz : -9223372036854775808 ≤ status) (r : HdV) (hr : Refd status r) (w : World) (hg : GlobA w) (HC : Sl (∀ V, Below w.heap.size w V → Calls Tryz.prog 18 #[.int .i64 status] V fun e w' => Sl (HeadR w' r e) ∧ Sl (Below V.heap.size V w'))) :
    Calls Tryz.prog 10 #[.int .i64 status] w fun e w' => e = .returned (.bool true) ∧ Sl (Below w.heap.size w w') := by
  have HG := Sl.mk hg
  have HR := Sl.mk hr
  have e400 : (status == 400) = false := by simp; omega
  have e403 : (status == 403) = false := by simp; omega
  have e404 : (status == 404) = false := by simp; omega
  have e405 : (status == 405) = false := by simp; omega
  have e426 : (status == 426) = false := by simp; omega
  have e502 : (status == 502) = false := by simp; omega
  have e503 : (status == 503) = false := by simp; omega
  have e504 : (status == 504) = false := by simp; omega
  have e5 : (status ≥ 502) = False := eq_false (by omega)
  have HN : Sl (numL (bytes r.b) = 400) := ⟨by rw [hr.num, if_neg (by omega)]⟩
  have hN4 : ((400 : Int) == status) = false := by simp; omega
  have C2 : Sl (∀ V a c, Below w.heap.size w V → FieldsAt V (.slice a r.fs.length c) r.fs → Calls Tryz.prog 32 #[.agg #[.string r.a, .string r.b, .string r.c, .slice a r.fs.length c]] V fun e w' => (∃ x y, e = .returned (.tuple #[.slice x (text r.hd).length y, .int .i64 0])) ∧ Sl (Below V.heap.size V w')) := ⟨fun V a c hB hF => (show_ex V V r _ (Below.refl _ _) (hg.of hB).h hF ⟨by have := hr.fw.a; unfold maxLen; omega, by have := hr.fw.b; unfold maxLen; omega, by have := hr.fw.c; unfold maxLen; omega⟩ (by have := hr.len; omega)).mono fun e w' ⟨h1, h2, _⟩ => by
    obtain ⟨x, y, he, _⟩ := showR_ok h1.out hr.chk
    exact ⟨⟨x, y, he⟩, h2⟩⟩
  have C3 : Sl (∀ V a c, FieldsAt V (.slice a r.fs.length c) r.fs → Calls Tryz.prog 36 #[.agg #[.string r.a, .string r.b, .string r.c, .slice a r.fs.length c], .string { data := #[99, 111, 110, 110, 101, 99, 116, 105, 111, 110] }] V fun e w' => (∃ x y, e = .returned (.slice x 1 y) ∧ Sl (StrA w' (.slice x 1 y) [bClose])) ∧ Sl (Below V.heap.size V w')) := ⟨fun V a c hF => (get_ex V V r _ { data := #[99, 111, 110, 110, 101, 99, 116, 105, 111, 110] } (Below.refl _ _) hF (by have := hr.fw.n; omega)).mono fun e w' ⟨x, y, h1, h2, h3, _⟩ => by
    rw [hr.one] at h1 h2
    exact ⟨⟨x, y, h1, h2⟩, h3⟩⟩
  have C4 : Sl (∀ V a c, Below w.heap.size w V → FieldsAt V (.slice a r.fs.length c) r.fs → Calls Tryz.prog 14 #[.agg #[.string r.a, .string r.b, .string r.c, .slice a r.fs.length c]] V fun e w' => e = .returned (.tuple #[.agg #[.string { data := #[] }, .string { data := #[] }, .string { data := #[] }, .string { data := #[] }, .slice none 0 0], .int .i64 405]) ∧ Sl (Below V.heap.size V w')) := ⟨fun V a c hB hF => (question_any r _ V (hg.of hB) hF hr.fw).mono fun e w' ⟨h1, h2⟩ => by
    refine ⟨?_, h2⟩
    rcases h1.out with ⟨_, he⟩ | ⟨h0, _⟩
    · rw [hr.stat] at he; exact he
    · rw [hr.stat] at h0; cases h0⟩
  have C5 : Sl (∀ V a c, Below w.heap.size w V → FieldsAt V (.slice a r.fs.length c) r.fs → Calls Tryz.prog 30 #[.agg #[.string r.a, .string r.b, .string r.c, .slice a r.fs.length c], .string { data := #[120] }, .slice none 0 0] V fun e w' => e = .returned (.tuple #[.string { data := #[] }, .int .i64 70]) ∧ Sl (Below V.heap.size V w')) := ⟨fun V a c hB hF => check_shake r _ { data := #[120] } [] _ V none hr.wrong (hg.of hB) hF hr.fw (by decide) (strA_nil V) (by decide)⟩
  obtain ⟨m, hm⟩ : ∃ m, (text r.hd).length = m := ⟨_, rfl⟩
  have hm0 : 0 < m := by
    rw [text, List.length_append] at hm
    rw [← hm]; show 0 < _ + 2; omega
  rw [hm] at C2
  have hs3 := hr.sz
  clear hg hr hm n400 n403 n404 n405 n426 n502 n503 n504 hl hz
  go_enter Tryz.func10, Tryz.ntmps10
  go_wp2_with fail
  refine (HC.out _ (below0 w)).mono ?_
  rintro e w1 ⟨HH, HB1⟩
  obtain ⟨a1, c1, rfl, hF1⟩ := HH.out
  have HF1 := Sl.mk hF1
  clear hF1 HH HC
  obtain ⟨w2, hw2⟩ : ∃ V, w1.alloc (.cells #[.string r.a, .string r.b, .string r.c, .slice a1 r.fs.length c1] 25) = V := ⟨_, rfl⟩
  have HB2 : Sl (Below w.heap.size w w2) := ⟨by rw [← hw2]; exact HB1.out.alloc HB1.out.size _⟩
  have HF2 : Sl (FieldsAt w2 (.slice a1 r.fs.length c1) r.fs) := ⟨by rw [← hw2]; exact HF1.out.below ((Below.refl _ _).alloc (Nat.le_refl _) _)⟩
  have HX2 : Sl (w2.heap[w1.heap.size]? = some (.cells #[.string r.a, .string r.b, .string r.c, .slice a1 r.fs.length c1] 25 (0, 0))) := ⟨by rw [← hw2]; exact alloc_new _ _ _ rfl⟩
  obtain ⟨p0, p1, p2, p3⟩ := head_cells HX2.out
  go_wp2_with fail
  clear hw2 p0 p1 p2 p3
  refine (C2.out _ _ _ HB2.out HF2.out).mono ?_
  rintro e w3 ⟨⟨x3, y3, rfl⟩, HE3⟩
  have HB3 := Sl.mk (below_trans HB2.out HE3.out)
  have HF3 := Sl.mk (HF2.out.below HE3.out)
  have HX3 := Sl.mk (box_below HX2.out HE3.out)
  clear HE3 HF2 HX2 HF1 HB2 HB1
  obtain ⟨p0, p1, p2, p3⟩ := head_cells HX3.out
  go_wp2_with fail
  go_loopw [7, 8] (fun n i wr => ∃ (k : Nat) (z : Int), k ≤ 3 ∧ i = .int .i64 k ∧ n = .int .i64 z ∧ 0 ≤ z ∧ z ≤ 999 ∧ (k = 0 → z = 0) ∧ (k ≤ 1 → z ≤ 9) ∧ (k ≤ 2 → z ≤ 99) ∧ Sl (z = numL ((bytes r.b).take k)) ∧ w3 = wr) (fun _ i _ => 3 - (intOf i).toNat)
  case atStart => exact ⟨0, 0, Nat.zero_le _, rfl, rfl, by omega, by omega, fun _ => rfl, fun _ => by omega, fun _ => by omega, ⟨rfl⟩, rfl⟩
  case round =>
    obtain ⟨k, z, hk, rfl, rfl, hz0, hz1, hz2, hz3, hz4, HZ, rfl⟩ := hrel
    by_cases hlt : k < r.b.size
    · obtain ⟨x, hx⟩ : ∃ x, (r.b[k]'hlt).toNat = x := ⟨_, rfl⟩
      have HXX : Sl ((bytes r.b).getD k 0 = x) := ⟨by rw [bytes_getD r.b k hlt, ← hx]; rfl⟩
      have hd := HR.out.dig k (by omega)
      rw [HXX.out] at hd
      obtain ⟨hd1, hd2⟩ := hd
      have hsub := u8_sub hd1 hd2
      have hlt3 : ((k : Int) < (r.b.size : Int)) = True := eq_true (by omega)
      have hz5 : z ≤ 99 := hz4 (by omega)
      go_wp2
      refine ⟨⟨k + 1, 10 * z + ((x : Int) - 48), by omega, by go_num, by go_num, by omega, by omega, fun h => by omega, fun h => by have := hz2 (by omega); omega, fun h => by have := hz3 (by omega); omega, ⟨?_⟩, trivial⟩, by simp [intOf]; omega⟩
      rw [numL_take (by rw [bytes_length]; exact hlt), HXX.out, ← HZ.out]
    · have hge : ((k : Int) < (r.b.size : Int)) = False := eq_false (by omega)
      have hzz : z = 400 := by rw [HZ.out, List.take_of_length_le (by rw [bytes_length]; omega)]; exact HN.out
      clear hz0 hz1 hz2 hz3 hz4 HZ
      subst hzz
      go_wp2_with fail
      refine (C3.out _ _ _ HF3.out).mono ?_
      rintro e w4 ⟨⟨x4, y4, rfl, HS4⟩, HE4⟩
      have HB4 := Sl.mk (below_trans HB3.out HE4.out)
      have HF4 := Sl.mk (HF3.out.below HE4.out)
      have HX4 := Sl.mk (box_below HX3.out HE4.out)
      clear p0 p1 p2 p3 HE4 HF3 HX3 HB3
      obtain ⟨p0, p1, p2, p3⟩ := head_cells HX4.out
      go_wp2_with fail
      refine (C4.out _ _ _ HB4.out HF4.out).mono ?_
      rintro e w5 ⟨rfl, HE5⟩
      have HB5' := Sl.mk (below_trans HB4.out HE5.out)
      have HF5' := Sl.mk (HF4.out.below HE5.out)
      have HX5' := Sl.mk (box_below HX4.out HE5.out)
      have HS5' := Sl.mk (HS4.out.below HE5.out)
      clear p0 p1 p2 p3 HE5 HF4 HX4 HB4 HS4
      obtain ⟨w6, hw6⟩ : ∃ V, w5.alloc (.cells #[.string { data := #[] }, .string { data := #[] }, .string { data := #[] }, .string { data := #[] }, .slice none 0 0] 30) = V := ⟨_, rfl⟩
      have HE6 : Sl (Below w5.heap.size w5 w6) := ⟨by rw [← hw6]; exact (Below.refl _ _).alloc (Nat.le_refl _) _⟩
      have HB6 := Sl.mk (below_trans HB5'.out HE6.out)
      have HF6 := Sl.mk (HF5'.out.below HE6.out)
      have HX6 := Sl.mk (box_below HX5'.out HE6.out)
      have HS6 := Sl.mk (HS5'.out.below HE6.out)
      obtain ⟨p0, p1, p2, p3⟩ := head_cells HX6.out
      have HO6 : Sl (w6.heap[w5.heap.size]? = some (.cells #[.string { data := #[] }, .string { data := #[] }, .string { data := #[] }, .string { data := #[] }, .slice none 0 0] 30 (0, 0))) := ⟨by rw [← hw6]; exact alloc_new _ _ _ rfl⟩
      obtain ⟨⟨z0, z1, z2, z3, z4⟩, ⟨f0, f1, f2, f3, f4⟩, ⟨s0, s1, s2, s3, s4⟩⟩ := offer_zero HO6.out
      go_wp2_with fail
      clear z0 z1 z2 z3 z4 f0 f1 f2 f3 f4 s0 s1 s2 s3 s4 HO6
      clear hw6 HE6 HB5' HF5' HX5' HS5'
      refine (C5.out _ _ _ HB6.out HF6.out).mono ?_
      rintro e w7 ⟨rfl, HE7⟩
      have HB7 := Sl.mk (below_trans HB6.out HE7.out)
      have HS7 := Sl.mk (HS6.out.below HE7.out)
      clear p0 p1 p2 p3 HF6 HX6 HS6
      go_wp2_with fail
      refine (awake_ex HB7.out HG.out).mono ?_
      rintro e w8 ⟨rfl, HE8, HB8⟩
      have HS8 := Sl.mk (HS7.out.below HE8.out)
      obtain ⟨ad, ca, sa, oa, heq, hca, haa, hcell⟩ := HS8.out
      injection heq with h1 h2 h3
      subst h1 h3
      clear h2
      obtain rfl := haa (by decide)
      have q0 : w8.cell? ⟨sa, oa, none⟩ = some (.string { data := #[99, 108, 111, 115, 101] }) := hcell 0 (by decide)
      clear hcell haa hca HS7 HS8
      go_wp2
      go_ret
      exact ⟨rfl, HB8⟩
set_option maxHeartbeats 4000000 in
theorem status_high (status : Int) (n400 : status ≠ 400) (n403 : status ≠ 403) (n404 : status ≠ 404) (n405 : status ≠ 405) (n426 : status ≠ 426) (n502 : status ≠ 502) (n503 : status ≠ 503) (n504 : status ≠ 504) (hh : 504 < status) (hz : status ≤ 9223372036854775807) (r : HdV) (hr : Refd status r) (w : World) (hg : GlobA w) (HC : Sl (∀ V, Below w.heap.size w V → Calls Tryz.prog 18 #[.int .i64 status] V fun e w' => Sl (HeadR w' r e) ∧ Sl (Below V.heap.size V w'))) :
    Calls Tryz.prog 10 #[.int .i64 status] w fun e w' => e = .returned (.bool true) ∧ Sl (Below w.heap.size w w') := by
  have HG := Sl.mk hg
  have HR := Sl.mk hr
  have e400 : (status == 400) = false := by simp; omega
  have e403 : (status == 403) = false := by simp; omega
  have e404 : (status == 404) = false := by simp; omega
  have e405 : (status == 405) = false := by simp; omega
  have e426 : (status == 426) = false := by simp; omega
  have e502 : (status == 502) = false := by simp; omega
  have e503 : (status == 503) = false := by simp; omega
  have e504 : (status == 504) = false := by simp; omega
  have e5 : (status ≥ 502) = True := eq_true (by omega)
  have e6 : (status ≤ 504) = False := eq_false (by omega)
  have HN : Sl (numL (bytes r.b) = 400) := ⟨by rw [hr.num, if_neg (by omega)]⟩
  have hN4 : ((400 : Int) == status) = false := by simp; omega
  have C2 : Sl (∀ V a c, Below w.heap.size w V → FieldsAt V (.slice a r.fs.length c) r.fs → Calls Tryz.prog 32 #[.agg #[.string r.a, .string r.b, .string r.c, .slice a r.fs.length c]] V fun e w' => (∃ x y, e = .returned (.tuple #[.slice x (text r.hd).length y, .int .i64 0])) ∧ Sl (Below V.heap.size V w')) := ⟨fun V a c hB hF => (show_ex V V r _ (Below.refl _ _) (hg.of hB).h hF ⟨by have := hr.fw.a; unfold maxLen; omega, by have := hr.fw.b; unfold maxLen; omega, by have := hr.fw.c; unfold maxLen; omega⟩ (by have := hr.len; omega)).mono fun e w' ⟨h1, h2, _⟩ => by
    obtain ⟨x, y, he, _⟩ := showR_ok h1.out hr.chk
    exact ⟨⟨x, y, he⟩, h2⟩⟩
  have C3 : Sl (∀ V a c, FieldsAt V (.slice a r.fs.length c) r.fs → Calls Tryz.prog 36 #[.agg #[.string r.a, .string r.b, .string r.c, .slice a r.fs.length c], .string { data := #[99, 111, 110, 110, 101, 99, 116, 105, 111, 110] }] V fun e w' => (∃ x y, e = .returned (.slice x 1 y) ∧ Sl (StrA w' (.slice x 1 y) [bClose])) ∧ Sl (Below V.heap.size V w')) := ⟨fun V a c hF => (get_ex V V r _ { data := #[99, 111, 110, 110, 101, 99, 116, 105, 111, 110] } (Below.refl _ _) hF (by have := hr.fw.n; omega)).mono fun e w' ⟨x, y, h1, h2, h3, _⟩ => by
    rw [hr.one] at h1 h2
    exact ⟨⟨x, y, h1, h2⟩, h3⟩⟩
  have C4 : Sl (∀ V a c, Below w.heap.size w V → FieldsAt V (.slice a r.fs.length c) r.fs → Calls Tryz.prog 14 #[.agg #[.string r.a, .string r.b, .string r.c, .slice a r.fs.length c]] V fun e w' => e = .returned (.tuple #[.agg #[.string { data := #[] }, .string { data := #[] }, .string { data := #[] }, .string { data := #[] }, .slice none 0 0], .int .i64 405]) ∧ Sl (Below V.heap.size V w')) := ⟨fun V a c hB hF => (question_any r _ V (hg.of hB) hF hr.fw).mono fun e w' ⟨h1, h2⟩ => by
    refine ⟨?_, h2⟩
    rcases h1.out with ⟨_, he⟩ | ⟨h0, _⟩
    · rw [hr.stat] at he; exact he
    · rw [hr.stat] at h0; cases h0⟩
  have C5 : Sl (∀ V a c, Below w.heap.size w V → FieldsAt V (.slice a r.fs.length c) r.fs → Calls Tryz.prog 30 #[.agg #[.string r.a, .string r.b, .string r.c, .slice a r.fs.length c], .string { data := #[120] }, .slice none 0 0] V fun e w' => e = .returned (.tuple #[.string { data := #[] }, .int .i64 70]) ∧ Sl (Below V.heap.size V w')) := ⟨fun V a c hB hF => check_shake r _ { data := #[120] } [] _ V none hr.wrong (hg.of hB) hF hr.fw (by decide) (strA_nil V) (by decide)⟩
  obtain ⟨m, hm⟩ : ∃ m, (text r.hd).length = m := ⟨_, rfl⟩
  have hm0 : 0 < m := by
    rw [text, List.length_append] at hm
    rw [← hm]; show 0 < _ + 2; omega
  rw [hm] at C2
  have hs3 := hr.sz
  clear hg hr hm n400 n403 n404 n405 n426 n502 n503 n504 hh hz
  go_enter Tryz.func10, Tryz.ntmps10
  go_wp2_with fail
  refine (HC.out _ (below0 w)).mono ?_
  rintro e w1 ⟨HH, HB1⟩
  obtain ⟨a1, c1, rfl, hF1⟩ := HH.out
  have HF1 := Sl.mk hF1
  clear hF1 HH HC
  obtain ⟨w2, hw2⟩ : ∃ V, w1.alloc (.cells #[.string r.a, .string r.b, .string r.c, .slice a1 r.fs.length c1] 25) = V := ⟨_, rfl⟩
  have HB2 : Sl (Below w.heap.size w w2) := ⟨by rw [← hw2]; exact HB1.out.alloc HB1.out.size _⟩
  have HF2 : Sl (FieldsAt w2 (.slice a1 r.fs.length c1) r.fs) := ⟨by rw [← hw2]; exact HF1.out.below ((Below.refl _ _).alloc (Nat.le_refl _) _)⟩
  have HX2 : Sl (w2.heap[w1.heap.size]? = some (.cells #[.string r.a, .string r.b, .string r.c, .slice a1 r.fs.length c1] 25 (0, 0))) := ⟨by rw [← hw2]; exact alloc_new _ _ _ rfl⟩
  obtain ⟨p0, p1, p2, p3⟩ := head_cells HX2.out
  go_wp2_with fail
  clear hw2 p0 p1 p2 p3
  refine (C2.out _ _ _ HB2.out HF2.out).mono ?_
  rintro e w3 ⟨⟨x3, y3, rfl⟩, HE3⟩
  have HB3 := Sl.mk (below_trans HB2.out HE3.out)
  have HF3 := Sl.mk (HF2.out.below HE3.out)
  have HX3 := Sl.mk (box_below HX2.out HE3.out)
  clear HE3 HF2 HX2 HF1 HB2 HB1
  obtain ⟨p0, p1, p2, p3⟩ := head_cells HX3.out
  go_wp2_with fail
  go_loopw [7, 8] (fun n i wr => ∃ (k : Nat) (z : Int), k ≤ 3 ∧ i = .int .i64 k ∧ n = .int .i64 z ∧ 0 ≤ z ∧ z ≤ 999 ∧ (k = 0 → z = 0) ∧ (k ≤ 1 → z ≤ 9) ∧ (k ≤ 2 → z ≤ 99) ∧ Sl (z = numL ((bytes r.b).take k)) ∧ w3 = wr) (fun _ i _ => 3 - (intOf i).toNat)
  case atStart => exact ⟨0, 0, Nat.zero_le _, rfl, rfl, by omega, by omega, fun _ => rfl, fun _ => by omega, fun _ => by omega, ⟨rfl⟩, rfl⟩
  case round =>
    obtain ⟨k, z, hk, rfl, rfl, hz0, hz1, hz2, hz3, hz4, HZ, rfl⟩ := hrel
    by_cases hlt : k < r.b.size
    · obtain ⟨x, hx⟩ : ∃ x, (r.b[k]'hlt).toNat = x := ⟨_, rfl⟩
      have HXX : Sl ((bytes r.b).getD k 0 = x) := ⟨by rw [bytes_getD r.b k hlt, ← hx]; rfl⟩
      have hd := HR.out.dig k (by omega)
      rw [HXX.out] at hd
      obtain ⟨hd1, hd2⟩ := hd
      have hsub := u8_sub hd1 hd2
      have hlt3 : ((k : Int) < (r.b.size : Int)) = True := eq_true (by omega)
      have hz5 : z ≤ 99 := hz4 (by omega)
      go_wp2
      refine ⟨⟨k + 1, 10 * z + ((x : Int) - 48), by omega, by go_num, by go_num, by omega, by omega, fun h => by omega, fun h => by have := hz2 (by omega); omega, fun h => by have := hz3 (by omega); omega, ⟨?_⟩, trivial⟩, by simp [intOf]; omega⟩
      rw [numL_take (by rw [bytes_length]; exact hlt), HXX.out, ← HZ.out]
    · have hge : ((k : Int) < (r.b.size : Int)) = False := eq_false (by omega)
      have hzz : z = 400 := by rw [HZ.out, List.take_of_length_le (by rw [bytes_length]; omega)]; exact HN.out
      clear hz0 hz1 hz2 hz3 hz4 HZ
      subst hzz
      go_wp2_with fail
      refine (C3.out _ _ _ HF3.out).mono ?_
      rintro e w4 ⟨⟨x4, y4, rfl, HS4⟩, HE4⟩
      have HB4 := Sl.mk (below_trans HB3.out HE4.out)
      have HF4 := Sl.mk (HF3.out.below HE4.out)
      have HX4 := Sl.mk (box_below HX3.out HE4.out)
      clear p0 p1 p2 p3 HE4 HF3 HX3 HB3
      obtain ⟨p0, p1, p2, p3⟩ := head_cells HX4.out
      go_wp2_with fail
      refine (C4.out _ _ _ HB4.out HF4.out).mono ?_
      rintro e w5 ⟨rfl, HE5⟩
      have HB5' := Sl.mk (below_trans HB4.out HE5.out)
      have HF5' := Sl.mk (HF4.out.below HE5.out)
      have HX5' := Sl.mk (box_below HX4.out HE5.out)
      have HS5' := Sl.mk (HS4.out.below HE5.out)
      clear p0 p1 p2 p3 HE5 HF4 HX4 HB4 HS4
      obtain ⟨w6, hw6⟩ : ∃ V, w5.alloc (.cells #[.string { data := #[] }, .string { data := #[] }, .string { data := #[] }, .string { data := #[] }, .slice none 0 0] 30) = V := ⟨_, rfl⟩
      have HE6 : Sl (Below w5.heap.size w5 w6) := ⟨by rw [← hw6]; exact (Below.refl _ _).alloc (Nat.le_refl _) _⟩
      have HB6 := Sl.mk (below_trans HB5'.out HE6.out)
      have HF6 := Sl.mk (HF5'.out.below HE6.out)
      have HX6 := Sl.mk (box_below HX5'.out HE6.out)
      have HS6 := Sl.mk (HS5'.out.below HE6.out)
      obtain ⟨p0, p1, p2, p3⟩ := head_cells HX6.out
      have HO6 : Sl (w6.heap[w5.heap.size]? = some (.cells #[.string { data := #[] }, .string { data := #[] }, .string { data := #[] }, .string { data := #[] }, .slice none 0 0] 30 (0, 0))) := ⟨by rw [← hw6]; exact alloc_new _ _ _ rfl⟩
      obtain ⟨⟨z0, z1, z2, z3, z4⟩, ⟨f0, f1, f2, f3, f4⟩, ⟨s0, s1, s2, s3, s4⟩⟩ := offer_zero HO6.out
      go_wp2_with fail
      clear z0 z1 z2 z3 z4 f0 f1 f2 f3 f4 s0 s1 s2 s3 s4 HO6
      clear hw6 HE6 HB5' HF5' HX5' HS5'
      refine (C5.out _ _ _ HB6.out HF6.out).mono ?_
      rintro e w7 ⟨rfl, HE7⟩
      have HB7 := Sl.mk (below_trans HB6.out HE7.out)
      have HS7 := Sl.mk (HS6.out.below HE7.out)
      clear p0 p1 p2 p3 HF6 HX6 HS6
      go_wp2_with fail
      refine (awake_ex HB7.out HG.out).mono ?_
      rintro e w8 ⟨rfl, HE8, HB8⟩
      have HS8 := Sl.mk (HS7.out.below HE8.out)
      obtain ⟨ad, ca, sa, oa, heq, hca, haa, hcell⟩ := HS8.out
      injection heq with h1 h2 h3
      subst h1 h3
      clear h2
      obtain rfl := haa (by decide)
      have q0 : w8.cell? ⟨sa, oa, none⟩ = some (.string { data := #[99, 108, 111, 115, 101] }) := hcell 0 (by decide)
      clear hcell haa hca HS7 HS8
      go_wp2
      go_ret
      exact ⟨rfl, HB8⟩
theorem status_walk (status : Int) (w : World) (hg : GlobA w) (hz : -9223372036854775808 ≤ status ∧ status ≤ 9223372036854775807) :
    Calls Tryz.prog 10 #[.int .i64 status] w fun e w' => e = .returned (.bool true) ∧ Below w.heap.size w w' := by
  have fin : ∀ {e w'}, e = Ending.returned (.bool true) ∧ Sl (Below w.heap.size w w') → e = Ending.returned (.bool true) ∧ Below w.heap.size w w' := fun ⟨h1, h2⟩ => ⟨h1, h2.out⟩
  have HC : Sl (∀ V, Below w.heap.size w V → Calls Tryz.prog 18 #[.int .i64 status] V fun e w' => Sl (HeadR w' (refuseV status) e) ∧ Sl (Below V.heap.size V w')) := ⟨fun V hB => refusal_any status V (hg.of hB)⟩
  by_cases n400 : status = 400
  · subst n400; exact (status_400 _ (refd _) w hg HC).mono fun _ _ h => fin h
  by_cases n403 : status = 403
  · subst n403; exact (status_403 _ (refd _) w hg HC).mono fun _ _ h => fin h
  by_cases n404 : status = 404
  · subst n404; exact (status_404 _ (refd _) w hg HC).mono fun _ _ h => fin h
  by_cases n405 : status = 405
  · subst n405; exact (status_405 _ (refd _) w hg HC).mono fun _ _ h => fin h
  by_cases n426 : status = 426
  · subst n426; exact (status_426 _ (refd _) w hg HC).mono fun _ _ h => fin h
  by_cases n502 : status = 502
  · subst n502; exact (status_502 _ (refd _) w hg HC).mono fun _ _ h => fin h
  by_cases n503 : status = 503
  · subst n503; exact (status_503 _ (refd _) w hg HC).mono fun _ _ h => fin h
  by_cases n504 : status = 504
  · subst n504; exact (status_504 _ (refd _) w hg HC).mono fun _ _ h => fin h
  by_cases hl : status < 502
  · exact (status_low status n400 n403 n404 n405 n426 n502 n503 n504 hl hz.1 _ (refd _) w hg HC).mono fun _ _ h => fin h
  · exact (status_high status n400 n403 n404 n405 n426 n502 n503 n504 (by omega) hz.2 _ (refd _) w hg HC).mono fun _ _ h => fin h
end Go.Proofs.YthlagngpllahkaaGreatDoor
