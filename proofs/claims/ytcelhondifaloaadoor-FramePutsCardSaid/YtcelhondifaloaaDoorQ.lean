/- frame: FramePuts' walk. -/
import Derived.Test.YtcelhondifaloaaDoorP
import Derived.Test.YtcelhondifaloaaDoorM
set_option maxRecDepth 100000
namespace Go.Proofs.YtcelhondifaloaaDoor
open Go.RowKit MaskPlain FramePlain Mas

set_option maxHeartbeats 8000000 in
theorem puts_walk (fin : Bool) (op : Int) (m : Bool) (a b c d : Nat) (s more : ByteArray) (most : Int) (w : World) (hg : Globs w) (hk1 : Small 256 [a, b, c, d]) (hmo : -9223372036854775808 ≤ most ∧ most ≤ 9223372036854775807) : Calls Tryd.prog 3 #[.agg #[.bool fin, .int .i64 (op : Int), .bool m, .int .u8 ((a : Nat) : Int), .int .u8 ((b : Nat) : Int), .int .u8 ((c : Nat) : Int), .int .u8 ((d : Nat) : Int), .string s], .string more, .int .i64 most] w fun e w' => e = .returned (.bool true) ∧ Below w.heap.size w w' := by
  have HG := Sl.mk hg
  clear hg
  obtain ⟨w2, hw2⟩ : ∃ V, w.alloc (.cells #[.bool fin, .int .i64 (op : Int), .bool m, .int .u8 ((a : Nat) : Int), .int .u8 ((b : Nat) : Int), .int .u8 ((c : Nat) : Int), .int .u8 ((d : Nat) : Int), .string s] 24) = V := ⟨_, rfl⟩
  have HB2 : Sl (Below w.heap.size w w2) := ⟨by rw [← hw2]; exact (bx_below w _).out⟩
  have HY2 : Sl (w2.heap[w.heap.size]? = some (.cells #[.bool fin, .int .i64 (op : Int), .bool m, .int .u8 ((a : Nat) : Int), .int .u8 ((b : Nat) : Int), .int .u8 ((c : Nat) : Int), .int .u8 ((d : Nat) : Int), .string s] 24 (0, 0))) := ⟨by rw [← hw2]; exact bx_new _ _⟩
  by_cases hs : s.size > 70000
  · have hq : ((s.size : Int) > 70000) = True := eq_true (by omega)
    clear hs hmo
    go_enter Tryd.func3, Tryd.ntmps3
    go_wp2_with fail
    refine (awake_any w2 (HG.out.below HB2.out HG.out.size)).mono ?_
    rintro e w3 ⟨rfl, HX3⟩
    have HB3 : Sl (Below w.heap.size w w3) := ⟨HB2.out.trans (HX3.out.mono HB2.out.size)⟩
    have HY3 : Sl (w3.heap[w.heap.size]? = some (.cells #[.bool fin, .int .i64 (op : Int), .bool m, .int .u8 ((a : Nat) : Int), .int .u8 ((b : Nat) : Int), .int .u8 ((c : Nat) : Int), .int .u8 ((d : Nat) : Int), .string s] 24 (0, 0))) := ⟨below_key HY2.out HX3.out⟩
    clear HB2 HY2 HX3 hw2
    obtain ⟨c0, c1, c2, c3, c4, c5, c6, c7⟩ := bx8 HY3.out
    go_wp2_with fail
    refine (awake_any w3 (HG.out.below HB3.out HG.out.size)).mono ?_
    rintro e w4 ⟨rfl, HX4⟩
    have HB4 := HB3.out.trans (HX4.out.mono HB3.out.size)
    go_wp2
    go_ret
    exact ⟨rfl, HB4⟩
  have hq : ((s.size : Int) > 70000) = False := eq_false (by omega)
  by_cases hr : more.size > 100
  · have hqr : ((more.size : Int) > 100) = True := eq_true (by omega)
    clear hs hr hmo
    go_enter Tryd.func3, Tryd.ntmps3
    go_wp2_with fail
    refine (awake_any w2 (HG.out.below HB2.out HG.out.size)).mono ?_
    rintro e w3 ⟨rfl, HX3⟩
    have HB3 : Sl (Below w.heap.size w w3) := ⟨HB2.out.trans (HX3.out.mono HB2.out.size)⟩
    have HY3 : Sl (w3.heap[w.heap.size]? = some (.cells #[.bool fin, .int .i64 (op : Int), .bool m, .int .u8 ((a : Nat) : Int), .int .u8 ((b : Nat) : Int), .int .u8 ((c : Nat) : Int), .int .u8 ((d : Nat) : Int), .string s] 24 (0, 0))) := ⟨below_key HY2.out HX3.out⟩
    clear HB2 HY2 HX3 hw2
    obtain ⟨c0, c1, c2, c3, c4, c5, c6, c7⟩ := bx8 HY3.out
    go_wp2_with fail
    refine (awake_any w3 (HG.out.below HB3.out HG.out.size)).mono ?_
    rintro e w4 ⟨rfl, HX4⟩
    have HB4 := HB3.out.trans (HX4.out.mono HB3.out.size)
    go_wp2
    go_ret
    exact ⟨rfl, HB4⟩
  have hqr : ((more.size : Int) > 100) = False := eq_false (by omega)
  obtain ⟨k, hc1⟩ : ∃ k, chk (⟨fin, (op : Int), m, [a, b, c, d], bytes s⟩ : Fr) = k := ⟨_, rfl⟩
  have C12 : ∀ W, Calls Tryd.prog 12 #[.agg #[.bool fin, .int .i64 (op : Int), .bool m, .int .u8 ((a : Nat) : Int), .int .u8 ((b : Nat) : Int), .int .u8 ((c : Nat) : Int), .int .u8 ((d : Nat) : Int), .string s]] W fun e w' => e = .returned (.int .i64 (k : Int)) ∧ Sl (Below W.heap.size W w') := fun W => by have := refcheck_any fin op m a b c d s W hk1; rw [hc1] at this; exact this
  have C13 : ∀ W, Calls Tryd.prog 13 #[.agg #[.bool fin, .int .i64 (op : Int), .bool m, .int .u8 ((a : Nat) : Int), .int .u8 ((b : Nat) : Int), .int .u8 ((c : Nat) : Int), .int .u8 ((d : Nat) : Int), .string s]] W fun e w' => e = .returned (.int .i64 (k : Int)) ∧ Sl (Below W.heap.size W w') := fun W => by have := check_any fin op m a b c d s W hk1; rw [hc1] at this; exact this
  obtain ⟨ct, hct⟩ : ∃ ct, ctl op = ct := ⟨_, rfl⟩
  have C14 : ∀ W, Calls Tryd.prog 14 #[.int .i64 op] W fun e w' => e = .returned (.bool ct) ∧ W = w' := fun W => by rw [← hct]; exact control_any op W
  have C15 : ∀ W, Calls Tryd.prog 15 #[.int .i64 op] W fun e w' => e = .returned (.bool ct) ∧ W = w' := fun W => by rw [← hct]; exact refcontrol_any op W
  by_cases h01 : k = 0
  · subst h01
    rw [show ((0 : Nat) : Int) = 0 from rfl] at C12 C13
    obtain ⟨op, rfl⟩ := Int.eq_ofNat_of_zero_le (show 0 ≤ op by have h := (form_cases (chk_ok hc1).1).1; simp only at h; omega)
    have hln : s.size ≤ 65536 := by have := (chk_ok hc1).2; simpa only [bytes_length] using this
    obtain ⟨n, hn1⟩ : ∃ n, size (⟨fin, (op : Int), m, [a, b, c, d], bytes s⟩ : Fr) = n := ⟨_, rfl⟩
    obtain ⟨A, hT1⟩ : ∃ T, text (⟨fin, (op : Int), m, [a, b, c, d], bytes s⟩ : Fr) = T := ⟨_, rfl⟩
    have hdl1 : (bytes s).length ≤ 65536 := by rw [bytes_length]; omega
    have hlA : Sl (A.length = n) := ⟨by rw [← hT1, ← hn1]; exact text_length _ (by show (bytes _).length ≤ _; omega) rfl⟩
    have hAS : Small 256 A := by rw [← hT1]; exact text_small hc1 hk1 (bytes_small s)
    have hnb : n ≤ 65600 := by rw [← hn1]; unfold size; simp only [bytes_length]; split <;> split <;> (try split) <;> omega
    have P1 : ∀ W, Globs W → Calls Tryd.prog 11 #[.agg #[.bool fin, .int .i64 (op : Int), .bool m, .int .u8 ((a : Nat) : Int), .int .u8 ((b : Nat) : Int), .int .u8 ((c : Nat) : Int), .int .u8 ((d : Nat) : Int), .string s]] W fun e w' => ∃ g cap, e = .returned (.tuple #[.slice (some ⟨g, 0, none⟩) n cap, .int .i64 0]) ∧ Sl (SrcAt w' (.slice (some ⟨g, 0, none⟩) n cap) A) ∧ Sl (Below W.heap.size W w') := fun W hW => by
      have := putf_yes fin op m a b c d s n W hW hk1 hc1 hn1
      rw [hT1] at this
      exact this
    obtain ⟨SA, hSA⟩ : ∃ SA, strOf A = SA := ⟨_, rfl⟩
    have HSA := Sl.mk hSA
    have hSAz : SA.size = n := by rw [← hSA, strOf_size]; exact hlA.out
    have C17 : ∀ W, Calls Tryd.prog 17 #[.agg #[.bool fin, .int .i64 (op : Int), .bool m, .int .u8 ((a : Nat) : Int), .int .u8 ((b : Nat) : Int), .int .u8 ((c : Nat) : Int), .int .u8 ((d : Nat) : Int), .string s]] W fun e w' => e = .returned (.string SA) ∧ Sl (Below W.heap.size W w') := fun W => by have := reftext_any fin op m a b c d s W hk1 hc1; rw [hT1, hSA] at this; exact this
    have C18 : ∀ W, Globs W → Calls Tryd.prog 18 #[.agg #[.bool fin, .int .i64 (op : Int), .bool m, .int .u8 ((a : Nat) : Int), .int .u8 ((b : Nat) : Int), .int .u8 ((c : Nat) : Int), .int .u8 ((d : Nat) : Int), .string s]] W fun e w' => e = .returned (.int .i64 (n : Int)) ∧ Sl (Below W.heap.size W w') := fun W hW => by have := size_any fin (op : Int) m a b c d s W hW (by omega); rw [hn1] at this; exact this
    obtain ⟨N, hN⟩ : ∃ N, n + more.size = N := ⟨_, rfl⟩
    have hsz : (SA ++ more).size = N := by rw [ByteArray.size_append, hSAz, hN]
    have HBQ : Sl (bytes (SA ++ more) = A ++ bytes more) := ⟨by rw [bytes_append, ← hSA, bytes_strOf A hAS]⟩
    have hgt := get_text (chk_ok hc1).1 (show (bytes s).length ≤ 9223372036854775807 by omega) rfl (bytes more) most
    simp only at hgt
    rw [hT1, hn1, bytes_length] at hgt
    have hqss : (SA.toList == SA.toList) = true := by simp
    have hlQ : (A ++ bytes more).length = N := by rw [List.length_append, hlA.out, bytes_length]; exact hN
    by_cases ho : most < (s.size : Int)
    · have hqo : (most < (s.size : Int)) = True := eq_true ho
      rw [if_pos ho] at hgt
      have G1 : ∀ (W : World) g cap, Globs W → SrcAt W (.slice (some ⟨g, 0, none⟩) N cap) (A ++ bytes more) → Calls Tryd.prog 16 #[.slice (some ⟨g, 0, none⟩) N cap, .int .i64 most] W fun e w' => e = .returned (.tuple #[.agg #[.bool false, .int .i64 0, .bool false, .int .u8 0, .int .u8 0, .int .u8 0, .int .u8 0, .string { data := #[] }], .int .i64 0, .int .i64 92]) ∧ Sl (Below W.heap.size W w') := fun W g cap hW hv => by
        exact getf_err g 0 N cap (A ++ bytes more) most 92 W hW hv hlQ (hAS.append (bytes_small more)) (by omega) hmo.2 hgt
      clear hgt hc1 hT1 hn1 hdl1 hk1 hAS ho hct hmo hSA hlQ
      go_enter Tryd.func3, Tryd.ntmps3
      go_wp2_with fail
      refine (awake_any w2 (HG.out.below HB2.out HG.out.size)).mono ?_
      rintro e w3 ⟨rfl, HX3⟩
      have HB3 : Sl (Below w.heap.size w w3) := ⟨HB2.out.trans (HX3.out.mono HB2.out.size)⟩
      have HY3 : Sl (w3.heap[w.heap.size]? = some (.cells #[.bool fin, .int .i64 (op : Int), .bool m, .int .u8 ((a : Nat) : Int), .int .u8 ((b : Nat) : Int), .int .u8 ((c : Nat) : Int), .int .u8 ((d : Nat) : Int), .string s] 24 (0, 0))) := ⟨below_key HY2.out HX3.out⟩
      clear HB2 HY2 HX3 hw2
      obtain ⟨c0, c1, c2, c3, c4, c5, c6, c7⟩ := bx8 HY3.out
      go_wp2_with fail
      refine (P1 w3 (HG.out.below HB3.out HG.out.size)).mono ?_
      rintro e w4 ⟨g4, cap4, rfl, HS4, HX4⟩
      have HB4 : Sl (Below w.heap.size w w4) := ⟨HB3.out.trans (HX4.out.mono HB3.out.size)⟩
      have HY4 : Sl (w4.heap[w.heap.size]? = some (.cells #[.bool fin, .int .i64 (op : Int), .bool m, .int .u8 ((a : Nat) : Int), .int .u8 ((b : Nat) : Int), .int .u8 ((c : Nat) : Int), .int .u8 ((d : Nat) : Int), .string s] 24 (0, 0))) := ⟨below_key HY3.out HX4.out⟩
      clear c0 c1 c2 c3 c4 c5 c6 c7
      obtain ⟨c0, c1, c2, c3, c4, c5, c6, c7⟩ := bx8 HY4.out
      go_wp2_with fail
      refine (C12 w4).mono ?_
      rintro e w5 ⟨rfl, HX5⟩
      have HB5 : Sl (Below w.heap.size w w5) := ⟨HB4.out.trans (HX5.out.mono HB4.out.size)⟩
      have HY5 : Sl (w5.heap[w.heap.size]? = some (.cells #[.bool fin, .int .i64 (op : Int), .bool m, .int .u8 ((a : Nat) : Int), .int .u8 ((b : Nat) : Int), .int .u8 ((c : Nat) : Int), .int .u8 ((d : Nat) : Int), .string s] 24 (0, 0))) := ⟨below_key HY4.out HX5.out⟩
      clear c0 c1 c2 c3 c4 c5 c6 c7
      have HS5 := Sl.mk (HS4.out.below (Nat.le_refl _) HX5.out)
      clear HS4
      clear HX4 HX5
      go_upto_region 5 with fail
      obtain ⟨R, hR⟩ : ∃ R, w5.drew = R := ⟨_, rfl⟩
      have HS0 : Below w.heap.size w R ∧ R.heap[w.heap.size]? = some (.cells #[.bool fin, .int .i64 (op : Int), .bool m, .int .u8 ((a : Nat) : Int), .int .u8 ((b : Nat) : Int), .int .u8 ((c : Nat) : Int), .int .u8 ((d : Nat) : Int), .string s] 24 (0, 0)) := ⟨by rw [← hR]; exact HB5.out.drew, by rw [← hR]; exact HY5.out⟩
      have HSR := HS5.out.below (Nat.le_refl _) (show Below w5.heap.size w5 R by rw [← hR]; exact (Below.refl _ _).drew)
      refine wp_region_noPanic ?_
      refine wp_region_held (S := fun W => Below w.heap.size w W ∧ W.heap[w.heap.size]? = some (.cells #[.bool fin, .int .i64 (op : Int), .bool m, .int .u8 ((a : Nat) : Int), .int .u8 ((b : Nat) : Int), .int .u8 ((c : Nat) : Int), .int .u8 ((d : Nat) : Int), .string s] 24 (0, 0))) (by kernel_rfl) ?_
      change wpAnyH _ _ _ _ _ _ _ _ w5.drew
      rw [hR]
      clear hR
      refine heldTake (d := some 34) (op := .load 24 (Operand.tmp 3)) (g := none) 0 (.agg #[.bool fin, .int .i64 (op : Int), .bool m, .int .u8 ((a : Nat) : Int), .int .u8 ((b : Nat) : Int), .int .u8 ((c : Nat) : Int), .int .u8 ((d : Nat) : Int), .string s]) rfl (by kernel_rfl) (by kernel_rfl) (by kernel_rfl) (by kernel_rfl) ?y0g HS0 ?_
      case y0g => intro o' ho W hS; exact loadbox8 ho (by rfl) rfl hS.2
      simp only [Act.put, List.setIfInBounds_toArray, List.set_cons_zero, List.set_cons_succ]
      refine heldTake (d := some 36) (op := .move (Operand.tmp 9)) (g := none) 2 ?v2g rfl (by kernel_rfl) (by kernel_rfl) (by kernel_rfl) (by kernel_rfl) ?y2g HS0 ?_
      case y2g => intro o' ho W hS; simp only [execOp, ho]; go_simp; try rfl
      simp only [Act.put, List.setIfInBounds_toArray, List.set_cons_zero, List.set_cons_succ]
      refine heldCall (d := some 35) (op := .call { callee := Callee.value (Operand.func 13), args := #[Operand.tmp 34], argTypes := #[24] }) (g := none) 1 13 #[.agg #[.bool fin, .int .i64 (op : Int), .bool m, .int .u8 ((a : Nat) : Int), .int .u8 ((b : Nat) : Int), .int .u8 ((c : Nat) : Int), .int .u8 ((d : Nat) : Int), .string s]] rfl (by kernel_rfl) (by kernel_rfl) ?y1g ?_
      case y1g => intro o' ho; simp only [execOp, ho]; go_simp; try rfl
      refine (C13 R).mono ?_
      rintro e X ⟨rfl, HXX⟩
      have HS1 : Below w.heap.size w X ∧ X.heap[w.heap.size]? = some (.cells #[.bool fin, .int .i64 (op : Int), .bool m, .int .u8 ((a : Nat) : Int), .int .u8 ((b : Nat) : Int), .int .u8 ((c : Nat) : Int), .int .u8 ((d : Nat) : Int), .string s] 24 (0, 0)) := ⟨HS0.1.trans (HXX.out.mono HS0.1.size), below_key HS0.2 HXX.out⟩
      refine ⟨_, rfl, HS1, ?_⟩
      simp only [Act.put, List.setIfInBounds_toArray, List.set_cons_zero, List.set_cons_succ]
      refine heldTake (d := some 37) (op := .binOp BinOp.neq 27 (Operand.tmp 35) (Operand.tmp 36) 27) (g := none) 3 ?v3g rfl (by kernel_rfl) (by kernel_rfl) (by kernel_rfl) (by kernel_rfl) ?y3g HS1 ?_
      case y3g => intro o' ho W hS; simp only [execOp, ho]; go_simp; try rfl
      simp only [Act.put, List.setIfInBounds_toArray, List.set_cons_zero, List.set_cons_succ]
      refine heldTake (d := some 38) (op := .move (Operand.tmp 37)) (g := none) 4 ?v4g rfl (by kernel_rfl) (by kernel_rfl) (by kernel_rfl) (by kernel_rfl) ?y4g HS1 ?_
      case y4g => intro o' ho W hS; simp only [execOp, ho]; go_simp; try rfl
      simp only [Act.put, List.setIfInBounds_toArray, List.set_cons_zero, List.set_cons_succ]
      refine heldTake (d := some 39) (op := .fieldAddr 24 (Operand.tmp 3) 1) (g := some (4, false)) 5 ?v5g rfl (by kernel_rfl) (by kernel_rfl) (by kernel_rfl) (by kernel_rfl) ?y5g HS1 ?_
      case y5g => intro o' ho W hS; simp only [execOp, ho]; go_simp; try rfl
      simp only [Act.put, List.setIfInBounds_toArray, List.set_cons_zero, List.set_cons_succ]
      refine heldTake (d := some 40) (op := .load 3 (Operand.tmp 39)) (g := some (4, false)) 6 ?v6g rfl (by kernel_rfl) (by kernel_rfl) (by kernel_rfl) (by kernel_rfl) ?y6g HS1 ?_
      case y6g => intro o' ho W hS; obtain ⟨e0, e1, e2, e3, e4, e5, e6, e7⟩ := bx8 hS.2; simp only [execOp, ho]; go_simp; try rfl
      simp only [Act.put, List.setIfInBounds_toArray, List.set_cons_zero, List.set_cons_succ]
      refine heldTake (d := some 42) (op := .fieldAddr 24 (Operand.tmp 3) 1) (g := some (4, false)) 8 ?v8g rfl (by kernel_rfl) (by kernel_rfl) (by kernel_rfl) (by kernel_rfl) ?y8g HS1 ?_
      case y8g => intro o' ho W hS; simp only [execOp, ho]; go_simp; try rfl
      simp only [Act.put, List.setIfInBounds_toArray, List.set_cons_zero, List.set_cons_succ]
      refine heldTake (d := some 43) (op := .load 3 (Operand.tmp 42)) (g := some (4, false)) 9 ?v9g rfl (by kernel_rfl) (by kernel_rfl) (by kernel_rfl) (by kernel_rfl) ?y9g HS1 ?_
      case y9g => intro o' ho W hS; obtain ⟨e0, e1, e2, e3, e4, e5, e6, e7⟩ := bx8 hS.2; simp only [execOp, ho]; go_simp; try rfl
      simp only [Act.put, List.setIfInBounds_toArray, List.set_cons_zero, List.set_cons_succ]
      refine heldCall (d := some 41) (op := .call { callee := Callee.value (Operand.func 14), args := #[Operand.tmp 40], argTypes := #[3] }) (g := some (4, false)) 7 14 #[.int .i64 (op : Int)] rfl (by kernel_rfl) (by kernel_rfl) ?y7g ?_
      case y7g => intro o' ho; simp only [execOp, ho]; go_simp; try rfl
      refine (C14 X).mono ?_
      rintro e w9 ⟨rfl, rfl⟩
      refine ⟨_, rfl, HS1, ?_⟩
      simp only [Act.put, List.setIfInBounds_toArray, List.set_cons_zero, List.set_cons_succ]
      refine heldCall (d := some 44) (op := .call { callee := Callee.value (Operand.func 15), args := #[Operand.tmp 43], argTypes := #[3] }) (g := some (4, false)) 10 15 #[.int .i64 (op : Int)] rfl (by kernel_rfl) (by kernel_rfl) ?y10g ?_
      case y10g => intro o' ho; simp only [execOp, ho]; go_simp; try rfl
      refine (C15 X).mono ?_
      rintro e w9 ⟨rfl, rfl⟩
      refine ⟨_, rfl, HS1, ?_⟩
      simp only [Act.put, List.setIfInBounds_toArray, List.set_cons_zero, List.set_cons_succ]
      refine heldTake (d := some 45) (op := .binOp BinOp.neq 4 (Operand.tmp 41) (Operand.tmp 44) 4) (g := some (4, false)) 11 ?v11g rfl (by kernel_rfl) (by kernel_rfl) (by kernel_rfl) (by kernel_rfl) ?y11g HS1 ?_
      case y11g => intro o' ho W hS; simp only [execOp, ho]; go_simp; try rfl
      simp only [Act.put, List.setIfInBounds_toArray, List.set_cons_zero, List.set_cons_succ]
      refine heldTake (d := some 46) (op := .pick (Operand.tmp 38) (Operand.const (Value.bool true)) (Operand.tmp 45)) (g := none) 12 ?v12g rfl (by kernel_rfl) (by kernel_rfl) (by kernel_rfl) (by kernel_rfl) ?y12g HS1 ?_
      case y12g => intro o' ho W hS; simp only [execOp, ho]; go_simp; try rfl
      simp only [Act.put, List.setIfInBounds_toArray, List.set_cons_zero, List.set_cons_succ]
      refine wpAnyH_done (by kernel_rfl) ?_ _
      refine NoPanic.normal ?_
      have HB6 := Sl.mk HS1.1
      have HY6 := Sl.mk HS1.2
      have HS6 := Sl.mk (HSR.below (Nat.le_refl _) HXX.out)
      clear HSR HS5 HB5 HY5
      clear HS0 HS1 HXX
      have hc1 := HS6.out.conv
      rw [HSA.out] at hc1
      obtain ⟨cap7, w7, hc2, HS7, HX7⟩ := conv_str (SA ++ more) X
      rw [hsz] at hc2 HS7
      rw [HBQ.out] at HS7
      have HB7 : Sl (Below w.heap.size w w7) := ⟨HB6.out.trans (HX7.out.mono HB6.out.size)⟩
      have HY7 : Sl (w7.heap[w.heap.size]? = some (.cells #[.bool fin, .int .i64 (op : Int), .bool m, .int .u8 ((a : Nat) : Int), .int .u8 ((b : Nat) : Int), .int .u8 ((c : Nat) : Int), .int .u8 ((d : Nat) : Int), .string s] 24 (0, 0))) := ⟨below_key HY6.out HX7.out⟩
      have HS67 := Sl.mk (HS6.out.below (Nat.le_refl _) HX7.out)
      clear HS6 HX7
      go_wp2_with fail
      refine (G1 w7 _ _ (HG.out.below HB7.out HG.out.size) HS7.out).mono ?_
      rintro e w8 ⟨rfl, HX8⟩
      have HB8 : Sl (Below w.heap.size w w8) := ⟨HB7.out.trans (HX8.out.mono HB7.out.size)⟩
      have HY8 : Sl (w8.heap[w.heap.size]? = some (.cells #[.bool fin, .int .i64 (op : Int), .bool m, .int .u8 ((a : Nat) : Int), .int .u8 ((b : Nat) : Int), .int .u8 ((c : Nat) : Int), .int .u8 ((d : Nat) : Int), .string s] 24 (0, 0))) := ⟨below_key HY7.out HX8.out⟩
      have HS8 := Sl.mk (HS67.out.below (Nat.le_refl _) HX8.out)
      clear HS67 HX8 HS7 hc1 hc2
      obtain ⟨xb, hxb⟩ : ∃ xb, w8.heap.size = xb := ⟨_, rfl⟩
      obtain ⟨w9, hw9⟩ : ∃ V, (w8.alloc (.cells #[.bool false, .int .i64 0, .bool false, .int .u8 0, .int .u8 0, .int .u8 0, .int .u8 0, .string { data := #[] }] 24)).setRow w8.heap.size #[.bool false, .int .i64 0, .bool false, .int .u8 0, .int .u8 0, .int .u8 0, .int .u8 0, .string { data := #[] }] = V := ⟨_, rfl⟩
      have HXw9 : Sl (Below w8.heap.size w8 w9) := ⟨by rw [← hw9]; exact laid_self w8 #[.bool false, .int .i64 0, .bool false, .int .u8 0, .int .u8 0, .int .u8 0, .int .u8 0, .string { data := #[] }]⟩
      have HBw9 : Sl (Below w.heap.size w w9) := ⟨HB8.out.trans (HXw9.out.mono HB8.out.size)⟩
      have HYw9 : Sl (w9.heap[w8.heap.size]? = some (.cells #[.bool false, .int .i64 0, .bool false, .int .u8 0, .int .u8 0, .int .u8 0, .int .u8 0, .string { data := #[] }] 24 (0, 0))) := ⟨by rw [← hw9]; exact (laid_fr #[.bool false, .int .i64 0, .bool false, .int .u8 0, .int .u8 0, .int .u8 0, .int .u8 0, .string { data := #[] }] (Below.refl _ _)).2⟩
      have HIw9 := fr_info (cs := #[.bool false, .int .i64 0, .bool false, .int .u8 0, .int .u8 0, .int .u8 0, .int .u8 0, .string { data := #[] }]) rfl
      have HY9 : Sl (w9.heap[w.heap.size]? = some (.cells #[.bool fin, .int .i64 (op : Int), .bool m, .int .u8 ((a : Nat) : Int), .int .u8 ((b : Nat) : Int), .int .u8 ((c : Nat) : Int), .int .u8 ((d : Nat) : Int), .string s] 24 (0, 0))) := ⟨below_key HY8.out HXw9.out⟩
      have HS9 := Sl.mk (HS8.out.below (Nat.le_refl _) HXw9.out)
      have hbn := bx_new w8 #[.bool false, .int .i64 0, .bool false, .int .u8 0, .int .u8 0, .int .u8 0, .int .u8 0, .string { data := #[] }]
      rw [hxb] at HYw9 hw9 hbn
      clear HXw9 HS8
      go_upto_region 10 with (refine wpList_store_row rfl 24 (.tmp 10) (.tmp 65) rfl xb #[.bool false, .int .i64 0, .bool false, .int .u8 0, .int .u8 0, .int .u8 0, .int .u8 0, .string { data := #[] }] (by rw [← hxb]; rfl) rfl 24 #[.bool false, .int .i64 0, .bool false, .int .u8 0, .int .u8 0, .int .u8 0, .int .u8 0, .string { data := #[] }] hbn HIw9 rfl (fr_all _ _ _ _ _ _ _ _) ?_)
      obtain ⟨R, hR⟩ : ∃ R, w9.drew = R := ⟨_, rfl⟩
      have HS0 : Below w.heap.size w R ∧ R.heap[w.heap.size]? = some (.cells #[.bool fin, .int .i64 (op : Int), .bool m, .int .u8 ((a : Nat) : Int), .int .u8 ((b : Nat) : Int), .int .u8 ((c : Nat) : Int), .int .u8 ((d : Nat) : Int), .string s] 24 (0, 0)) ∧ R.heap[xb]? = some (.cells #[.bool false, .int .i64 0, .bool false, .int .u8 0, .int .u8 0, .int .u8 0, .int .u8 0, .string { data := #[] }] 24 (0, 0)) ∧ SrcAt R (.slice (some ⟨g4, 0, none⟩) n cap4) A := ⟨by rw [← hR]; exact HBw9.out.drew, by rw [← hR]; exact HY9.out, by rw [← hR]; exact HYw9.out, by rw [← hR]; exact HS9.out.below (Nat.le_refl _) (Below.refl _ _).drew⟩
      refine wp_region_noPanic ?_
      refine wp_region_held (S := fun W => Below w.heap.size w W ∧ W.heap[w.heap.size]? = some (.cells #[.bool fin, .int .i64 (op : Int), .bool m, .int .u8 ((a : Nat) : Int), .int .u8 ((b : Nat) : Int), .int .u8 ((c : Nat) : Int), .int .u8 ((d : Nat) : Int), .string s] 24 (0, 0)) ∧ W.heap[xb]? = some (.cells #[.bool false, .int .i64 0, .bool false, .int .u8 0, .int .u8 0, .int .u8 0, .int .u8 0, .string { data := #[] }] 24 (0, 0)) ∧ SrcAt W (.slice (some ⟨g4, 0, none⟩) n cap4) A) (by kernel_rfl) ?_
      change wpAnyH _ _ _ _ _ _ _ _ w9.drew
      rw [hR]
      clear hR HBw9 HY9 HYw9 HS9 hw9 HIw9 hbn
      refine heldTake (d := some 68) (op := .move (Operand.tmp 8)) (g := none) 0 ?v0gt rfl (by kernel_rfl) (by kernel_rfl) (by kernel_rfl) (by kernel_rfl) ?y0gt HS0 ?_
      case y0gt => intro o' ho W hS; simp only [execOp, ho]; go_simp; try rfl
      simp only [Act.put, List.setIfInBounds_toArray, List.set_cons_zero, List.set_cons_succ]
      refine heldTake (d := some 69) (op := .binOp BinOp.neq 27 (Operand.tmp 68) (Operand.const (Value.int IntKind.i64 0)) 27) (g := none) 1 ?v1gt rfl (by kernel_rfl) (by kernel_rfl) (by kernel_rfl) (by kernel_rfl) ?y1gt HS0 ?_
      case y1gt => intro o' ho W hS; simp only [execOp, ho]; go_simp; try rfl
      simp only [Act.put, List.setIfInBounds_toArray, List.set_cons_zero, List.set_cons_succ]
      refine heldTake (d := some 70) (op := .move (Operand.tmp 69)) (g := none) 2 ?v2gt rfl (by kernel_rfl) (by kernel_rfl) (by kernel_rfl) (by kernel_rfl) ?y2gt HS0 ?_
      case y2gt => intro o' ho W hS; simp only [execOp, ho]; go_simp; try rfl
      simp only [Act.put, List.setIfInBounds_toArray, List.set_cons_zero, List.set_cons_succ]
      refine heldTake (d := some 71) (op := .move (Operand.tmp 7)) (g := some (2, false)) 3 ?v3gt rfl (by kernel_rfl) (by kernel_rfl) (by kernel_rfl) (by kernel_rfl) ?y3gt HS0 ?_
      case y3gt => intro o' ho W hS; simp only [execOp, ho]; go_simp; try rfl
      simp only [Act.put, List.setIfInBounds_toArray, List.set_cons_zero, List.set_cons_succ]
      refine heldTake (d := some 72) (op := .convert 26 9 (Operand.tmp 71)) (g := some (2, false)) 4 (.string SA) rfl (by kernel_rfl) (by kernel_rfl) (by kernel_rfl) (by kernel_rfl) ?y4gt HS0 ?_
      case y4gt => intro o' ho W hS; exact conv_run ho (by rfl) (by rw [← HSA.out]; exact hS.2.2.2.conv)
      simp only [Act.put, List.setIfInBounds_toArray, List.set_cons_zero, List.set_cons_succ]
      refine heldTake (d := some 73) (op := .load 24 (Operand.tmp 3)) (g := some (2, false)) 5 (.agg #[.bool fin, .int .i64 (op : Int), .bool m, .int .u8 ((a : Nat) : Int), .int .u8 ((b : Nat) : Int), .int .u8 ((c : Nat) : Int), .int .u8 ((d : Nat) : Int), .string s]) rfl (by kernel_rfl) (by kernel_rfl) (by kernel_rfl) (by kernel_rfl) ?y5gt HS0 ?_
      case y5gt => intro o' ho W hS; exact loadbox8 ho (by rfl) rfl hS.2.1
      simp only [Act.put, List.setIfInBounds_toArray, List.set_cons_zero, List.set_cons_succ]
      refine heldCall (d := some 74) (op := .call { callee := Callee.value (Operand.func 17), args := #[Operand.tmp 73], argTypes := #[24] }) (g := some (2, false)) 6 17 #[.agg #[.bool fin, .int .i64 (op : Int), .bool m, .int .u8 ((a : Nat) : Int), .int .u8 ((b : Nat) : Int), .int .u8 ((c : Nat) : Int), .int .u8 ((d : Nat) : Int), .string s]] rfl (by kernel_rfl) (by kernel_rfl) ?y6gt ?_
      case y6gt => intro o' ho; simp only [execOp, ho]; go_simp; try rfl
      refine (C17 R).mono ?_
      rintro e Y ⟨rfl, HXY⟩
      have HS1 : Below w.heap.size w Y ∧ Y.heap[w.heap.size]? = some (.cells #[.bool fin, .int .i64 (op : Int), .bool m, .int .u8 ((a : Nat) : Int), .int .u8 ((b : Nat) : Int), .int .u8 ((c : Nat) : Int), .int .u8 ((d : Nat) : Int), .string s] 24 (0, 0)) ∧ Y.heap[xb]? = some (.cells #[.bool false, .int .i64 0, .bool false, .int .u8 0, .int .u8 0, .int .u8 0, .int .u8 0, .string { data := #[] }] 24 (0, 0)) ∧ SrcAt Y (.slice (some ⟨g4, 0, none⟩) n cap4) A := ⟨HS0.1.trans (HXY.out.mono HS0.1.size), below_key HS0.2.1 HXY.out, below_key HS0.2.2.1 HXY.out, HS0.2.2.2.below (Nat.le_refl _) HXY.out⟩
      refine ⟨_, rfl, HS1, ?_⟩
      simp only [Act.put, List.setIfInBounds_toArray, List.set_cons_zero, List.set_cons_succ]
      refine heldTake (d := some 75) (op := .binOp BinOp.neq 9 (Operand.tmp 72) (Operand.tmp 74) 9) (g := some (2, false)) 7 ?v7gt rfl (by kernel_rfl) (by kernel_rfl) (by kernel_rfl) (by kernel_rfl) ?y7gt HS1 ?_
      case y7gt => intro o' ho W hS; simp only [execOp, ho]; go_simp; try rfl
      simp only [Act.put, List.setIfInBounds_toArray, List.set_cons_zero, List.set_cons_succ]
      refine heldTake (d := some 76) (op := .pick (Operand.tmp 70) (Operand.const (Value.bool true)) (Operand.tmp 75)) (g := none) 8 ?v8gt rfl (by kernel_rfl) (by kernel_rfl) (by kernel_rfl) (by kernel_rfl) ?y8gt HS1 ?_
      case y8gt => intro o' ho W hS; simp only [execOp, ho]; go_simp; try rfl
      simp only [Act.put, List.setIfInBounds_toArray, List.set_cons_zero, List.set_cons_succ]
      refine heldTake (d := some 77) (op := .move (Operand.tmp 76)) (g := none) 9 ?v9gt rfl (by kernel_rfl) (by kernel_rfl) (by kernel_rfl) (by kernel_rfl) ?y9gt HS1 ?_
      case y9gt => intro o' ho W hS; simp only [execOp, ho]; go_simp; try rfl
      simp only [Act.put, List.setIfInBounds_toArray, List.set_cons_zero, List.set_cons_succ]
      refine heldTake (d := some 78) (op := .load 24 (Operand.tmp 3)) (g := some (9, false)) 10 (.agg #[.bool fin, .int .i64 (op : Int), .bool m, .int .u8 ((a : Nat) : Int), .int .u8 ((b : Nat) : Int), .int .u8 ((c : Nat) : Int), .int .u8 ((d : Nat) : Int), .string s]) rfl (by kernel_rfl) (by kernel_rfl) (by kernel_rfl) (by kernel_rfl) ?y10gt HS1 ?_
      case y10gt => intro o' ho W hS; exact loadbox8 ho (by rfl) rfl hS.2.1
      simp only [Act.put, List.setIfInBounds_toArray, List.set_cons_zero, List.set_cons_succ]
      refine heldTake (d := some 80) (op := .move (Operand.tmp 7)) (g := some (9, false)) 12 ?v12gt rfl (by kernel_rfl) (by kernel_rfl) (by kernel_rfl) (by kernel_rfl) ?y12gt HS1 ?_
      case y12gt => intro o' ho W hS; simp only [execOp, ho]; go_simp; try rfl
      simp only [Act.put, List.setIfInBounds_toArray, List.set_cons_zero, List.set_cons_succ]
      refine heldTake (d := some 81) (op := .call { callee := Callee.builtin Builtin.len, args := #[Operand.tmp 80], argTypes := #[26] }) (g := some (9, false)) 13 ?v13gt rfl (by kernel_rfl) (by kernel_rfl) (by kernel_rfl) (by kernel_rfl) ?y13gt HS1 ?_
      case y13gt => intro o' ho W hS; simp only [execOp, ho]; go_simp; try rfl
      simp only [Act.put, List.setIfInBounds_toArray, List.set_cons_zero, List.set_cons_succ]
      refine heldCall (d := some 79) (op := .call { callee := Callee.value (Operand.func 18), args := #[Operand.tmp 78], argTypes := #[24] }) (g := some (9, false)) 11 18 #[.agg #[.bool fin, .int .i64 (op : Int), .bool m, .int .u8 ((a : Nat) : Int), .int .u8 ((b : Nat) : Int), .int .u8 ((c : Nat) : Int), .int .u8 ((d : Nat) : Int), .string s]] rfl (by kernel_rfl) (by kernel_rfl) ?y11gt ?_
      case y11gt => intro o' ho; simp only [execOp, ho]; go_simp; try rfl
      refine (C18 Y (HG.out.below HS1.1 HG.out.size)).mono ?_
      rintro e Z ⟨rfl, HXZ⟩
      have HS2 : Below w.heap.size w Z ∧ Z.heap[w.heap.size]? = some (.cells #[.bool fin, .int .i64 (op : Int), .bool m, .int .u8 ((a : Nat) : Int), .int .u8 ((b : Nat) : Int), .int .u8 ((c : Nat) : Int), .int .u8 ((d : Nat) : Int), .string s] 24 (0, 0)) ∧ Z.heap[xb]? = some (.cells #[.bool false, .int .i64 0, .bool false, .int .u8 0, .int .u8 0, .int .u8 0, .int .u8 0, .string { data := #[] }] 24 (0, 0)) ∧ SrcAt Z (.slice (some ⟨g4, 0, none⟩) n cap4) A := ⟨HS1.1.trans (HXZ.out.mono HS1.1.size), below_key HS1.2.1 HXZ.out, below_key HS1.2.2.1 HXZ.out, HS1.2.2.2.below (Nat.le_refl _) HXZ.out⟩
      refine ⟨_, rfl, HS2, ?_⟩
      simp only [Act.put, List.setIfInBounds_toArray, List.set_cons_zero, List.set_cons_succ]
      refine heldTake (d := some 82) (op := .binOp BinOp.neq 3 (Operand.tmp 79) (Operand.tmp 81) 3) (g := some (9, false)) 14 ?v14gt rfl (by kernel_rfl) (by kernel_rfl) (by kernel_rfl) (by kernel_rfl) ?y14gt HS2 ?_
      case y14gt => intro o' ho W hS; simp only [execOp, ho]; go_simp; try rfl
      simp only [Act.put, List.setIfInBounds_toArray, List.set_cons_zero, List.set_cons_succ]
      refine heldTake (d := some 83) (op := .pick (Operand.tmp 77) (Operand.const (Value.bool true)) (Operand.tmp 82)) (g := none) 15 ?v15gt rfl (by kernel_rfl) (by kernel_rfl) (by kernel_rfl) (by kernel_rfl) ?y15gt HS2 ?_
      case y15gt => intro o' ho W hS; simp only [execOp, ho]; go_simp; try rfl
      simp only [Act.put, List.setIfInBounds_toArray, List.set_cons_zero, List.set_cons_succ]
      refine wpAnyH_done (by kernel_rfl) ?_ _
      refine NoPanic.normal ?_
      obtain ⟨c0, c1, c2, c3, c4, c5, c6, c7⟩ := bx8 HS2.2.1
      obtain ⟨x0, x1, x2, x3, x4, x5, x6, x7⟩ := bx8 HS2.2.2.1
      go_wp2
      go_ret
      exact ⟨rfl, HS2.1⟩
    · have hqo : (most < (s.size : Int)) = False := eq_false ho
      rw [if_neg ho] at hgt
      have G1 : ∀ (W : World) g cap, Globs W → SrcAt W (.slice (some ⟨g, 0, none⟩) N cap) (A ++ bytes more) → Calls Tryd.prog 16 #[.slice (some ⟨g, 0, none⟩) N cap, .int .i64 most] W fun e w' => e = .returned (.tuple #[.agg #[.bool fin, .int .i64 (op : Int), .bool m, .int .u8 ((a : Nat) : Int), .int .u8 ((b : Nat) : Int), .int .u8 ((c : Nat) : Int), .int .u8 ((d : Nat) : Int), .string s], .int .i64 (n : Int), .int .i64 0]) ∧ Sl (Below W.heap.size W w') := fun W g cap hW hv => by
        have := getf_ex g 0 N cap (A ++ bytes more) most fin (op : Int) m a b c d (bytes s) n 0 W hW hv hlQ (hAS.append (bytes_small more)) (by omega) hmo.2 hgt
        rw [strOf_bytes] at this
        exact this
      have heq := eq_same fin (op : Int) m a b c d s hk1
      clear hgt hc1 hT1 hn1 hdl1 hk1 hAS ho hct hmo hSA hlQ
      go_enter Tryd.func3, Tryd.ntmps3
      go_wp2_with fail
      refine (awake_any w2 (HG.out.below HB2.out HG.out.size)).mono ?_
      rintro e w3 ⟨rfl, HX3⟩
      have HB3 : Sl (Below w.heap.size w w3) := ⟨HB2.out.trans (HX3.out.mono HB2.out.size)⟩
      have HY3 : Sl (w3.heap[w.heap.size]? = some (.cells #[.bool fin, .int .i64 (op : Int), .bool m, .int .u8 ((a : Nat) : Int), .int .u8 ((b : Nat) : Int), .int .u8 ((c : Nat) : Int), .int .u8 ((d : Nat) : Int), .string s] 24 (0, 0))) := ⟨below_key HY2.out HX3.out⟩
      clear HB2 HY2 HX3 hw2
      obtain ⟨c0, c1, c2, c3, c4, c5, c6, c7⟩ := bx8 HY3.out
      go_wp2_with fail
      refine (P1 w3 (HG.out.below HB3.out HG.out.size)).mono ?_
      rintro e w4 ⟨g4, cap4, rfl, HS4, HX4⟩
      have HB4 : Sl (Below w.heap.size w w4) := ⟨HB3.out.trans (HX4.out.mono HB3.out.size)⟩
      have HY4 : Sl (w4.heap[w.heap.size]? = some (.cells #[.bool fin, .int .i64 (op : Int), .bool m, .int .u8 ((a : Nat) : Int), .int .u8 ((b : Nat) : Int), .int .u8 ((c : Nat) : Int), .int .u8 ((d : Nat) : Int), .string s] 24 (0, 0))) := ⟨below_key HY3.out HX4.out⟩
      clear c0 c1 c2 c3 c4 c5 c6 c7
      obtain ⟨c0, c1, c2, c3, c4, c5, c6, c7⟩ := bx8 HY4.out
      go_wp2_with fail
      refine (C12 w4).mono ?_
      rintro e w5 ⟨rfl, HX5⟩
      have HB5 : Sl (Below w.heap.size w w5) := ⟨HB4.out.trans (HX5.out.mono HB4.out.size)⟩
      have HY5 : Sl (w5.heap[w.heap.size]? = some (.cells #[.bool fin, .int .i64 (op : Int), .bool m, .int .u8 ((a : Nat) : Int), .int .u8 ((b : Nat) : Int), .int .u8 ((c : Nat) : Int), .int .u8 ((d : Nat) : Int), .string s] 24 (0, 0))) := ⟨below_key HY4.out HX5.out⟩
      clear c0 c1 c2 c3 c4 c5 c6 c7
      have HS5 := Sl.mk (HS4.out.below (Nat.le_refl _) HX5.out)
      clear HS4
      clear HX4 HX5
      go_upto_region 5 with fail
      obtain ⟨R, hR⟩ : ∃ R, w5.drew = R := ⟨_, rfl⟩
      have HS0 : Below w.heap.size w R ∧ R.heap[w.heap.size]? = some (.cells #[.bool fin, .int .i64 (op : Int), .bool m, .int .u8 ((a : Nat) : Int), .int .u8 ((b : Nat) : Int), .int .u8 ((c : Nat) : Int), .int .u8 ((d : Nat) : Int), .string s] 24 (0, 0)) := ⟨by rw [← hR]; exact HB5.out.drew, by rw [← hR]; exact HY5.out⟩
      have HSR := HS5.out.below (Nat.le_refl _) (show Below w5.heap.size w5 R by rw [← hR]; exact (Below.refl _ _).drew)
      refine wp_region_noPanic ?_
      refine wp_region_held (S := fun W => Below w.heap.size w W ∧ W.heap[w.heap.size]? = some (.cells #[.bool fin, .int .i64 (op : Int), .bool m, .int .u8 ((a : Nat) : Int), .int .u8 ((b : Nat) : Int), .int .u8 ((c : Nat) : Int), .int .u8 ((d : Nat) : Int), .string s] 24 (0, 0))) (by kernel_rfl) ?_
      change wpAnyH _ _ _ _ _ _ _ _ w5.drew
      rw [hR]
      clear hR
      refine heldTake (d := some 34) (op := .load 24 (Operand.tmp 3)) (g := none) 0 (.agg #[.bool fin, .int .i64 (op : Int), .bool m, .int .u8 ((a : Nat) : Int), .int .u8 ((b : Nat) : Int), .int .u8 ((c : Nat) : Int), .int .u8 ((d : Nat) : Int), .string s]) rfl (by kernel_rfl) (by kernel_rfl) (by kernel_rfl) (by kernel_rfl) ?y0h HS0 ?_
      case y0h => intro o' ho W hS; exact loadbox8 ho (by rfl) rfl hS.2
      simp only [Act.put, List.setIfInBounds_toArray, List.set_cons_zero, List.set_cons_succ]
      refine heldTake (d := some 36) (op := .move (Operand.tmp 9)) (g := none) 2 ?v2h rfl (by kernel_rfl) (by kernel_rfl) (by kernel_rfl) (by kernel_rfl) ?y2h HS0 ?_
      case y2h => intro o' ho W hS; simp only [execOp, ho]; go_simp; try rfl
      simp only [Act.put, List.setIfInBounds_toArray, List.set_cons_zero, List.set_cons_succ]
      refine heldCall (d := some 35) (op := .call { callee := Callee.value (Operand.func 13), args := #[Operand.tmp 34], argTypes := #[24] }) (g := none) 1 13 #[.agg #[.bool fin, .int .i64 (op : Int), .bool m, .int .u8 ((a : Nat) : Int), .int .u8 ((b : Nat) : Int), .int .u8 ((c : Nat) : Int), .int .u8 ((d : Nat) : Int), .string s]] rfl (by kernel_rfl) (by kernel_rfl) ?y1h ?_
      case y1h => intro o' ho; simp only [execOp, ho]; go_simp; try rfl
      refine (C13 R).mono ?_
      rintro e X ⟨rfl, HXX⟩
      have HS1 : Below w.heap.size w X ∧ X.heap[w.heap.size]? = some (.cells #[.bool fin, .int .i64 (op : Int), .bool m, .int .u8 ((a : Nat) : Int), .int .u8 ((b : Nat) : Int), .int .u8 ((c : Nat) : Int), .int .u8 ((d : Nat) : Int), .string s] 24 (0, 0)) := ⟨HS0.1.trans (HXX.out.mono HS0.1.size), below_key HS0.2 HXX.out⟩
      refine ⟨_, rfl, HS1, ?_⟩
      simp only [Act.put, List.setIfInBounds_toArray, List.set_cons_zero, List.set_cons_succ]
      refine heldTake (d := some 37) (op := .binOp BinOp.neq 27 (Operand.tmp 35) (Operand.tmp 36) 27) (g := none) 3 ?v3h rfl (by kernel_rfl) (by kernel_rfl) (by kernel_rfl) (by kernel_rfl) ?y3h HS1 ?_
      case y3h => intro o' ho W hS; simp only [execOp, ho]; go_simp; try rfl
      simp only [Act.put, List.setIfInBounds_toArray, List.set_cons_zero, List.set_cons_succ]
      refine heldTake (d := some 38) (op := .move (Operand.tmp 37)) (g := none) 4 ?v4h rfl (by kernel_rfl) (by kernel_rfl) (by kernel_rfl) (by kernel_rfl) ?y4h HS1 ?_
      case y4h => intro o' ho W hS; simp only [execOp, ho]; go_simp; try rfl
      simp only [Act.put, List.setIfInBounds_toArray, List.set_cons_zero, List.set_cons_succ]
      refine heldTake (d := some 39) (op := .fieldAddr 24 (Operand.tmp 3) 1) (g := some (4, false)) 5 ?v5h rfl (by kernel_rfl) (by kernel_rfl) (by kernel_rfl) (by kernel_rfl) ?y5h HS1 ?_
      case y5h => intro o' ho W hS; simp only [execOp, ho]; go_simp; try rfl
      simp only [Act.put, List.setIfInBounds_toArray, List.set_cons_zero, List.set_cons_succ]
      refine heldTake (d := some 40) (op := .load 3 (Operand.tmp 39)) (g := some (4, false)) 6 ?v6h rfl (by kernel_rfl) (by kernel_rfl) (by kernel_rfl) (by kernel_rfl) ?y6h HS1 ?_
      case y6h => intro o' ho W hS; obtain ⟨e0, e1, e2, e3, e4, e5, e6, e7⟩ := bx8 hS.2; simp only [execOp, ho]; go_simp; try rfl
      simp only [Act.put, List.setIfInBounds_toArray, List.set_cons_zero, List.set_cons_succ]
      refine heldTake (d := some 42) (op := .fieldAddr 24 (Operand.tmp 3) 1) (g := some (4, false)) 8 ?v8h rfl (by kernel_rfl) (by kernel_rfl) (by kernel_rfl) (by kernel_rfl) ?y8h HS1 ?_
      case y8h => intro o' ho W hS; simp only [execOp, ho]; go_simp; try rfl
      simp only [Act.put, List.setIfInBounds_toArray, List.set_cons_zero, List.set_cons_succ]
      refine heldTake (d := some 43) (op := .load 3 (Operand.tmp 42)) (g := some (4, false)) 9 ?v9h rfl (by kernel_rfl) (by kernel_rfl) (by kernel_rfl) (by kernel_rfl) ?y9h HS1 ?_
      case y9h => intro o' ho W hS; obtain ⟨e0, e1, e2, e3, e4, e5, e6, e7⟩ := bx8 hS.2; simp only [execOp, ho]; go_simp; try rfl
      simp only [Act.put, List.setIfInBounds_toArray, List.set_cons_zero, List.set_cons_succ]
      refine heldCall (d := some 41) (op := .call { callee := Callee.value (Operand.func 14), args := #[Operand.tmp 40], argTypes := #[3] }) (g := some (4, false)) 7 14 #[.int .i64 (op : Int)] rfl (by kernel_rfl) (by kernel_rfl) ?y7h ?_
      case y7h => intro o' ho; simp only [execOp, ho]; go_simp; try rfl
      refine (C14 X).mono ?_
      rintro e w9 ⟨rfl, rfl⟩
      refine ⟨_, rfl, HS1, ?_⟩
      simp only [Act.put, List.setIfInBounds_toArray, List.set_cons_zero, List.set_cons_succ]
      refine heldCall (d := some 44) (op := .call { callee := Callee.value (Operand.func 15), args := #[Operand.tmp 43], argTypes := #[3] }) (g := some (4, false)) 10 15 #[.int .i64 (op : Int)] rfl (by kernel_rfl) (by kernel_rfl) ?y10h ?_
      case y10h => intro o' ho; simp only [execOp, ho]; go_simp; try rfl
      refine (C15 X).mono ?_
      rintro e w9 ⟨rfl, rfl⟩
      refine ⟨_, rfl, HS1, ?_⟩
      simp only [Act.put, List.setIfInBounds_toArray, List.set_cons_zero, List.set_cons_succ]
      refine heldTake (d := some 45) (op := .binOp BinOp.neq 4 (Operand.tmp 41) (Operand.tmp 44) 4) (g := some (4, false)) 11 ?v11h rfl (by kernel_rfl) (by kernel_rfl) (by kernel_rfl) (by kernel_rfl) ?y11h HS1 ?_
      case y11h => intro o' ho W hS; simp only [execOp, ho]; go_simp; try rfl
      simp only [Act.put, List.setIfInBounds_toArray, List.set_cons_zero, List.set_cons_succ]
      refine heldTake (d := some 46) (op := .pick (Operand.tmp 38) (Operand.const (Value.bool true)) (Operand.tmp 45)) (g := none) 12 ?v12h rfl (by kernel_rfl) (by kernel_rfl) (by kernel_rfl) (by kernel_rfl) ?y12h HS1 ?_
      case y12h => intro o' ho W hS; simp only [execOp, ho]; go_simp; try rfl
      simp only [Act.put, List.setIfInBounds_toArray, List.set_cons_zero, List.set_cons_succ]
      refine wpAnyH_done (by kernel_rfl) ?_ _
      refine NoPanic.normal ?_
      have HB6 := Sl.mk HS1.1
      have HY6 := Sl.mk HS1.2
      have HS6 := Sl.mk (HSR.below (Nat.le_refl _) HXX.out)
      clear HSR HS5 HB5 HY5
      clear HS0 HS1 HXX
      have hc1 := HS6.out.conv
      rw [HSA.out] at hc1
      obtain ⟨cap7, w7, hc2, HS7, HX7⟩ := conv_str (SA ++ more) X
      rw [hsz] at hc2 HS7
      rw [HBQ.out] at HS7
      have HB7 : Sl (Below w.heap.size w w7) := ⟨HB6.out.trans (HX7.out.mono HB6.out.size)⟩
      have HY7 : Sl (w7.heap[w.heap.size]? = some (.cells #[.bool fin, .int .i64 (op : Int), .bool m, .int .u8 ((a : Nat) : Int), .int .u8 ((b : Nat) : Int), .int .u8 ((c : Nat) : Int), .int .u8 ((d : Nat) : Int), .string s] 24 (0, 0))) := ⟨below_key HY6.out HX7.out⟩
      have HS67 := Sl.mk (HS6.out.below (Nat.le_refl _) HX7.out)
      clear HS6 HX7
      go_wp2_with fail
      refine (G1 w7 _ _ (HG.out.below HB7.out HG.out.size) HS7.out).mono ?_
      rintro e w8 ⟨rfl, HX8⟩
      have HB8 : Sl (Below w.heap.size w w8) := ⟨HB7.out.trans (HX8.out.mono HB7.out.size)⟩
      have HY8 : Sl (w8.heap[w.heap.size]? = some (.cells #[.bool fin, .int .i64 (op : Int), .bool m, .int .u8 ((a : Nat) : Int), .int .u8 ((b : Nat) : Int), .int .u8 ((c : Nat) : Int), .int .u8 ((d : Nat) : Int), .string s] 24 (0, 0))) := ⟨below_key HY7.out HX8.out⟩
      have HS8 := Sl.mk (HS67.out.below (Nat.le_refl _) HX8.out)
      clear HS67 HX8 HS7 hc1 hc2
      obtain ⟨xb, hxb⟩ : ∃ xb, w8.heap.size = xb := ⟨_, rfl⟩
      obtain ⟨w9, hw9⟩ : ∃ V, (w8.alloc (.cells #[.bool false, .int .i64 0, .bool false, .int .u8 0, .int .u8 0, .int .u8 0, .int .u8 0, .string { data := #[] }] 24)).setRow w8.heap.size #[.bool fin, .int .i64 (op : Int), .bool m, .int .u8 ((a : Nat) : Int), .int .u8 ((b : Nat) : Int), .int .u8 ((c : Nat) : Int), .int .u8 ((d : Nat) : Int), .string s] = V := ⟨_, rfl⟩
      have HXw9 : Sl (Below w8.heap.size w8 w9) := ⟨by rw [← hw9]; exact laid_self w8 #[.bool fin, .int .i64 (op : Int), .bool m, .int .u8 ((a : Nat) : Int), .int .u8 ((b : Nat) : Int), .int .u8 ((c : Nat) : Int), .int .u8 ((d : Nat) : Int), .string s]⟩
      have HBw9 : Sl (Below w.heap.size w w9) := ⟨HB8.out.trans (HXw9.out.mono HB8.out.size)⟩
      have HYw9 : Sl (w9.heap[w8.heap.size]? = some (.cells #[.bool fin, .int .i64 (op : Int), .bool m, .int .u8 ((a : Nat) : Int), .int .u8 ((b : Nat) : Int), .int .u8 ((c : Nat) : Int), .int .u8 ((d : Nat) : Int), .string s] 24 (0, 0))) := ⟨by rw [← hw9]; exact (laid_fr #[.bool fin, .int .i64 (op : Int), .bool m, .int .u8 ((a : Nat) : Int), .int .u8 ((b : Nat) : Int), .int .u8 ((c : Nat) : Int), .int .u8 ((d : Nat) : Int), .string s] (Below.refl _ _)).2⟩
      have HIw9 := fr_info (cs := #[.bool fin, .int .i64 (op : Int), .bool m, .int .u8 ((a : Nat) : Int), .int .u8 ((b : Nat) : Int), .int .u8 ((c : Nat) : Int), .int .u8 ((d : Nat) : Int), .string s]) rfl
      have HY9 : Sl (w9.heap[w.heap.size]? = some (.cells #[.bool fin, .int .i64 (op : Int), .bool m, .int .u8 ((a : Nat) : Int), .int .u8 ((b : Nat) : Int), .int .u8 ((c : Nat) : Int), .int .u8 ((d : Nat) : Int), .string s] 24 (0, 0))) := ⟨below_key HY8.out HXw9.out⟩
      have HS9 := Sl.mk (HS8.out.below (Nat.le_refl _) HXw9.out)
      have hbn := bx_new w8 #[.bool false, .int .i64 0, .bool false, .int .u8 0, .int .u8 0, .int .u8 0, .int .u8 0, .string { data := #[] }]
      rw [hxb] at HYw9 hw9 hbn
      clear HXw9 HS8
      go_upto_region 10 with (refine wpList_store_row rfl 24 (.tmp 10) (.tmp 65) rfl xb #[.bool fin, .int .i64 (op : Int), .bool m, .int .u8 ((a : Nat) : Int), .int .u8 ((b : Nat) : Int), .int .u8 ((c : Nat) : Int), .int .u8 ((d : Nat) : Int), .string s] (by rw [← hxb]; rfl) rfl 24 #[.bool false, .int .i64 0, .bool false, .int .u8 0, .int .u8 0, .int .u8 0, .int .u8 0, .string { data := #[] }] hbn HIw9 rfl (fr_all _ _ _ _ _ _ _ _) ?_)
      obtain ⟨R, hR⟩ : ∃ R, w9.drew = R := ⟨_, rfl⟩
      have HS0 : Below w.heap.size w R ∧ R.heap[w.heap.size]? = some (.cells #[.bool fin, .int .i64 (op : Int), .bool m, .int .u8 ((a : Nat) : Int), .int .u8 ((b : Nat) : Int), .int .u8 ((c : Nat) : Int), .int .u8 ((d : Nat) : Int), .string s] 24 (0, 0)) ∧ R.heap[xb]? = some (.cells #[.bool fin, .int .i64 (op : Int), .bool m, .int .u8 ((a : Nat) : Int), .int .u8 ((b : Nat) : Int), .int .u8 ((c : Nat) : Int), .int .u8 ((d : Nat) : Int), .string s] 24 (0, 0)) ∧ SrcAt R (.slice (some ⟨g4, 0, none⟩) n cap4) A := ⟨by rw [← hR]; exact HBw9.out.drew, by rw [← hR]; exact HY9.out, by rw [← hR]; exact HYw9.out, by rw [← hR]; exact HS9.out.below (Nat.le_refl _) (Below.refl _ _).drew⟩
      refine wp_region_noPanic ?_
      refine wp_region_held (S := fun W => Below w.heap.size w W ∧ W.heap[w.heap.size]? = some (.cells #[.bool fin, .int .i64 (op : Int), .bool m, .int .u8 ((a : Nat) : Int), .int .u8 ((b : Nat) : Int), .int .u8 ((c : Nat) : Int), .int .u8 ((d : Nat) : Int), .string s] 24 (0, 0)) ∧ W.heap[xb]? = some (.cells #[.bool fin, .int .i64 (op : Int), .bool m, .int .u8 ((a : Nat) : Int), .int .u8 ((b : Nat) : Int), .int .u8 ((c : Nat) : Int), .int .u8 ((d : Nat) : Int), .string s] 24 (0, 0)) ∧ SrcAt W (.slice (some ⟨g4, 0, none⟩) n cap4) A) (by kernel_rfl) ?_
      change wpAnyH _ _ _ _ _ _ _ _ w9.drew
      rw [hR]
      clear hR HBw9 HY9 HYw9 HS9 hw9 HIw9 hbn
      refine heldTake (d := some 68) (op := .move (Operand.tmp 8)) (g := none) 0 ?v0ht rfl (by kernel_rfl) (by kernel_rfl) (by kernel_rfl) (by kernel_rfl) ?y0ht HS0 ?_
      case y0ht => intro o' ho W hS; simp only [execOp, ho]; go_simp; try rfl
      simp only [Act.put, List.setIfInBounds_toArray, List.set_cons_zero, List.set_cons_succ]
      refine heldTake (d := some 69) (op := .binOp BinOp.neq 27 (Operand.tmp 68) (Operand.const (Value.int IntKind.i64 0)) 27) (g := none) 1 ?v1ht rfl (by kernel_rfl) (by kernel_rfl) (by kernel_rfl) (by kernel_rfl) ?y1ht HS0 ?_
      case y1ht => intro o' ho W hS; simp only [execOp, ho]; go_simp; try rfl
      simp only [Act.put, List.setIfInBounds_toArray, List.set_cons_zero, List.set_cons_succ]
      refine heldTake (d := some 70) (op := .move (Operand.tmp 69)) (g := none) 2 ?v2ht rfl (by kernel_rfl) (by kernel_rfl) (by kernel_rfl) (by kernel_rfl) ?y2ht HS0 ?_
      case y2ht => intro o' ho W hS; simp only [execOp, ho]; go_simp; try rfl
      simp only [Act.put, List.setIfInBounds_toArray, List.set_cons_zero, List.set_cons_succ]
      refine heldTake (d := some 71) (op := .move (Operand.tmp 7)) (g := some (2, false)) 3 ?v3ht rfl (by kernel_rfl) (by kernel_rfl) (by kernel_rfl) (by kernel_rfl) ?y3ht HS0 ?_
      case y3ht => intro o' ho W hS; simp only [execOp, ho]; go_simp; try rfl
      simp only [Act.put, List.setIfInBounds_toArray, List.set_cons_zero, List.set_cons_succ]
      refine heldTake (d := some 72) (op := .convert 26 9 (Operand.tmp 71)) (g := some (2, false)) 4 (.string SA) rfl (by kernel_rfl) (by kernel_rfl) (by kernel_rfl) (by kernel_rfl) ?y4ht HS0 ?_
      case y4ht => intro o' ho W hS; exact conv_run ho (by rfl) (by rw [← HSA.out]; exact hS.2.2.2.conv)
      simp only [Act.put, List.setIfInBounds_toArray, List.set_cons_zero, List.set_cons_succ]
      refine heldTake (d := some 73) (op := .load 24 (Operand.tmp 3)) (g := some (2, false)) 5 (.agg #[.bool fin, .int .i64 (op : Int), .bool m, .int .u8 ((a : Nat) : Int), .int .u8 ((b : Nat) : Int), .int .u8 ((c : Nat) : Int), .int .u8 ((d : Nat) : Int), .string s]) rfl (by kernel_rfl) (by kernel_rfl) (by kernel_rfl) (by kernel_rfl) ?y5ht HS0 ?_
      case y5ht => intro o' ho W hS; exact loadbox8 ho (by rfl) rfl hS.2.1
      simp only [Act.put, List.setIfInBounds_toArray, List.set_cons_zero, List.set_cons_succ]
      refine heldCall (d := some 74) (op := .call { callee := Callee.value (Operand.func 17), args := #[Operand.tmp 73], argTypes := #[24] }) (g := some (2, false)) 6 17 #[.agg #[.bool fin, .int .i64 (op : Int), .bool m, .int .u8 ((a : Nat) : Int), .int .u8 ((b : Nat) : Int), .int .u8 ((c : Nat) : Int), .int .u8 ((d : Nat) : Int), .string s]] rfl (by kernel_rfl) (by kernel_rfl) ?y6ht ?_
      case y6ht => intro o' ho; simp only [execOp, ho]; go_simp; try rfl
      refine (C17 R).mono ?_
      rintro e Y ⟨rfl, HXY⟩
      have HS1 : Below w.heap.size w Y ∧ Y.heap[w.heap.size]? = some (.cells #[.bool fin, .int .i64 (op : Int), .bool m, .int .u8 ((a : Nat) : Int), .int .u8 ((b : Nat) : Int), .int .u8 ((c : Nat) : Int), .int .u8 ((d : Nat) : Int), .string s] 24 (0, 0)) ∧ Y.heap[xb]? = some (.cells #[.bool fin, .int .i64 (op : Int), .bool m, .int .u8 ((a : Nat) : Int), .int .u8 ((b : Nat) : Int), .int .u8 ((c : Nat) : Int), .int .u8 ((d : Nat) : Int), .string s] 24 (0, 0)) ∧ SrcAt Y (.slice (some ⟨g4, 0, none⟩) n cap4) A := ⟨HS0.1.trans (HXY.out.mono HS0.1.size), below_key HS0.2.1 HXY.out, below_key HS0.2.2.1 HXY.out, HS0.2.2.2.below (Nat.le_refl _) HXY.out⟩
      refine ⟨_, rfl, HS1, ?_⟩
      simp only [Act.put, List.setIfInBounds_toArray, List.set_cons_zero, List.set_cons_succ]
      refine heldTake (d := some 75) (op := .binOp BinOp.neq 9 (Operand.tmp 72) (Operand.tmp 74) 9) (g := some (2, false)) 7 ?v7ht rfl (by kernel_rfl) (by kernel_rfl) (by kernel_rfl) (by kernel_rfl) ?y7ht HS1 ?_
      case y7ht => intro o' ho W hS; simp only [execOp, ho]; go_simp; try rfl
      simp only [Act.put, List.setIfInBounds_toArray, List.set_cons_zero, List.set_cons_succ]
      refine heldTake (d := some 76) (op := .pick (Operand.tmp 70) (Operand.const (Value.bool true)) (Operand.tmp 75)) (g := none) 8 ?v8ht rfl (by kernel_rfl) (by kernel_rfl) (by kernel_rfl) (by kernel_rfl) ?y8ht HS1 ?_
      case y8ht => intro o' ho W hS; simp only [execOp, ho]; go_simp; try rfl
      simp only [Act.put, List.setIfInBounds_toArray, List.set_cons_zero, List.set_cons_succ]
      refine heldTake (d := some 77) (op := .move (Operand.tmp 76)) (g := none) 9 ?v9ht rfl (by kernel_rfl) (by kernel_rfl) (by kernel_rfl) (by kernel_rfl) ?y9ht HS1 ?_
      case y9ht => intro o' ho W hS; simp only [execOp, ho]; go_simp; try rfl
      simp only [Act.put, List.setIfInBounds_toArray, List.set_cons_zero, List.set_cons_succ]
      refine heldTake (d := some 78) (op := .load 24 (Operand.tmp 3)) (g := some (9, false)) 10 (.agg #[.bool fin, .int .i64 (op : Int), .bool m, .int .u8 ((a : Nat) : Int), .int .u8 ((b : Nat) : Int), .int .u8 ((c : Nat) : Int), .int .u8 ((d : Nat) : Int), .string s]) rfl (by kernel_rfl) (by kernel_rfl) (by kernel_rfl) (by kernel_rfl) ?y10ht HS1 ?_
      case y10ht => intro o' ho W hS; exact loadbox8 ho (by rfl) rfl hS.2.1
      simp only [Act.put, List.setIfInBounds_toArray, List.set_cons_zero, List.set_cons_succ]
      refine heldTake (d := some 80) (op := .move (Operand.tmp 7)) (g := some (9, false)) 12 ?v12ht rfl (by kernel_rfl) (by kernel_rfl) (by kernel_rfl) (by kernel_rfl) ?y12ht HS1 ?_
      case y12ht => intro o' ho W hS; simp only [execOp, ho]; go_simp; try rfl
      simp only [Act.put, List.setIfInBounds_toArray, List.set_cons_zero, List.set_cons_succ]
      refine heldTake (d := some 81) (op := .call { callee := Callee.builtin Builtin.len, args := #[Operand.tmp 80], argTypes := #[26] }) (g := some (9, false)) 13 ?v13ht rfl (by kernel_rfl) (by kernel_rfl) (by kernel_rfl) (by kernel_rfl) ?y13ht HS1 ?_
      case y13ht => intro o' ho W hS; simp only [execOp, ho]; go_simp; try rfl
      simp only [Act.put, List.setIfInBounds_toArray, List.set_cons_zero, List.set_cons_succ]
      refine heldCall (d := some 79) (op := .call { callee := Callee.value (Operand.func 18), args := #[Operand.tmp 78], argTypes := #[24] }) (g := some (9, false)) 11 18 #[.agg #[.bool fin, .int .i64 (op : Int), .bool m, .int .u8 ((a : Nat) : Int), .int .u8 ((b : Nat) : Int), .int .u8 ((c : Nat) : Int), .int .u8 ((d : Nat) : Int), .string s]] rfl (by kernel_rfl) (by kernel_rfl) ?y11ht ?_
      case y11ht => intro o' ho; simp only [execOp, ho]; go_simp; try rfl
      refine (C18 Y (HG.out.below HS1.1 HG.out.size)).mono ?_
      rintro e Z ⟨rfl, HXZ⟩
      have HS2 : Below w.heap.size w Z ∧ Z.heap[w.heap.size]? = some (.cells #[.bool fin, .int .i64 (op : Int), .bool m, .int .u8 ((a : Nat) : Int), .int .u8 ((b : Nat) : Int), .int .u8 ((c : Nat) : Int), .int .u8 ((d : Nat) : Int), .string s] 24 (0, 0)) ∧ Z.heap[xb]? = some (.cells #[.bool fin, .int .i64 (op : Int), .bool m, .int .u8 ((a : Nat) : Int), .int .u8 ((b : Nat) : Int), .int .u8 ((c : Nat) : Int), .int .u8 ((d : Nat) : Int), .string s] 24 (0, 0)) ∧ SrcAt Z (.slice (some ⟨g4, 0, none⟩) n cap4) A := ⟨HS1.1.trans (HXZ.out.mono HS1.1.size), below_key HS1.2.1 HXZ.out, below_key HS1.2.2.1 HXZ.out, HS1.2.2.2.below (Nat.le_refl _) HXZ.out⟩
      refine ⟨_, rfl, HS2, ?_⟩
      simp only [Act.put, List.setIfInBounds_toArray, List.set_cons_zero, List.set_cons_succ]
      refine heldTake (d := some 82) (op := .binOp BinOp.neq 3 (Operand.tmp 79) (Operand.tmp 81) 3) (g := some (9, false)) 14 ?v14ht rfl (by kernel_rfl) (by kernel_rfl) (by kernel_rfl) (by kernel_rfl) ?y14ht HS2 ?_
      case y14ht => intro o' ho W hS; simp only [execOp, ho]; go_simp; try rfl
      simp only [Act.put, List.setIfInBounds_toArray, List.set_cons_zero, List.set_cons_succ]
      refine heldTake (d := some 83) (op := .pick (Operand.tmp 77) (Operand.const (Value.bool true)) (Operand.tmp 82)) (g := none) 15 ?v15ht rfl (by kernel_rfl) (by kernel_rfl) (by kernel_rfl) (by kernel_rfl) ?y15ht HS2 ?_
      case y15ht => intro o' ho W hS; simp only [execOp, ho]; go_simp; try rfl
      simp only [Act.put, List.setIfInBounds_toArray, List.set_cons_zero, List.set_cons_succ]
      refine wpAnyH_done (by kernel_rfl) ?_ _
      refine NoPanic.normal ?_
      obtain ⟨c0, c1, c2, c3, c4, c5, c6, c7⟩ := bx8 HS2.2.1
      obtain ⟨x0, x1, x2, x3, x4, x5, x6, x7⟩ := bx8 HS2.2.2.1
      go_wp2
      go_ret
      exact ⟨rfl, HS2.1⟩
  · have P1 : ∀ W, Globs W → Calls Tryd.prog 11 #[.agg #[.bool fin, .int .i64 (op : Int), .bool m, .int .u8 ((a : Nat) : Int), .int .u8 ((b : Nat) : Int), .int .u8 ((c : Nat) : Int), .int .u8 ((d : Nat) : Int), .string s]] W fun e w' => e = .returned (.tuple #[.slice none 0 0, .int .i64 (k : Int)]) ∧ Sl (Below W.heap.size W w') := fun W _ => putf_no fin op m a b c d s k W hk1 hc1 h01
    have hne1 : ((k : Int) != 0) = true := by simp; omega
    clear hc1 hs hk1 h01 hmo hct hr
    go_enter Tryd.func3, Tryd.ntmps3
    go_wp2_with fail
    refine (awake_any w2 (HG.out.below HB2.out HG.out.size)).mono ?_
    rintro e w3 ⟨rfl, HX3⟩
    have HB3 : Sl (Below w.heap.size w w3) := ⟨HB2.out.trans (HX3.out.mono HB2.out.size)⟩
    have HY3 : Sl (w3.heap[w.heap.size]? = some (.cells #[.bool fin, .int .i64 (op : Int), .bool m, .int .u8 ((a : Nat) : Int), .int .u8 ((b : Nat) : Int), .int .u8 ((c : Nat) : Int), .int .u8 ((d : Nat) : Int), .string s] 24 (0, 0))) := ⟨below_key HY2.out HX3.out⟩
    clear HB2 HY2 HX3 hw2
    obtain ⟨c0, c1, c2, c3, c4, c5, c6, c7⟩ := bx8 HY3.out
    go_wp2_with fail
    refine (P1 w3 (HG.out.below HB3.out HG.out.size)).mono ?_
    rintro e w4 ⟨rfl, HX4⟩
    have HB4 : Sl (Below w.heap.size w w4) := ⟨HB3.out.trans (HX4.out.mono HB3.out.size)⟩
    have HY4 : Sl (w4.heap[w.heap.size]? = some (.cells #[.bool fin, .int .i64 (op : Int), .bool m, .int .u8 ((a : Nat) : Int), .int .u8 ((b : Nat) : Int), .int .u8 ((c : Nat) : Int), .int .u8 ((d : Nat) : Int), .string s] 24 (0, 0))) := ⟨below_key HY3.out HX4.out⟩
    clear c0 c1 c2 c3 c4 c5 c6 c7
    obtain ⟨c0, c1, c2, c3, c4, c5, c6, c7⟩ := bx8 HY4.out
    go_wp2_with fail
    refine (C12 w4).mono ?_
    rintro e w5 ⟨rfl, HX5⟩
    have HB5 : Sl (Below w.heap.size w w5) := ⟨HB4.out.trans (HX5.out.mono HB4.out.size)⟩
    have HY5 : Sl (w5.heap[w.heap.size]? = some (.cells #[.bool fin, .int .i64 (op : Int), .bool m, .int .u8 ((a : Nat) : Int), .int .u8 ((b : Nat) : Int), .int .u8 ((c : Nat) : Int), .int .u8 ((d : Nat) : Int), .string s] 24 (0, 0))) := ⟨below_key HY4.out HX5.out⟩
    clear c0 c1 c2 c3 c4 c5 c6 c7
    clear HX4 HX5
    go_upto_region 5 with fail
    obtain ⟨R, hR⟩ : ∃ R, w5.drew = R := ⟨_, rfl⟩
    have HS0 : Below w.heap.size w R ∧ R.heap[w.heap.size]? = some (.cells #[.bool fin, .int .i64 (op : Int), .bool m, .int .u8 ((a : Nat) : Int), .int .u8 ((b : Nat) : Int), .int .u8 ((c : Nat) : Int), .int .u8 ((d : Nat) : Int), .string s] 24 (0, 0)) := ⟨by rw [← hR]; exact HB5.out.drew, by rw [← hR]; exact HY5.out⟩
    refine wp_region_noPanic ?_
    refine wp_region_held (S := fun W => Below w.heap.size w W ∧ W.heap[w.heap.size]? = some (.cells #[.bool fin, .int .i64 (op : Int), .bool m, .int .u8 ((a : Nat) : Int), .int .u8 ((b : Nat) : Int), .int .u8 ((c : Nat) : Int), .int .u8 ((d : Nat) : Int), .string s] 24 (0, 0))) (by kernel_rfl) ?_
    change wpAnyH _ _ _ _ _ _ _ _ w5.drew
    rw [hR]
    clear hR
    refine heldTake (d := some 34) (op := .load 24 (Operand.tmp 3)) (g := none) 0 (.agg #[.bool fin, .int .i64 (op : Int), .bool m, .int .u8 ((a : Nat) : Int), .int .u8 ((b : Nat) : Int), .int .u8 ((c : Nat) : Int), .int .u8 ((d : Nat) : Int), .string s]) rfl (by kernel_rfl) (by kernel_rfl) (by kernel_rfl) (by kernel_rfl) ?y0a HS0 ?_
    case y0a => intro o' ho W hS; exact loadbox8 ho (by rfl) rfl hS.2
    simp only [Act.put, List.setIfInBounds_toArray, List.set_cons_zero, List.set_cons_succ]
    refine heldTake (d := some 36) (op := .move (Operand.tmp 9)) (g := none) 2 ?v2a rfl (by kernel_rfl) (by kernel_rfl) (by kernel_rfl) (by kernel_rfl) ?y2a HS0 ?_
    case y2a => intro o' ho W hS; simp only [execOp, ho]; go_simp; try rfl
    simp only [Act.put, List.setIfInBounds_toArray, List.set_cons_zero, List.set_cons_succ]
    refine heldCall (d := some 35) (op := .call { callee := Callee.value (Operand.func 13), args := #[Operand.tmp 34], argTypes := #[24] }) (g := none) 1 13 #[.agg #[.bool fin, .int .i64 (op : Int), .bool m, .int .u8 ((a : Nat) : Int), .int .u8 ((b : Nat) : Int), .int .u8 ((c : Nat) : Int), .int .u8 ((d : Nat) : Int), .string s]] rfl (by kernel_rfl) (by kernel_rfl) ?y1a ?_
    case y1a => intro o' ho; simp only [execOp, ho]; go_simp; try rfl
    refine (C13 R).mono ?_
    rintro e X ⟨rfl, HXX⟩
    have HS1 : Below w.heap.size w X ∧ X.heap[w.heap.size]? = some (.cells #[.bool fin, .int .i64 (op : Int), .bool m, .int .u8 ((a : Nat) : Int), .int .u8 ((b : Nat) : Int), .int .u8 ((c : Nat) : Int), .int .u8 ((d : Nat) : Int), .string s] 24 (0, 0)) := ⟨HS0.1.trans (HXX.out.mono HS0.1.size), below_key HS0.2 HXX.out⟩
    refine ⟨_, rfl, HS1, ?_⟩
    simp only [Act.put, List.setIfInBounds_toArray, List.set_cons_zero, List.set_cons_succ]
    refine heldTake (d := some 37) (op := .binOp BinOp.neq 27 (Operand.tmp 35) (Operand.tmp 36) 27) (g := none) 3 ?v3a rfl (by kernel_rfl) (by kernel_rfl) (by kernel_rfl) (by kernel_rfl) ?y3a HS1 ?_
    case y3a => intro o' ho W hS; simp only [execOp, ho]; go_simp; try rfl
    simp only [Act.put, List.setIfInBounds_toArray, List.set_cons_zero, List.set_cons_succ]
    refine heldTake (d := some 38) (op := .move (Operand.tmp 37)) (g := none) 4 ?v4a rfl (by kernel_rfl) (by kernel_rfl) (by kernel_rfl) (by kernel_rfl) ?y4a HS1 ?_
    case y4a => intro o' ho W hS; simp only [execOp, ho]; go_simp; try rfl
    simp only [Act.put, List.setIfInBounds_toArray, List.set_cons_zero, List.set_cons_succ]
    refine heldTake (d := some 39) (op := .fieldAddr 24 (Operand.tmp 3) 1) (g := some (4, false)) 5 ?v5a rfl (by kernel_rfl) (by kernel_rfl) (by kernel_rfl) (by kernel_rfl) ?y5a HS1 ?_
    case y5a => intro o' ho W hS; simp only [execOp, ho]; go_simp; try rfl
    simp only [Act.put, List.setIfInBounds_toArray, List.set_cons_zero, List.set_cons_succ]
    refine heldTake (d := some 40) (op := .load 3 (Operand.tmp 39)) (g := some (4, false)) 6 ?v6a rfl (by kernel_rfl) (by kernel_rfl) (by kernel_rfl) (by kernel_rfl) ?y6a HS1 ?_
    case y6a => intro o' ho W hS; obtain ⟨e0, e1, e2, e3, e4, e5, e6, e7⟩ := bx8 hS.2; simp only [execOp, ho]; go_simp; try rfl
    simp only [Act.put, List.setIfInBounds_toArray, List.set_cons_zero, List.set_cons_succ]
    refine heldTake (d := some 42) (op := .fieldAddr 24 (Operand.tmp 3) 1) (g := some (4, false)) 8 ?v8a rfl (by kernel_rfl) (by kernel_rfl) (by kernel_rfl) (by kernel_rfl) ?y8a HS1 ?_
    case y8a => intro o' ho W hS; simp only [execOp, ho]; go_simp; try rfl
    simp only [Act.put, List.setIfInBounds_toArray, List.set_cons_zero, List.set_cons_succ]
    refine heldTake (d := some 43) (op := .load 3 (Operand.tmp 42)) (g := some (4, false)) 9 ?v9a rfl (by kernel_rfl) (by kernel_rfl) (by kernel_rfl) (by kernel_rfl) ?y9a HS1 ?_
    case y9a => intro o' ho W hS; obtain ⟨e0, e1, e2, e3, e4, e5, e6, e7⟩ := bx8 hS.2; simp only [execOp, ho]; go_simp; try rfl
    simp only [Act.put, List.setIfInBounds_toArray, List.set_cons_zero, List.set_cons_succ]
    refine heldCall (d := some 41) (op := .call { callee := Callee.value (Operand.func 14), args := #[Operand.tmp 40], argTypes := #[3] }) (g := some (4, false)) 7 14 #[.int .i64 (op : Int)] rfl (by kernel_rfl) (by kernel_rfl) ?y7a ?_
    case y7a => intro o' ho; simp only [execOp, ho]; go_simp; try rfl
    refine (C14 X).mono ?_
    rintro e w9 ⟨rfl, rfl⟩
    refine ⟨_, rfl, HS1, ?_⟩
    simp only [Act.put, List.setIfInBounds_toArray, List.set_cons_zero, List.set_cons_succ]
    refine heldCall (d := some 44) (op := .call { callee := Callee.value (Operand.func 15), args := #[Operand.tmp 43], argTypes := #[3] }) (g := some (4, false)) 10 15 #[.int .i64 (op : Int)] rfl (by kernel_rfl) (by kernel_rfl) ?y10a ?_
    case y10a => intro o' ho; simp only [execOp, ho]; go_simp; try rfl
    refine (C15 X).mono ?_
    rintro e w9 ⟨rfl, rfl⟩
    refine ⟨_, rfl, HS1, ?_⟩
    simp only [Act.put, List.setIfInBounds_toArray, List.set_cons_zero, List.set_cons_succ]
    refine heldTake (d := some 45) (op := .binOp BinOp.neq 4 (Operand.tmp 41) (Operand.tmp 44) 4) (g := some (4, false)) 11 ?v11a rfl (by kernel_rfl) (by kernel_rfl) (by kernel_rfl) (by kernel_rfl) ?y11a HS1 ?_
    case y11a => intro o' ho W hS; simp only [execOp, ho]; go_simp; try rfl
    simp only [Act.put, List.setIfInBounds_toArray, List.set_cons_zero, List.set_cons_succ]
    refine heldTake (d := some 46) (op := .pick (Operand.tmp 38) (Operand.const (Value.bool true)) (Operand.tmp 45)) (g := none) 12 ?v12a rfl (by kernel_rfl) (by kernel_rfl) (by kernel_rfl) (by kernel_rfl) ?y12a HS1 ?_
    case y12a => intro o' ho W hS; simp only [execOp, ho]; go_simp; try rfl
    simp only [Act.put, List.setIfInBounds_toArray, List.set_cons_zero, List.set_cons_succ]
    refine wpAnyH_done (by kernel_rfl) ?_ _
    refine NoPanic.normal ?_
    have HB6 := Sl.mk HS1.1
    have HY6 := Sl.mk HS1.2
    clear HS0 HS1 HXX
    go_wp2
    go_ret
    exact ⟨rfl, HB6.out⟩
end Go.Proofs.YtcelhondifaloaaDoor
