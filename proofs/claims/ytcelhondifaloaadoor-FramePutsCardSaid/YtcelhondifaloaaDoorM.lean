/- frame: FrameTwo's walk. -/
import Derived.Test.YtcelhondifaloaaDoorK
set_option maxRecDepth 100000
namespace Go.Proofs.YtcelhondifaloaaDoor
open Go.RowKit MaskPlain FramePlain Mas

theorem eq_same (fin : Bool) (op : Int) (m : Bool) (a b c d : Nat) (s : ByteArray) (hk : Small 256 [a, b, c, d]) (W : World) : (Op.equalIn 10000 24 (.agg #[.bool fin, .int .i64 (op : Int), .bool m, .int .u8 ((a : Nat) : Int), .int .u8 ((b : Nat) : Int), .int .u8 ((c : Nat) : Int), .int .u8 ((d : Nat) : Int), .string s]) (.agg #[.bool fin, .int .i64 (op : Int), .bool m, .int .u8 ((a : Nat) : Int), .int .u8 ((b : Nat) : Int), .int .u8 ((c : Nat) : Int), .int .u8 ((d : Nat) : Int), .string s])).run Tryd.prog W = .ok true W :=
  (eq_fr fin op m a b c d s fin op m a b c d s hk hk W).trans (congrArg (fun b => Result.ok b W) (by simp))
theorem text_small {f : Fr} (h : chk f = 0) (hk : Small 256 f.key) (hd : Small 256 f.data) : Small 256 (text f) := by
  obtain ⟨h1, h2⟩ := chk_ok h
  have hb := (byte0_facts h1).2.2.2.1
  have hl := lenB_small (n := f.data.length) (by omega)
  have hw := (lenB_low (n := f.data.length) (by omega)).1
  unfold text headB
  by_cases hm : f.masked = true
  · rw [if_pos hm, if_pos hm]
    intro x hx
    simp only [List.mem_append, List.mem_cons] at hx
    rcases hx with ((rfl | rfl | hx) | hx) | hx
    · exact hb
    · omega
    · exact hl x (List.mem_of_mem_drop hx)
    · exact hk x hx
    · exact turn_lt f.key 0 f.data hd (fun i => hk.getD (by omega) i) x hx
  · rw [if_neg hm, if_neg hm]
    intro x hx
    simp only [List.mem_append, List.mem_cons] at hx
    rcases hx with (rfl | hx) | hx
    · exact hb
    · exact hl x hx
    · exact hd x hx

set_option maxHeartbeats 4000000 in
theorem two_walk (fin : Bool) (op : Int) (m : Bool) (a b c d : Nat) (s : ByteArray) (fin' : Bool) (op' : Int) (m' : Bool) (a' b' c' d' : Nat) (s' : ByteArray) (w : World) (hg : Globs w) (hk1 : Small 256 [a, b, c, d]) (hk2 : Small 256 [a', b', c', d']) : Calls Tryd.prog 8 #[.agg #[.bool fin, .int .i64 (op : Int), .bool m, .int .u8 ((a : Nat) : Int), .int .u8 ((b : Nat) : Int), .int .u8 ((c : Nat) : Int), .int .u8 ((d : Nat) : Int), .string s], .agg #[.bool fin', .int .i64 (op' : Int), .bool m', .int .u8 ((a' : Nat) : Int), .int .u8 ((b' : Nat) : Int), .int .u8 ((c' : Nat) : Int), .int .u8 ((d' : Nat) : Int), .string s']] w fun e w' => e = .returned (.bool true) ∧ Below w.heap.size w w' := by
  have HG := Sl.mk hg
  clear hg
  obtain ⟨w1, hw1⟩ : ∃ V, w.alloc (.cells #[.bool fin, .int .i64 (op : Int), .bool m, .int .u8 ((a : Nat) : Int), .int .u8 ((b : Nat) : Int), .int .u8 ((c : Nat) : Int), .int .u8 ((d : Nat) : Int), .string s] 24) = V := ⟨_, rfl⟩
  have h1s : w1.heap.size = w.heap.size + 1 := by rw [← hw1]; exact alloc_size _ _
  obtain ⟨w2, hw2⟩ : ∃ V, w1.alloc (.cells #[.bool fin', .int .i64 (op' : Int), .bool m', .int .u8 ((a' : Nat) : Int), .int .u8 ((b' : Nat) : Int), .int .u8 ((c' : Nat) : Int), .int .u8 ((d' : Nat) : Int), .string s'] 24) = V := ⟨_, rfl⟩
  have HB2 : Sl (Below w.heap.size w w2) := ⟨by rw [← hw2, ← hw1]; exact (bx_below w _).out.alloc (by rw [alloc_size]; omega) _⟩
  have HY2 : Sl (w2.heap[w.heap.size]? = some (.cells #[.bool fin, .int .i64 (op : Int), .bool m, .int .u8 ((a : Nat) : Int), .int .u8 ((b : Nat) : Int), .int .u8 ((c : Nat) : Int), .int .u8 ((d : Nat) : Int), .string s] 24 (0, 0))) := ⟨by rw [← hw2, alloc_old _ _ _ (by omega), ← hw1]; exact bx_new _ _⟩
  have HZ2 : Sl (w2.heap[w.heap.size + 1]? = some (.cells #[.bool fin', .int .i64 (op' : Int), .bool m', .int .u8 ((a' : Nat) : Int), .int .u8 ((b' : Nat) : Int), .int .u8 ((c' : Nat) : Int), .int .u8 ((d' : Nat) : Int), .string s'] 24 (0, 0))) := ⟨by rw [← hw2, ← h1s]; exact bx_new _ _⟩
  by_cases hs : s.size > 1000
  · have hq : ((s.size : Int) > 1000) = True := eq_true (by omega)
    clear hs
    go_enter Tryd.func8, Tryd.ntmps8
    go_wp2_with fail
    refine (awake_any w2 (HG.out.below HB2.out HG.out.size)).mono ?_
    rintro e w3 ⟨rfl, HX3⟩
    have HB3 : Sl (Below w.heap.size w w3) := ⟨HB2.out.trans (HX3.out.mono HB2.out.size)⟩
    have HY3 : Sl (w3.heap[w.heap.size]? = some (.cells #[.bool fin, .int .i64 (op : Int), .bool m, .int .u8 ((a : Nat) : Int), .int .u8 ((b : Nat) : Int), .int .u8 ((c : Nat) : Int), .int .u8 ((d : Nat) : Int), .string s] 24 (0, 0))) := ⟨below_key HY2.out HX3.out⟩
    have HZ3 : Sl (w3.heap[w.heap.size + 1]? = some (.cells #[.bool fin', .int .i64 (op' : Int), .bool m', .int .u8 ((a' : Nat) : Int), .int .u8 ((b' : Nat) : Int), .int .u8 ((c' : Nat) : Int), .int .u8 ((d' : Nat) : Int), .string s'] 24 (0, 0))) := ⟨below_key HZ2.out HX3.out⟩
    clear HB2 HY2 HZ2 HX3 hw1 hw2 h1s
    obtain ⟨c0, c1, c2, c3, c4, c5, c6, c7⟩ := bx8 HY3.out
    obtain ⟨d0, d1, d2, d3, d4, d5, d6, d7⟩ := bx8 HZ3.out
    go_wp2_with fail
    refine (awake_any w3 (HG.out.below HB3.out HG.out.size)).mono ?_
    rintro e w4 ⟨rfl, HX4⟩
    have HB4 := HB3.out.trans (HX4.out.mono HB3.out.size)
    go_wp2
    go_ret
    exact ⟨rfl, HB4⟩
  have hq : ((s.size : Int) > 1000) = False := eq_false (by omega)
  by_cases hs' : s'.size > 1000
  · have hq' : ((s'.size : Int) > 1000) = True := eq_true (by omega)
    clear hs hs'
    go_enter Tryd.func8, Tryd.ntmps8
    go_wp2_with fail
    refine (awake_any w2 (HG.out.below HB2.out HG.out.size)).mono ?_
    rintro e w3 ⟨rfl, HX3⟩
    have HB3 : Sl (Below w.heap.size w w3) := ⟨HB2.out.trans (HX3.out.mono HB2.out.size)⟩
    have HY3 : Sl (w3.heap[w.heap.size]? = some (.cells #[.bool fin, .int .i64 (op : Int), .bool m, .int .u8 ((a : Nat) : Int), .int .u8 ((b : Nat) : Int), .int .u8 ((c : Nat) : Int), .int .u8 ((d : Nat) : Int), .string s] 24 (0, 0))) := ⟨below_key HY2.out HX3.out⟩
    have HZ3 : Sl (w3.heap[w.heap.size + 1]? = some (.cells #[.bool fin', .int .i64 (op' : Int), .bool m', .int .u8 ((a' : Nat) : Int), .int .u8 ((b' : Nat) : Int), .int .u8 ((c' : Nat) : Int), .int .u8 ((d' : Nat) : Int), .string s'] 24 (0, 0))) := ⟨below_key HZ2.out HX3.out⟩
    clear HB2 HY2 HZ2 HX3 hw1 hw2 h1s
    obtain ⟨c0, c1, c2, c3, c4, c5, c6, c7⟩ := bx8 HY3.out
    obtain ⟨d0, d1, d2, d3, d4, d5, d6, d7⟩ := bx8 HZ3.out
    go_wp2_with fail
    refine (awake_any w3 (HG.out.below HB3.out HG.out.size)).mono ?_
    rintro e w4 ⟨rfl, HX4⟩
    have HB4 := HB3.out.trans (HX4.out.mono HB3.out.size)
    go_wp2
    go_ret
    exact ⟨rfl, HB4⟩
  have hq' : ((s'.size : Int) > 1000) = False := eq_false (by omega)
  obtain ⟨k1, hc1⟩ : ∃ k, chk (⟨fin, (op : Int), m, [a, b, c, d], bytes s⟩ : Fr) = k := ⟨_, rfl⟩
  obtain ⟨k2, hc2⟩ : ∃ k, chk (⟨fin', (op' : Int), m', [a', b', c', d'], bytes s'⟩ : Fr) = k := ⟨_, rfl⟩
  by_cases h01 : k1 = 0
  · subst h01
    obtain ⟨op, rfl⟩ := Int.eq_ofNat_of_zero_le (show 0 ≤ op by have h := (form_cases (chk_ok hc1).1).1; simp only at h; omega)
    obtain ⟨na, hn1⟩ : ∃ n, size (⟨fin, (op : Int), m, [a, b, c, d], bytes s⟩ : Fr) = n := ⟨_, rfl⟩
    obtain ⟨A, hT1⟩ : ∃ T, text (⟨fin, (op : Int), m, [a, b, c, d], bytes s⟩ : Fr) = T := ⟨_, rfl⟩
    have hdl1 : (bytes s).length ≤ 1000 := by rw [bytes_length]; omega
    have hlA : Sl (A.length = na) := ⟨by rw [← hT1, ← hn1]; exact text_length _ (by show (bytes _).length ≤ _; omega) rfl⟩
    have hsz1 : 2 ≤ na ∧ na ≤ 1100 := by rw [← hn1]; unfold size; simp only [bytes_length]; split <;> split <;> (try split) <;> omega
    have P1 : ∀ W, Globs W → Calls Tryd.prog 11 #[.agg #[.bool fin, .int .i64 (op : Int), .bool m, .int .u8 ((a : Nat) : Int), .int .u8 ((b : Nat) : Int), .int .u8 ((c : Nat) : Int), .int .u8 ((d : Nat) : Int), .string s]] W fun e w' => ∃ g cap, e = .returned (.tuple #[.slice (some ⟨g, 0, none⟩) na cap, .int .i64 0]) ∧ Sl (SrcAt w' (.slice (some ⟨g, 0, none⟩) na cap) A) ∧ Sl (Below W.heap.size W w') := fun W hW => by
      have := putf_yes fin op m a b c d s na W hW hk1 hc1 hn1
      rw [hT1] at this
      exact this
    by_cases h02 : k2 = 0
    · subst h02
      obtain ⟨op', rfl⟩ := Int.eq_ofNat_of_zero_le (show 0 ≤ op' by have h := (form_cases (chk_ok hc2).1).1; simp only at h; omega)
      obtain ⟨nb, hn2⟩ : ∃ n, size (⟨fin', (op' : Int), m', [a', b', c', d'], bytes s'⟩ : Fr) = n := ⟨_, rfl⟩
      obtain ⟨B, hT2⟩ : ∃ T, text (⟨fin', (op' : Int), m', [a', b', c', d'], bytes s'⟩ : Fr) = T := ⟨_, rfl⟩
      have hdl2 : (bytes s').length ≤ 1000 := by rw [bytes_length]; omega
      have hlB : Sl (B.length = nb) := ⟨by rw [← hT2, ← hn2]; exact text_length _ (by show (bytes _).length ≤ _; omega) rfl⟩
      have hsz2 : 2 ≤ nb ∧ nb ≤ 1100 := by rw [← hn2]; unfold size; simp only [bytes_length]; split <;> split <;> (try split) <;> omega
      have P2 : ∀ W, Globs W → Calls Tryd.prog 11 #[.agg #[.bool fin', .int .i64 (op' : Int), .bool m', .int .u8 ((a' : Nat) : Int), .int .u8 ((b' : Nat) : Int), .int .u8 ((c' : Nat) : Int), .int .u8 ((d' : Nat) : Int), .string s']] W fun e w' => ∃ g cap, e = .returned (.tuple #[.slice (some ⟨g, 0, none⟩) nb cap, .int .i64 0]) ∧ Sl (SrcAt w' (.slice (some ⟨g, 0, none⟩) nb cap) B) ∧ Sl (Below W.heap.size W w') := fun W hW => by
        have := putf_yes fin' op' m' a' b' c' d' s' nb W hW hk2 hc2 hn2
        rw [hT2] at this
        exact this
      obtain ⟨N, hN⟩ : ∃ N, na + nb = N := ⟨_, rfl⟩
      have G1 : ∀ (W : World) g cap, Globs W → SrcAt W (.slice (some ⟨g, 0, none⟩) N cap) (A ++ B) → Calls Tryd.prog 16 #[.slice (some ⟨g, 0, none⟩) N cap, .int .i64 65536] W fun e w' => e = .returned (.tuple #[.agg #[.bool fin, .int .i64 (op : Int), .bool m, .int .u8 ((a : Nat) : Int), .int .u8 ((b : Nat) : Int), .int .u8 ((c : Nat) : Int), .int .u8 ((d : Nat) : Int), .string s], .int .i64 (na : Int), .int .i64 0]) ∧ Sl (Below W.heap.size W w') := fun W g cap hW hv => by
        have hx := get_text (chk_ok hc1).1 (by show (bytes s).length ≤ _; omega) rfl B 65536
        rw [hT1, if_neg (by show ¬ (65536 : Int) < ((bytes s).length : Int); omega), hn1] at hx
        have := getf_ex g 0 N cap (A ++ B) 65536 fin (op : Int) m a b c d (bytes s) na 0 W hW hv (by rw [List.length_append, hlA.out, hlB.out]; exact hN) (by rw [← hT1, ← hT2]; exact (text_small hc1 hk1 (bytes_small s)).append (text_small hc2 hk2 (bytes_small s'))) (by omega) (by decide) hx
        rw [strOf_bytes] at this
        exact this
      have G2 : ∀ (W : World) g o cap, Globs W → SrcAt W (.slice (some ⟨g, o, none⟩) nb cap) (((A ++ B).drop na).take nb) → Calls Tryd.prog 16 #[.slice (some ⟨g, o, none⟩) nb cap, .int .i64 65536] W fun e w' => e = .returned (.tuple #[.agg #[.bool fin', .int .i64 (op' : Int), .bool m', .int .u8 ((a' : Nat) : Int), .int .u8 ((b' : Nat) : Int), .int .u8 ((c' : Nat) : Int), .int .u8 ((d' : Nat) : Int), .string s'], .int .i64 (nb : Int), .int .i64 0]) ∧ Sl (Below W.heap.size W w') := fun W g o cap hW hv => by
        rw [← hlA.out, List.drop_left, ← hlB.out, List.take_length] at hv
        have hx := get_text (chk_ok hc2).1 (by show (bytes s').length ≤ _; omega) rfl [] 65536
        rw [hT2, if_neg (by show ¬ (65536 : Int) < ((bytes s').length : Int); omega), hn2, List.append_nil] at hx
        rw [hlB.out] at hv
        have := getf_ex g o nb cap B 65536 fin' (op' : Int) m' a' b' c' d' (bytes s') nb 0 W hW hv hlB.out (by rw [← hT2]; exact text_small hc2 hk2 (bytes_small s')) (by omega) (by decide) hx
        rw [strOf_bytes] at this
        exact this
      have heq1 := eq_same fin (op : Int) m a b c d s hk1
      have heq2 := eq_same fin' (op' : Int) m' a' b' c' d' s' hk2
      clear hc1 hc2 hT1 hT2 hn1 hn2 hdl1 hdl2 hs hs' hk1 hk2
      go_enter Tryd.func8, Tryd.ntmps8
      go_wp2_with fail
      refine (awake_any w2 (HG.out.below HB2.out HG.out.size)).mono ?_
      rintro e w3 ⟨rfl, HX3⟩
      have HB3 : Sl (Below w.heap.size w w3) := ⟨HB2.out.trans (HX3.out.mono HB2.out.size)⟩
      have HY3 : Sl (w3.heap[w.heap.size]? = some (.cells #[.bool fin, .int .i64 (op : Int), .bool m, .int .u8 ((a : Nat) : Int), .int .u8 ((b : Nat) : Int), .int .u8 ((c : Nat) : Int), .int .u8 ((d : Nat) : Int), .string s] 24 (0, 0))) := ⟨below_key HY2.out HX3.out⟩
      have HZ3 : Sl (w3.heap[w.heap.size + 1]? = some (.cells #[.bool fin', .int .i64 (op' : Int), .bool m', .int .u8 ((a' : Nat) : Int), .int .u8 ((b' : Nat) : Int), .int .u8 ((c' : Nat) : Int), .int .u8 ((d' : Nat) : Int), .string s'] 24 (0, 0))) := ⟨below_key HZ2.out HX3.out⟩
      clear HB2 HY2 HZ2 HX3 hw1 hw2 h1s
      obtain ⟨c0, c1, c2, c3, c4, c5, c6, c7⟩ := bx8 HY3.out
      obtain ⟨d0, d1, d2, d3, d4, d5, d6, d7⟩ := bx8 HZ3.out
      go_wp2_with fail
      refine (P1 w3 (HG.out.below HB3.out HG.out.size)).mono ?_
      rintro e w4 ⟨g4, cap4, rfl, HS4, HX4⟩
      have HB4 : Sl (Below w.heap.size w w4) := ⟨HB3.out.trans (HX4.out.mono HB3.out.size)⟩
      have HY4 : Sl (w4.heap[w.heap.size]? = some (.cells #[.bool fin, .int .i64 (op : Int), .bool m, .int .u8 ((a : Nat) : Int), .int .u8 ((b : Nat) : Int), .int .u8 ((c : Nat) : Int), .int .u8 ((d : Nat) : Int), .string s] 24 (0, 0))) := ⟨below_key HY3.out HX4.out⟩
      have HZ4 : Sl (w4.heap[w.heap.size + 1]? = some (.cells #[.bool fin', .int .i64 (op' : Int), .bool m', .int .u8 ((a' : Nat) : Int), .int .u8 ((b' : Nat) : Int), .int .u8 ((c' : Nat) : Int), .int .u8 ((d' : Nat) : Int), .string s'] 24 (0, 0))) := ⟨below_key HZ3.out HX4.out⟩
      clear c0 c1 c2 c3 c4 c5 c6 c7
      clear d0 d1 d2 d3 d4 d5 d6 d7
      obtain ⟨c0, c1, c2, c3, c4, c5, c6, c7⟩ := bx8 HY4.out
      obtain ⟨d0, d1, d2, d3, d4, d5, d6, d7⟩ := bx8 HZ4.out
      go_wp2_with fail
      refine (P2 w4 (HG.out.below HB4.out HG.out.size)).mono ?_
      rintro e w5 ⟨g5, cap5, rfl, HS5, HX5⟩
      have HB5 : Sl (Below w.heap.size w w5) := ⟨HB4.out.trans (HX5.out.mono HB4.out.size)⟩
      have HY5 : Sl (w5.heap[w.heap.size]? = some (.cells #[.bool fin, .int .i64 (op : Int), .bool m, .int .u8 ((a : Nat) : Int), .int .u8 ((b : Nat) : Int), .int .u8 ((c : Nat) : Int), .int .u8 ((d : Nat) : Int), .string s] 24 (0, 0))) := ⟨below_key HY4.out HX5.out⟩
      have HZ5 : Sl (w5.heap[w.heap.size + 1]? = some (.cells #[.bool fin', .int .i64 (op' : Int), .bool m', .int .u8 ((a' : Nat) : Int), .int .u8 ((b' : Nat) : Int), .int .u8 ((c' : Nat) : Int), .int .u8 ((d' : Nat) : Int), .string s'] 24 (0, 0))) := ⟨below_key HZ4.out HX5.out⟩
      clear c0 c1 c2 c3 c4 c5 c6 c7
      clear d0 d1 d2 d3 d4 d5 d6 d7
      obtain ⟨c0, c1, c2, c3, c4, c5, c6, c7⟩ := bx8 HY5.out
      obtain ⟨d0, d1, d2, d3, d4, d5, d6, d7⟩ := bx8 HZ5.out
      have HS45 : Sl (SrcAt w5 (.slice (some ⟨g4, 0, none⟩) na cap4) A) := ⟨HS4.out.below (Nat.le_refl _) HX5.out⟩
      clear HS4 HX4 HX5
      obtain ⟨w6, hw6⟩ : ∃ V, w5.alloc (.cells #[] 5) = V := ⟨_, rfl⟩
      have HX6 : Below w5.heap.size w5 w6 := by rw [← hw6]; exact (Below.refl _ _).alloc (Nat.le_refl _) _
      have ho6 : w6.ownsRow w5.heap.size 5 1 (.slice (some ⟨w5.heap.size, 0, none⟩) 0 0) ([] : List Nat).length (u8s []) := by rw [← hw6]; exact own_row (rowB_new w5 []) _ (Nat.le_refl _) (by decide)
      obtain ⟨g7, cap7, w7, hr7, ho7, hg7⟩ := add_src (base := w5.heap.size) ho6 (HS45.out.below (Nat.le_refl _) HX6) (by rw [hlA.out]; simp; omega) HX6.size (by rw [List.nil_append, hlA.out]; omega)
      rw [List.nil_append] at hr7 ho7
      rw [hlA.out] at hr7
      have HX7 : Below w5.heap.size w5 w7 := below_grown HX6 ho6 hg7 HX6.size
      have hv7 := ho7
      rw [hlA.out] at ho7
      obtain ⟨g8, cap8, w8, hr8, ho8, hg8⟩ := add_src (base := w5.heap.size) (m := A) (by rw [hlA.out]; exact ho7) (HS5.out.below (Nat.le_refl _) HX7) (by rw [hlA.out, hlB.out]; omega) HX7.size (by rw [List.length_append, hlA.out, hlB.out]; omega)
      have HX8 : Below w5.heap.size w5 w8 := below_grown HX7 ho7 hg8 HX7.size
      obtain ⟨g8', cap8', he8, _, hs8⟩ := own_src ho8 (by rw [List.length_append, hlA.out, hlB.out]; omega)
      rw [List.length_append, hlA.out, hlB.out, hN] at hr8 hs8
      have HS8 := Sl.mk hs8
      replace HX8 := Sl.mk HX8
      have HB8 : Sl (Below w.heap.size w w8) := ⟨HB5.out.trans (HX8.out.mono HB5.out.size)⟩
      have HY8 : Sl (w8.heap[w.heap.size]? = some (.cells #[.bool fin, .int .i64 (op : Int), .bool m, .int .u8 ((a : Nat) : Int), .int .u8 ((b : Nat) : Int), .int .u8 ((c : Nat) : Int), .int .u8 ((d : Nat) : Int), .string s] 24 (0, 0))) := ⟨below_key HY5.out HX8.out⟩
      have HZ8 : Sl (w8.heap[w.heap.size + 1]? = some (.cells #[.bool fin', .int .i64 (op' : Int), .bool m', .int .u8 ((a' : Nat) : Int), .int .u8 ((b' : Nat) : Int), .int .u8 ((c' : Nat) : Int), .int .u8 ((d' : Nat) : Int), .string s'] 24 (0, 0))) := ⟨below_key HZ5.out HX8.out⟩
      clear ho7 ho8 hg7 hg8 HX6 HX7 ho6 HS45 HS5 hv7 he8 hs8
      go_wp2_with (at_builtin; first | (refine wpList_app rfl (.tmp 47) (.tmp 48) 26 26 rfl rfl _ _ ⟨g4, 0, none⟩ na cap4 w7 rfl rfl hr7 ?_) | (refine wpList_app rfl (.tmp 49) (.tmp 50) 26 26 rfl rfl _ _ ⟨g5, 0, none⟩ nb cap5 w8 rfl rfl hr8 ?_))
      clear hr7 hr8 hw6
      refine (G1 w8 _ _ (HG.out.below HB8.out HG.out.size) HS8.out).mono ?_
      rintro e w9 ⟨rfl, HX9⟩
      have HB9 : Sl (Below w.heap.size w w9) := ⟨HB8.out.trans (HX9.out.mono HB8.out.size)⟩
      have HY9 : Sl (w9.heap[w.heap.size]? = some (.cells #[.bool fin, .int .i64 (op : Int), .bool m, .int .u8 ((a : Nat) : Int), .int .u8 ((b : Nat) : Int), .int .u8 ((c : Nat) : Int), .int .u8 ((d : Nat) : Int), .string s] 24 (0, 0))) := ⟨below_key HY8.out HX9.out⟩
      have HZ9 : Sl (w9.heap[w.heap.size + 1]? = some (.cells #[.bool fin', .int .i64 (op' : Int), .bool m', .int .u8 ((a' : Nat) : Int), .int .u8 ((b' : Nat) : Int), .int .u8 ((c' : Nat) : Int), .int .u8 ((d' : Nat) : Int), .string s'] 24 (0, 0))) := ⟨below_key HZ8.out HX9.out⟩
      obtain ⟨w10, hw10⟩ : ∃ V, (w9.alloc (.cells #[.bool false, .int .i64 0, .bool false, .int .u8 0, .int .u8 0, .int .u8 0, .int .u8 0, .string { data := #[] }] 24)).setRow w9.heap.size #[.bool fin, .int .i64 (op : Int), .bool m, .int .u8 ((a : Nat) : Int), .int .u8 ((b : Nat) : Int), .int .u8 ((c : Nat) : Int), .int .u8 ((d : Nat) : Int), .string s] = V := ⟨_, rfl⟩
      have HXw10 : Sl (Below w9.heap.size w9 w10) := ⟨by rw [← hw10]; exact laid_self w9 #[.bool fin, .int .i64 (op : Int), .bool m, .int .u8 ((a : Nat) : Int), .int .u8 ((b : Nat) : Int), .int .u8 ((c : Nat) : Int), .int .u8 ((d : Nat) : Int), .string s]⟩
      have HBw10 : Sl (Below w.heap.size w w10) := ⟨HB9.out.trans (HXw10.out.mono HB9.out.size)⟩
      have HYw10 : Sl (w10.heap[w9.heap.size]? = some (.cells #[.bool fin, .int .i64 (op : Int), .bool m, .int .u8 ((a : Nat) : Int), .int .u8 ((b : Nat) : Int), .int .u8 ((c : Nat) : Int), .int .u8 ((d : Nat) : Int), .string s] 24 (0, 0))) := ⟨by rw [← hw10]; exact (laid_fr #[.bool fin, .int .i64 (op : Int), .bool m, .int .u8 ((a : Nat) : Int), .int .u8 ((b : Nat) : Int), .int .u8 ((c : Nat) : Int), .int .u8 ((d : Nat) : Int), .string s] (Below.refl _ _)).2⟩
      have HIw10 := fr_info (cs := #[.bool fin, .int .i64 (op : Int), .bool m, .int .u8 ((a : Nat) : Int), .int .u8 ((b : Nat) : Int), .int .u8 ((c : Nat) : Int), .int .u8 ((d : Nat) : Int), .string s]) rfl
      have HY10 : Sl (w10.heap[w.heap.size]? = some (.cells #[.bool fin, .int .i64 (op : Int), .bool m, .int .u8 ((a : Nat) : Int), .int .u8 ((b : Nat) : Int), .int .u8 ((c : Nat) : Int), .int .u8 ((d : Nat) : Int), .string s] 24 (0, 0))) := ⟨below_key HY9.out HXw10.out⟩
      have HZ10 : Sl (w10.heap[w.heap.size + 1]? = some (.cells #[.bool fin', .int .i64 (op' : Int), .bool m', .int .u8 ((a' : Nat) : Int), .int .u8 ((b' : Nat) : Int), .int .u8 ((c' : Nat) : Int), .int .u8 ((d' : Nat) : Int), .string s'] 24 (0, 0))) := ⟨below_key HZ9.out HXw10.out⟩
      have HS10 : Sl (SrcAt w10 (.slice (some ⟨g8, 0, none⟩) N cap8) (A ++ B)) := ⟨(HS8.out.below (Nat.le_refl _) HX9.out).below (Nat.le_refl _) HXw10.out⟩
      clear c0 c1 c2 c3 c4 c5 c6 c7
      clear d0 d1 d2 d3 d4 d5 d6 d7
      obtain ⟨c0, c1, c2, c3, c4, c5, c6, c7⟩ := bx8 HY10.out
      obtain ⟨d0, d1, d2, d3, d4, d5, d6, d7⟩ := bx8 HZ10.out
      obtain ⟨e0, e1, e2, e3, e4, e5, e6, e7⟩ := bx8 HYw10.out
      have hcapN : N ≤ cap8 := by obtain ⟨_, c', _, _, he, h1, _⟩ := HS10.out; injection he with _ _ ec; rw [List.length_append, hlA.out, hlB.out] at h1; omega
      have hcap : ¬ cap8 = na := by omega
      have hle1 : na ≤ N := by omega
      have hsub : N - na = nb := by omega
      clear HX9 HS8 HXw10 HYw10
      go_wp2_with (refine wpList_store_row rfl 24 (.tmp 10) (.tmp 55) rfl w9.heap.size #[.bool fin, .int .i64 (op : Int), .bool m, .int .u8 ((a : Nat) : Int), .int .u8 ((b : Nat) : Int), .int .u8 ((c : Nat) : Int), .int .u8 ((d : Nat) : Int), .string s] rfl rfl 24 #[.bool false, .int .i64 0, .bool false, .int .u8 0, .int .u8 0, .int .u8 0, .int .u8 0, .string { data := #[] }] (bx_new w9 _) HIw10 rfl (fr_all _ _ _ _ _ _ _ _) ?_)
      refine (G2 w10 _ _ _ (HG.out.below HBw10.out HG.out.size) (src_sub HS10.out na nb (cap8 - na) na (fun _ => Nat.zero_add _) (by omega) (by omega) (by rw [List.length_append, hlA.out, hlB.out]; exact hN))).mono ?_
      rintro e w11 ⟨rfl, HX11⟩
      have HB11 : Sl (Below w.heap.size w w11) := ⟨HBw10.out.trans (HX11.out.mono HBw10.out.size)⟩
      have HZ11 : Sl (w11.heap[w.heap.size + 1]? = some (.cells #[.bool fin', .int .i64 (op' : Int), .bool m', .int .u8 ((a' : Nat) : Int), .int .u8 ((b' : Nat) : Int), .int .u8 ((c' : Nat) : Int), .int .u8 ((d' : Nat) : Int), .string s'] 24 (0, 0))) := ⟨below_key HZ10.out HX11.out⟩
      obtain ⟨w12, hw12⟩ : ∃ V, (w11.alloc (.cells #[.bool false, .int .i64 0, .bool false, .int .u8 0, .int .u8 0, .int .u8 0, .int .u8 0, .string { data := #[] }] 24)).setRow w11.heap.size #[.bool fin', .int .i64 (op' : Int), .bool m', .int .u8 ((a' : Nat) : Int), .int .u8 ((b' : Nat) : Int), .int .u8 ((c' : Nat) : Int), .int .u8 ((d' : Nat) : Int), .string s'] = V := ⟨_, rfl⟩
      have HXw12 : Sl (Below w11.heap.size w11 w12) := ⟨by rw [← hw12]; exact laid_self w11 #[.bool fin', .int .i64 (op' : Int), .bool m', .int .u8 ((a' : Nat) : Int), .int .u8 ((b' : Nat) : Int), .int .u8 ((c' : Nat) : Int), .int .u8 ((d' : Nat) : Int), .string s']⟩
      have HBw12 : Sl (Below w.heap.size w w12) := ⟨HB11.out.trans (HXw12.out.mono HB11.out.size)⟩
      have HYw12 : Sl (w12.heap[w11.heap.size]? = some (.cells #[.bool fin', .int .i64 (op' : Int), .bool m', .int .u8 ((a' : Nat) : Int), .int .u8 ((b' : Nat) : Int), .int .u8 ((c' : Nat) : Int), .int .u8 ((d' : Nat) : Int), .string s'] 24 (0, 0))) := ⟨by rw [← hw12]; exact (laid_fr #[.bool fin', .int .i64 (op' : Int), .bool m', .int .u8 ((a' : Nat) : Int), .int .u8 ((b' : Nat) : Int), .int .u8 ((c' : Nat) : Int), .int .u8 ((d' : Nat) : Int), .string s'] (Below.refl _ _)).2⟩
      have HIw12 := fr_info (cs := #[.bool fin', .int .i64 (op' : Int), .bool m', .int .u8 ((a' : Nat) : Int), .int .u8 ((b' : Nat) : Int), .int .u8 ((c' : Nat) : Int), .int .u8 ((d' : Nat) : Int), .string s']) rfl
      have HZ12 : Sl (w12.heap[w.heap.size + 1]? = some (.cells #[.bool fin', .int .i64 (op' : Int), .bool m', .int .u8 ((a' : Nat) : Int), .int .u8 ((b' : Nat) : Int), .int .u8 ((c' : Nat) : Int), .int .u8 ((d' : Nat) : Int), .string s'] 24 (0, 0))) := ⟨below_key HZ11.out HXw12.out⟩
      clear c0 c1 c2 c3 c4 c5 c6 c7
      clear d0 d1 d2 d3 d4 d5 d6 d7
      clear e0 e1 e2 e3 e4 e5 e6 e7
      obtain ⟨d0, d1, d2, d3, d4, d5, d6, d7⟩ := bx8 HZ12.out
      obtain ⟨e0, e1, e2, e3, e4, e5, e6, e7⟩ := bx8 HYw12.out
      clear HX11 HXw12 HYw12 hw10
      go_wp2_with (refine wpList_store_row rfl 24 (.tmp 13) (.tmp 76) rfl w11.heap.size #[.bool fin', .int .i64 (op' : Int), .bool m', .int .u8 ((a' : Nat) : Int), .int .u8 ((b' : Nat) : Int), .int .u8 ((c' : Nat) : Int), .int .u8 ((d' : Nat) : Int), .string s'] rfl rfl 24 #[.bool false, .int .i64 0, .bool false, .int .u8 0, .int .u8 0, .int .u8 0, .int .u8 0, .string { data := #[] }] (bx_new w11 _) HIw12 rfl (fr_all _ _ _ _ _ _ _ _) ?_)
      go_ret
      exact ⟨rfl, HBw12.out⟩
    · have P2 : ∀ W, Globs W → Calls Tryd.prog 11 #[.agg #[.bool fin', .int .i64 (op' : Int), .bool m', .int .u8 ((a' : Nat) : Int), .int .u8 ((b' : Nat) : Int), .int .u8 ((c' : Nat) : Int), .int .u8 ((d' : Nat) : Int), .string s']] W fun e w' => e = .returned (.tuple #[.slice none 0 0, .int .i64 (k2 : Int)]) ∧ Sl (Below W.heap.size W w') := fun W _ => putf_no fin' op' m' a' b' c' d' s' k2 W hk2 hc2 h02
      have hne2 : ((k2 : Int) != 0) = true := by simp; omega
      clear hc1 hc2 hT1 hn1 hdl1 hs hs' hk1 hk2 h02 hsz1 hlA
      go_enter Tryd.func8, Tryd.ntmps8
      go_wp2_with fail
      refine (awake_any w2 (HG.out.below HB2.out HG.out.size)).mono ?_
      rintro e w3 ⟨rfl, HX3⟩
      have HB3 : Sl (Below w.heap.size w w3) := ⟨HB2.out.trans (HX3.out.mono HB2.out.size)⟩
      have HY3 : Sl (w3.heap[w.heap.size]? = some (.cells #[.bool fin, .int .i64 (op : Int), .bool m, .int .u8 ((a : Nat) : Int), .int .u8 ((b : Nat) : Int), .int .u8 ((c : Nat) : Int), .int .u8 ((d : Nat) : Int), .string s] 24 (0, 0))) := ⟨below_key HY2.out HX3.out⟩
      have HZ3 : Sl (w3.heap[w.heap.size + 1]? = some (.cells #[.bool fin', .int .i64 (op' : Int), .bool m', .int .u8 ((a' : Nat) : Int), .int .u8 ((b' : Nat) : Int), .int .u8 ((c' : Nat) : Int), .int .u8 ((d' : Nat) : Int), .string s'] 24 (0, 0))) := ⟨below_key HZ2.out HX3.out⟩
      clear HB2 HY2 HZ2 HX3 hw1 hw2 h1s
      obtain ⟨c0, c1, c2, c3, c4, c5, c6, c7⟩ := bx8 HY3.out
      obtain ⟨d0, d1, d2, d3, d4, d5, d6, d7⟩ := bx8 HZ3.out
      go_wp2_with fail
      refine (P1 w3 (HG.out.below HB3.out HG.out.size)).mono ?_
      rintro e w4 ⟨g4, cap4, rfl, HS4, HX4⟩
      have HB4 : Sl (Below w.heap.size w w4) := ⟨HB3.out.trans (HX4.out.mono HB3.out.size)⟩
      have HY4 : Sl (w4.heap[w.heap.size]? = some (.cells #[.bool fin, .int .i64 (op : Int), .bool m, .int .u8 ((a : Nat) : Int), .int .u8 ((b : Nat) : Int), .int .u8 ((c : Nat) : Int), .int .u8 ((d : Nat) : Int), .string s] 24 (0, 0))) := ⟨below_key HY3.out HX4.out⟩
      have HZ4 : Sl (w4.heap[w.heap.size + 1]? = some (.cells #[.bool fin', .int .i64 (op' : Int), .bool m', .int .u8 ((a' : Nat) : Int), .int .u8 ((b' : Nat) : Int), .int .u8 ((c' : Nat) : Int), .int .u8 ((d' : Nat) : Int), .string s'] 24 (0, 0))) := ⟨below_key HZ3.out HX4.out⟩
      clear c0 c1 c2 c3 c4 c5 c6 c7
      clear d0 d1 d2 d3 d4 d5 d6 d7
      obtain ⟨c0, c1, c2, c3, c4, c5, c6, c7⟩ := bx8 HY4.out
      obtain ⟨d0, d1, d2, d3, d4, d5, d6, d7⟩ := bx8 HZ4.out
      go_wp2_with fail
      refine (P2 w4 (HG.out.below HB4.out HG.out.size)).mono ?_
      rintro e w5 ⟨rfl, HX5⟩
      have HB5 : Sl (Below w.heap.size w w5) := ⟨HB4.out.trans (HX5.out.mono HB4.out.size)⟩
      have HY5 : Sl (w5.heap[w.heap.size]? = some (.cells #[.bool fin, .int .i64 (op : Int), .bool m, .int .u8 ((a : Nat) : Int), .int .u8 ((b : Nat) : Int), .int .u8 ((c : Nat) : Int), .int .u8 ((d : Nat) : Int), .string s] 24 (0, 0))) := ⟨below_key HY4.out HX5.out⟩
      have HZ5 : Sl (w5.heap[w.heap.size + 1]? = some (.cells #[.bool fin', .int .i64 (op' : Int), .bool m', .int .u8 ((a' : Nat) : Int), .int .u8 ((b' : Nat) : Int), .int .u8 ((c' : Nat) : Int), .int .u8 ((d' : Nat) : Int), .string s'] 24 (0, 0))) := ⟨below_key HZ4.out HX5.out⟩
      clear c0 c1 c2 c3 c4 c5 c6 c7
      clear d0 d1 d2 d3 d4 d5 d6 d7
      go_wp2
      go_ret
      exact ⟨rfl, HB5.out⟩
  · by_cases h02 : k2 = 0
    · subst h02
      obtain ⟨op', rfl⟩ := Int.eq_ofNat_of_zero_le (show 0 ≤ op' by have h := (form_cases (chk_ok hc2).1).1; simp only at h; omega)
      obtain ⟨nb, hn2⟩ : ∃ n, size (⟨fin', (op' : Int), m', [a', b', c', d'], bytes s'⟩ : Fr) = n := ⟨_, rfl⟩
      obtain ⟨B, hT2⟩ : ∃ T, text (⟨fin', (op' : Int), m', [a', b', c', d'], bytes s'⟩ : Fr) = T := ⟨_, rfl⟩
      have hdl2 : (bytes s').length ≤ 1000 := by rw [bytes_length]; omega
      have hlB : Sl (B.length = nb) := ⟨by rw [← hT2, ← hn2]; exact text_length _ (by show (bytes _).length ≤ _; omega) rfl⟩
      have hsz2 : 2 ≤ nb ∧ nb ≤ 1100 := by rw [← hn2]; unfold size; simp only [bytes_length]; split <;> split <;> (try split) <;> omega
      have P2 : ∀ W, Globs W → Calls Tryd.prog 11 #[.agg #[.bool fin', .int .i64 (op' : Int), .bool m', .int .u8 ((a' : Nat) : Int), .int .u8 ((b' : Nat) : Int), .int .u8 ((c' : Nat) : Int), .int .u8 ((d' : Nat) : Int), .string s']] W fun e w' => ∃ g cap, e = .returned (.tuple #[.slice (some ⟨g, 0, none⟩) nb cap, .int .i64 0]) ∧ Sl (SrcAt w' (.slice (some ⟨g, 0, none⟩) nb cap) B) ∧ Sl (Below W.heap.size W w') := fun W hW => by
        have := putf_yes fin' op' m' a' b' c' d' s' nb W hW hk2 hc2 hn2
        rw [hT2] at this
        exact this
      have P1 : ∀ W, Globs W → Calls Tryd.prog 11 #[.agg #[.bool fin, .int .i64 (op : Int), .bool m, .int .u8 ((a : Nat) : Int), .int .u8 ((b : Nat) : Int), .int .u8 ((c : Nat) : Int), .int .u8 ((d : Nat) : Int), .string s]] W fun e w' => e = .returned (.tuple #[.slice none 0 0, .int .i64 (k1 : Int)]) ∧ Sl (Below W.heap.size W w') := fun W _ => putf_no fin op m a b c d s k1 W hk1 hc1 h01
      have hne1 : ((k1 : Int) != 0) = true := by simp; omega
      clear hc1 hc2 hT2 hn2 hdl2 hs hs' hk1 hk2 h01 hsz2 hlB
      go_enter Tryd.func8, Tryd.ntmps8
      go_wp2_with fail
      refine (awake_any w2 (HG.out.below HB2.out HG.out.size)).mono ?_
      rintro e w3 ⟨rfl, HX3⟩
      have HB3 : Sl (Below w.heap.size w w3) := ⟨HB2.out.trans (HX3.out.mono HB2.out.size)⟩
      have HY3 : Sl (w3.heap[w.heap.size]? = some (.cells #[.bool fin, .int .i64 (op : Int), .bool m, .int .u8 ((a : Nat) : Int), .int .u8 ((b : Nat) : Int), .int .u8 ((c : Nat) : Int), .int .u8 ((d : Nat) : Int), .string s] 24 (0, 0))) := ⟨below_key HY2.out HX3.out⟩
      have HZ3 : Sl (w3.heap[w.heap.size + 1]? = some (.cells #[.bool fin', .int .i64 (op' : Int), .bool m', .int .u8 ((a' : Nat) : Int), .int .u8 ((b' : Nat) : Int), .int .u8 ((c' : Nat) : Int), .int .u8 ((d' : Nat) : Int), .string s'] 24 (0, 0))) := ⟨below_key HZ2.out HX3.out⟩
      clear HB2 HY2 HZ2 HX3 hw1 hw2 h1s
      obtain ⟨c0, c1, c2, c3, c4, c5, c6, c7⟩ := bx8 HY3.out
      obtain ⟨d0, d1, d2, d3, d4, d5, d6, d7⟩ := bx8 HZ3.out
      go_wp2_with fail
      refine (P1 w3 (HG.out.below HB3.out HG.out.size)).mono ?_
      rintro e w4 ⟨rfl, HX4⟩
      have HB4 : Sl (Below w.heap.size w w4) := ⟨HB3.out.trans (HX4.out.mono HB3.out.size)⟩
      have HY4 : Sl (w4.heap[w.heap.size]? = some (.cells #[.bool fin, .int .i64 (op : Int), .bool m, .int .u8 ((a : Nat) : Int), .int .u8 ((b : Nat) : Int), .int .u8 ((c : Nat) : Int), .int .u8 ((d : Nat) : Int), .string s] 24 (0, 0))) := ⟨below_key HY3.out HX4.out⟩
      have HZ4 : Sl (w4.heap[w.heap.size + 1]? = some (.cells #[.bool fin', .int .i64 (op' : Int), .bool m', .int .u8 ((a' : Nat) : Int), .int .u8 ((b' : Nat) : Int), .int .u8 ((c' : Nat) : Int), .int .u8 ((d' : Nat) : Int), .string s'] 24 (0, 0))) := ⟨below_key HZ3.out HX4.out⟩
      clear c0 c1 c2 c3 c4 c5 c6 c7
      clear d0 d1 d2 d3 d4 d5 d6 d7
      obtain ⟨c0, c1, c2, c3, c4, c5, c6, c7⟩ := bx8 HY4.out
      obtain ⟨d0, d1, d2, d3, d4, d5, d6, d7⟩ := bx8 HZ4.out
      go_wp2_with fail
      refine (P2 w4 (HG.out.below HB4.out HG.out.size)).mono ?_
      rintro e w5 ⟨g5, cap5, rfl, HS5, HX5⟩
      have HB5 : Sl (Below w.heap.size w w5) := ⟨HB4.out.trans (HX5.out.mono HB4.out.size)⟩
      have HY5 : Sl (w5.heap[w.heap.size]? = some (.cells #[.bool fin, .int .i64 (op : Int), .bool m, .int .u8 ((a : Nat) : Int), .int .u8 ((b : Nat) : Int), .int .u8 ((c : Nat) : Int), .int .u8 ((d : Nat) : Int), .string s] 24 (0, 0))) := ⟨below_key HY4.out HX5.out⟩
      have HZ5 : Sl (w5.heap[w.heap.size + 1]? = some (.cells #[.bool fin', .int .i64 (op' : Int), .bool m', .int .u8 ((a' : Nat) : Int), .int .u8 ((b' : Nat) : Int), .int .u8 ((c' : Nat) : Int), .int .u8 ((d' : Nat) : Int), .string s'] 24 (0, 0))) := ⟨below_key HZ4.out HX5.out⟩
      clear c0 c1 c2 c3 c4 c5 c6 c7
      clear d0 d1 d2 d3 d4 d5 d6 d7
      go_wp2
      go_ret
      exact ⟨rfl, HB5.out⟩
    · have P1 : ∀ W, Globs W → Calls Tryd.prog 11 #[.agg #[.bool fin, .int .i64 (op : Int), .bool m, .int .u8 ((a : Nat) : Int), .int .u8 ((b : Nat) : Int), .int .u8 ((c : Nat) : Int), .int .u8 ((d : Nat) : Int), .string s]] W fun e w' => e = .returned (.tuple #[.slice none 0 0, .int .i64 (k1 : Int)]) ∧ Sl (Below W.heap.size W w') := fun W _ => putf_no fin op m a b c d s k1 W hk1 hc1 h01
      have hne1 : ((k1 : Int) != 0) = true := by simp; omega
      have P2 : ∀ W, Globs W → Calls Tryd.prog 11 #[.agg #[.bool fin', .int .i64 (op' : Int), .bool m', .int .u8 ((a' : Nat) : Int), .int .u8 ((b' : Nat) : Int), .int .u8 ((c' : Nat) : Int), .int .u8 ((d' : Nat) : Int), .string s']] W fun e w' => e = .returned (.tuple #[.slice none 0 0, .int .i64 (k2 : Int)]) ∧ Sl (Below W.heap.size W w') := fun W _ => putf_no fin' op' m' a' b' c' d' s' k2 W hk2 hc2 h02
      have hne2 : ((k2 : Int) != 0) = true := by simp; omega
      clear hc1 hc2 hs hs' hk1 hk2 h01 h02
      go_enter Tryd.func8, Tryd.ntmps8
      go_wp2_with fail
      refine (awake_any w2 (HG.out.below HB2.out HG.out.size)).mono ?_
      rintro e w3 ⟨rfl, HX3⟩
      have HB3 : Sl (Below w.heap.size w w3) := ⟨HB2.out.trans (HX3.out.mono HB2.out.size)⟩
      have HY3 : Sl (w3.heap[w.heap.size]? = some (.cells #[.bool fin, .int .i64 (op : Int), .bool m, .int .u8 ((a : Nat) : Int), .int .u8 ((b : Nat) : Int), .int .u8 ((c : Nat) : Int), .int .u8 ((d : Nat) : Int), .string s] 24 (0, 0))) := ⟨below_key HY2.out HX3.out⟩
      have HZ3 : Sl (w3.heap[w.heap.size + 1]? = some (.cells #[.bool fin', .int .i64 (op' : Int), .bool m', .int .u8 ((a' : Nat) : Int), .int .u8 ((b' : Nat) : Int), .int .u8 ((c' : Nat) : Int), .int .u8 ((d' : Nat) : Int), .string s'] 24 (0, 0))) := ⟨below_key HZ2.out HX3.out⟩
      clear HB2 HY2 HZ2 HX3 hw1 hw2 h1s
      obtain ⟨c0, c1, c2, c3, c4, c5, c6, c7⟩ := bx8 HY3.out
      obtain ⟨d0, d1, d2, d3, d4, d5, d6, d7⟩ := bx8 HZ3.out
      go_wp2_with fail
      refine (P1 w3 (HG.out.below HB3.out HG.out.size)).mono ?_
      rintro e w4 ⟨rfl, HX4⟩
      have HB4 : Sl (Below w.heap.size w w4) := ⟨HB3.out.trans (HX4.out.mono HB3.out.size)⟩
      have HY4 : Sl (w4.heap[w.heap.size]? = some (.cells #[.bool fin, .int .i64 (op : Int), .bool m, .int .u8 ((a : Nat) : Int), .int .u8 ((b : Nat) : Int), .int .u8 ((c : Nat) : Int), .int .u8 ((d : Nat) : Int), .string s] 24 (0, 0))) := ⟨below_key HY3.out HX4.out⟩
      have HZ4 : Sl (w4.heap[w.heap.size + 1]? = some (.cells #[.bool fin', .int .i64 (op' : Int), .bool m', .int .u8 ((a' : Nat) : Int), .int .u8 ((b' : Nat) : Int), .int .u8 ((c' : Nat) : Int), .int .u8 ((d' : Nat) : Int), .string s'] 24 (0, 0))) := ⟨below_key HZ3.out HX4.out⟩
      clear c0 c1 c2 c3 c4 c5 c6 c7
      clear d0 d1 d2 d3 d4 d5 d6 d7
      obtain ⟨c0, c1, c2, c3, c4, c5, c6, c7⟩ := bx8 HY4.out
      obtain ⟨d0, d1, d2, d3, d4, d5, d6, d7⟩ := bx8 HZ4.out
      go_wp2_with fail
      refine (P2 w4 (HG.out.below HB4.out HG.out.size)).mono ?_
      rintro e w5 ⟨rfl, HX5⟩
      have HB5 : Sl (Below w.heap.size w w5) := ⟨HB4.out.trans (HX5.out.mono HB4.out.size)⟩
      have HY5 : Sl (w5.heap[w.heap.size]? = some (.cells #[.bool fin, .int .i64 (op : Int), .bool m, .int .u8 ((a : Nat) : Int), .int .u8 ((b : Nat) : Int), .int .u8 ((c : Nat) : Int), .int .u8 ((d : Nat) : Int), .string s] 24 (0, 0))) := ⟨below_key HY4.out HX5.out⟩
      have HZ5 : Sl (w5.heap[w.heap.size + 1]? = some (.cells #[.bool fin', .int .i64 (op' : Int), .bool m', .int .u8 ((a' : Nat) : Int), .int .u8 ((b' : Nat) : Int), .int .u8 ((c' : Nat) : Int), .int .u8 ((d' : Nat) : Int), .string s'] 24 (0, 0))) := ⟨below_key HZ4.out HX5.out⟩
      clear c0 c1 c2 c3 c4 c5 c6 c7
      clear d0 d1 d2 d3 d4 d5 d6 d7
      go_wp2
      go_ret
      exact ⟨rfl, HB5.out⟩
end Go.Proofs.YtcelhondifaloaaDoor
