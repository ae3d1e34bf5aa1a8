/- frame: FrameOver's walk. -/
import Derived.Test.YtcelhondifaloaaDoorM
set_option maxRecDepth 100000
namespace Go.Proofs.YtcelhondifaloaaDoor
open Go.RowKit MaskPlain FramePlain Mas

set_option maxHeartbeats 8000000 in
theorem over_walk (fin : Bool) (op : Int) (m : Bool) (a b c d : Nat) (s : ByteArray) (q : Nat) (w : World) (hg : Globs w) (hk1 : Small 256 [a, b, c, d]) (hq16 : q < 65536) : Calls Tryd.prog 9 #[.agg #[.bool fin, .int .i64 (op : Int), .bool m, .int .u8 ((a : Nat) : Int), .int .u8 ((b : Nat) : Int), .int .u8 ((c : Nat) : Int), .int .u8 ((d : Nat) : Int), .string s], .int .u16 (q : Int)] w fun e w' => e = .returned (.bool true) ∧ Below w.heap.size w w' := by
  have HG := Sl.mk hg
  clear hg
  obtain ⟨w2, hw2⟩ : ∃ V, w.alloc (.cells #[.bool fin, .int .i64 (op : Int), .bool m, .int .u8 ((a : Nat) : Int), .int .u8 ((b : Nat) : Int), .int .u8 ((c : Nat) : Int), .int .u8 ((d : Nat) : Int), .string s] 24) = V := ⟨_, rfl⟩
  have HB2 : Sl (Below w.heap.size w w2) := ⟨by rw [← hw2]; exact (bx_below w _).out⟩
  have HY2 : Sl (w2.heap[w.heap.size]? = some (.cells #[.bool fin, .int .i64 (op : Int), .bool m, .int .u8 ((a : Nat) : Int), .int .u8 ((b : Nat) : Int), .int .u8 ((c : Nat) : Int), .int .u8 ((d : Nat) : Int), .string s] 24 (0, 0))) := ⟨by rw [← hw2]; exact bx_new _ _⟩
  by_cases hs : s.size > 1000
  · have hq : ((s.size : Int) > 1000) = True := eq_true (by omega)
    clear hs
    go_enter Tryd.func9, Tryd.ntmps9
    go_wp2_with fail
    refine (awake_any w2 (HG.out.below HB2.out HG.out.size)).mono ?_
    rintro e w3 ⟨rfl, HX3⟩
    have HB3 : Sl (Below w.heap.size w w3) := ⟨HB2.out.trans (HX3.out.mono HB2.out.size)⟩
    have HY3 : Sl (w3.heap[w.heap.size]? = some (.cells #[.bool fin, .int .i64 (op : Int), .bool m, .int .u8 ((a : Nat) : Int), .int .u8 ((b : Nat) : Int), .int .u8 ((c : Nat) : Int), .int .u8 ((d : Nat) : Int), .string s] 24 (0, 0))) := ⟨below_key HY2.out HX3.out⟩
    clear HB2 HY2 HX3 hw2
    obtain ⟨c0, c1, c2, c3, c4, c5, c6, c7⟩ := bx8 HY3.out
    go_wp2_with fail
    refine (awake_any w3 (HG.out.below HB3.out HG.out.size)).mono ?_
    rintro e w4 ⟨rfl, HX4⟩
    have HB4 := HB3.out.trans (HX4.out.mono HB3.out.size)
    go_wp2
    go_ret
    exact ⟨rfl, HB4⟩
  have hq : ((s.size : Int) > 1000) = False := eq_false (by omega)
  obtain ⟨k1, hc1⟩ : ∃ k, chk (⟨fin, (op : Int), m, [a, b, c, d], bytes s⟩ : Fr) = k := ⟨_, rfl⟩
  by_cases h01 : k1 = 0
  · subst h01
    obtain ⟨op, rfl⟩ := Int.eq_ofNat_of_zero_le (show 0 ≤ op by have h := (form_cases (chk_ok hc1).1).1; simp only at h; omega)
    obtain ⟨n, hn1⟩ : ∃ n, size (⟨fin, (op : Int), m, [a, b, c, d], bytes s⟩ : Fr) = n := ⟨_, rfl⟩
    obtain ⟨A, hT1⟩ : ∃ T, text (⟨fin, (op : Int), m, [a, b, c, d], bytes s⟩ : Fr) = T := ⟨_, rfl⟩
    have hdl1 : (bytes s).length ≤ 1000 := by rw [bytes_length]; omega
    have hlA : Sl (A.length = n) := ⟨by rw [← hT1, ← hn1]; exact text_length _ (by show (bytes _).length ≤ _; omega) rfl⟩
    have hAS : Small 256 A := by rw [← hT1]; exact text_small hc1 hk1 (bytes_small s)
    have hnb : n ≤ 2000 := by rw [← hn1]; unfold size; simp only [bytes_length]; split <;> split <;> (try split) <;> omega
    have hwq : IntKind.i64.wrap (q : Int) = (q : Int) := by rw [IntKind.wrap_i64]; omega
    have hcap4 : ∀ (W : World) g cap, SrcAt W (.slice (some ⟨g, 0, none⟩) n cap) A → n ≤ cap := fun W g cap hv => by obtain ⟨_, c', _, _, he, h1, _⟩ := hv; injection he with _ _ ec; have := hlA.out; omega
    have P1 : ∀ W, Globs W → Calls Tryd.prog 11 #[.agg #[.bool fin, .int .i64 (op : Int), .bool m, .int .u8 ((a : Nat) : Int), .int .u8 ((b : Nat) : Int), .int .u8 ((c : Nat) : Int), .int .u8 ((d : Nat) : Int), .string s]] W fun e w' => ∃ g cap, e = .returned (.tuple #[.slice (some ⟨g, 0, none⟩) n cap, .int .i64 0]) ∧ Sl (SrcAt w' (.slice (some ⟨g, 0, none⟩) n cap) A) ∧ Sl (Below W.heap.size W w') := fun W hW => by
      have := putf_yes fin op m a b c d s n W hW hk1 hc1 hn1
      rw [hT1] at this
      exact this
    by_cases hb : 125 < s.size
    · obtain ⟨hd, hhd⟩ : ∃ hd, hd = 4 := ⟨_, rfl⟩
      have hqb : ((s.size : Int) > 125) = True := eq_true (by omega)
      have hLn : 1 + (lenB (bytes s).length).length = hd := by rw [lenB_length (by omega)]; simp only [bytes_length]; rw [if_neg (by omega), if_pos (by omega)]; omega
      have hgh := get_head (chk_ok hc1).1 (show (bytes s).length ≤ _ by omega) rfl (q : Int)
      have hgt := get_text (chk_ok hc1).1 (show (bytes s).length ≤ _ by omega) rfl [] (q : Int)
      simp only at hgh hgt
      rw [hT1, hn1, hLn, ← List.drop_zero (l := A)] at hgh
      rw [hT1, hn1, List.append_nil] at hgt
      rw [bytes_length] at hgh hgt
      have hhn : hd ≤ n := by rw [← hn1]; unfold size; simp only [bytes_length]; rw [if_neg (by omega), if_pos (by omega)]; split <;> omega
      by_cases ho : q < s.size
      · have hqo : ((s.size : Int) > (q : Int)) = True := eq_true (by omega)
        rw [if_pos (by omega)] at hgh hgt
        have G1 : ∀ (W : World) g cap, Globs W → SrcAt W (.slice (some ⟨g, 0, none⟩) hd cap) ((A.drop 0).take hd) → Calls Tryd.prog 16 #[.slice (some ⟨g, 0, none⟩) hd cap, .int .i64 (q : Int)] W fun e w' => e = .returned (.tuple #[.agg #[.bool false, .int .i64 0, .bool false, .int .u8 0, .int .u8 0, .int .u8 0, .int .u8 0, .string { data := #[] }], .int .i64 0, .int .i64 92]) ∧ Sl (Below W.heap.size W w') := fun W g cap hW hv => by
          exact getf_err g 0 hd cap ((A.drop 0).take hd) (q : Int) 92 W hW hv (by rw [List.length_take, List.drop_zero, hlA.out]; omega) ((hAS.drop 0).take hd) (by omega) (by omega) hgh
        have G2 : ∀ (W : World) g cap, Globs W → SrcAt W (.slice (some ⟨g, 0, none⟩) n cap) (A) → Calls Tryd.prog 16 #[.slice (some ⟨g, 0, none⟩) n cap, .int .i64 (q : Int)] W fun e w' => e = .returned (.tuple #[.agg #[.bool false, .int .i64 0, .bool false, .int .u8 0, .int .u8 0, .int .u8 0, .int .u8 0, .string { data := #[] }], .int .i64 0, .int .i64 92]) ∧ Sl (Below W.heap.size W w') := fun W g cap hW hv => by
          exact getf_err g 0 n cap (A) (q : Int) 92 W hW hv hlA.out hAS (by omega) (by omega) hgt
        clear hgh hgt hc1 hT1 hn1 hdl1 ho hLn hs hk1 hAS
        subst hhd
        go_enter Tryd.func9, Tryd.ntmps9
        go_wp2_with fail
        refine (awake_any w2 (HG.out.below HB2.out HG.out.size)).mono ?_
        rintro e w3 ⟨rfl, HX3⟩
        have HB3 : Sl (Below w.heap.size w w3) := ⟨HB2.out.trans (HX3.out.mono HB2.out.size)⟩
        have HY3 : Sl (w3.heap[w.heap.size]? = some (.cells #[.bool fin, .int .i64 (op : Int), .bool m, .int .u8 ((a : Nat) : Int), .int .u8 ((b : Nat) : Int), .int .u8 ((c : Nat) : Int), .int .u8 ((d : Nat) : Int), .string s] 24 (0, 0))) := ⟨below_key HY2.out HX3.out⟩
        clear HB2 HY2 HX3 hw2
        obtain ⟨c0, c1, c2, c3, c4, c5, c6, c7⟩ := bx8 HY3.out
        go_wp2_with fail
        refine (P1 w3 (HG.out.below HB3.out HG.out.size)).mono ?_
        rintro e w4 ⟨g4, cap4, rfl, HS4, HX4⟩
        have HB4 : Sl (Below w.heap.size w w4) := ⟨HB3.out.trans (HX4.out.mono HB3.out.size)⟩
        have HY4 : Sl (w4.heap[w.heap.size]? = some (.cells #[.bool fin, .int .i64 (op : Int), .bool m, .int .u8 ((a : Nat) : Int), .int .u8 ((b : Nat) : Int), .int .u8 ((c : Nat) : Int), .int .u8 ((d : Nat) : Int), .string s] 24 (0, 0))) := ⟨below_key HY3.out HX4.out⟩
        clear c0 c1 c2 c3 c4 c5 c6 c7
        clear HX4
        have hcn := hcap4 w4 g4 cap4 HS4.out
        have hc4 : 4 ≤ cap4 := by omega
        obtain ⟨c0, c1, c2, c3, c4, c5, c6, c7⟩ := bx8 HY4.out
        go_wp2_with fail
        refine (G1 w4 _ _ (HG.out.below HB4.out HG.out.size) (src_sub HS4.out 0 4 cap4 0 (fun _ => rfl) (by omega) hc4 hlA.out)).mono ?_
        rintro e w5 ⟨rfl, HX5⟩
        have HS5 := Sl.mk (HS4.out.below (Nat.le_refl _) HX5.out)
        have HB5 : Sl (Below w.heap.size w w5) := ⟨HB4.out.trans (HX5.out.mono HB4.out.size)⟩
        have HY5 : Sl (w5.heap[w.heap.size]? = some (.cells #[.bool fin, .int .i64 (op : Int), .bool m, .int .u8 ((a : Nat) : Int), .int .u8 ((b : Nat) : Int), .int .u8 ((c : Nat) : Int), .int .u8 ((d : Nat) : Int), .string s] 24 (0, 0))) := ⟨below_key HY4.out HX5.out⟩
        obtain ⟨w6, hw6⟩ : ∃ V, (w5.alloc (.cells #[.bool false, .int .i64 0, .bool false, .int .u8 0, .int .u8 0, .int .u8 0, .int .u8 0, .string { data := #[] }] 24)).setRow w5.heap.size #[.bool false, .int .i64 0, .bool false, .int .u8 0, .int .u8 0, .int .u8 0, .int .u8 0, .string { data := #[] }] = V := ⟨_, rfl⟩
        have HXw6 : Sl (Below w5.heap.size w5 w6) := ⟨by rw [← hw6]; exact laid_self w5 #[.bool false, .int .i64 0, .bool false, .int .u8 0, .int .u8 0, .int .u8 0, .int .u8 0, .string { data := #[] }]⟩
        have HBw6 : Sl (Below w.heap.size w w6) := ⟨HB5.out.trans (HXw6.out.mono HB5.out.size)⟩
        have HYw6 : Sl (w6.heap[w5.heap.size]? = some (.cells #[.bool false, .int .i64 0, .bool false, .int .u8 0, .int .u8 0, .int .u8 0, .int .u8 0, .string { data := #[] }] 24 (0, 0))) := ⟨by rw [← hw6]; exact (laid_fr #[.bool false, .int .i64 0, .bool false, .int .u8 0, .int .u8 0, .int .u8 0, .int .u8 0, .string { data := #[] }] (Below.refl _ _)).2⟩
        have HIw6 := fr_info (cs := #[.bool false, .int .i64 0, .bool false, .int .u8 0, .int .u8 0, .int .u8 0, .int .u8 0, .string { data := #[] }]) rfl
        have HY6 : Sl (w6.heap[w.heap.size]? = some (.cells #[.bool fin, .int .i64 (op : Int), .bool m, .int .u8 ((a : Nat) : Int), .int .u8 ((b : Nat) : Int), .int .u8 ((c : Nat) : Int), .int .u8 ((d : Nat) : Int), .string s] 24 (0, 0))) := ⟨below_key HY5.out HXw6.out⟩
        have HS6 := Sl.mk (HS5.out.below (Nat.le_refl _) HXw6.out)
        clear c0 c1 c2 c3 c4 c5 c6 c7
        obtain ⟨c0, c1, c2, c3, c4, c5, c6, c7⟩ := bx8 HY6.out
        clear HX5 HS5 HXw6 HYw6
        go_wp2_with (refine wpList_store_row rfl 24 (.tmp 8) (.tmp 41) rfl w5.heap.size #[.bool false, .int .i64 0, .bool false, .int .u8 0, .int .u8 0, .int .u8 0, .int .u8 0, .string { data := #[] }] rfl rfl 24 #[.bool false, .int .i64 0, .bool false, .int .u8 0, .int .u8 0, .int .u8 0, .int .u8 0, .string { data := #[] }] (bx_new w5 _) HIw6 rfl (fr_all _ _ _ _ _ _ _ _) ?_)
        refine (G2 w6 _ _ (HG.out.below HBw6.out HG.out.size) HS6.out).mono ?_
        rintro e w7 ⟨rfl, HX7⟩
        have HB7 : Sl (Below w.heap.size w w7) := ⟨HBw6.out.trans (HX7.out.mono HBw6.out.size)⟩
        have HY7 : Sl (w7.heap[w.heap.size]? = some (.cells #[.bool fin, .int .i64 (op : Int), .bool m, .int .u8 ((a : Nat) : Int), .int .u8 ((b : Nat) : Int), .int .u8 ((c : Nat) : Int), .int .u8 ((d : Nat) : Int), .string s] 24 (0, 0))) := ⟨below_key HY6.out HX7.out⟩
        obtain ⟨w8, hw8⟩ : ∃ V, (w7.alloc (.cells #[.bool false, .int .i64 0, .bool false, .int .u8 0, .int .u8 0, .int .u8 0, .int .u8 0, .string { data := #[] }] 24)).setRow w7.heap.size #[.bool false, .int .i64 0, .bool false, .int .u8 0, .int .u8 0, .int .u8 0, .int .u8 0, .string { data := #[] }] = V := ⟨_, rfl⟩
        have HXw8 : Sl (Below w7.heap.size w7 w8) := ⟨by rw [← hw8]; exact laid_self w7 #[.bool false, .int .i64 0, .bool false, .int .u8 0, .int .u8 0, .int .u8 0, .int .u8 0, .string { data := #[] }]⟩
        have HBw8 : Sl (Below w.heap.size w w8) := ⟨HB7.out.trans (HXw8.out.mono HB7.out.size)⟩
        have HYw8 : Sl (w8.heap[w7.heap.size]? = some (.cells #[.bool false, .int .i64 0, .bool false, .int .u8 0, .int .u8 0, .int .u8 0, .int .u8 0, .string { data := #[] }] 24 (0, 0))) := ⟨by rw [← hw8]; exact (laid_fr #[.bool false, .int .i64 0, .bool false, .int .u8 0, .int .u8 0, .int .u8 0, .int .u8 0, .string { data := #[] }] (Below.refl _ _)).2⟩
        have HIw8 := fr_info (cs := #[.bool false, .int .i64 0, .bool false, .int .u8 0, .int .u8 0, .int .u8 0, .int .u8 0, .string { data := #[] }]) rfl
        have HY8 : Sl (w8.heap[w.heap.size]? = some (.cells #[.bool fin, .int .i64 (op : Int), .bool m, .int .u8 ((a : Nat) : Int), .int .u8 ((b : Nat) : Int), .int .u8 ((c : Nat) : Int), .int .u8 ((d : Nat) : Int), .string s] 24 (0, 0))) := ⟨below_key HY7.out HXw8.out⟩
        clear c0 c1 c2 c3 c4 c5 c6 c7
        obtain ⟨c0, c1, c2, c3, c4, c5, c6, c7⟩ := bx8 HY8.out
        clear HX7 HXw8 HYw8 hw6
        go_wp2_with (refine wpList_store_row rfl 24 (.tmp 11) (.tmp 49) rfl w7.heap.size #[.bool false, .int .i64 0, .bool false, .int .u8 0, .int .u8 0, .int .u8 0, .int .u8 0, .string { data := #[] }] rfl rfl 24 #[.bool false, .int .i64 0, .bool false, .int .u8 0, .int .u8 0, .int .u8 0, .int .u8 0, .string { data := #[] }] (bx_new w7 _) HIw8 rfl (fr_all _ _ _ _ _ _ _ _) ?_)
        go_ret
        exact ⟨rfl, HBw8.out⟩
      · have hqo : ((s.size : Int) > (q : Int)) = False := eq_false (by omega)
        rw [if_neg (by omega)] at hgh hgt
        by_cases hz : n = hd
        · rw [if_pos hz] at hgh
          subst hz
          have hqn : ((n : Int) == (n : Int)) = true := by simp
          have G1 : ∀ (W : World) g cap, Globs W → SrcAt W (.slice (some ⟨g, 0, none⟩) n cap) ((A.drop 0).take n) → Calls Tryd.prog 16 #[.slice (some ⟨g, 0, none⟩) n cap, .int .i64 (q : Int)] W fun e w' => e = .returned (.tuple #[.agg #[.bool fin, .int .i64 (op : Int), .bool m, .int .u8 ((a : Nat) : Int), .int .u8 ((b : Nat) : Int), .int .u8 ((c : Nat) : Int), .int .u8 ((d : Nat) : Int), .string s], .int .i64 (n : Int), .int .i64 0]) ∧ Sl (Below W.heap.size W w') := fun W g cap hW hv => by
            have := getf_ex g 0 n cap ((A.drop 0).take n) (q : Int) fin (op : Int) m a b c d (bytes s) n 0 W hW hv (by rw [List.length_take, List.drop_zero, hlA.out]; omega) ((hAS.drop 0).take n) (by omega) (by omega) hgh
            rw [strOf_bytes] at this
            exact this
          have G2 : ∀ (W : World) g cap, Globs W → SrcAt W (.slice (some ⟨g, 0, none⟩) n cap) (A) → Calls Tryd.prog 16 #[.slice (some ⟨g, 0, none⟩) n cap, .int .i64 (q : Int)] W fun e w' => e = .returned (.tuple #[.agg #[.bool fin, .int .i64 (op : Int), .bool m, .int .u8 ((a : Nat) : Int), .int .u8 ((b : Nat) : Int), .int .u8 ((c : Nat) : Int), .int .u8 ((d : Nat) : Int), .string s], .int .i64 (n : Int), .int .i64 0]) ∧ Sl (Below W.heap.size W w') := fun W g cap hW hv => by
            have := getf_ex g 0 n cap (A) (q : Int) fin (op : Int) m a b c d (bytes s) n 0 W hW hv hlA.out hAS (by omega) (by omega) hgt
            rw [strOf_bytes] at this
            exact this
          clear hgh hgt hc1 hT1 hn1 hdl1 ho hLn hs hk1 hAS hhn
          subst hhd
          go_enter Tryd.func9, Tryd.ntmps9
          go_wp2_with fail
          refine (awake_any w2 (HG.out.below HB2.out HG.out.size)).mono ?_
          rintro e w3 ⟨rfl, HX3⟩
          have HB3 : Sl (Below w.heap.size w w3) := ⟨HB2.out.trans (HX3.out.mono HB2.out.size)⟩
          have HY3 : Sl (w3.heap[w.heap.size]? = some (.cells #[.bool fin, .int .i64 (op : Int), .bool m, .int .u8 ((a : Nat) : Int), .int .u8 ((b : Nat) : Int), .int .u8 ((c : Nat) : Int), .int .u8 ((d : Nat) : Int), .string s] 24 (0, 0))) := ⟨below_key HY2.out HX3.out⟩
          clear HB2 HY2 HX3 hw2
          obtain ⟨c0, c1, c2, c3, c4, c5, c6, c7⟩ := bx8 HY3.out
          go_wp2_with fail
          refine (P1 w3 (HG.out.below HB3.out HG.out.size)).mono ?_
          rintro e w4 ⟨g4, cap4, rfl, HS4, HX4⟩
          have HB4 : Sl (Below w.heap.size w w4) := ⟨HB3.out.trans (HX4.out.mono HB3.out.size)⟩
          have HY4 : Sl (w4.heap[w.heap.size]? = some (.cells #[.bool fin, .int .i64 (op : Int), .bool m, .int .u8 ((a : Nat) : Int), .int .u8 ((b : Nat) : Int), .int .u8 ((c : Nat) : Int), .int .u8 ((d : Nat) : Int), .string s] 24 (0, 0))) := ⟨below_key HY3.out HX4.out⟩
          clear c0 c1 c2 c3 c4 c5 c6 c7
          clear HX4
          have hcn := hcap4 w4 g4 cap4 HS4.out
          have hc4 : 4 ≤ cap4 := by omega
          obtain ⟨c0, c1, c2, c3, c4, c5, c6, c7⟩ := bx8 HY4.out
          go_wp2_with fail
          refine (G1 w4 _ _ (HG.out.below HB4.out HG.out.size) (src_sub HS4.out 0 4 cap4 0 (fun _ => rfl) (by omega) hc4 hlA.out)).mono ?_
          rintro e w5 ⟨rfl, HX5⟩
          have HS5 := Sl.mk (HS4.out.below (Nat.le_refl _) HX5.out)
          have HB5 : Sl (Below w.heap.size w w5) := ⟨HB4.out.trans (HX5.out.mono HB4.out.size)⟩
          have HY5 : Sl (w5.heap[w.heap.size]? = some (.cells #[.bool fin, .int .i64 (op : Int), .bool m, .int .u8 ((a : Nat) : Int), .int .u8 ((b : Nat) : Int), .int .u8 ((c : Nat) : Int), .int .u8 ((d : Nat) : Int), .string s] 24 (0, 0))) := ⟨below_key HY4.out HX5.out⟩
          obtain ⟨w6, hw6⟩ : ∃ V, (w5.alloc (.cells #[.bool false, .int .i64 0, .bool false, .int .u8 0, .int .u8 0, .int .u8 0, .int .u8 0, .string { data := #[] }] 24)).setRow w5.heap.size #[.bool fin, .int .i64 (op : Int), .bool m, .int .u8 ((a : Nat) : Int), .int .u8 ((b : Nat) : Int), .int .u8 ((c : Nat) : Int), .int .u8 ((d : Nat) : Int), .string s] = V := ⟨_, rfl⟩
          have HXw6 : Sl (Below w5.heap.size w5 w6) := ⟨by rw [← hw6]; exact laid_self w5 #[.bool fin, .int .i64 (op : Int), .bool m, .int .u8 ((a : Nat) : Int), .int .u8 ((b : Nat) : Int), .int .u8 ((c : Nat) : Int), .int .u8 ((d : Nat) : Int), .string s]⟩
          have HBw6 : Sl (Below w.heap.size w w6) := ⟨HB5.out.trans (HXw6.out.mono HB5.out.size)⟩
          have HYw6 : Sl (w6.heap[w5.heap.size]? = some (.cells #[.bool fin, .int .i64 (op : Int), .bool m, .int .u8 ((a : Nat) : Int), .int .u8 ((b : Nat) : Int), .int .u8 ((c : Nat) : Int), .int .u8 ((d : Nat) : Int), .string s] 24 (0, 0))) := ⟨by rw [← hw6]; exact (laid_fr #[.bool fin, .int .i64 (op : Int), .bool m, .int .u8 ((a : Nat) : Int), .int .u8 ((b : Nat) : Int), .int .u8 ((c : Nat) : Int), .int .u8 ((d : Nat) : Int), .string s] (Below.refl _ _)).2⟩
          have HIw6 := fr_info (cs := #[.bool fin, .int .i64 (op : Int), .bool m, .int .u8 ((a : Nat) : Int), .int .u8 ((b : Nat) : Int), .int .u8 ((c : Nat) : Int), .int .u8 ((d : Nat) : Int), .string s]) rfl
          have HY6 : Sl (w6.heap[w.heap.size]? = some (.cells #[.bool fin, .int .i64 (op : Int), .bool m, .int .u8 ((a : Nat) : Int), .int .u8 ((b : Nat) : Int), .int .u8 ((c : Nat) : Int), .int .u8 ((d : Nat) : Int), .string s] 24 (0, 0))) := ⟨below_key HY5.out HXw6.out⟩
          have HS6 := Sl.mk (HS5.out.below (Nat.le_refl _) HXw6.out)
          clear c0 c1 c2 c3 c4 c5 c6 c7
          obtain ⟨c0, c1, c2, c3, c4, c5, c6, c7⟩ := bx8 HY6.out
          clear HX5 HS5 HXw6 HYw6
          go_wp2_with (refine wpList_store_row rfl 24 (.tmp 8) (.tmp 41) rfl w5.heap.size #[.bool fin, .int .i64 (op : Int), .bool m, .int .u8 ((a : Nat) : Int), .int .u8 ((b : Nat) : Int), .int .u8 ((c : Nat) : Int), .int .u8 ((d : Nat) : Int), .string s] rfl rfl 24 #[.bool false, .int .i64 0, .bool false, .int .u8 0, .int .u8 0, .int .u8 0, .int .u8 0, .string { data := #[] }] (bx_new w5 _) HIw6 rfl (fr_all _ _ _ _ _ _ _ _) ?_)
          refine (G2 w6 _ _ (HG.out.below HBw6.out HG.out.size) HS6.out).mono ?_
          rintro e w7 ⟨rfl, HX7⟩
          have HB7 : Sl (Below w.heap.size w w7) := ⟨HBw6.out.trans (HX7.out.mono HBw6.out.size)⟩
          have HY7 : Sl (w7.heap[w.heap.size]? = some (.cells #[.bool fin, .int .i64 (op : Int), .bool m, .int .u8 ((a : Nat) : Int), .int .u8 ((b : Nat) : Int), .int .u8 ((c : Nat) : Int), .int .u8 ((d : Nat) : Int), .string s] 24 (0, 0))) := ⟨below_key HY6.out HX7.out⟩
          obtain ⟨w8, hw8⟩ : ∃ V, (w7.alloc (.cells #[.bool false, .int .i64 0, .bool false, .int .u8 0, .int .u8 0, .int .u8 0, .int .u8 0, .string { data := #[] }] 24)).setRow w7.heap.size #[.bool fin, .int .i64 (op : Int), .bool m, .int .u8 ((a : Nat) : Int), .int .u8 ((b : Nat) : Int), .int .u8 ((c : Nat) : Int), .int .u8 ((d : Nat) : Int), .string s] = V := ⟨_, rfl⟩
          have HXw8 : Sl (Below w7.heap.size w7 w8) := ⟨by rw [← hw8]; exact laid_self w7 #[.bool fin, .int .i64 (op : Int), .bool m, .int .u8 ((a : Nat) : Int), .int .u8 ((b : Nat) : Int), .int .u8 ((c : Nat) : Int), .int .u8 ((d : Nat) : Int), .string s]⟩
          have HBw8 : Sl (Below w.heap.size w w8) := ⟨HB7.out.trans (HXw8.out.mono HB7.out.size)⟩
          have HYw8 : Sl (w8.heap[w7.heap.size]? = some (.cells #[.bool fin, .int .i64 (op : Int), .bool m, .int .u8 ((a : Nat) : Int), .int .u8 ((b : Nat) : Int), .int .u8 ((c : Nat) : Int), .int .u8 ((d : Nat) : Int), .string s] 24 (0, 0))) := ⟨by rw [← hw8]; exact (laid_fr #[.bool fin, .int .i64 (op : Int), .bool m, .int .u8 ((a : Nat) : Int), .int .u8 ((b : Nat) : Int), .int .u8 ((c : Nat) : Int), .int .u8 ((d : Nat) : Int), .string s] (Below.refl _ _)).2⟩
          have HIw8 := fr_info (cs := #[.bool fin, .int .i64 (op : Int), .bool m, .int .u8 ((a : Nat) : Int), .int .u8 ((b : Nat) : Int), .int .u8 ((c : Nat) : Int), .int .u8 ((d : Nat) : Int), .string s]) rfl
          have HY8 : Sl (w8.heap[w.heap.size]? = some (.cells #[.bool fin, .int .i64 (op : Int), .bool m, .int .u8 ((a : Nat) : Int), .int .u8 ((b : Nat) : Int), .int .u8 ((c : Nat) : Int), .int .u8 ((d : Nat) : Int), .string s] 24 (0, 0))) := ⟨below_key HY7.out HXw8.out⟩
          clear c0 c1 c2 c3 c4 c5 c6 c7
          obtain ⟨c0, c1, c2, c3, c4, c5, c6, c7⟩ := bx8 HY8.out
          clear HX7 HXw8 HYw8 hw6
          go_wp2_with (refine wpList_store_row rfl 24 (.tmp 11) (.tmp 49) rfl w7.heap.size #[.bool fin, .int .i64 (op : Int), .bool m, .int .u8 ((a : Nat) : Int), .int .u8 ((b : Nat) : Int), .int .u8 ((c : Nat) : Int), .int .u8 ((d : Nat) : Int), .string s] rfl rfl 24 #[.bool false, .int .i64 0, .bool false, .int .u8 0, .int .u8 0, .int .u8 0, .int .u8 0, .string { data := #[] }] (bx_new w7 _) HIw8 rfl (fr_all _ _ _ _ _ _ _ _) ?_)
          go_ret
          exact ⟨rfl, HBw8.out⟩
        · rw [if_neg hz] at hgh
          have G1 : ∀ (W : World) g cap, Globs W → SrcAt W (.slice (some ⟨g, 0, none⟩) hd cap) ((A.drop 0).take hd) → Calls Tryd.prog 16 #[.slice (some ⟨g, 0, none⟩) hd cap, .int .i64 (q : Int)] W fun e w' => e = .returned (.tuple #[.agg #[.bool false, .int .i64 0, .bool false, .int .u8 0, .int .u8 0, .int .u8 0, .int .u8 0, .string { data := #[] }], .int .i64 0, .int .i64 90]) ∧ Sl (Below W.heap.size W w') := fun W g cap hW hv => by
            exact getf_err g 0 hd cap ((A.drop 0).take hd) (q : Int) 90 W hW hv (by rw [List.length_take, List.drop_zero, hlA.out]; omega) ((hAS.drop 0).take hd) (by omega) (by omega) hgh
          have G2 : ∀ (W : World) g cap, Globs W → SrcAt W (.slice (some ⟨g, 0, none⟩) n cap) (A) → Calls Tryd.prog 16 #[.slice (some ⟨g, 0, none⟩) n cap, .int .i64 (q : Int)] W fun e w' => e = .returned (.tuple #[.agg #[.bool fin, .int .i64 (op : Int), .bool m, .int .u8 ((a : Nat) : Int), .int .u8 ((b : Nat) : Int), .int .u8 ((c : Nat) : Int), .int .u8 ((d : Nat) : Int), .string s], .int .i64 (n : Int), .int .i64 0]) ∧ Sl (Below W.heap.size W w') := fun W g cap hW hv => by
            have := getf_ex g 0 n cap (A) (q : Int) fin (op : Int) m a b c d (bytes s) n 0 W hW hv hlA.out hAS (by omega) (by omega) hgt
            rw [strOf_bytes] at this
            exact this
          clear hgh hgt hc1 hT1 hn1 hdl1 ho hLn hs hk1 hAS
          subst hhd
          go_enter Tryd.func9, Tryd.ntmps9
          go_wp2_with fail
          refine (awake_any w2 (HG.out.below HB2.out HG.out.size)).mono ?_
          rintro e w3 ⟨rfl, HX3⟩
          have HB3 : Sl (Below w.heap.size w w3) := ⟨HB2.out.trans (HX3.out.mono HB2.out.size)⟩
          have HY3 : Sl (w3.heap[w.heap.size]? = some (.cells #[.bool fin, .int .i64 (op : Int), .bool m, .int .u8 ((a : Nat) : Int), .int .u8 ((b : Nat) : Int), .int .u8 ((c : Nat) : Int), .int .u8 ((d : Nat) : Int), .string s] 24 (0, 0))) := ⟨below_key HY2.out HX3.out⟩
          clear HB2 HY2 HX3 hw2
          obtain ⟨c0, c1, c2, c3, c4, c5, c6, c7⟩ := bx8 HY3.out
          go_wp2_with fail
          refine (P1 w3 (HG.out.below HB3.out HG.out.size)).mono ?_
          rintro e w4 ⟨g4, cap4, rfl, HS4, HX4⟩
          have HB4 : Sl (Below w.heap.size w w4) := ⟨HB3.out.trans (HX4.out.mono HB3.out.size)⟩
          have HY4 : Sl (w4.heap[w.heap.size]? = some (.cells #[.bool fin, .int .i64 (op : Int), .bool m, .int .u8 ((a : Nat) : Int), .int .u8 ((b : Nat) : Int), .int .u8 ((c : Nat) : Int), .int .u8 ((d : Nat) : Int), .string s] 24 (0, 0))) := ⟨below_key HY3.out HX4.out⟩
          clear c0 c1 c2 c3 c4 c5 c6 c7
          clear HX4
          have hcn := hcap4 w4 g4 cap4 HS4.out
          have hc4 : 4 ≤ cap4 := by omega
          obtain ⟨c0, c1, c2, c3, c4, c5, c6, c7⟩ := bx8 HY4.out
          go_wp2_with fail
          refine (G1 w4 _ _ (HG.out.below HB4.out HG.out.size) (src_sub HS4.out 0 4 cap4 0 (fun _ => rfl) (by omega) hc4 hlA.out)).mono ?_
          rintro e w5 ⟨rfl, HX5⟩
          have HS5 := Sl.mk (HS4.out.below (Nat.le_refl _) HX5.out)
          have HB5 : Sl (Below w.heap.size w w5) := ⟨HB4.out.trans (HX5.out.mono HB4.out.size)⟩
          have HY5 : Sl (w5.heap[w.heap.size]? = some (.cells #[.bool fin, .int .i64 (op : Int), .bool m, .int .u8 ((a : Nat) : Int), .int .u8 ((b : Nat) : Int), .int .u8 ((c : Nat) : Int), .int .u8 ((d : Nat) : Int), .string s] 24 (0, 0))) := ⟨below_key HY4.out HX5.out⟩
          obtain ⟨w6, hw6⟩ : ∃ V, (w5.alloc (.cells #[.bool false, .int .i64 0, .bool false, .int .u8 0, .int .u8 0, .int .u8 0, .int .u8 0, .string { data := #[] }] 24)).setRow w5.heap.size #[.bool false, .int .i64 0, .bool false, .int .u8 0, .int .u8 0, .int .u8 0, .int .u8 0, .string { data := #[] }] = V := ⟨_, rfl⟩
          have HXw6 : Sl (Below w5.heap.size w5 w6) := ⟨by rw [← hw6]; exact laid_self w5 #[.bool false, .int .i64 0, .bool false, .int .u8 0, .int .u8 0, .int .u8 0, .int .u8 0, .string { data := #[] }]⟩
          have HBw6 : Sl (Below w.heap.size w w6) := ⟨HB5.out.trans (HXw6.out.mono HB5.out.size)⟩
          have HYw6 : Sl (w6.heap[w5.heap.size]? = some (.cells #[.bool false, .int .i64 0, .bool false, .int .u8 0, .int .u8 0, .int .u8 0, .int .u8 0, .string { data := #[] }] 24 (0, 0))) := ⟨by rw [← hw6]; exact (laid_fr #[.bool false, .int .i64 0, .bool false, .int .u8 0, .int .u8 0, .int .u8 0, .int .u8 0, .string { data := #[] }] (Below.refl _ _)).2⟩
          have HIw6 := fr_info (cs := #[.bool false, .int .i64 0, .bool false, .int .u8 0, .int .u8 0, .int .u8 0, .int .u8 0, .string { data := #[] }]) rfl
          have HY6 : Sl (w6.heap[w.heap.size]? = some (.cells #[.bool fin, .int .i64 (op : Int), .bool m, .int .u8 ((a : Nat) : Int), .int .u8 ((b : Nat) : Int), .int .u8 ((c : Nat) : Int), .int .u8 ((d : Nat) : Int), .string s] 24 (0, 0))) := ⟨below_key HY5.out HXw6.out⟩
          have HS6 := Sl.mk (HS5.out.below (Nat.le_refl _) HXw6.out)
          clear c0 c1 c2 c3 c4 c5 c6 c7
          obtain ⟨c0, c1, c2, c3, c4, c5, c6, c7⟩ := bx8 HY6.out
          clear HX5 HS5 HXw6 HYw6
          go_wp2_with (refine wpList_store_row rfl 24 (.tmp 8) (.tmp 41) rfl w5.heap.size #[.bool false, .int .i64 0, .bool false, .int .u8 0, .int .u8 0, .int .u8 0, .int .u8 0, .string { data := #[] }] rfl rfl 24 #[.bool false, .int .i64 0, .bool false, .int .u8 0, .int .u8 0, .int .u8 0, .int .u8 0, .string { data := #[] }] (bx_new w5 _) HIw6 rfl (fr_all _ _ _ _ _ _ _ _) ?_)
          refine (G2 w6 _ _ (HG.out.below HBw6.out HG.out.size) HS6.out).mono ?_
          rintro e w7 ⟨rfl, HX7⟩
          have HB7 : Sl (Below w.heap.size w w7) := ⟨HBw6.out.trans (HX7.out.mono HBw6.out.size)⟩
          have HY7 : Sl (w7.heap[w.heap.size]? = some (.cells #[.bool fin, .int .i64 (op : Int), .bool m, .int .u8 ((a : Nat) : Int), .int .u8 ((b : Nat) : Int), .int .u8 ((c : Nat) : Int), .int .u8 ((d : Nat) : Int), .string s] 24 (0, 0))) := ⟨below_key HY6.out HX7.out⟩
          obtain ⟨w8, hw8⟩ : ∃ V, (w7.alloc (.cells #[.bool false, .int .i64 0, .bool false, .int .u8 0, .int .u8 0, .int .u8 0, .int .u8 0, .string { data := #[] }] 24)).setRow w7.heap.size #[.bool fin, .int .i64 (op : Int), .bool m, .int .u8 ((a : Nat) : Int), .int .u8 ((b : Nat) : Int), .int .u8 ((c : Nat) : Int), .int .u8 ((d : Nat) : Int), .string s] = V := ⟨_, rfl⟩
          have HXw8 : Sl (Below w7.heap.size w7 w8) := ⟨by rw [← hw8]; exact laid_self w7 #[.bool fin, .int .i64 (op : Int), .bool m, .int .u8 ((a : Nat) : Int), .int .u8 ((b : Nat) : Int), .int .u8 ((c : Nat) : Int), .int .u8 ((d : Nat) : Int), .string s]⟩
          have HBw8 : Sl (Below w.heap.size w w8) := ⟨HB7.out.trans (HXw8.out.mono HB7.out.size)⟩
          have HYw8 : Sl (w8.heap[w7.heap.size]? = some (.cells #[.bool fin, .int .i64 (op : Int), .bool m, .int .u8 ((a : Nat) : Int), .int .u8 ((b : Nat) : Int), .int .u8 ((c : Nat) : Int), .int .u8 ((d : Nat) : Int), .string s] 24 (0, 0))) := ⟨by rw [← hw8]; exact (laid_fr #[.bool fin, .int .i64 (op : Int), .bool m, .int .u8 ((a : Nat) : Int), .int .u8 ((b : Nat) : Int), .int .u8 ((c : Nat) : Int), .int .u8 ((d : Nat) : Int), .string s] (Below.refl _ _)).2⟩
          have HIw8 := fr_info (cs := #[.bool fin, .int .i64 (op : Int), .bool m, .int .u8 ((a : Nat) : Int), .int .u8 ((b : Nat) : Int), .int .u8 ((c : Nat) : Int), .int .u8 ((d : Nat) : Int), .string s]) rfl
          have HY8 : Sl (w8.heap[w.heap.size]? = some (.cells #[.bool fin, .int .i64 (op : Int), .bool m, .int .u8 ((a : Nat) : Int), .int .u8 ((b : Nat) : Int), .int .u8 ((c : Nat) : Int), .int .u8 ((d : Nat) : Int), .string s] 24 (0, 0))) := ⟨below_key HY7.out HXw8.out⟩
          clear c0 c1 c2 c3 c4 c5 c6 c7
          obtain ⟨c0, c1, c2, c3, c4, c5, c6, c7⟩ := bx8 HY8.out
          clear HX7 HXw8 HYw8 hw6
          go_wp2_with (refine wpList_store_row rfl 24 (.tmp 11) (.tmp 49) rfl w7.heap.size #[.bool fin, .int .i64 (op : Int), .bool m, .int .u8 ((a : Nat) : Int), .int .u8 ((b : Nat) : Int), .int .u8 ((c : Nat) : Int), .int .u8 ((d : Nat) : Int), .string s] rfl rfl 24 #[.bool false, .int .i64 0, .bool false, .int .u8 0, .int .u8 0, .int .u8 0, .int .u8 0, .string { data := #[] }] (bx_new w7 _) HIw8 rfl (fr_all _ _ _ _ _ _ _ _) ?_)
          go_ret
          exact ⟨rfl, HBw8.out⟩
    · obtain ⟨hd, hhd⟩ : ∃ hd, hd = 2 := ⟨_, rfl⟩
      have hqb : ((s.size : Int) > 125) = False := eq_false (by omega)
      have hLn : 1 + (lenB (bytes s).length).length = hd := by rw [lenB_length (by omega)]; simp only [bytes_length]; rw [if_neg (by omega), if_neg (by omega)]; omega
      have hgh := get_head (chk_ok hc1).1 (show (bytes s).length ≤ _ by omega) rfl (q : Int)
      have hgt := get_text (chk_ok hc1).1 (show (bytes s).length ≤ _ by omega) rfl [] (q : Int)
      simp only at hgh hgt
      rw [hT1, hn1, hLn, ← List.drop_zero (l := A)] at hgh
      rw [hT1, hn1, List.append_nil] at hgt
      rw [bytes_length] at hgh hgt
      have hhn : hd ≤ n := by rw [← hn1]; unfold size; simp only [bytes_length]; rw [if_neg (by omega), if_neg (by omega)]; split <;> omega
      by_cases ho : q < s.size
      · have hqo : ((s.size : Int) > (q : Int)) = True := eq_true (by omega)
        rw [if_pos (by omega)] at hgh hgt
        have G1 : ∀ (W : World) g cap, Globs W → SrcAt W (.slice (some ⟨g, 0, none⟩) hd cap) ((A.drop 0).take hd) → Calls Tryd.prog 16 #[.slice (some ⟨g, 0, none⟩) hd cap, .int .i64 (q : Int)] W fun e w' => e = .returned (.tuple #[.agg #[.bool false, .int .i64 0, .bool false, .int .u8 0, .int .u8 0, .int .u8 0, .int .u8 0, .string { data := #[] }], .int .i64 0, .int .i64 92]) ∧ Sl (Below W.heap.size W w') := fun W g cap hW hv => by
          exact getf_err g 0 hd cap ((A.drop 0).take hd) (q : Int) 92 W hW hv (by rw [List.length_take, List.drop_zero, hlA.out]; omega) ((hAS.drop 0).take hd) (by omega) (by omega) hgh
        have G2 : ∀ (W : World) g cap, Globs W → SrcAt W (.slice (some ⟨g, 0, none⟩) n cap) (A) → Calls Tryd.prog 16 #[.slice (some ⟨g, 0, none⟩) n cap, .int .i64 (q : Int)] W fun e w' => e = .returned (.tuple #[.agg #[.bool false, .int .i64 0, .bool false, .int .u8 0, .int .u8 0, .int .u8 0, .int .u8 0, .string { data := #[] }], .int .i64 0, .int .i64 92]) ∧ Sl (Below W.heap.size W w') := fun W g cap hW hv => by
          exact getf_err g 0 n cap (A) (q : Int) 92 W hW hv hlA.out hAS (by omega) (by omega) hgt
        clear hgh hgt hc1 hT1 hn1 hdl1 ho hLn hs hk1 hAS
        subst hhd
        go_enter Tryd.func9, Tryd.ntmps9
        go_wp2_with fail
        refine (awake_any w2 (HG.out.below HB2.out HG.out.size)).mono ?_
        rintro e w3 ⟨rfl, HX3⟩
        have HB3 : Sl (Below w.heap.size w w3) := ⟨HB2.out.trans (HX3.out.mono HB2.out.size)⟩
        have HY3 : Sl (w3.heap[w.heap.size]? = some (.cells #[.bool fin, .int .i64 (op : Int), .bool m, .int .u8 ((a : Nat) : Int), .int .u8 ((b : Nat) : Int), .int .u8 ((c : Nat) : Int), .int .u8 ((d : Nat) : Int), .string s] 24 (0, 0))) := ⟨below_key HY2.out HX3.out⟩
        clear HB2 HY2 HX3 hw2
        obtain ⟨c0, c1, c2, c3, c4, c5, c6, c7⟩ := bx8 HY3.out
        go_wp2_with fail
        refine (P1 w3 (HG.out.below HB3.out HG.out.size)).mono ?_
        rintro e w4 ⟨g4, cap4, rfl, HS4, HX4⟩
        have HB4 : Sl (Below w.heap.size w w4) := ⟨HB3.out.trans (HX4.out.mono HB3.out.size)⟩
        have HY4 : Sl (w4.heap[w.heap.size]? = some (.cells #[.bool fin, .int .i64 (op : Int), .bool m, .int .u8 ((a : Nat) : Int), .int .u8 ((b : Nat) : Int), .int .u8 ((c : Nat) : Int), .int .u8 ((d : Nat) : Int), .string s] 24 (0, 0))) := ⟨below_key HY3.out HX4.out⟩
        clear c0 c1 c2 c3 c4 c5 c6 c7
        clear HX4
        have hcn := hcap4 w4 g4 cap4 HS4.out
        have hc4 : 2 ≤ cap4 := by omega
        obtain ⟨c0, c1, c2, c3, c4, c5, c6, c7⟩ := bx8 HY4.out
        go_wp2_with fail
        refine (G1 w4 _ _ (HG.out.below HB4.out HG.out.size) (src_sub HS4.out 0 2 cap4 0 (fun _ => rfl) (by omega) hc4 hlA.out)).mono ?_
        rintro e w5 ⟨rfl, HX5⟩
        have HS5 := Sl.mk (HS4.out.below (Nat.le_refl _) HX5.out)
        have HB5 : Sl (Below w.heap.size w w5) := ⟨HB4.out.trans (HX5.out.mono HB4.out.size)⟩
        have HY5 : Sl (w5.heap[w.heap.size]? = some (.cells #[.bool fin, .int .i64 (op : Int), .bool m, .int .u8 ((a : Nat) : Int), .int .u8 ((b : Nat) : Int), .int .u8 ((c : Nat) : Int), .int .u8 ((d : Nat) : Int), .string s] 24 (0, 0))) := ⟨below_key HY4.out HX5.out⟩
        obtain ⟨w6, hw6⟩ : ∃ V, (w5.alloc (.cells #[.bool false, .int .i64 0, .bool false, .int .u8 0, .int .u8 0, .int .u8 0, .int .u8 0, .string { data := #[] }] 24)).setRow w5.heap.size #[.bool false, .int .i64 0, .bool false, .int .u8 0, .int .u8 0, .int .u8 0, .int .u8 0, .string { data := #[] }] = V := ⟨_, rfl⟩
        have HXw6 : Sl (Below w5.heap.size w5 w6) := ⟨by rw [← hw6]; exact laid_self w5 #[.bool false, .int .i64 0, .bool false, .int .u8 0, .int .u8 0, .int .u8 0, .int .u8 0, .string { data := #[] }]⟩
        have HBw6 : Sl (Below w.heap.size w w6) := ⟨HB5.out.trans (HXw6.out.mono HB5.out.size)⟩
        have HYw6 : Sl (w6.heap[w5.heap.size]? = some (.cells #[.bool false, .int .i64 0, .bool false, .int .u8 0, .int .u8 0, .int .u8 0, .int .u8 0, .string { data := #[] }] 24 (0, 0))) := ⟨by rw [← hw6]; exact (laid_fr #[.bool false, .int .i64 0, .bool false, .int .u8 0, .int .u8 0, .int .u8 0, .int .u8 0, .string { data := #[] }] (Below.refl _ _)).2⟩
        have HIw6 := fr_info (cs := #[.bool false, .int .i64 0, .bool false, .int .u8 0, .int .u8 0, .int .u8 0, .int .u8 0, .string { data := #[] }]) rfl
        have HY6 : Sl (w6.heap[w.heap.size]? = some (.cells #[.bool fin, .int .i64 (op : Int), .bool m, .int .u8 ((a : Nat) : Int), .int .u8 ((b : Nat) : Int), .int .u8 ((c : Nat) : Int), .int .u8 ((d : Nat) : Int), .string s] 24 (0, 0))) := ⟨below_key HY5.out HXw6.out⟩
        have HS6 := Sl.mk (HS5.out.below (Nat.le_refl _) HXw6.out)
        clear c0 c1 c2 c3 c4 c5 c6 c7
        obtain ⟨c0, c1, c2, c3, c4, c5, c6, c7⟩ := bx8 HY6.out
        clear HX5 HS5 HXw6 HYw6
        go_wp2_with (refine wpList_store_row rfl 24 (.tmp 8) (.tmp 41) rfl w5.heap.size #[.bool false, .int .i64 0, .bool false, .int .u8 0, .int .u8 0, .int .u8 0, .int .u8 0, .string { data := #[] }] rfl rfl 24 #[.bool false, .int .i64 0, .bool false, .int .u8 0, .int .u8 0, .int .u8 0, .int .u8 0, .string { data := #[] }] (bx_new w5 _) HIw6 rfl (fr_all _ _ _ _ _ _ _ _) ?_)
        refine (G2 w6 _ _ (HG.out.below HBw6.out HG.out.size) HS6.out).mono ?_
        rintro e w7 ⟨rfl, HX7⟩
        have HB7 : Sl (Below w.heap.size w w7) := ⟨HBw6.out.trans (HX7.out.mono HBw6.out.size)⟩
        have HY7 : Sl (w7.heap[w.heap.size]? = some (.cells #[.bool fin, .int .i64 (op : Int), .bool m, .int .u8 ((a : Nat) : Int), .int .u8 ((b : Nat) : Int), .int .u8 ((c : Nat) : Int), .int .u8 ((d : Nat) : Int), .string s] 24 (0, 0))) := ⟨below_key HY6.out HX7.out⟩
        obtain ⟨w8, hw8⟩ : ∃ V, (w7.alloc (.cells #[.bool false, .int .i64 0, .bool false, .int .u8 0, .int .u8 0, .int .u8 0, .int .u8 0, .string { data := #[] }] 24)).setRow w7.heap.size #[.bool false, .int .i64 0, .bool false, .int .u8 0, .int .u8 0, .int .u8 0, .int .u8 0, .string { data := #[] }] = V := ⟨_, rfl⟩
        have HXw8 : Sl (Below w7.heap.size w7 w8) := ⟨by rw [← hw8]; exact laid_self w7 #[.bool false, .int .i64 0, .bool false, .int .u8 0, .int .u8 0, .int .u8 0, .int .u8 0, .string { data := #[] }]⟩
        have HBw8 : Sl (Below w.heap.size w w8) := ⟨HB7.out.trans (HXw8.out.mono HB7.out.size)⟩
        have HYw8 : Sl (w8.heap[w7.heap.size]? = some (.cells #[.bool false, .int .i64 0, .bool false, .int .u8 0, .int .u8 0, .int .u8 0, .int .u8 0, .string { data := #[] }] 24 (0, 0))) := ⟨by rw [← hw8]; exact (laid_fr #[.bool false, .int .i64 0, .bool false, .int .u8 0, .int .u8 0, .int .u8 0, .int .u8 0, .string { data := #[] }] (Below.refl _ _)).2⟩
        have HIw8 := fr_info (cs := #[.bool false, .int .i64 0, .bool false, .int .u8 0, .int .u8 0, .int .u8 0, .int .u8 0, .string { data := #[] }]) rfl
        have HY8 : Sl (w8.heap[w.heap.size]? = some (.cells #[.bool fin, .int .i64 (op : Int), .bool m, .int .u8 ((a : Nat) : Int), .int .u8 ((b : Nat) : Int), .int .u8 ((c : Nat) : Int), .int .u8 ((d : Nat) : Int), .string s] 24 (0, 0))) := ⟨below_key HY7.out HXw8.out⟩
        clear c0 c1 c2 c3 c4 c5 c6 c7
        obtain ⟨c0, c1, c2, c3, c4, c5, c6, c7⟩ := bx8 HY8.out
        clear HX7 HXw8 HYw8 hw6
        go_wp2_with (refine wpList_store_row rfl 24 (.tmp 11) (.tmp 49) rfl w7.heap.size #[.bool false, .int .i64 0, .bool false, .int .u8 0, .int .u8 0, .int .u8 0, .int .u8 0, .string { data := #[] }] rfl rfl 24 #[.bool false, .int .i64 0, .bool false, .int .u8 0, .int .u8 0, .int .u8 0, .int .u8 0, .string { data := #[] }] (bx_new w7 _) HIw8 rfl (fr_all _ _ _ _ _ _ _ _) ?_)
        go_ret
        exact ⟨rfl, HBw8.out⟩
      · have hqo : ((s.size : Int) > (q : Int)) = False := eq_false (by omega)
        rw [if_neg (by omega)] at hgh hgt
        by_cases hz : n = hd
        · rw [if_pos hz] at hgh
          subst hz
          have hqn : ((n : Int) == (n : Int)) = true := by simp
          have G1 : ∀ (W : World) g cap, Globs W → SrcAt W (.slice (some ⟨g, 0, none⟩) n cap) ((A.drop 0).take n) → Calls Tryd.prog 16 #[.slice (some ⟨g, 0, none⟩) n cap, .int .i64 (q : Int)] W fun e w' => e = .returned (.tuple #[.agg #[.bool fin, .int .i64 (op : Int), .bool m, .int .u8 ((a : Nat) : Int), .int .u8 ((b : Nat) : Int), .int .u8 ((c : Nat) : Int), .int .u8 ((d : Nat) : Int), .string s], .int .i64 (n : Int), .int .i64 0]) ∧ Sl (Below W.heap.size W w') := fun W g cap hW hv => by
            have := getf_ex g 0 n cap ((A.drop 0).take n) (q : Int) fin (op : Int) m a b c d (bytes s) n 0 W hW hv (by rw [List.length_take, List.drop_zero, hlA.out]; omega) ((hAS.drop 0).take n) (by omega) (by omega) hgh
            rw [strOf_bytes] at this
            exact this
          have G2 : ∀ (W : World) g cap, Globs W → SrcAt W (.slice (some ⟨g, 0, none⟩) n cap) (A) → Calls Tryd.prog 16 #[.slice (some ⟨g, 0, none⟩) n cap, .int .i64 (q : Int)] W fun e w' => e = .returned (.tuple #[.agg #[.bool fin, .int .i64 (op : Int), .bool m, .int .u8 ((a : Nat) : Int), .int .u8 ((b : Nat) : Int), .int .u8 ((c : Nat) : Int), .int .u8 ((d : Nat) : Int), .string s], .int .i64 (n : Int), .int .i64 0]) ∧ Sl (Below W.heap.size W w') := fun W g cap hW hv => by
            have := getf_ex g 0 n cap (A) (q : Int) fin (op : Int) m a b c d (bytes s) n 0 W hW hv hlA.out hAS (by omega) (by omega) hgt
            rw [strOf_bytes] at this
            exact this
          clear hgh hgt hc1 hT1 hn1 hdl1 ho hLn hs hk1 hAS hhn
          subst hhd
          go_enter Tryd.func9, Tryd.ntmps9
          go_wp2_with fail
          refine (awake_any w2 (HG.out.below HB2.out HG.out.size)).mono ?_
          rintro e w3 ⟨rfl, HX3⟩
          have HB3 : Sl (Below w.heap.size w w3) := ⟨HB2.out.trans (HX3.out.mono HB2.out.size)⟩
          have HY3 : Sl (w3.heap[w.heap.size]? = some (.cells #[.bool fin, .int .i64 (op : Int), .bool m, .int .u8 ((a : Nat) : Int), .int .u8 ((b : Nat) : Int), .int .u8 ((c : Nat) : Int), .int .u8 ((d : Nat) : Int), .string s] 24 (0, 0))) := ⟨below_key HY2.out HX3.out⟩
          clear HB2 HY2 HX3 hw2
          obtain ⟨c0, c1, c2, c3, c4, c5, c6, c7⟩ := bx8 HY3.out
          go_wp2_with fail
          refine (P1 w3 (HG.out.below HB3.out HG.out.size)).mono ?_
          rintro e w4 ⟨g4, cap4, rfl, HS4, HX4⟩
          have HB4 : Sl (Below w.heap.size w w4) := ⟨HB3.out.trans (HX4.out.mono HB3.out.size)⟩
          have HY4 : Sl (w4.heap[w.heap.size]? = some (.cells #[.bool fin, .int .i64 (op : Int), .bool m, .int .u8 ((a : Nat) : Int), .int .u8 ((b : Nat) : Int), .int .u8 ((c : Nat) : Int), .int .u8 ((d : Nat) : Int), .string s] 24 (0, 0))) := ⟨below_key HY3.out HX4.out⟩
          clear c0 c1 c2 c3 c4 c5 c6 c7
          clear HX4
          have hcn := hcap4 w4 g4 cap4 HS4.out
          have hc4 : 2 ≤ cap4 := by omega
          obtain ⟨c0, c1, c2, c3, c4, c5, c6, c7⟩ := bx8 HY4.out
          go_wp2_with fail
          refine (G1 w4 _ _ (HG.out.below HB4.out HG.out.size) (src_sub HS4.out 0 2 cap4 0 (fun _ => rfl) (by omega) hc4 hlA.out)).mono ?_
          rintro e w5 ⟨rfl, HX5⟩
          have HS5 := Sl.mk (HS4.out.below (Nat.le_refl _) HX5.out)
          have HB5 : Sl (Below w.heap.size w w5) := ⟨HB4.out.trans (HX5.out.mono HB4.out.size)⟩
          have HY5 : Sl (w5.heap[w.heap.size]? = some (.cells #[.bool fin, .int .i64 (op : Int), .bool m, .int .u8 ((a : Nat) : Int), .int .u8 ((b : Nat) : Int), .int .u8 ((c : Nat) : Int), .int .u8 ((d : Nat) : Int), .string s] 24 (0, 0))) := ⟨below_key HY4.out HX5.out⟩
          obtain ⟨w6, hw6⟩ : ∃ V, (w5.alloc (.cells #[.bool false, .int .i64 0, .bool false, .int .u8 0, .int .u8 0, .int .u8 0, .int .u8 0, .string { data := #[] }] 24)).setRow w5.heap.size #[.bool fin, .int .i64 (op : Int), .bool m, .int .u8 ((a : Nat) : Int), .int .u8 ((b : Nat) : Int), .int .u8 ((c : Nat) : Int), .int .u8 ((d : Nat) : Int), .string s] = V := ⟨_, rfl⟩
          have HXw6 : Sl (Below w5.heap.size w5 w6) := ⟨by rw [← hw6]; exact laid_self w5 #[.bool fin, .int .i64 (op : Int), .bool m, .int .u8 ((a : Nat) : Int), .int .u8 ((b : Nat) : Int), .int .u8 ((c : Nat) : Int), .int .u8 ((d : Nat) : Int), .string s]⟩
          have HBw6 : Sl (Below w.heap.size w w6) := ⟨HB5.out.trans (HXw6.out.mono HB5.out.size)⟩
          have HYw6 : Sl (w6.heap[w5.heap.size]? = some (.cells #[.bool fin, .int .i64 (op : Int), .bool m, .int .u8 ((a : Nat) : Int), .int .u8 ((b : Nat) : Int), .int .u8 ((c : Nat) : Int), .int .u8 ((d : Nat) : Int), .string s] 24 (0, 0))) := ⟨by rw [← hw6]; exact (laid_fr #[.bool fin, .int .i64 (op : Int), .bool m, .int .u8 ((a : Nat) : Int), .int .u8 ((b : Nat) : Int), .int .u8 ((c : Nat) : Int), .int .u8 ((d : Nat) : Int), .string s] (Below.refl _ _)).2⟩
          have HIw6 := fr_info (cs := #[.bool fin, .int .i64 (op : Int), .bool m, .int .u8 ((a : Nat) : Int), .int .u8 ((b : Nat) : Int), .int .u8 ((c : Nat) : Int), .int .u8 ((d : Nat) : Int), .string s]) rfl
          have HY6 : Sl (w6.heap[w.heap.size]? = some (.cells #[.bool fin, .int .i64 (op : Int), .bool m, .int .u8 ((a : Nat) : Int), .int .u8 ((b : Nat) : Int), .int .u8 ((c : Nat) : Int), .int .u8 ((d : Nat) : Int), .string s] 24 (0, 0))) := ⟨below_key HY5.out HXw6.out⟩
          have HS6 := Sl.mk (HS5.out.below (Nat.le_refl _) HXw6.out)
          clear c0 c1 c2 c3 c4 c5 c6 c7
          obtain ⟨c0, c1, c2, c3, c4, c5, c6, c7⟩ := bx8 HY6.out
          clear HX5 HS5 HXw6 HYw6
          go_wp2_with (refine wpList_store_row rfl 24 (.tmp 8) (.tmp 41) rfl w5.heap.size #[.bool fin, .int .i64 (op : Int), .bool m, .int .u8 ((a : Nat) : Int), .int .u8 ((b : Nat) : Int), .int .u8 ((c : Nat) : Int), .int .u8 ((d : Nat) : Int), .string s] rfl rfl 24 #[.bool false, .int .i64 0, .bool false, .int .u8 0, .int .u8 0, .int .u8 0, .int .u8 0, .string { data := #[] }] (bx_new w5 _) HIw6 rfl (fr_all _ _ _ _ _ _ _ _) ?_)
          refine (G2 w6 _ _ (HG.out.below HBw6.out HG.out.size) HS6.out).mono ?_
          rintro e w7 ⟨rfl, HX7⟩
          have HB7 : Sl (Below w.heap.size w w7) := ⟨HBw6.out.trans (HX7.out.mono HBw6.out.size)⟩
          have HY7 : Sl (w7.heap[w.heap.size]? = some (.cells #[.bool fin, .int .i64 (op : Int), .bool m, .int .u8 ((a : Nat) : Int), .int .u8 ((b : Nat) : Int), .int .u8 ((c : Nat) : Int), .int .u8 ((d : Nat) : Int), .string s] 24 (0, 0))) := ⟨below_key HY6.out HX7.out⟩
          obtain ⟨w8, hw8⟩ : ∃ V, (w7.alloc (.cells #[.bool false, .int .i64 0, .bool false, .int .u8 0, .int .u8 0, .int .u8 0, .int .u8 0, .string { data := #[] }] 24)).setRow w7.heap.size #[.bool fin, .int .i64 (op : Int), .bool m, .int .u8 ((a : Nat) : Int), .int .u8 ((b : Nat) : Int), .int .u8 ((c : Nat) : Int), .int .u8 ((d : Nat) : Int), .string s] = V := ⟨_, rfl⟩
          have HXw8 : Sl (Below w7.heap.size w7 w8) := ⟨by rw [← hw8]; exact laid_self w7 #[.bool fin, .int .i64 (op : Int), .bool m, .int .u8 ((a : Nat) : Int), .int .u8 ((b : Nat) : Int), .int .u8 ((c : Nat) : Int), .int .u8 ((d : Nat) : Int), .string s]⟩
          have HBw8 : Sl (Below w.heap.size w w8) := ⟨HB7.out.trans (HXw8.out.mono HB7.out.size)⟩
          have HYw8 : Sl (w8.heap[w7.heap.size]? = some (.cells #[.bool fin, .int .i64 (op : Int), .bool m, .int .u8 ((a : Nat) : Int), .int .u8 ((b : Nat) : Int), .int .u8 ((c : Nat) : Int), .int .u8 ((d : Nat) : Int), .string s] 24 (0, 0))) := ⟨by rw [← hw8]; exact (laid_fr #[.bool fin, .int .i64 (op : Int), .bool m, .int .u8 ((a : Nat) : Int), .int .u8 ((b : Nat) : Int), .int .u8 ((c : Nat) : Int), .int .u8 ((d : Nat) : Int), .string s] (Below.refl _ _)).2⟩
          have HIw8 := fr_info (cs := #[.bool fin, .int .i64 (op : Int), .bool m, .int .u8 ((a : Nat) : Int), .int .u8 ((b : Nat) : Int), .int .u8 ((c : Nat) : Int), .int .u8 ((d : Nat) : Int), .string s]) rfl
          have HY8 : Sl (w8.heap[w.heap.size]? = some (.cells #[.bool fin, .int .i64 (op : Int), .bool m, .int .u8 ((a : Nat) : Int), .int .u8 ((b : Nat) : Int), .int .u8 ((c : Nat) : Int), .int .u8 ((d : Nat) : Int), .string s] 24 (0, 0))) := ⟨below_key HY7.out HXw8.out⟩
          clear c0 c1 c2 c3 c4 c5 c6 c7
          obtain ⟨c0, c1, c2, c3, c4, c5, c6, c7⟩ := bx8 HY8.out
          clear HX7 HXw8 HYw8 hw6
          go_wp2_with (refine wpList_store_row rfl 24 (.tmp 11) (.tmp 49) rfl w7.heap.size #[.bool fin, .int .i64 (op : Int), .bool m, .int .u8 ((a : Nat) : Int), .int .u8 ((b : Nat) : Int), .int .u8 ((c : Nat) : Int), .int .u8 ((d : Nat) : Int), .string s] rfl rfl 24 #[.bool false, .int .i64 0, .bool false, .int .u8 0, .int .u8 0, .int .u8 0, .int .u8 0, .string { data := #[] }] (bx_new w7 _) HIw8 rfl (fr_all _ _ _ _ _ _ _ _) ?_)
          go_ret
          exact ⟨rfl, HBw8.out⟩
        · rw [if_neg hz] at hgh
          have G1 : ∀ (W : World) g cap, Globs W → SrcAt W (.slice (some ⟨g, 0, none⟩) hd cap) ((A.drop 0).take hd) → Calls Tryd.prog 16 #[.slice (some ⟨g, 0, none⟩) hd cap, .int .i64 (q : Int)] W fun e w' => e = .returned (.tuple #[.agg #[.bool false, .int .i64 0, .bool false, .int .u8 0, .int .u8 0, .int .u8 0, .int .u8 0, .string { data := #[] }], .int .i64 0, .int .i64 90]) ∧ Sl (Below W.heap.size W w') := fun W g cap hW hv => by
            exact getf_err g 0 hd cap ((A.drop 0).take hd) (q : Int) 90 W hW hv (by rw [List.length_take, List.drop_zero, hlA.out]; omega) ((hAS.drop 0).take hd) (by omega) (by omega) hgh
          have G2 : ∀ (W : World) g cap, Globs W → SrcAt W (.slice (some ⟨g, 0, none⟩) n cap) (A) → Calls Tryd.prog 16 #[.slice (some ⟨g, 0, none⟩) n cap, .int .i64 (q : Int)] W fun e w' => e = .returned (.tuple #[.agg #[.bool fin, .int .i64 (op : Int), .bool m, .int .u8 ((a : Nat) : Int), .int .u8 ((b : Nat) : Int), .int .u8 ((c : Nat) : Int), .int .u8 ((d : Nat) : Int), .string s], .int .i64 (n : Int), .int .i64 0]) ∧ Sl (Below W.heap.size W w') := fun W g cap hW hv => by
            have := getf_ex g 0 n cap (A) (q : Int) fin (op : Int) m a b c d (bytes s) n 0 W hW hv hlA.out hAS (by omega) (by omega) hgt
            rw [strOf_bytes] at this
            exact this
          clear hgh hgt hc1 hT1 hn1 hdl1 ho hLn hs hk1 hAS
          subst hhd
          go_enter Tryd.func9, Tryd.ntmps9
          go_wp2_with fail
          refine (awake_any w2 (HG.out.below HB2.out HG.out.size)).mono ?_
          rintro e w3 ⟨rfl, HX3⟩
          have HB3 : Sl (Below w.heap.size w w3) := ⟨HB2.out.trans (HX3.out.mono HB2.out.size)⟩
          have HY3 : Sl (w3.heap[w.heap.size]? = some (.cells #[.bool fin, .int .i64 (op : Int), .bool m, .int .u8 ((a : Nat) : Int), .int .u8 ((b : Nat) : Int), .int .u8 ((c : Nat) : Int), .int .u8 ((d : Nat) : Int), .string s] 24 (0, 0))) := ⟨below_key HY2.out HX3.out⟩
          clear HB2 HY2 HX3 hw2
          obtain ⟨c0, c1, c2, c3, c4, c5, c6, c7⟩ := bx8 HY3.out
          go_wp2_with fail
          refine (P1 w3 (HG.out.below HB3.out HG.out.size)).mono ?_
          rintro e w4 ⟨g4, cap4, rfl, HS4, HX4⟩
          have HB4 : Sl (Below w.heap.size w w4) := ⟨HB3.out.trans (HX4.out.mono HB3.out.size)⟩
          have HY4 : Sl (w4.heap[w.heap.size]? = some (.cells #[.bool fin, .int .i64 (op : Int), .bool m, .int .u8 ((a : Nat) : Int), .int .u8 ((b : Nat) : Int), .int .u8 ((c : Nat) : Int), .int .u8 ((d : Nat) : Int), .string s] 24 (0, 0))) := ⟨below_key HY3.out HX4.out⟩
          clear c0 c1 c2 c3 c4 c5 c6 c7
          clear HX4
          have hcn := hcap4 w4 g4 cap4 HS4.out
          have hc4 : 2 ≤ cap4 := by omega
          obtain ⟨c0, c1, c2, c3, c4, c5, c6, c7⟩ := bx8 HY4.out
          go_wp2_with fail
          refine (G1 w4 _ _ (HG.out.below HB4.out HG.out.size) (src_sub HS4.out 0 2 cap4 0 (fun _ => rfl) (by omega) hc4 hlA.out)).mono ?_
          rintro e w5 ⟨rfl, HX5⟩
          have HS5 := Sl.mk (HS4.out.below (Nat.le_refl _) HX5.out)
          have HB5 : Sl (Below w.heap.size w w5) := ⟨HB4.out.trans (HX5.out.mono HB4.out.size)⟩
          have HY5 : Sl (w5.heap[w.heap.size]? = some (.cells #[.bool fin, .int .i64 (op : Int), .bool m, .int .u8 ((a : Nat) : Int), .int .u8 ((b : Nat) : Int), .int .u8 ((c : Nat) : Int), .int .u8 ((d : Nat) : Int), .string s] 24 (0, 0))) := ⟨below_key HY4.out HX5.out⟩
          obtain ⟨w6, hw6⟩ : ∃ V, (w5.alloc (.cells #[.bool false, .int .i64 0, .bool false, .int .u8 0, .int .u8 0, .int .u8 0, .int .u8 0, .string { data := #[] }] 24)).setRow w5.heap.size #[.bool false, .int .i64 0, .bool false, .int .u8 0, .int .u8 0, .int .u8 0, .int .u8 0, .string { data := #[] }] = V := ⟨_, rfl⟩
          have HXw6 : Sl (Below w5.heap.size w5 w6) := ⟨by rw [← hw6]; exact laid_self w5 #[.bool false, .int .i64 0, .bool false, .int .u8 0, .int .u8 0, .int .u8 0, .int .u8 0, .string { data := #[] }]⟩
          have HBw6 : Sl (Below w.heap.size w w6) := ⟨HB5.out.trans (HXw6.out.mono HB5.out.size)⟩
          have HYw6 : Sl (w6.heap[w5.heap.size]? = some (.cells #[.bool false, .int .i64 0, .bool false, .int .u8 0, .int .u8 0, .int .u8 0, .int .u8 0, .string { data := #[] }] 24 (0, 0))) := ⟨by rw [← hw6]; exact (laid_fr #[.bool false, .int .i64 0, .bool false, .int .u8 0, .int .u8 0, .int .u8 0, .int .u8 0, .string { data := #[] }] (Below.refl _ _)).2⟩
          have HIw6 := fr_info (cs := #[.bool false, .int .i64 0, .bool false, .int .u8 0, .int .u8 0, .int .u8 0, .int .u8 0, .string { data := #[] }]) rfl
          have HY6 : Sl (w6.heap[w.heap.size]? = some (.cells #[.bool fin, .int .i64 (op : Int), .bool m, .int .u8 ((a : Nat) : Int), .int .u8 ((b : Nat) : Int), .int .u8 ((c : Nat) : Int), .int .u8 ((d : Nat) : Int), .string s] 24 (0, 0))) := ⟨below_key HY5.out HXw6.out⟩
          have HS6 := Sl.mk (HS5.out.below (Nat.le_refl _) HXw6.out)
          clear c0 c1 c2 c3 c4 c5 c6 c7
          obtain ⟨c0, c1, c2, c3, c4, c5, c6, c7⟩ := bx8 HY6.out
          clear HX5 HS5 HXw6 HYw6
          go_wp2_with (refine wpList_store_row rfl 24 (.tmp 8) (.tmp 41) rfl w5.heap.size #[.bool false, .int .i64 0, .bool false, .int .u8 0, .int .u8 0, .int .u8 0, .int .u8 0, .string { data := #[] }] rfl rfl 24 #[.bool false, .int .i64 0, .bool false, .int .u8 0, .int .u8 0, .int .u8 0, .int .u8 0, .string { data := #[] }] (bx_new w5 _) HIw6 rfl (fr_all _ _ _ _ _ _ _ _) ?_)
          refine (G2 w6 _ _ (HG.out.below HBw6.out HG.out.size) HS6.out).mono ?_
          rintro e w7 ⟨rfl, HX7⟩
          have HB7 : Sl (Below w.heap.size w w7) := ⟨HBw6.out.trans (HX7.out.mono HBw6.out.size)⟩
          have HY7 : Sl (w7.heap[w.heap.size]? = some (.cells #[.bool fin, .int .i64 (op : Int), .bool m, .int .u8 ((a : Nat) : Int), .int .u8 ((b : Nat) : Int), .int .u8 ((c : Nat) : Int), .int .u8 ((d : Nat) : Int), .string s] 24 (0, 0))) := ⟨below_key HY6.out HX7.out⟩
          obtain ⟨w8, hw8⟩ : ∃ V, (w7.alloc (.cells #[.bool false, .int .i64 0, .bool false, .int .u8 0, .int .u8 0, .int .u8 0, .int .u8 0, .string { data := #[] }] 24)).setRow w7.heap.size #[.bool fin, .int .i64 (op : Int), .bool m, .int .u8 ((a : Nat) : Int), .int .u8 ((b : Nat) : Int), .int .u8 ((c : Nat) : Int), .int .u8 ((d : Nat) : Int), .string s] = V := ⟨_, rfl⟩
          have HXw8 : Sl (Below w7.heap.size w7 w8) := ⟨by rw [← hw8]; exact laid_self w7 #[.bool fin, .int .i64 (op : Int), .bool m, .int .u8 ((a : Nat) : Int), .int .u8 ((b : Nat) : Int), .int .u8 ((c : Nat) : Int), .int .u8 ((d : Nat) : Int), .string s]⟩
          have HBw8 : Sl (Below w.heap.size w w8) := ⟨HB7.out.trans (HXw8.out.mono HB7.out.size)⟩
          have HYw8 : Sl (w8.heap[w7.heap.size]? = some (.cells #[.bool fin, .int .i64 (op : Int), .bool m, .int .u8 ((a : Nat) : Int), .int .u8 ((b : Nat) : Int), .int .u8 ((c : Nat) : Int), .int .u8 ((d : Nat) : Int), .string s] 24 (0, 0))) := ⟨by rw [← hw8]; exact (laid_fr #[.bool fin, .int .i64 (op : Int), .bool m, .int .u8 ((a : Nat) : Int), .int .u8 ((b : Nat) : Int), .int .u8 ((c : Nat) : Int), .int .u8 ((d : Nat) : Int), .string s] (Below.refl _ _)).2⟩
          have HIw8 := fr_info (cs := #[.bool fin, .int .i64 (op : Int), .bool m, .int .u8 ((a : Nat) : Int), .int .u8 ((b : Nat) : Int), .int .u8 ((c : Nat) : Int), .int .u8 ((d : Nat) : Int), .string s]) rfl
          have HY8 : Sl (w8.heap[w.heap.size]? = some (.cells #[.bool fin, .int .i64 (op : Int), .bool m, .int .u8 ((a : Nat) : Int), .int .u8 ((b : Nat) : Int), .int .u8 ((c : Nat) : Int), .int .u8 ((d : Nat) : Int), .string s] 24 (0, 0))) := ⟨below_key HY7.out HXw8.out⟩
          clear c0 c1 c2 c3 c4 c5 c6 c7
          obtain ⟨c0, c1, c2, c3, c4, c5, c6, c7⟩ := bx8 HY8.out
          clear HX7 HXw8 HYw8 hw6
          go_wp2_with (refine wpList_store_row rfl 24 (.tmp 11) (.tmp 49) rfl w7.heap.size #[.bool fin, .int .i64 (op : Int), .bool m, .int .u8 ((a : Nat) : Int), .int .u8 ((b : Nat) : Int), .int .u8 ((c : Nat) : Int), .int .u8 ((d : Nat) : Int), .string s] rfl rfl 24 #[.bool false, .int .i64 0, .bool false, .int .u8 0, .int .u8 0, .int .u8 0, .int .u8 0, .string { data := #[] }] (bx_new w7 _) HIw8 rfl (fr_all _ _ _ _ _ _ _ _) ?_)
          go_ret
          exact ⟨rfl, HBw8.out⟩
  · have P1 : ∀ W, Globs W → Calls Tryd.prog 11 #[.agg #[.bool fin, .int .i64 (op : Int), .bool m, .int .u8 ((a : Nat) : Int), .int .u8 ((b : Nat) : Int), .int .u8 ((c : Nat) : Int), .int .u8 ((d : Nat) : Int), .string s]] W fun e w' => e = .returned (.tuple #[.slice none 0 0, .int .i64 (k1 : Int)]) ∧ Sl (Below W.heap.size W w') := fun W _ => putf_no fin op m a b c d s k1 W hk1 hc1 h01
    have hne1 : ((k1 : Int) != 0) = true := by simp; omega
    clear hc1 hs hk1 h01 hq16
    go_enter Tryd.func9, Tryd.ntmps9
    go_wp2_with fail
    refine (awake_any w2 (HG.out.below HB2.out HG.out.size)).mono ?_
    rintro e w3 ⟨rfl, HX3⟩
    have HB3 : Sl (Below w.heap.size w w3) := ⟨HB2.out.trans (HX3.out.mono HB2.out.size)⟩
    have HY3 : Sl (w3.heap[w.heap.size]? = some (.cells #[.bool fin, .int .i64 (op : Int), .bool m, .int .u8 ((a : Nat) : Int), .int .u8 ((b : Nat) : Int), .int .u8 ((c : Nat) : Int), .int .u8 ((d : Nat) : Int), .string s] 24 (0, 0))) := ⟨below_key HY2.out HX3.out⟩
    clear HB2 HY2 HX3 hw2
    obtain ⟨c0, c1, c2, c3, c4, c5, c6, c7⟩ := bx8 HY3.out
    go_wp2_with fail
    refine (P1 w3 (HG.out.below HB3.out HG.out.size)).mono ?_
    rintro e w4 ⟨rfl, HX4⟩
    have HB4 : Sl (Below w.heap.size w w4) := ⟨HB3.out.trans (HX4.out.mono HB3.out.size)⟩
    have HY4 : Sl (w4.heap[w.heap.size]? = some (.cells #[.bool fin, .int .i64 (op : Int), .bool m, .int .u8 ((a : Nat) : Int), .int .u8 ((b : Nat) : Int), .int .u8 ((c : Nat) : Int), .int .u8 ((d : Nat) : Int), .string s] 24 (0, 0))) := ⟨below_key HY3.out HX4.out⟩
    clear c0 c1 c2 c3 c4 c5 c6 c7
    go_wp2
    go_ret
    exact ⟨rfl, HB4.out⟩
end Go.Proofs.YtcelhondifaloaaDoor
