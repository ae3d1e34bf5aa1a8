/- frame: FrameGets' walk. -/
import Derived.Test.YtcelhondifaloaaDoorR
import Derived.Test.YtcelhondifaloaaDoorK
set_option maxRecDepth 100000
namespace Go.Proofs.YtcelhondifaloaaDoor
open Go.RowKit MaskPlain FramePlain Mas

theorem eq_same2 (fin : Bool) (op : Int) (m : Bool) (a b c d : Nat) (s : ByteArray) (hk : Small 256 [a, b, c, d]) (W : World) : (Op.equalIn 10000 24 (.agg #[.bool fin, .int .i64 op, .bool m, .int .u8 ((a : Nat) : Int), .int .u8 ((b : Nat) : Int), .int .u8 ((c : Nat) : Int), .int .u8 ((d : Nat) : Int), .string s]) (.agg #[.bool fin, .int .i64 op, .bool m, .int .u8 ((a : Nat) : Int), .int .u8 ((b : Nat) : Int), .int .u8 ((c : Nat) : Int), .int .u8 ((d : Nat) : Int), .string s])).run Tryd.prog W = .ok true W :=
  (eq_fr fin op m a b c d s fin op m a b c d s hk hk W).trans (congrArg (fun b => Result.ok b W) (by simp))
theorem key_small {bs : List Nat} {most : Int} (hs : Small 256 bs) : Small 256 (getF bs most).1.key := by
  rcases get_err bs most with h | ⟨e, he, _⟩
  · obtain ⟨⟨f, n, e⟩, hf⟩ : ∃ r, getF bs most = r := ⟨_, rfl⟩
    rw [hf] at h ⊢
    simp only at h
    subst h
    exact (get_ok hs hf).2.2.2.2.2.1
  · rw [he]; intro x hx; simp [Fr0, zero4] at hx; omega

set_option maxHeartbeats 4000000 in
theorem gets_walk (s : ByteArray) (most : Int) (w : World) (hg : Globs w) (hmo : -9223372036854775808 ≤ most ∧ most ≤ 9223372036854775807) : Calls Tryd.prog 4 #[.string s, .int .i64 most] w fun e w' => e = .returned (.bool true) ∧ Below w.heap.size w w' := by
  have HG := Sl.mk hg
  clear hg
  by_cases hs : s.size > 500
  · have hq : ((s.size : Int) > 500) = True := eq_true (by omega)
    clear hs hmo
    go_enter Tryd.func4, Tryd.ntmps4
    go_wp2_with fail
    refine (awake_any w HG.out).mono ?_
    rintro e w1 ⟨rfl, HB1⟩
    go_wp2_with fail
    refine (awake_any w1 (HG.out.below HB1.out HG.out.size)).mono ?_
    rintro e w2 ⟨rfl, HX2⟩
    have HB2 := HB1.out.trans (HX2.out.mono HB1.out.size)
    go_wp2
    go_ret
    exact ⟨rfl, HB2⟩
  · have hq : ((s.size : Int) > 500) = False := eq_false (by omega)
    obtain ⟨⟨f, n, e⟩, hgt⟩ : ∃ r, getF (bytes s) most = r := ⟨_, rfl⟩
    have hks := key_small (bs := bytes s) (most := most) (bytes_small s)
    rw [hgt] at hks
    obtain ⟨rf, ro, rm, ka, kb, kc, kd, rd, hval, hk⟩ : ∃ rf ro rm ka kb kc kd rd, valF f = .agg #[.bool rf, .int .i64 ro, .bool rm, .int .u8 ((ka : Nat) : Int), .int .u8 ((kb : Nat) : Int), .int .u8 ((kc : Nat) : Int), .int .u8 ((kd : Nat) : Int), .string rd] ∧ Small 256 [ka, kb, kc, kd] := ⟨_, _, _, _, _, _, _, _, rfl, fun x hx => by
      simp only [List.mem_cons, List.not_mem_nil, or_false] at hx
      rcases hx with rfl | rfl | rfl | rfl <;> exact Small.getD hks (by omega) _⟩
    have C16 : ∀ (W : World) g cap, Globs W → SrcAt W (.slice (some ⟨g, 0, none⟩) s.size cap) (bytes s) → Calls Tryd.prog 16 #[.slice (some ⟨g, 0, none⟩) s.size cap, .int .i64 most] W fun e' w' => e' = .returned (.tuple #[.agg #[.bool rf, .int .i64 ro, .bool rm, .int .u8 (ka : Int), .int .u8 (kb : Int), .int .u8 (kc : Int), .int .u8 (kd : Int), .string rd], .int .i64 (n : Int), .int .i64 (e : Int)]) ∧ Sl (Below W.heap.size W w') := fun W g cap hW hv => by
      have := getf_any g 0 s.size cap (bytes s) most W hW hv (bytes_length s) (bytes_small s) (by omega) hmo.2
      rw [hgt] at this
      unfold resF at this
      rw [hval] at this
      exact this
    have C19 : ∀ W, Calls Tryd.prog 19 #[.string s, .int .i64 most] W fun e' w' => e' = .returned (.tuple #[.agg #[.bool rf, .int .i64 ro, .bool rm, .int .u8 (ka : Int), .int .u8 (kb : Int), .int .u8 (kc : Int), .int .u8 (kd : Int), .string rd], .int .i64 (n : Int), .int .i64 (e : Int)]) ∧ Sl (Below W.heap.size W w') := fun W => by
      have := refgetf_any s most W (by omega) hmo.2
      rw [hgt] at this
      unfold resF at this
      rw [hval] at this
      exact this
    have heq := eq_same2 rf ro rm ka kb kc kd rd hk
    clear hs hmo hgt hks hval hk
    go_enter Tryd.func4, Tryd.ntmps4
    go_wp2_with fail
    refine (awake_any w HG.out).mono ?_
    rintro e' w1 ⟨rfl, HB1⟩
    obtain ⟨cap, w2, hcv, HS2, HX2⟩ := conv_str s w1
    have HB2 : Sl (Below w.heap.size w w2) := ⟨HB1.out.trans (HX2.out.mono HB1.out.size)⟩
    go_wp2_with fail
    refine (C16 w2 _ _ (HG.out.below HB2.out HG.out.size) HS2.out).mono ?_
    rintro e' w3 ⟨rfl, HX3⟩
    have HB3 : Sl (Below w.heap.size w w3) := ⟨HB2.out.trans (HX3.out.mono HB2.out.size)⟩
    obtain ⟨w4, hw4⟩ : ∃ V, (w3.alloc (.cells #[.bool false, .int .i64 0, .bool false, .int .u8 0, .int .u8 0, .int .u8 0, .int .u8 0, .string { data := #[] }] 24)).setRow w3.heap.size #[.bool rf, .int .i64 ro, .bool rm, .int .u8 (ka : Int), .int .u8 (kb : Int), .int .u8 (kc : Int), .int .u8 (kd : Int), .string rd] = V := ⟨_, rfl⟩
    have HXw4 : Sl (Below w3.heap.size w3 w4) := ⟨by rw [← hw4]; exact laid_self w3 #[.bool rf, .int .i64 ro, .bool rm, .int .u8 (ka : Int), .int .u8 (kb : Int), .int .u8 (kc : Int), .int .u8 (kd : Int), .string rd]⟩
    have HBw4 : Sl (Below w.heap.size w w4) := ⟨HB3.out.trans (HXw4.out.mono HB3.out.size)⟩
    have HYw4 : Sl (w4.heap[w3.heap.size]? = some (.cells #[.bool rf, .int .i64 ro, .bool rm, .int .u8 (ka : Int), .int .u8 (kb : Int), .int .u8 (kc : Int), .int .u8 (kd : Int), .string rd] 24 (0, 0))) := ⟨by rw [← hw4]; exact (laid_fr #[.bool rf, .int .i64 ro, .bool rm, .int .u8 (ka : Int), .int .u8 (kb : Int), .int .u8 (kc : Int), .int .u8 (kd : Int), .string rd] (Below.refl _ _)).2⟩
    have HIw4 := fr_info (cs := #[.bool rf, .int .i64 ro, .bool rm, .int .u8 (ka : Int), .int .u8 (kb : Int), .int .u8 (kc : Int), .int .u8 (kd : Int), .string rd]) rfl
    clear hcv HX2 HX3 HS2
    go_wp2_with (refine wpList_store_row rfl 24 (.tmp 5) (.tmp 24) rfl w3.heap.size #[.bool rf, .int .i64 ro, .bool rm, .int .u8 (ka : Int), .int .u8 (kb : Int), .int .u8 (kc : Int), .int .u8 (kd : Int), .string rd] rfl rfl 24 #[.bool false, .int .i64 0, .bool false, .int .u8 0, .int .u8 0, .int .u8 0, .int .u8 0, .string { data := #[] }] (bx_new w3 _) HIw4 rfl (fr_all _ _ _ _ _ _ _ _) ?_)
    refine (C19 w4).mono ?_
    rintro e' w5 ⟨rfl, HX5⟩
    have HB5 : Sl (Below w.heap.size w w5) := ⟨HBw4.out.trans (HX5.out.mono HBw4.out.size)⟩
    have HY5 : Sl (w5.heap[w3.heap.size]? = some (.cells #[.bool rf, .int .i64 ro, .bool rm, .int .u8 (ka : Int), .int .u8 (kb : Int), .int .u8 (kc : Int), .int .u8 (kd : Int), .string rd] 24 (0, 0))) := ⟨below_key HYw4.out HX5.out⟩
    obtain ⟨w6, hw6⟩ : ∃ V, (w5.alloc (.cells #[.bool false, .int .i64 0, .bool false, .int .u8 0, .int .u8 0, .int .u8 0, .int .u8 0, .string { data := #[] }] 24)).setRow w5.heap.size #[.bool rf, .int .i64 ro, .bool rm, .int .u8 (ka : Int), .int .u8 (kb : Int), .int .u8 (kc : Int), .int .u8 (kd : Int), .string rd] = V := ⟨_, rfl⟩
    have HXw6 : Sl (Below w5.heap.size w5 w6) := ⟨by rw [← hw6]; exact laid_self w5 #[.bool rf, .int .i64 ro, .bool rm, .int .u8 (ka : Int), .int .u8 (kb : Int), .int .u8 (kc : Int), .int .u8 (kd : Int), .string rd]⟩
    have HBw6 : Sl (Below w.heap.size w w6) := ⟨HB5.out.trans (HXw6.out.mono HB5.out.size)⟩
    have HYw6 : Sl (w6.heap[w5.heap.size]? = some (.cells #[.bool rf, .int .i64 ro, .bool rm, .int .u8 (ka : Int), .int .u8 (kb : Int), .int .u8 (kc : Int), .int .u8 (kd : Int), .string rd] 24 (0, 0))) := ⟨by rw [← hw6]; exact (laid_fr #[.bool rf, .int .i64 ro, .bool rm, .int .u8 (ka : Int), .int .u8 (kb : Int), .int .u8 (kc : Int), .int .u8 (kd : Int), .string rd] (Below.refl _ _)).2⟩
    have HIw6 := fr_info (cs := #[.bool rf, .int .i64 ro, .bool rm, .int .u8 (ka : Int), .int .u8 (kb : Int), .int .u8 (kc : Int), .int .u8 (kd : Int), .string rd]) rfl
    have HY6 : Sl (w6.heap[w3.heap.size]? = some (.cells #[.bool rf, .int .i64 ro, .bool rm, .int .u8 (ka : Int), .int .u8 (kb : Int), .int .u8 (kc : Int), .int .u8 (kd : Int), .string rd] 24 (0, 0))) := ⟨below_key HY5.out HXw6.out⟩
    obtain ⟨c0, c1, c2, c3, c4, c5, c6, c7⟩ := bx8 HY6.out
    obtain ⟨d0, d1, d2, d3, d4, d5, d6, d7⟩ := bx8 HYw6.out
    clear HX5
    go_wp2_with (refine wpList_store_row rfl 24 (.tmp 8) (.tmp 31) rfl w5.heap.size #[.bool rf, .int .i64 ro, .bool rm, .int .u8 (ka : Int), .int .u8 (kb : Int), .int .u8 (kc : Int), .int .u8 (kd : Int), .string rd] rfl rfl 24 #[.bool false, .int .i64 0, .bool false, .int .u8 0, .int .u8 0, .int .u8 0, .int .u8 0, .string { data := #[] }] (bx_new w5 _) HIw6 rfl (fr_all _ _ _ _ _ _ _ _) ?_)
    go_ret
    exact ⟨rfl, HBw6.out⟩
end Go.Proofs.YtcelhondifaloaaDoor
