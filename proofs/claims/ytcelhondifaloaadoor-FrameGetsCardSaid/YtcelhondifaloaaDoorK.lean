/- frame: FrameBack's walk. -/
import Derived.Test.YtcelhondifaloaaDoorJ
set_option maxRecDepth 100000
namespace Go.Proofs.YtcelhondifaloaaDoor
open Go.RowKit MaskPlain FramePlain Mas

theorem eq_fr0 (W : World) : (Op.equalIn 10000 24 (.agg #[.bool false, .int .i64 0, .bool false, .int .u8 0, .int .u8 0, .int .u8 0, .int .u8 0, .string { data := #[] }]) (.agg #[.bool false, .int .i64 0, .bool false, .int .u8 0, .int .u8 0, .int .u8 0, .int .u8 0, .string { data := #[] }])).run Tryd.prog W = .ok true W :=
  (eq_fr false 0 false 0 0 0 0 { data := #[] } false 0 false 0 0 0 0 { data := #[] } (fun x hx => by simp at hx; omega) (fun x hx => by simp at hx; omega) W).trans (congrArg (fun b => Result.ok b W) (by kernel_rfl))
/-- What is got, part by part. -/
theorem got_parts {bs : List Nat} {most : Int} (hs : Small 256 bs) (hm : most ≤ 65536) : (∃ k, getF bs most = (Fr0, 0, k) ∧ k ≠ 0) ∨
    ∃ fin k m a b c d dt n, getF bs most = (⟨fin, ((k : Nat) : Int), m, [a, b, c, d], dt⟩, n, 0) ∧ chk ⟨fin, ((k : Nat) : Int), m, [a, b, c, d], dt⟩ = 0 ∧ text ⟨fin, ((k : Nat) : Int), m, [a, b, c, d], dt⟩ = bs.take n ∧ size ⟨fin, ((k : Nat) : Int), m, [a, b, c, d], dt⟩ = n ∧ n ≤ bs.length ∧ 2 ≤ n ∧ Small 256 [a, b, c, d] ∧ Small 256 dt := by
  rcases get_err bs most with h | ⟨e, he, hee⟩
  · obtain ⟨⟨f, n, e⟩, hf⟩ : ∃ r, getF bs most = r := ⟨_, rfl⟩
    rw [hf] at h
    simp only at h
    subst h
    obtain ⟨h1, h2, h3, h4, h5, h6, h7, h8⟩ := get_ok hs hf
    obtain ⟨fin, op, m, key, dt⟩ := f
    obtain ⟨k, rfl⟩ := Int.eq_ofNat_of_zero_le (show 0 ≤ op by have := (form_cases h1).1; simp only at this; omega)
    simp only at h5 h6 h7 h8
    have hl := text_length (⟨fin, ((k : Nat) : Int), m, key, dt⟩ : Fr) (by show dt.length ≤ _; omega) h5
    rw [h2, List.length_take] at hl
    match key, h5 with
    | [a, b, c, d], _ => exact .inr ⟨fin, k, m, a, b, c, d, dt, n, hf, chk_of h1 (by show dt.length ≤ _; omega), h2, by omega, h3, h4, h6, h7⟩
  · exact .inl ⟨e, he, by omega⟩

set_option maxHeartbeats 2000000 in
theorem back_walk (s : ByteArray) (w : World) (hg : Globs w) : Calls Tryd.prog 6 #[.string s] w fun e w' => e = .returned (.bool true) ∧ Below w.heap.size w w' := by
  have HG := Sl.mk hg
  clear hg
  by_cases hs : s.size > 500
  · have hq : ((s.size : Int) > 500) = True := eq_true (by omega)
    clear hs
    go_enter Tryd.func6, Tryd.ntmps6
    go_wp2_with fail
    refine (awake_any w HG.out).mono ?_
    rintro e w1 ⟨rfl, HB1⟩
    go_wp2_with fail
    refine (awake_any w1 (HG.out.below HB1.out HG.out.size)).mono ?_
    rintro e w2 ⟨rfl, HX2⟩
    have HB2 := HB1.out.trans (HX2.out.mono HB1.out.size)
    go_wp2
    go_ret
    exact ⟨rfl, HB2⟩
  · have hq : ((s.size : Int) > 500) = False := eq_false (by omega)
    rcases got_parts (bs := bytes s) (most := 65536) (bytes_small s) (by omega) with ⟨k, hk, hk0⟩ | ⟨fin, k, m, a, b, c, d, dt, n, hgt, hchk, htx, hsz, hn, hn2, hks, hds⟩
    · have hke : ((k : Int) != 0) = true := by simp; omega
      have C16 : ∀ (W : World) g cap, Globs W → SrcAt W (.slice (some ⟨g, 0, none⟩) s.size cap) (bytes s) → Calls Tryd.prog 16 #[.slice (some ⟨g, 0, none⟩) s.size cap, .int .i64 65536] W fun e w' => e = .returned (.tuple #[.agg #[.bool false, .int .i64 0, .bool false, .int .u8 0, .int .u8 0, .int .u8 0, .int .u8 0, .string { data := #[] }], .int .i64 0, .int .i64 (k : Int)]) ∧ Sl (Below W.heap.size W w') := fun W g cap hW hv => getf_err g 0 s.size cap (bytes s) 65536 k W hW hv (bytes_length s) (bytes_small s) (by omega) (by decide) hk
      have heq := eq_fr0
      clear hk hk0 hs
      go_enter Tryd.func6, Tryd.ntmps6
      go_wp2_with fail
      refine (awake_any w HG.out).mono ?_
      rintro e w1 ⟨rfl, HB1⟩
      obtain ⟨cap, w2, hcv, HS2, HX2⟩ := conv_str s w1
      have HB2 : Sl (Below w.heap.size w w2) := ⟨HB1.out.trans (HX2.out.mono HB1.out.size)⟩
      go_wp2_with fail
      refine (C16 w2 _ _ (HG.out.below HB2.out HG.out.size) HS2.out).mono ?_
      rintro e w3 ⟨rfl, HX3⟩
      have HB3 : Sl (Below w.heap.size w w3) := ⟨HB2.out.trans (HX3.out.mono HB2.out.size)⟩
      obtain ⟨w4, hw4⟩ : ∃ V, (w3.alloc (.cells #[.bool false, .int .i64 0, .bool false, .int .u8 0, .int .u8 0, .int .u8 0, .int .u8 0, .string { data := #[] }] 24)).setRow w3.heap.size #[.bool false, .int .i64 0, .bool false, .int .u8 0, .int .u8 0, .int .u8 0, .int .u8 0, .string { data := #[] }] = V := ⟨_, rfl⟩
      have HXw4 : Sl (Below w3.heap.size w3 w4) := ⟨by rw [← hw4]; exact laid_self w3 #[.bool false, .int .i64 0, .bool false, .int .u8 0, .int .u8 0, .int .u8 0, .int .u8 0, .string { data := #[] }]⟩
      have HBw4 : Sl (Below w.heap.size w w4) := ⟨HB3.out.trans (HXw4.out.mono HB3.out.size)⟩
      have HYw4 : Sl (w4.heap[w3.heap.size]? = some (.cells #[.bool false, .int .i64 0, .bool false, .int .u8 0, .int .u8 0, .int .u8 0, .int .u8 0, .string { data := #[] }] 24 (0, 0))) := ⟨by rw [← hw4]; exact (laid_fr #[.bool false, .int .i64 0, .bool false, .int .u8 0, .int .u8 0, .int .u8 0, .int .u8 0, .string { data := #[] }] (Below.refl _ _)).2⟩
      have HIw4 := fr_info (cs := #[.bool false, .int .i64 0, .bool false, .int .u8 0, .int .u8 0, .int .u8 0, .int .u8 0, .string { data := #[] }]) rfl
      obtain ⟨c0, c1, c2, c3, c4, c5, c6, c7⟩ := bx8 HYw4.out
      clear hcv HX2 HX3 HS2
      go_wp2_with (refine wpList_store_row rfl 24 (.tmp 3) (.tmp 20) rfl w3.heap.size #[.bool false, .int .i64 0, .bool false, .int .u8 0, .int .u8 0, .int .u8 0, .int .u8 0, .string { data := #[] }] rfl rfl 24 #[.bool false, .int .i64 0, .bool false, .int .u8 0, .int .u8 0, .int .u8 0, .int .u8 0, .string { data := #[] }] (bx_new w3 _) HIw4 rfl (fr_all _ _ _ _ _ _ _ _) ?_)
      go_ret
      exact ⟨rfl, HBw4.out⟩
    · have C16 : ∀ (W : World) g cap, Globs W → SrcAt W (.slice (some ⟨g, 0, none⟩) s.size cap) (bytes s) → Calls Tryd.prog 16 #[.slice (some ⟨g, 0, none⟩) s.size cap, .int .i64 65536] W fun e w' => e = .returned (.tuple #[.agg #[.bool fin, .int .i64 (k : Int), .bool m, .int .u8 ((a : Nat) : Int), .int .u8 ((b : Nat) : Int), .int .u8 ((c : Nat) : Int), .int .u8 ((d : Nat) : Int), .string (strOf dt)], .int .i64 (n : Int), .int .i64 0]) ∧ Sl (Below W.heap.size W w') := fun W g cap hW hv => getf_ex g 0 s.size cap (bytes s) 65536 fin (k : Int) m a b c d dt n 0 W hW hv (bytes_length s) (bytes_small s) (by omega) (by decide) hgt
      have C11 : ∀ W, Globs W → Calls Tryd.prog 11 #[.agg #[.bool fin, .int .i64 (k : Int), .bool m, .int .u8 ((a : Nat) : Int), .int .u8 ((b : Nat) : Int), .int .u8 ((c : Nat) : Int), .int .u8 ((d : Nat) : Int), .string (strOf dt)]] W fun e w' => ∃ g cap, e = .returned (.tuple #[.slice (some ⟨g, 0, none⟩) n cap, .int .i64 0]) ∧ Sl (SrcAt w' (.slice (some ⟨g, 0, none⟩) n cap) ((bytes s).take n)) ∧ Sl (Below W.heap.size W w') := fun W hW => by
        have := putf_yes fin k m a b c d (strOf dt) n W hW hks (by rw [bytes_strOf dt hds]; exact hchk) (by rw [bytes_strOf dt hds]; exact hsz)
        rw [bytes_strOf dt hds, htx] at this
        exact this
      have hns : n ≤ s.size := by rw [← bytes_length s]; exact hn
      have hnq : ((n : Int) ≤ (s.size : Int)) = True := eq_true (by omega)
      have heq : ((strOf ((bytes s).take n)).toList == (s.extract 0 n).toList) = true := by
        rw [beq_bytes2, bytes_strOf _ ((bytes_small s).take n), bytes_extract, List.drop_zero]; exact decide_eq_true rfl
      clear hgt hchk htx hsz hn hn2 hks hds hs
      go_enter Tryd.func6, Tryd.ntmps6
      go_wp2_with fail
      refine (awake_any w HG.out).mono ?_
      rintro e w1 ⟨rfl, HB1⟩
      obtain ⟨cap, w2, hcv, HS2, HX2⟩ := conv_str s w1
      have HB2 : Sl (Below w.heap.size w w2) := ⟨HB1.out.trans (HX2.out.mono HB1.out.size)⟩
      go_wp2_with fail
      refine (C16 w2 _ _ (HG.out.below HB2.out HG.out.size) HS2.out).mono ?_
      rintro e w3 ⟨rfl, HX3⟩
      have HB3 : Sl (Below w.heap.size w w3) := ⟨HB2.out.trans (HX3.out.mono HB2.out.size)⟩
      obtain ⟨w4, hw4⟩ : ∃ V, (w3.alloc (.cells #[.bool false, .int .i64 0, .bool false, .int .u8 0, .int .u8 0, .int .u8 0, .int .u8 0, .string { data := #[] }] 24)).setRow w3.heap.size #[.bool fin, .int .i64 (k : Int), .bool m, .int .u8 ((a : Nat) : Int), .int .u8 ((b : Nat) : Int), .int .u8 ((c : Nat) : Int), .int .u8 ((d : Nat) : Int), .string (strOf dt)] = V := ⟨_, rfl⟩
      have HXw4 : Sl (Below w3.heap.size w3 w4) := ⟨by rw [← hw4]; exact laid_self w3 #[.bool fin, .int .i64 (k : Int), .bool m, .int .u8 ((a : Nat) : Int), .int .u8 ((b : Nat) : Int), .int .u8 ((c : Nat) : Int), .int .u8 ((d : Nat) : Int), .string (strOf dt)]⟩
      have HBw4 : Sl (Below w.heap.size w w4) := ⟨HB3.out.trans (HXw4.out.mono HB3.out.size)⟩
      have HYw4 : Sl (w4.heap[w3.heap.size]? = some (.cells #[.bool fin, .int .i64 (k : Int), .bool m, .int .u8 ((a : Nat) : Int), .int .u8 ((b : Nat) : Int), .int .u8 ((c : Nat) : Int), .int .u8 ((d : Nat) : Int), .string (strOf dt)] 24 (0, 0))) := ⟨by rw [← hw4]; exact (laid_fr #[.bool fin, .int .i64 (k : Int), .bool m, .int .u8 ((a : Nat) : Int), .int .u8 ((b : Nat) : Int), .int .u8 ((c : Nat) : Int), .int .u8 ((d : Nat) : Int), .string (strOf dt)] (Below.refl _ _)).2⟩
      have HIw4 := fr_info (cs := #[.bool fin, .int .i64 (k : Int), .bool m, .int .u8 ((a : Nat) : Int), .int .u8 ((b : Nat) : Int), .int .u8 ((c : Nat) : Int), .int .u8 ((d : Nat) : Int), .string (strOf dt)]) rfl
      obtain ⟨c0, c1, c2, c3, c4, c5, c6, c7⟩ := bx8 HYw4.out
      clear hcv HX2 HX3 HS2
      go_wp2_with (refine wpList_store_row rfl 24 (.tmp 3) (.tmp 20) rfl w3.heap.size #[.bool fin, .int .i64 (k : Int), .bool m, .int .u8 ((a : Nat) : Int), .int .u8 ((b : Nat) : Int), .int .u8 ((c : Nat) : Int), .int .u8 ((d : Nat) : Int), .string (strOf dt)] rfl rfl 24 #[.bool false, .int .i64 0, .bool false, .int .u8 0, .int .u8 0, .int .u8 0, .int .u8 0, .string { data := #[] }] (bx_new w3 _) HIw4 rfl (fr_all _ _ _ _ _ _ _ _) ?_)
      refine (C11 w4 (HG.out.below HBw4.out HG.out.size)).mono ?_
      rintro e w5 ⟨g5, cap5, rfl, HS5, HX5⟩
      have HB5 : Sl (Below w.heap.size w w5) := ⟨HBw4.out.trans (HX5.out.mono HBw4.out.size)⟩
      have hc5 := (HS5.out.below (Nat.le_refl _) (Below.refl _ _).drew).conv
      clear HX5 c0 c1 c2 c3 c4 c5 c6 c7 hw4
      go_upto_region 7 with fail
      go_still (by kernel_rfl)
      go_wp2
      go_ret
      exact ⟨rfl, HB5.out.drew⟩
end Go.Proofs.YtcelhondifaloaaDoor
