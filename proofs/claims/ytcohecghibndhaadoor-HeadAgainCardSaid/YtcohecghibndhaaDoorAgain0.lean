/- HeadAgain, the walk: whatever string comes in, the law's Go text returns true, and nothing that was in memory changes. -/
import Derived.Test.YtcohecghibndhaaDoorU0
namespace Go.Proofs.YtcohecghibndhaaDoor
open Go.RowKit HeadPlain

set_option maxHeartbeats 400000 in
theorem again_long (s : ByteArray) (w : World) (hg : Globs w) (h1 : 2500 < s.size) (hs : s.size ≤ maxLen) :
    Calls Tryd.prog 8 #[.string s] w fun e w' => e = .returned (.bool true) ∧ Below w.heap.size w w' := by
  unfold maxLen at hs
  have HG := Sl.mk hg
  clear hg
  have h1' : (s.size : Int) > 2500 := by omega
  go_enter Tryd.func8, Tryd.ntmps8
  go_wp2_with fail
  refine (awake_ex w _ (Below.refl _ _) HG.out).mono ?_
  rintro e w1 ⟨rfl, HX1, HB1⟩
  go_wp2_with fail
  refine (awake_ex w _ HB1.out HG.out).mono ?_
  rintro e w2 ⟨rfl, HX2, HB2⟩
  go_wp2
  go_ret
  exact ⟨rfl, HB2.out⟩
set_option maxHeartbeats 1000000 in
theorem again_bad (s : ByteArray) (w : World) (hg : Globs w) (h1 : s.size ≤ 2500) (hr : resE (rd (bytes s)) ≠ 0) :
    Calls Tryd.prog 8 #[.string s] w fun e w' => e = .returned (.bool true) ∧ Below w.heap.size w w' := by
  have HG := Sl.mk hg
  have HRB := Sl.mk hr
  clear hg
  have h1' : ((s.size : Int) > 2500) = False := eq_false (by omega)
  go_enter Tryd.func8, Tryd.ntmps8
  go_wp2_with fail
  refine (awake_ex w _ (Below.refl _ _) HG.out).mono ?_
  rintro e w1 ⟨rfl, HX1, HB1⟩
  obtain ⟨c2, w2, hc2, HS2, HX2⟩ := conv_str s w1
  have HB2 : Sl (Below w.heap.size w w2) := ⟨below_trans HB1.out HX2.out⟩
  have HSM : Sl (Small 256 (bytes s)) := ⟨bytes_small s⟩
  have HLN : Sl ((bytes s).length = s.size) := ⟨bytes_length s⟩
  go_wp2_with fail
  refine (read_ex w _ (bytes s) _ HB2.out HG.out HS2.out.srcS HSM.out (by rw [HLN.out]; omega)).mono ?_
  rintro e w3 ⟨HR3, HX3, HB3⟩
  obtain rfl := readR_bad HR3.out HRB.out
  generalize resE (rd (bytes s)) = r at *
  have hr' : ((r : Int) == 0) = false := by simp; omega
  have HB4 : Sl (Below w.heap.size w (w3.alloc (.cells #[.string e0, .string e0, .string e0, .slice none 0 0] 25))) := ⟨HB3.out.alloc HB3.out.size _⟩
  have HX4 : Sl ((w3.alloc (.cells #[.string e0, .string e0, .string e0, .slice none 0 0] 25)).heap[w3.heap.size]? = some (.cells #[.string e0, .string e0, .string e0, .slice none 0 0] 25 (0, 0))) := ⟨alloc_new _ _ _ rfl⟩
  clear hc2 HS2 HX2 HR3 HX3 HX1 HB2
  go_wp2_with fail
  refine (alike_ex w _ hZ hZ _ _ true (alike_iff.2 rfl) HB4.out (fieldsAt_none _) (fieldsAt_none _)).mono ?_
  rintro e w5 ⟨rfl, HX5, HB5⟩
  go_wp2
  go_ret
  exact ⟨rfl, HB5.out⟩
set_option maxHeartbeats 2000000 in
theorem again_ok (s : ByteArray) (w : World) (hg : Globs w) (h1 : s.size ≤ 2500) (hd : Hd) (n : Nat) (hr : rd (bytes s) = .ok hd n) :
    Calls Tryd.prog 8 #[.string s] w fun e w' => e = .returned (.bool true) ∧ Below w.heap.size w w' := by
  have HG := Sl.mk hg
  have HRD := Sl.mk hr
  clear hg
  have h1' : ((s.size : Int) > 2500) = False := eq_false (by omega)
  go_enter Tryd.func8, Tryd.ntmps8
  go_wp2_with fail
  refine (awake_ex w _ (Below.refl _ _) HG.out).mono ?_
  rintro e w1 ⟨rfl, HX1, HB1⟩
  obtain ⟨c2, w2, hc2, HS2, HX2⟩ := conv_str s w1
  have HB2 : Sl (Below w.heap.size w w2) := ⟨below_trans HB1.out HX2.out⟩
  have HSM : Sl (Small 256 (bytes s)) := ⟨bytes_small s⟩
  have HLN : Sl ((bytes s).length = s.size) := ⟨bytes_length s⟩
  clear hr
  go_wp2_with fail
  refine (read_ex w _ (bytes s) _ HB2.out HG.out HS2.out.srcS HSM.out (by rw [HLN.out]; omega)).mono ?_
  rintro e w3 ⟨HR3, HX3, HB3⟩
  obtain ⟨h, a, c, rfl, rfl, hsz, hfd⟩ := readR_ok HR3.out HRD.out
  have HTL : Sl ((text h.hd).length ≤ 1000000) := ⟨by have := rd_len HRD.out; rw [HLN.out] at this; omega⟩
  have HSZ := Sl.mk hsz
  have HCK := Sl.mk (chk_ok HRD.out)
  obtain ⟨w4, hw4⟩ : ∃ w4, w3.alloc (.cells #[.string h.a, .string h.b, .string h.c, .slice a h.fs.length c] 25) = w4 := ⟨_, rfl⟩
  have HB4 : Sl (Below w.heap.size w w4) := ⟨by rw [← hw4]; exact HB3.out.alloc HB3.out.size _⟩
  have HX4 : Sl (w4.heap[w3.heap.size]? = some (.cells #[.string h.a, .string h.b, .string h.c, .slice a h.fs.length c] 25 (0, 0))) := ⟨by rw [← hw4]; exact alloc_new _ _ _ rfl⟩
  have HFD : Sl (FieldsAt w4 (.slice a h.fs.length c) h.fs) := ⟨by rw [← hw4]; exact hfd.below ((Below.refl _ _).alloc (Nat.le_refl _) _)⟩
  have hn : n ≤ 2048 := (rd_ok HRD.out).2.2.2.1
  obtain ⟨p0, p1, p2, p3⟩ := head_cells HX4.out
  clear hc2 HS2 HX2 HR3 HX3 HX1 HB2 hfd hsz HB1 HB3
  go_wp2_with fail
  refine (show_ex w _ h _ HB4.out HG.out HFD.out HSZ.out.fit HTL.out).mono ?_
  rintro e w5 ⟨HR5, HX5, HB5⟩
  rcases HCK.out with hc | hc
  · obtain ⟨a5, c5, rfl, hsrc⟩ := showR_ok HR5.out hc
    have HRA := Sl.mk (show_again HRD.out hc)
    have HL := Sl.mk (text_le h hc).2.2
    obtain ⟨L, hL⟩ : ∃ L, (text h.hd).length = L := ⟨_, rfl⟩
    have HLL := Sl.mk hL
    rw [hL] at hsrc HL HRA
    rw [hL]
    have hl := HL.out
    have HSR := Sl.mk hsrc
    have HTS := Sl.mk (text_small h)
    have HX6 := Sl.mk (box_below HX4.out HX5.out)
    have HFD6 := Sl.mk (HFD.out.below HX5.out)
    clear hc HCK HR5 HX4 HFD p0 p1 p2 p3 hsrc HX5 HB4 hw4 hL
    obtain ⟨p0, p1, p2, p3⟩ := head_cells HX6.out
    go_wp2_with fail
    refine (read_ex w _ (text h.hd) _ HB5.out HG.out HSR.out HTS.out (by rw [HLL.out]; omega)).mono ?_
    rintro e w7 ⟨HR7, HX7, HB7⟩
    obtain ⟨g, a7, c7, hgh, rfl, _, hfd7⟩ := readR_ok HR7.out HRA.out
    have HAL := Sl.mk (alike_iff.2 hgh)
    have HX8 := Sl.mk (box_below HX6.out HX7.out)
    have HFD8 := Sl.mk (HFD6.out.below HX7.out)
    obtain ⟨w8, hw8⟩ : ∃ w8, w7.alloc (.cells #[.string g.a, .string g.b, .string g.c, .slice a7 g.fs.length c7] 25) = w8 := ⟨_, rfl⟩
    have HBA : Sl (Below w7.heap.size w7 w8) := ⟨by rw [← hw8]; exact (Below.refl _ _).alloc (Nat.le_refl _) _⟩
    have HB8 : Sl (Below w.heap.size w w8) := ⟨below_trans HB7.out HBA.out⟩
    have HY8 : Sl (w8.heap[w7.heap.size]? = some (.cells #[.string g.a, .string g.b, .string g.c, .slice a7 g.fs.length c7] 25 (0, 0))) := ⟨by rw [← hw8]; exact alloc_new _ _ _ rfl⟩
    have HX9 := Sl.mk (box_below HX8.out HBA.out)
    have HFD9 := Sl.mk (HFD8.out.below HBA.out)
    have HFG9 := Sl.mk (hfd7.below HBA.out)
    clear p0 p1 p2 p3 HR7 hgh hfd7 HX6 HFD6 HX7 HX8 HFD8 HB5 HB7 HSR
    obtain ⟨p0, p1, p2, p3⟩ := head_cells HX9.out
    obtain ⟨q0, q1, q2, q3⟩ := head_cells HY8.out
    have hLL : ((L : Int) == (L : Int)) = true := by simp
    go_wp2_with fail
    refine (alike_ex w _ g h _ _ true HAL.out HB8.out HFG9.out HFD9.out).mono ?_
    rintro e w10 ⟨rfl, HX10, HB10⟩
    go_wp2
    go_ret
    exact ⟨rfl, HB10.out⟩
  · have he : e = .returned (.tuple #[.slice none 0 0, .int .i64 51]) := by
      rcases HR5.out with ⟨_, h⟩ | ⟨h, _⟩
      · rw [h, hc]; rfl
      · rw [hc] at h; cases h
    subst he
    clear hc HCK HR5 p0 p1 p2 p3
    go_wp2
    go_ret
    exact ⟨rfl, HB5.out⟩
theorem again_walk (s : ByteArray) (w : World) (hg : Globs w) (hs : s.size ≤ maxLen) :
    Calls Tryd.prog 8 #[.string s] w fun e w' => e = .returned (.bool true) ∧ Below w.heap.size w w' := by
  by_cases h : s.size ≤ 2500
  · by_cases hr : resE (rd (bytes s)) = 0
    · obtain ⟨hd, n, he⟩ := resE_ok hr
      exact again_ok s w hg h hd n he
    · exact again_bad s w hg h hr
  · exact again_long s w hg (by omega) hs
end Go.Proofs.YtcohecghibndhaaDoor
