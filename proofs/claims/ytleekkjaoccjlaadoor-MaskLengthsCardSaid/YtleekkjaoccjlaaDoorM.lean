/- mask: MaskLengths' walk. -/
import Derived.Test.YtleekkjaoccjlaaDoorK
set_option maxRecDepth 100000
namespace Go.Proofs.YtleekkjaoccjlaaDoor
open Go.RowKit MaskPlain

set_option maxHeartbeats 2000000 in
theorem lengths_walk (n : Nat) (more : ByteArray) (w : World) (hg : Globs w) (_ : n < 18446744073709551616) : Calls Tryd.prog 5 #[.int .u64 n, .string more] w fun e w' => e = .returned (.bool true) ∧ Below w.heap.size w w' := by
  have HG := Sl.mk hg
  clear hg
  rcases put_cases n with ⟨s, hs, hs2⟩ | ⟨hs, hs2⟩
  · by_cases hl : more.size > 100
    · clear hs hs2
      go_enter Tryd.func5, Tryd.ntmps5
      go_wp2_with fail
      refine (awake_any w HG.out).mono ?_
      rintro e w1 ⟨rfl, HB1⟩
      go_wp2_with fail
      refine (awake_any w1 (HG.out.below HB1.out HG.out.size)).mono ?_
      rintro e w2 ⟨rfl, HX2⟩
      have HB2 : Sl (Below w.heap.size w w2) := ⟨HB1.out.trans (HX2.out.mono HB1.out.size)⟩
      go_wp2
      go_ret
      exact ⟨rfl, HB2.out⟩
    · have hl2 : more.size ≤ 100 := by omega
      obtain ⟨t, ht⟩ : ∃ t, strOf s = t := ⟨_, rfl⟩
      have hbt : bytes t = s := by rw [← ht]; exact bytes_strOf s (put_small hs)
      have hts : s.length = t.size := by rw [← hbt, bytes_length]
      have hle : t.size ≤ 9 := by
        rw [← hts, put_length hs]
        split
        · omega
        · split <;> omega
      have C1 := fun W hW => put_len n s t.size W hW hs hts
      have C2 := fun W => refput_yes n s W hs hs2
      rw [ht] at C2
      have HBS : Sl (bytes (t ++ more) = s ++ bytes more) := ⟨by rw [bytes_append, hbt]⟩
      have HSZ : Sl ((t ++ more).size = t.size + more.size) := ⟨by rw [ByteArray.size_append]⟩
      have HG1 : Sl (getL (bytes (t ++ more)) = (n, t.size, 0)) := ⟨by rw [HBS.out, get_put hs, hts]⟩
      have HG2 : Sl (∀ i, i < t.size → getL (bytes (t.extract 0 i)) = (0, 0, 80)) := ⟨fun i hi => by rw [bytes_extract, hbt, List.drop_zero]; exact get_part hs i (by rw [hts]; exact hi)⟩
      have HST := Sl.mk ht
      clear hs hs2 hl ht hbt hts
      go_enter Tryd.func5, Tryd.ntmps5
      go_wp2_with fail
      refine (awake_any w HG.out).mono ?_
      rintro e w1 ⟨rfl, HB1⟩
      go_wp2_with fail
      refine (C1 w1 (HG.out.below HB1.out HG.out.size)).mono ?_
      rintro e w2 ⟨g, cap, rfl, HS2, HX2⟩
      have HB2 : Sl (Below w.heap.size w w2) := ⟨HB1.out.trans (HX2.out.mono HB1.out.size)⟩
      go_wp2_with fail
      refine (C2 w2).mono ?_
      rintro e w3 ⟨rfl, HX3⟩
      have HB3 : Sl (Below w.heap.size w w3) := ⟨HB2.out.trans (HX3.out.mono HB2.out.size)⟩
      have HS3 := Sl.mk (HS2.out.below (Nat.le_refl _) HX3.out)
      clear HS2 C1 C2
      obtain ⟨c4, w4, hconv, HS4, HX4⟩ := conv_str (t ++ more) w3
      rw [HSZ.out] at hconv HS4
      have HB4 : Sl (Below w.heap.size w w4) := ⟨HB3.out.trans (HX4.out.mono HB3.out.size)⟩
      have HS34 := Sl.mk (HS3.out.below (Nat.le_refl _) HX4.out)
      go_wp2_with fail
      refine (get_ex _ (bytes (t ++ more)) n t.size 0 w4 (HG.out.below HB4.out HG.out.size) HS4.out (bytes_small _) (by rw [bytes_length, HSZ.out]; omega) HG1.out).mono ?_
      rintro e w5 ⟨rfl, HX5⟩
      have HB5 : Sl (Below w.heap.size w w5) := ⟨HB4.out.trans (HX5.out.mono HB4.out.size)⟩
      have HS5 := Sl.mk (HS34.out.below (Nat.le_refl _) HX5.out)
      clear hconv
      go_wp2
      go_loopw [12] (fun i wr => ∃ k : Nat, k ≤ t.size ∧ i = .int .i64 k ∧ Sl (SrcAt wr (.slice (some ⟨g, 0, none⟩) t.size cap) s) ∧ Sl (Below w.heap.size w wr)) (fun i _ => t.size - (intOf i).toNat)
      case atStart => exact ⟨0, Nat.zero_le _, rfl, HS5, HB5⟩
      case round =>
        obtain ⟨k, hk, rfl, HS, HB⟩ := hrel
        by_cases hlt : k < t.size
        · obtain ⟨c6, w6, hconv, HS6, HX6⟩ := conv_str (t.extract 0 k) wr
          have HB6 : Sl (Below w.heap.size w w6) := ⟨HB.out.trans (HX6.out.mono HB.out.size)⟩
          have HSZ6 : Sl ((t.extract 0 k).size = k) := ⟨by rw [ByteArray.size_extract]; omega⟩
          rw [HSZ6.out] at hconv HS6
          go_wp2_with fail
          refine (get_ex _ (bytes (t.extract 0 k)) 0 0 80 w6 (HG.out.below HB6.out HG.out.size) HS6.out (bytes_small _) (by rw [bytes_length, HSZ6.out]; omega) (HG2.out k hlt)).mono ?_
          rintro e w7 ⟨rfl, HX7⟩
          have HB7 : Sl (Below w.heap.size w w7) := ⟨HB6.out.trans (HX7.out.mono HB6.out.size)⟩
          have HS7 := Sl.mk ((HS.out.below (Nat.le_refl _) HX6.out).below (Nat.le_refl _) HX7.out)
          clear hconv
          go_wp2
          exact ⟨⟨k + 1, by omega, by go_num, HS7, HB7⟩, by simp [intOf]; omega⟩
        · have hge : ((k : Int) < (t.size : Int)) = False := eq_false (by omega)
          have hst := HS.out.conv
          rw [HST.out] at hst
          have hq0 : (t.toList == t.toList) = true := by simp
          have hq1 : ((n : Int) == (n : Int)) = true := by simp
          have hq2 : ((t.size : Int) == (t.size : Int)) = true := by simp
          go_wp2
          go_ret
          exact ⟨rfl, HB.out⟩
  · have C1 := fun W hW => put_no n W hW hs
    have C2 := fun W => refput_no n W hs2
    clear hs hs2
    by_cases hl : more.size > 100
    · clear C1 C2
      go_enter Tryd.func5, Tryd.ntmps5
      go_wp2_with fail
      refine (awake_any w HG.out).mono ?_
      rintro e w1 ⟨rfl, HB1⟩
      go_wp2_with fail
      refine (awake_any w1 (HG.out.below HB1.out HG.out.size)).mono ?_
      rintro e w2 ⟨rfl, HX2⟩
      have HB2 : Sl (Below w.heap.size w w2) := ⟨HB1.out.trans (HX2.out.mono HB1.out.size)⟩
      go_wp2
      go_ret
      exact ⟨rfl, HB2.out⟩
    · have hl2 : more.size ≤ 100 := by omega
      clear hl
      go_enter Tryd.func5, Tryd.ntmps5
      go_wp2_with fail
      refine (awake_any w HG.out).mono ?_
      rintro e w1 ⟨rfl, HB1⟩
      go_wp2_with fail
      refine (C1 w1 (HG.out.below HB1.out HG.out.size)).mono ?_
      rintro e w2 ⟨rfl, HX2⟩
      have HB2 : Sl (Below w.heap.size w w2) := ⟨HB1.out.trans (HX2.out.mono HB1.out.size)⟩
      go_wp2_with fail
      refine (C2 w2).mono ?_
      rintro e w3 ⟨rfl, HX3⟩
      have HB3 : Sl (Below w.heap.size w w3) := ⟨HB2.out.trans (HX3.out.mono HB2.out.size)⟩
      go_wp2
      go_ret
      exact ⟨rfl, HB3.out⟩
end Go.Proofs.YtleekkjaoccjlaaDoor
