/- CutSizes' walk. -/
import Derived.Test.YtimndpmbgfoofaaDoorK2
set_option maxRecDepth 100000
namespace Go.Proofs.YtimndpmbgfoofaaDoor.Cut
open Go.RowKit MaskPlain Mas Fra Stm CutPlain
open FramePlain (Fr Fr0 form chk ctl zero4)

theorem frs_part {m : Nat} (hm : 1 ≤ m) (op : Int) (t : List Nat) {k : Nat} (hk : k < (frs m op t).length) : (((t.drop (k * m)).take m).length ≤ m) ∧ (k + 1 < (frs m op t).length → ((t.drop (k * m)).take m).length = m) := by
  have hl := frs_length hm t.length op t (Nat.le_refl _)
  obtain ⟨_, h2, h3, _⟩ := cnt_enough (size := t.length) hm
  rw [← hl] at h2 h3
  refine ⟨by rw [List.length_take]; exact Nat.min_le_left _ _, fun h => ?_⟩
  have h5 : (k + 1) * m ≤ ((frs m op t).length - 1) * m := Nat.mul_le_mul_right _ (by omega)
  rw [Nat.succ_mul] at h5
  rw [List.length_take, List.length_drop]
  rcases h3 with h3 | h3
  · omega
  · omega
set_option maxHeartbeats 8000000 in
theorem sizes_walk (s : ByteArray) (x : Nat) (w : World) (hg : Mas.Globs w) (hx : x < 65536) : Calls Tryd.prog 8 #[.string s, .int .u16 (x : Int)] w fun e w' => e = .returned (.bool true) ∧ Below w.heap.size w w' := by
  have HG := Sl.mk hg
  have A1 := awake_any w hg
  clear hg
  by_cases hl : s.size > 2000
  · have hq : ((s.size : Int) > 2000) = True := eq_true (by omega)
    clear hl
    go_enter Tryd.func8, Tryd.ntmps8
    go_wp2_with fail
    refine A1.mono ?_
    rintro e w1 ⟨rfl, HB1⟩
    clear A1
    have A2 := awake_any w1 (HG.out.below HB1.out HG.out.size)
    go_wp2_with fail
    refine A2.mono ?_
    rintro e w2 ⟨rfl, HB2⟩
    clear A2
    have HL := Sl.mk (HB1.out.trans (HB2.out.mono HB1.out.size))
    go_wp2
    go_ret
    exact ⟨rfl, HL.out⟩
  have hq : ((s.size : Int) > 2000) = False := eq_false (by omega)
  obtain ⟨m, hm⟩ : ∃ m, 1 + x = m := ⟨_, rfl⟩
  have hm1 : 1 ≤ m := by omega
  have z0 : IntKind.i64.wrap (x : Int) = (x : Int) := by rw [IntKind.wrap_i64]; omega
  have z1 : IntKind.i64.wrap (1 + (x : Int)) = (m : Int) := by rw [IntKind.wrap_i64]; omega
  obtain ⟨n, hn⟩ : ∃ n, (frs m 2 (bytes s)).length = n := ⟨_, rfl⟩
  have F1 := fun W => frames_yes 2 s m n W (.inr rfl) (by omega) ⟨hm1, by omega⟩ hn
  have hcn : cnt s.size m = n := by rw [← hn, frs_length hm1 _ 2 (bytes s) (Nat.le_refl _), bytes_length]
  obtain ⟨hn1, _, _, hn4⟩ := cnt_enough (size := s.size) hm1
  rw [hcn] at hn1 hn4
  have HM := Sl.mk hm1
  have HSS := Sl.mk hl
  obtain ⟨FS, hFS⟩ : ∃ FS, frs m 2 (bytes s) = FS := ⟨_, rfl⟩
  have HN : Sl (FS.length = n) := ⟨by rw [← hFS]; exact hn⟩
  have HGET : Sl (∀ k, k < n → FS.getD k Fr0 = ⟨decide (k + 1 = n), if k = 0 then 2 else 0, false, zero4, ((bytes s).drop (k * m)).take m⟩) := ⟨fun k hk => by
    have h := frs_get hm1 k 2 (bytes s) (by rw [hn]; exact hk)
    rw [hn, hFS] at h; exact h⟩
  have HPT : Sl (∀ k, k < n → (((bytes s).drop (k * m)).take m).length ≤ m ∧ (k + 1 < n → (((bytes s).drop (k * m)).take m).length = m)) := ⟨fun k hk => by
    have h := frs_part hm1 2 (bytes s) (k := k) (by rw [hn]; exact hk)
    rw [hn] at h; exact h⟩
  have HALL : Sl (dataOf FS = bytes s) := ⟨by rw [← hFS]; exact frs_data hm1 _ 2 (bytes s) (Nat.le_refl _)⟩
  have HFUL : Sl (2 ≤ n → 0 < (FS.getD (n - 1) Fr0).data.length) := ⟨fun h => by
    have := frs_full hm1 2 (bytes s) (n - 1) (by rw [hn]; omega) (by rw [hn]; exact h)
    rw [hFS] at this; exact this⟩
  rw [hFS] at F1
  have hq1 : ((n : Int) == 0) = false := by simp; omega
  have hq2 : (n = 0) = False := eq_false (by omega)
  have hnn : n ≤ 2001 := by omega
  have hnp : 1 ≤ n := hn1
  clear hl hm hm1 hn hcn hn1 hn4 hFS hx
  go_enter Tryd.func8, Tryd.ntmps8
  go_wp2_with fail
  refine A1.mono ?_
  rintro e w1 ⟨rfl, HB1⟩
  clear A1
  go_wp2_with fail
  refine (F1 _).mono ?_
  rintro e w2 ⟨g, rfl, HR2, _, HX2⟩
  have HB2 : Sl (Below w.heap.size w w2) := ⟨HB1.out.trans (HX2.out.mono HB1.out.size)⟩
  clear F1 HX2 HB1
  go_wp2
  go_loopw [8, 9] (fun y i wr => ∃ (k r : Nat), y = .int .i64 (r : Int) ∧ i = .int .i64 (k : Int) ∧ k ≤ n ∧ r ≤ 2000 ∧ Sl (r = (dataOf (FS.take k)).length) ∧ wr = w2) (fun _ i _ => n - (intOf i).toNat)
  case atStart => exact ⟨0, 0, rfl, rfl, Nat.zero_le _, Nat.zero_le _, ⟨rfl⟩, rfl⟩
  case round =>
    obtain ⟨k, r, rfl, rfl, hk, hr, HRS, rfl⟩ := hrel
    by_cases hkn : k < n
    · have hlt : ((k : Int) < (n : Int)) = True := eq_true (by omega)
      have hkf : k < FS.length := by rw [HN.out]; exact hkn
      have hgt := HGET.out k hkn
      obtain ⟨p1, p2⟩ := HPT.out k hkn
      obtain ⟨T, hT⟩ : ∃ T, strOf (((bytes s).drop (k * m)).take m) = T := ⟨_, rfl⟩
      have hTs : T.size = (((bytes s).drop (k * m)).take m).length := by rw [← hT, strOf_size]
      have c0 : wr.cell? ⟨g, k * 8, none⟩ = some (.bool (decide (k + 1 = n))) := by
        have h := HR2.out.cell (i := k) (j := 0) hkf (by decide); rw [hgt] at h; exact h
      obtain ⟨opk, hop⟩ : ∃ o : Int, (if k = 0 then 2 else 0) = o := ⟨_, rfl⟩
      have c1 : wr.cell? ⟨g, k * 8 + 1, none⟩ = some (.int .i64 opk) := by
        have h := HR2.out.cell (i := k) (j := 1) hkf (by decide); rw [hgt, hop] at h; exact h
      have c7 : wr.cell? ⟨g, k * 8 + 7, none⟩ = some (.string T) := by
        have h := HR2.out.cell (i := k) (j := 7) hkf (by decide); rw [hgt] at h; rw [← hT]; exact h
      have HRS2 : Sl (r + T.size = (dataOf (FS.take (k + 1))).length) := ⟨by
        rw [dataOf_take FS k hkf, List.length_append, hgt, ← HRS.out, hTs]⟩
      have hrz : r + T.size ≤ 2000 := by
        have h1 := HRS2.out
        have h2 := dataOf_take_le FS (k + 1)
        rw [HALL.out, bytes_length] at h2
        have := HSS.out
        omega
      have z2 : IntKind.i64.wrap ((r : Int) + (T.size : Int)) = ((r + T.size : Nat) : Int) := by rw [IntKind.wrap_i64]; omega
      have z3 : IntKind.i64.wrap ((k : Int) + 1) = (k : Int) + 1 := by rw [IntKind.wrap_i64]; omega
      have q2 : ((T.size : Int) > (m : Int)) = False := eq_false (by omega)
      obtain ⟨b, hb⟩ : ∃ b, decide (k = 0) = b := ⟨_, rfl⟩
      have e1 : (opk == 2) = b := by
        rw [← hb, ← hop]
        by_cases h : k = 0
        · rw [if_pos h, decide_eq_true h]; rfl
        · rw [if_neg h, decide_eq_false h]; rfl
      have e2 : ((k : Int) == 0) = b := by
        rw [← hb]
        by_cases h : k = 0
        · rw [decide_eq_true h]; simp [h]
        · rw [decide_eq_false h]; simp [h]
      have e3 : (b != b) = false := by cases b <;> rfl
      by_cases hlast : k + 1 < n
      · have h1 : ((k : Int) + 1 < (n : Int)) = True := eq_true (by omega)
        have h2 : T.size = m := by rw [hTs]; exact p2 hlast
        have q1 : ((T.size : Int) != (m : Int)) = false := by simp [h2]
        have q3 : ((T.size : Int) == (m : Int)) = true := by simp [h2]
        rw [decide_eq_false (show ¬ k + 1 = n from by omega)] at c0
        clear hgt p1 p2 hT hTs hop hb h2 hkf
        go_wp2
        exact ⟨⟨k + 1, r + T.size, rfl, by go_num, by omega, hrz, HRS2, trivial⟩, by simp [intOf]; omega⟩
      · have h1 : ((k : Int) + 1 < (n : Int)) = False := eq_false (by omega)
        clear hgt p1 p2 hT hTs hop hb hkf
        go_wp2
        exact ⟨⟨k + 1, r + T.size, rfl, by go_num, by omega, hrz, HRS2, trivial⟩, by simp [intOf]; omega⟩
    · obtain rfl : k = n := by omega
      have hlt : ((k : Int) < (k : Int)) = False := eq_false (by omega)
      have HR : Sl (r = s.size) := ⟨by rw [HRS.out, List.take_of_length_le (by rw [HN.out]; exact Nat.le_refl _), HALL.out, bytes_length]⟩
      have q1 : ((r : Int) == (s.size : Int)) = true := by simp [HR.out]
      have q1' : (r = s.size) = True := eq_true HR.out
      have z1 : IntKind.i64.wrap ((k : Int) - 1) = ((k - 1 : Nat) : Int) := by rw [IntKind.wrap_i64]; omega
      have hgt := HGET.out (k - 1) (by omega)
      have hkf : k - 1 < FS.length := by rw [HN.out]; omega
      obtain ⟨T, hT⟩ : ∃ T, strOf (((bytes s).drop ((k - 1) * m)).take m) = T := ⟨_, rfl⟩
      have c0 : wr.cell? ⟨g, (k - 1) * 8, none⟩ = some (.bool true) := by
        have h := HR2.out.cell (i := k - 1) (j := 0) hkf (by decide); rw [hgt, decide_eq_true (show k - 1 + 1 = k from by omega)] at h; exact h
      have c7 : wr.cell? ⟨g, (k - 1) * 8 + 7, none⟩ = some (.string T) := by
        have h := HR2.out.cell (i := k - 1) (j := 7) hkf (by decide); rw [hgt] at h; rw [← hT]; exact h
      by_cases hz : 0 < T.size
      · have q2 : ((T.size : Int) > 0) = True := eq_true (by omega)
        have q3 : (0 < T.size) = True := eq_true hz
        clear hgt hT hkf hz
        go_wp2
        go_ret
        exact ⟨rfl, HB2.out⟩
      · have q2 : ((T.size : Int) > 0) = False := eq_false (by omega)
        have q3 : (0 < T.size) = False := eq_false hz
        have hs0 : s.size = 0 := by
          by_cases h2 : 2 ≤ k
          · have := HFUL.out h2
            rw [hgt] at this
            rw [← hT, strOf_size] at hz
            exact absurd this hz
          · obtain rfl : k = 1 := by omega
            have h1 := HALL.out
            have h3 : FS = [FS.getD 0 Fr0] := by
              match FS, HN.out with
              | [f], _ => rfl
            have h4 := congrArg List.length h1
            rw [bytes_length, h3] at h4
            rw [show (1 - 1 : Nat) = 0 from rfl] at hgt hT
            rw [show dataOf [FS.getD 0 Fr0] = (FS.getD 0 Fr0).data from by simp [dataOf], hgt] at h4
            rw [← hT, strOf_size] at hz
            exact Nat.eq_zero_of_le_zero (h4 ▸ Nat.le_of_not_lt hz)
        have q4 : (s.toList == []) = true := by
          have : s.toList = [] := by rw [ByteArray.toList_eq]; exact List.eq_nil_of_length_eq_zero (by simpa using hs0)
          rw [this]; rfl
        clear hgt hT hkf hz hs0
        go_wp2
        go_ret
        exact ⟨rfl, HB2.out⟩
end Go.Proofs.YtimndpmbgfoofaaDoor.Cut
