/- The document's answer, bits as lists: the contract of f. -/
import Derived.Test.YtmiemklgekhfeaaDoorV
namespace Go.Proofs.YtmiemklgekhfeaaDoor
open Go.RowKit

/-- A bit more on a row of ints of the call's own: what it is. -/
theorem owns_bit {w1 : World} {base k : Nat} {v : Value} {n : Nat} {X : Int} (h : w1.ownsRow base 3 1 v (k + 1) (ints (bitsTo n k) ++ [.int .i64 X])) (hX : X = ((n / 2 ^ (31 - k) % 2 : Nat) : Int)) : w1.ownsRow base 3 1 v (k + 1) (ints (bitsTo n (k + 1))) := by
  have : ints (bitsTo n (k + 1)) = ints (bitsTo n k) ++ [.int .i64 X] := by simp [ints, bitsTo, vi, hX]
  rw [this]; exact h

set_option maxRecDepth 100000 in
set_option maxHeartbeats 2000000 in
theorem f_any (t : Nat) (v1 v2 v3 : Value) (b c d : Nat) (w : World) (ht : t < 80) (hv1 : Bits w v1 b) (hv2 : Bits w v2 c) (hv3 : Bits w v3 d) :
    Calls Tryd.prog 22 #[.int .i64 t, v1, v2, v3] w fun e w' => ∃ x, e = .returned x ∧ Sl (Bits w' x (ch t b c d)) ∧ Sl (Below w.heap.size w w') := by
  obtain ⟨g1, c1, rfl, hc1, hg1, hr1⟩ := hv1
  obtain ⟨g2, c2, rfl, hc2, hg2, hr2⟩ := hv2
  obtain ⟨g3, c3, rfl, hc3, hg3, hr3⟩ := hv3
  have HR1 := Sl.mk hr1
  have HR2 := Sl.mk hr2
  have HR3 := Sl.mk hr3
  obtain ⟨i0, hi, hz0, hz1, hz2⟩ := info_parts info3
  have HI := Sl.mk hi
  have HZ0 := Sl.mk hz0
  have HZ1 := Sl.mk hz1
  have HZ2 := Sl.mk hz2
  clear hi hz0 hz1 hz2 hr1 hr2 hr3
  go_enter Tryd.func22, Tryd.ntmps22
  go_wp2
  go_loopw [9, 10] (fun v i wr => ∃ k : Nat, k ≤ 32 ∧ i = .int .i64 (k : Int) ∧ wr.ownsRow w.heap.size 3 1 v k (ints (bitsTo (ch t b c d) k)) ∧ Below w.heap.size w wr) (fun _ i _ => 32 - (intOf i).toNat)
  case atStart => exact ⟨0, by omega, rfl, owns_empty w, (Below.refl _ _).alloc (Nat.le_refl _) _⟩
  case round =>
    obtain ⟨k, hk, rfl, hown, hb⟩ := hrel
    have HO := Sl.mk hown
    have HB := Sl.mk hb
    clear hown hb
    by_cases hlt : k < 32
    · obtain ⟨x1, hx1⟩ : ∃ q : Nat, q = b / 2 ^ (31 - k) % 2 := ⟨_, rfl⟩
      obtain ⟨x2, hx2⟩ : ∃ q : Nat, q = c / 2 ^ (31 - k) % 2 := ⟨_, rfl⟩
      obtain ⟨x3, hx3⟩ : ∃ q : Nat, q = d / 2 ^ (31 - k) % 2 := ⟨_, rfl⟩
      have cc1 : wr.cell? ⟨g1, k, none⟩ = some (.int .i64 (x1 : Int)) := by rw [HB.out.cell (p := ⟨g1, k, none⟩) hg1, bits_cell HR1.out k hlt, hx1]
      have cc2 : wr.cell? ⟨g2, k, none⟩ = some (.int .i64 (x2 : Int)) := by rw [HB.out.cell (p := ⟨g2, k, none⟩) hg2, bits_cell HR2.out k hlt, hx2]
      have cc3 : wr.cell? ⟨g3, k, none⟩ = some (.int .i64 (x3 : Int)) := by rw [HB.out.cell (p := ⟨g3, k, none⟩) hg3, bits_cell HR3.out k hlt, hx3]
      have l1 : x1 < 2 := by rw [hx1]; exact Nat.mod_lt _ (by decide)
      have l2 : x2 < 2 := by rw [hx2]; exact Nat.mod_lt _ (by decide)
      have l3 : x3 < 2 := by rw [hx3]; exact Nat.mod_lt _ (by decide)
      have HX1 := Sl.mk hx1
      have HX2 := Sl.mk hx2
      have HX3 := Sl.mk hx3
      clear hx1 hx2 hx3
      have p0 : (0 : Int) ≤ (k : Int) := by omega
      have p1 : (k : Int) < 32 := by omega
      go_wp2
      have s1 : IntKind.i64.wrap ((x1 : Int) + (x2 : Int)) = (x1 : Int) + (x2 : Int) := IntWalk.i64_in _ (by omega)
      have s2 : IntKind.i64.wrap ((x1 : Int) + (x2 : Int) + (x3 : Int)) = (x1 : Int) + (x2 : Int) + (x3 : Int) := IntWalk.i64_in _ (by omega)
      go_still (by kernel_rfl)
      change Exit.then _ _ _ _ wr.drew
      clear s1 s2
      have HOd : Sl (wr.drew.ownsRow w.heap.size 3 1 u9 k (ints (bitsTo (ch t b c d) k))) := ⟨HO.out.drew⟩
      have HBd : Sl (Below w.heap.size w wr.drew) := ⟨HB.out.drew⟩
      have cd1 : wr.drew.cell? ⟨g1, k, none⟩ = some (.int .i64 (x1 : Int)) := cc1
      have cd2 : wr.drew.cell? ⟨g2, k, none⟩ = some (.int .i64 (x2 : Int)) := cc2
      have cd3 : wr.drew.cell? ⟨g3, k, none⟩ = some (.int .i64 (x3 : Int)) := cc3
      clear HO HB cc1 cc2 cc3
      generalize wr.drew = wd at *
      clear wr
      by_cases ht1 : t < 20
      · by_cases hb1 : x1 = 1
        · have tb : ((x1 : Int) == 1) = true := by simp; omega
          go_wp2_with (at_builtin; refine wpList_append_own _ rfl (.tmp 46) (.tmp 51) 42 rfl w.heap.size 3 i0 (.int .i64 0) 1 8 Tryd.underlying42 HI.out HZ0.out HZ1.out HZ2.out rfl (by decide) _ k _ rfl (HOd.out.alloc _) ⟨wd.heap.size, 0, none⟩ 1 1 [.int .i64 ((x2 : Int))] rfl rfl (new_one wd _ 3) (fun u hu => by simp at hu; subst hu; rfl) (by unfold maxLen; omega) (by omega) (by rw [alloc_size]; have := HBd.out.size; omega) ?_)
          intro v' w1 hown' hgrow _
          have HO' : Sl (w1.ownsRow w.heap.size 3 1 v' (k + 1) (ints (bitsTo (ch t b c d) (k + 1)))) := ⟨owns_bit hown' (by rw [ch_bit1 t b c d (31 - k) ht1 (by omega) (by rw [← HX1.out]; exact hb1), ← HX2.out])⟩
          have HB' : Sl (Below w.heap.size w w1) := ⟨below_grown (HBd.out.alloc HBd.out.size _) (HOd.out.alloc _) hgrow (by rw [alloc_size]; have := HBd.out.size; omega)⟩
          clear hown' hgrow HOd HBd
          go_wp2
          go_roundw
          case rel => exact ⟨k + 1, by omega, by go_num, HO'.out, HB'.out⟩
          case measure => simp [intOf]; omega
        · have tb : ((x1 : Int) == 1) = false := by simp; omega
          go_wp2_with (at_builtin; refine wpList_append_own _ rfl (.tmp 56) (.tmp 61) 42 rfl w.heap.size 3 i0 (.int .i64 0) 1 8 Tryd.underlying42 HI.out HZ0.out HZ1.out HZ2.out rfl (by decide) _ k _ rfl (HOd.out.alloc _) ⟨wd.heap.size, 0, none⟩ 1 1 [.int .i64 ((x3 : Int))] rfl rfl (new_one wd _ 3) (fun u hu => by simp at hu; subst hu; rfl) (by unfold maxLen; omega) (by omega) (by rw [alloc_size]; have := HBd.out.size; omega) ?_)
          intro v' w1 hown' hgrow _
          have HO' : Sl (w1.ownsRow w.heap.size 3 1 v' (k + 1) (ints (bitsTo (ch t b c d) (k + 1)))) := ⟨owns_bit hown' (by rw [ch_bit0 t b c d (31 - k) ht1 (by omega) (by rw [← HX1.out]; exact hb1), ← HX3.out])⟩
          have HB' : Sl (Below w.heap.size w w1) := ⟨below_grown (HBd.out.alloc HBd.out.size _) (HOd.out.alloc _) hgrow (by rw [alloc_size]; have := HBd.out.size; omega)⟩
          clear hown' hgrow HOd HBd
          go_wp2
          go_roundw
          case rel => exact ⟨k + 1, by omega, by go_num, HO'.out, HB'.out⟩
          case measure => simp [intOf]; omega
      · by_cases ht2 : 40 ≤ t ∧ t < 60
        · obtain ⟨ht3, ht4⟩ := ht2
          by_cases hs2 : 2 ≤ x1 + x2 + x3
          · have ts : (2 : Int) ≤ (x1 : Int) + (x2 : Int) + (x3 : Int) := by omega
            go_wp2_with (at_builtin; refine wpList_append_own _ rfl (.tmp 74) (.tmp 75) 42 rfl w.heap.size 3 i0 (.int .i64 0) 1 8 Tryd.underlying42 HI.out HZ0.out HZ1.out HZ2.out rfl (by decide) _ k _ rfl (HOd.out.alloc _) ⟨wd.heap.size, 0, none⟩ 1 1 [.int .i64 (1)] rfl rfl (new_one wd _ 3) (fun u hu => by simp at hu; subst hu; rfl) (by unfold maxLen; omega) (by omega) (by rw [alloc_size]; have := HBd.out.size; omega) ?_)
            intro v' w1 hown' hgrow _
            have HO' : Sl (w1.ownsRow w.heap.size 3 1 v' (k + 1) (ints (bitsTo (ch t b c d) (k + 1)))) := ⟨owns_bit hown' (by rw [ch_maj t b c d (31 - k) ht3 ht4, ← HX1.out, ← HX2.out, ← HX3.out, if_pos hs2]; rfl)⟩
            have HB' : Sl (Below w.heap.size w w1) := ⟨below_grown (HBd.out.alloc HBd.out.size _) (HOd.out.alloc _) hgrow (by rw [alloc_size]; have := HBd.out.size; omega)⟩
            clear hown' hgrow HOd HBd
            go_wp2
            go_roundw
            case rel => exact ⟨k + 1, by omega, by go_num, HO'.out, HB'.out⟩
            case measure => simp [intOf]; omega
          · have ts : ¬ (2 : Int) ≤ (x1 : Int) + (x2 : Int) + (x3 : Int) := by omega
            go_wp2_with (at_builtin; refine wpList_append_own _ rfl (.tmp 84) (.tmp 85) 42 rfl w.heap.size 3 i0 (.int .i64 0) 1 8 Tryd.underlying42 HI.out HZ0.out HZ1.out HZ2.out rfl (by decide) _ k _ rfl (HOd.out.alloc _) ⟨wd.heap.size, 0, none⟩ 1 1 [.int .i64 (0)] rfl rfl (new_one wd _ 3) (fun u hu => by simp at hu; subst hu; rfl) (by unfold maxLen; omega) (by omega) (by rw [alloc_size]; have := HBd.out.size; omega) ?_)
            intro v' w1 hown' hgrow _
            have HO' : Sl (w1.ownsRow w.heap.size 3 1 v' (k + 1) (ints (bitsTo (ch t b c d) (k + 1)))) := ⟨owns_bit hown' (by rw [ch_maj t b c d (31 - k) ht3 ht4, ← HX1.out, ← HX2.out, ← HX3.out, if_neg hs2]; rfl)⟩
            have HB' : Sl (Below w.heap.size w w1) := ⟨below_grown (HBd.out.alloc HBd.out.size _) (HOd.out.alloc _) hgrow (by rw [alloc_size]; have := HBd.out.size; omega)⟩
            clear hown' hgrow HOd HBd
            go_wp2
            go_roundw
            case rel => exact ⟨k + 1, by omega, by go_num, HO'.out, HB'.out⟩
            case measure => simp [intOf]; omega
        · have hpar := ch_par t b c d (31 - k) ht1 ht2
          have HPAR := Sl.mk hpar
          clear hpar
          by_cases ht40 : t < 40
          · clear ht2
            go_wp2_with (at_builtin; refine wpList_append_own _ rfl (.tmp 31) (.tmp 34) 42 rfl w.heap.size 3 i0 (.int .i64 0) 1 8 Tryd.underlying42 HI.out HZ0.out HZ1.out HZ2.out rfl (by decide) _ k _ rfl (HOd.out.alloc _) ⟨wd.heap.size, 0, none⟩ 1 1 [.int .i64 (((x1 : Int) + (x2 : Int) + (x3 : Int)) % 2)] rfl rfl (new_one wd _ 3) (fun u hu => by simp at hu; subst hu; rfl) (by unfold maxLen; omega) (by omega) (by rw [alloc_size]; have := HBd.out.size; omega) ?_)
            intro v' w1 hown' hgrow _
            have HO' : Sl (w1.ownsRow w.heap.size 3 1 v' (k + 1) (ints (bitsTo (ch t b c d) (k + 1)))) := ⟨owns_bit hown' (by rw [HPAR.out, ← HX1.out, ← HX2.out, ← HX3.out]; simp)⟩
            have HB' : Sl (Below w.heap.size w w1) := ⟨below_grown (HBd.out.alloc HBd.out.size _) (HOd.out.alloc _) hgrow (by rw [alloc_size]; have := HBd.out.size; omega)⟩
            clear hown' hgrow HOd HBd
            go_wp2
            go_roundw
            case rel => exact ⟨k + 1, by omega, by go_num, HO'.out, HB'.out⟩
            case measure => simp [intOf]; omega
          · have ht60 : 60 ≤ t := by omega
            clear ht2
            go_wp2_with (at_builtin; refine wpList_append_own _ rfl (.tmp 31) (.tmp 34) 42 rfl w.heap.size 3 i0 (.int .i64 0) 1 8 Tryd.underlying42 HI.out HZ0.out HZ1.out HZ2.out rfl (by decide) _ k _ rfl (HOd.out.alloc _) ⟨wd.heap.size, 0, none⟩ 1 1 [.int .i64 (((x1 : Int) + (x2 : Int) + (x3 : Int)) % 2)] rfl rfl (new_one wd _ 3) (fun u hu => by simp at hu; subst hu; rfl) (by unfold maxLen; omega) (by omega) (by rw [alloc_size]; have := HBd.out.size; omega) ?_)
            intro v' w1 hown' hgrow _
            have HO' : Sl (w1.ownsRow w.heap.size 3 1 v' (k + 1) (ints (bitsTo (ch t b c d) (k + 1)))) := ⟨owns_bit hown' (by rw [HPAR.out, ← HX1.out, ← HX2.out, ← HX3.out]; simp)⟩
            have HB' : Sl (Below w.heap.size w w1) := ⟨below_grown (HBd.out.alloc HBd.out.size _) (HOd.out.alloc _) hgrow (by rw [alloc_size]; have := HBd.out.size; omega)⟩
            clear hown' hgrow HOd HBd
            go_wp2
            go_roundw
            case rel => exact ⟨k + 1, by omega, by go_num, HO'.out, HB'.out⟩
            case measure => simp [intOf]; omega
    · have hge : 32 ≤ k := by omega
      have HF : Sl (∀ v : Value, wr.ownsRow w.heap.size 3 1 v k (ints (bitsTo (ch t b c d) k)) → Bits wr v (ch t b c d)) := ⟨fun v h => by
        have e : k = 32 := by omega
        rw [e] at h; exact bits_of_owns h⟩
      go_wp2
      go_ret
      exact ⟨_, rfl, ⟨HF.out _ HO.out⟩, HB⟩
end Go.Proofs.YtmiemklgekhfeaaDoor
