/- CutFrames' walk. -/
import Derived.Test.YtimndpmbgfoofaaDoorCH
import Derived.Test.YtimndpmbgfoofaaDoorCI
set_option maxRecDepth 100000
namespace Go.Proofs.YtimndpmbgfoofaaDoor.Cut
open Go.RowKit MaskPlain Mas Fra Stm CutPlain
open FramePlain (Fr Fr0 form chk ctl zero4)

theorem frs_key {m : Nat} (hm : 1 ≤ m) {op : Int} {t : List Nat} : ∀ f ∈ frs m op t, Small 256 f.key := fun f hf => by
  obtain ⟨i, hi, rfl⟩ := List.getElem_of_mem hf
  have h := frs_get hm i op t hi
  rw [List.getD_eq_getElem?_getD, List.getElem?_eq_getElem hi] at h
  simp only [Option.getD_some] at h
  rw [h]
  intro x hx
  simp [zero4] at hx
  omega
set_option maxHeartbeats 4000000 in
theorem frames_walk (op : Int) (s : ByteArray) (most : Int) (w : World) (hg : Mas.Globs w) (_ : -9223372036854775808 ≤ op ∧ op ≤ 9223372036854775807) (_ : -9223372036854775808 ≤ most ∧ most ≤ 9223372036854775807) : Calls Tryd.prog 3 #[.int .i64 op, .string s, .int .i64 most] w fun e w' => e = .returned (.bool true) ∧ Below w.heap.size w w' := by
  have HG := Sl.mk hg
  have A1 := awake_any w hg
  clear hg
  by_cases hl : s.size > 2000
  · have hq : ((s.size : Int) > 2000) = True := eq_true (by omega)
    clear hl
    go_enter Tryd.func3, Tryd.ntmps3
    go_wp2_with fail
    refine A1.mono ?_
    rintro e w1 ⟨rfl, HB1⟩
    clear A1
    have A2 := awake_any w1 (HG.out.below HB1.out HG.out.size)
    go_wp2_with fail
    refine A2.mono ?_
    rintro e w2 ⟨rfl, HB2⟩
    clear A2
    have HL := Sl.mk (HB1.out.trans (HB2.out.mono HB1.out.size))
    go_wp2
    go_ret
    exact ⟨rfl, HL.out⟩
  have hq : ((s.size : Int) > 2000) = False := eq_false (by omega)
  by_cases hbad : ¬ (op = 1 ∨ op = 2) ∨ cntI (s.size : Int) most = 0
  · have F1 := fun W => frames_no op s most W hbad
    have F2 := fun W => rframes_no op s most W hbad
    clear hl hbad
    go_enter Tryd.func3, Tryd.ntmps3
    go_wp2_with fail
    refine A1.mono ?_
    rintro e w1 ⟨rfl, HB1⟩
    clear A1
    go_wp2_with fail
    refine (F1 _).mono ?_
    rintro e w2 ⟨rfl, rfl⟩
    go_wp2_with fail
    refine (F2 _).mono ?_
    rintro e w3 ⟨rfl, rfl⟩
    go_wp2
    go_ret
    exact ⟨rfl, HB1.out⟩
  · have ho : op = 1 ∨ op = 2 := Classical.byContradiction fun h => hbad (.inl h)
    have hc : cntI (s.size : Int) most ≠ 0 := fun h => hbad (.inr h)
    have hr : 1 ≤ most ∧ most ≤ 65536 := by
      refine Classical.byContradiction fun h => hc (cntI_no ?_)
      omega
    obtain ⟨m, rfl⟩ := Int.eq_ofNat_of_zero_le (show 0 ≤ most by omega)
    have hm : 1 ≤ m ∧ m ≤ 65536 := by omega
    obtain ⟨n, hn⟩ : ∃ n, (frs m op (bytes s)).length = n := ⟨_, rfl⟩
    have hcn : cntI (s.size : Int) (m : Int) = n := by rw [cntI_yes (by omega) hm.1 hm.2, ← hn, frs_length hm.1 _ op (bytes s) (Nat.le_refl _), bytes_length]
    have hnl : n ≤ 1000000 := by
      have := (cnt_enough (size := s.size) hm.1).2.2.2
      rw [← hn, frs_length hm.1 _ op (bytes s) (Nat.le_refl _), bytes_length]
      omega
    have F1 := fun W => frames_yes op s m n W ho (by omega) hm hn
    have F2 := fun W => rframes_yes op s m W ho (by omega) hm
    have C1 := fun W => count_ex (s.size : Int) (m : Int) n hcn W
    have SM := fun u x W hu hx => same_yes (frs m op (bytes s)) u x W hu hx (frs_key hm.1) (by omega)
    rw [hn] at F2
    have HN := Sl.mk hn
    clear hl hbad ho hc hr hm hcn hnl hn
    go_enter Tryd.func3, Tryd.ntmps3
    go_wp2_with fail
    refine A1.mono ?_
    rintro e w1 ⟨rfl, HB1⟩
    clear A1
    go_wp2_with fail
    refine (F1 _).mono ?_
    rintro e w2 ⟨g, rfl, HR2, _, HX2⟩
    have HB2 : Sl (Below w.heap.size w w2) := ⟨HB1.out.trans (HX2.out.mono HB1.out.size)⟩
    clear F1 HX2 HB1
    go_wp2_with fail
    refine (F2 _).mono ?_
    rintro e w3 ⟨a, n', c, rfl, rfl, HF3, HX3⟩
    have HB3 : Sl (Below w.heap.size w w3) := ⟨HB2.out.trans (HX3.out.mono HB2.out.size)⟩
    have HR3 : Sl (FrsAt w3 (.slice (some ⟨g, 0, none⟩) n' n') (frs m op (bytes s))) := ⟨(HR2.out.below HX3.out).frs HN.out (Nat.le_refl _)⟩
    have S1 := SM _ _ w3 HR3.out HF3.out
    clear F2 HX3 HB2 HR2 HR3 HF3 SM
    go_wp2_with fail
    refine S1.mono ?_
    rintro e w4 ⟨rfl, HX4⟩
    have HB4 : Sl (Below w.heap.size w w4) := ⟨HB3.out.trans (HX4.out.mono HB3.out.size)⟩
    clear S1 HX4 HB3
    go_wp2_with fail
    refine (C1 _).mono ?_
    rintro e w5 ⟨rfl, rfl⟩
    clear C1
    go_wp2
    go_ret
    exact ⟨rfl, HB4.out⟩
end Go.Proofs.YtimndpmbgfoofaaDoor.Cut
