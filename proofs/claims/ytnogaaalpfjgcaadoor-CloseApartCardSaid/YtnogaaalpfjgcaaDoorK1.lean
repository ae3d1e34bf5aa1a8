/- CloseSizes' walk. -/
import Derived.Test.YtnogaaalpfjgcaaDoorCH
set_option maxRecDepth 100000
namespace Go.Proofs.YtnogaaalpfjgcaaDoor
open Go.RowKit UtfPlain ClosePlain Utf

/-- What Put answers, as a string. -/
theorem put_str (n : Int) (s : ByteArray) : ∃ t k, putC n (bytes s) = (bytes t, k) := by
  refine ⟨strOf (putC n (bytes s)).1, (putC n (bytes s)).2, ?_⟩
  rw [bytes_strOf _ (put_small (bytes_small s) (s := (putC n (bytes s)).1) (e := (putC n (bytes s)).2) rfl)]
theorem sizes_walk (n : Int) (s : ByteArray) (w : World) (hg : Globs w) : Calls Tryd.prog 7 #[.int .i64 n, .string s] w fun e w' => e = .returned (.bool true) ∧ Below w.heap.size w w' := by
  have HG := Sl.mk hg
  have A1 := awake_ex w w (Below.refl _ _) hg
  clear hg
  by_cases hs : s.size > 300
  · have hq : ((s.size : Int) > 300) = True := eq_true (by omega)
    clear hs
    go_enter Tryd.func7, Tryd.ntmps7
    go_wp2_with fail
    refine A1.mono ?_
    rintro e w1 ⟨rfl, HB1⟩
    clear A1
    have A2 := awake_ex w w1 HB1.out HG.out
    go_wp2_with fail
    refine A2.mono ?_
    rintro e w2 ⟨rfl, HB2⟩
    clear A2
    go_wp2
    go_ret
    exact ⟨rfl, HB2.out⟩
  have hq : ((s.size : Int) > 300) = False := eq_false (by omega)
  obtain ⟨t, k, hp⟩ := put_str n s
  have HP := Sl.mk hp
  by_cases hk : k = 0
  · subst hk
    rcases put_ok hp with ⟨rfl, hl, ht⟩ | ⟨hv, hl, _, ht⟩
    · obtain rfl := size_zero (nil_size ht)
      clear hs hp hl ht
      go_enter Tryd.func7, Tryd.ntmps7
      go_wp2_with fail
      refine A1.mono ?_
      rintro e w1 ⟨rfl, HB1⟩
      clear A1
      have P := put_ex w w1 0 s _ 0 HP.out HB1.out HG.out
      go_wp2_with fail
      refine P.mono ?_
      rintro e w2 ⟨rfl, HB2⟩
      clear P
      go_wp2
      go_ret
      exact ⟨rfl, HB2.out⟩
    · have hn := valid_pos hv
      have hn0 : (n == 0) = false := beq_eq_false_iff_ne.2 (by omega)
      have hts : t.size = 2 + s.size := by rw [← bytes_length, ht, List.length_append, bytes_length]; rfl
      rw [bytes_length] at hl
      have hte : t.extract 2 (2 + s.size) = s := by
        refine bytes_inj ?_
        rw [bytes_extract, List.take_of_length_le (by rw [bytes_length]; omega), ht]
        rfl
      have h125 : ((t.size : Int) ≤ 125) = True := eq_true (by omega)
      obtain ⟨m, hm⟩ : ∃ m, 2 + s.size = m := ⟨_, rfl⟩
      rw [hm] at hts hte
      have e1 : IntKind.i64.wrap (2 + (s.size : Int)) = (m : Int) := by rw [IntKind.wrap_i64]; omega
      have e2 : wrap64 (2 + (s.size : Int)) = (m : Int) := by unfold wrap64; omega
      have hmm : ((m : Int) == (m : Int)) = true := beq_self_eq_true _
      rw [hts] at h125
      have hm2 : ((2 : Int) ≤ (m : Int)) = True := eq_true (by omega)
      clear hs hp ht hv hl hn hm
      go_enter Tryd.func7, Tryd.ntmps7
      go_wp2_with fail
      refine A1.mono ?_
      rintro e w1 ⟨rfl, HB1⟩
      clear A1
      have P := put_ex w w1 n s _ 0 HP.out HB1.out HG.out
      go_wp2_with fail
      refine P.mono ?_
      rintro e w2 ⟨rfl, HB2⟩
      clear P
      go_wp2
      go_ret
      exact ⟨rfl, HB2.out⟩
  · have hk0 : ((k : Int) == 0) = false := beq_eq_false_iff_ne.2 (by omega)
    obtain rfl := size_zero (nil_size (put_err hp hk).1)
    clear hs hp hk
    go_enter Tryd.func7, Tryd.ntmps7
    go_wp2_with fail
    refine A1.mono ?_
    rintro e w1 ⟨rfl, HB1⟩
    clear A1
    have P := put_ex w w1 n s _ k HP.out HB1.out HG.out
    go_wp2_with fail
    refine P.mono ?_
    rintro e w2 ⟨rfl, HB2⟩
    clear P
    go_wp2
    go_ret
    exact ⟨rfl, HB2.out⟩
end Go.Proofs.YtnogaaalpfjgcaaDoor
