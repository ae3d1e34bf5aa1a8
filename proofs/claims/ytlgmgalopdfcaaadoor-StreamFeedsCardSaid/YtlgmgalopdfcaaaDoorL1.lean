/- stream: StreamStops' walk. -/
import Derived.Test.YtlgmgalopdfcaaaDoorSI
import Derived.Test.YtlgmgalopdfcaaaDoorFrE
set_option maxRecDepth 100000
namespace Go.Proofs.YtlgmgalopdfcaaaDoor
open Go.RowKit MaskPlain FramePlain StreamPlain Mas Fra

theorem StrsAt.below {w w' : World} {v : Value} {l : List ByteArray} (h : StrsAt w v l) (hb : Below w.heap.size w w') : StrsAt w' v l := by
  obtain ⟨a, cap, sb, so, h1, h2, h3, h4, h5⟩ := h
  refine ⟨a, cap, sb, so, h1, h2, h3, fun i hi => ?_, h5⟩
  have g := h4 i hi
  have k0 := block_lt_of_cell g
  rw [hb.cell (p := ⟨sb, so + i, none⟩) k0]; exact g
theorem and_112 (x : Nat) (h : x < 256) : bits .and .u8 (x : Int) 112 = ((x / 16 % 8 * 16 : Nat) : Int) := by
  have : ∀ c : Fin 256, bits BinOp.and IntKind.u8 (c.val : Int) 112 = ((c.val / 16 % 8 * 16 : Nat) : Int) := by decide +kernel
  exact this ⟨x, h⟩
theorem all_bad {x : Nat} (hb : bad x = true) (hx : x < 256) (masked : Bool) (most : Int) : all ([] ++ [x]) masked most = ([], 91, 0) := by
  rw [List.nil_append, all_step [x] masked most (fun y hy => by simp at hy; omega), one_cons, if_pos hb]
  rfl
theorem few_all {l : List ByteArray} (h : few l = true) : (∀ i, (l.getD i ByteArray.empty).size ≤ 300) ∧ l.length ≤ 40 := by
  unfold few at h
  rw [Bool.and_eq_true, List.all_eq_true] at h
  refine ⟨fun i => ?_, of_decide_eq_true h.2⟩
  by_cases hi : i < l.length
  · rw [List.getD_eq_getElem?_getD, List.getElem?_eq_getElem hi]
    exact of_decide_eq_true (h.1 _ (List.getElem_mem hi))
  · rw [List.getD_eq_getElem?_getD, List.getElem?_eq_none (by omega)]; decide
set_option maxHeartbeats 4000000 in
theorem stops_walk (masked : Bool) (v : Value) (l : List ByteArray) (x : Nat) (w : World) (hg : Globs w) (hv : StrsAt w v l) (hx : x < 256) : Calls Tryd.prog 6 #[.bool masked, v, .int .u8 (x : Int)] w fun e w' => e = .returned (.bool true) ∧ Below w.heap.size w w' := by
  have HG := Sl.mk hg
  have HV := Sl.mk hv
  have N0 := new_yes masked 300 w w (Below.refl _ _) (by omega)
  have hq1 : (((0 : Int)) != 0) = false := rfl
  have hand := and_112 x hx
  obtain ⟨z, hz⟩ : ∃ z, x / 16 % 8 * 16 = z := ⟨_, rfl⟩
  rw [hz] at hand
  obtain ⟨fw, hfw⟩ : ∃ b, few l = b := ⟨_, rfl⟩
  obtain ⟨a, cap, sb, so, rfl, hm, ha, hce, _⟩ := hv
  have HA := Sl.mk ha
  have HCE := Sl.mk hce
  clear hg ha hce
  cases fw with
  | false =>
    go_enter Tryd.func6, Tryd.ntmps6
    go_wp2_with fail
    refine N0.mono ?_
    rintro e w1 ⟨rfl, HS1, _⟩
    go_wp2_with fail
    refine (awake_any w1 (HG.out.below HS1.out.L HG.out.size)).mono ?_
    rintro e w2 ⟨rfl, HX2⟩
    have HS2 := Sl.mk (HS1.out.below HX2.out)
    have HF := few_any l _ w2 (HV.out.below HS2.out.L)
    rw [hfw] at HF
    go_wp2_with fail
    refine HF.mono ?_
    rintro e w3 ⟨rfl, rfl⟩
    go_wp2_with fail
    refine (awake_any w2 (HG.out.below HS2.out.L HG.out.size)).mono ?_
    rintro e w4 ⟨rfl, HX4⟩
    go_wp2
    go_ret
    exact ⟨rfl, (HS2.out.below HX4.out).L⟩
  | true =>
    by_cases hz0 : z = 0
    · have hqz : ((z : Int) == 0) = true := by subst hz0; rfl
      clear hz hz0 hx
      go_enter Tryd.func6, Tryd.ntmps6
      go_wp2_with fail
      refine N0.mono ?_
      rintro e w1 ⟨rfl, HS1, _⟩
      go_wp2_with fail
      refine (awake_any w1 (HG.out.below HS1.out.L HG.out.size)).mono ?_
      rintro e w2 ⟨rfl, HX2⟩
      have HS2 := Sl.mk (HS1.out.below HX2.out)
      have HF := few_any l _ w2 (HV.out.below HS2.out.L)
      rw [hfw] at HF
      go_wp2_with fail
      refine HF.mono ?_
      rintro e w3 ⟨rfl, rfl⟩
      go_wp2_with fail
      refine (awake_any w2 (HG.out.below HS2.out.L HG.out.size)).mono ?_
      rintro e w4 ⟨rfl, HX4⟩
      go_wp2
      go_ret
      exact ⟨rfl, (HS2.out.below HX4.out).L⟩
    · have hqz : ((z : Int) == 0) = false := by simp; omega
      have hbad : bad x = true := (bad_parts x hx).2 (.inl (by omega))
      have HALL := all_bad hbad hx masked 300
      have HFA := Sl.mk (few_all hfw)
      have HX := Sl.mk hx
      clear hz hz0 hbad hx
      go_enter Tryd.func6, Tryd.ntmps6
      go_wp2_with fail
      refine N0.mono ?_
      rintro e w1 ⟨rfl, HS1, _⟩
      go_wp2_with fail
      refine (awake_any w1 (HG.out.below HS1.out.L HG.out.size)).mono ?_
      rintro e w2 ⟨rfl, HX2⟩
      have HS2 := Sl.mk (HS1.out.below HX2.out)
      have HF := few_any l _ w2 (HV.out.below HS2.out.L)
      rw [hfw] at HF
      clear HS1 HX2 hfw
      go_wp2_with fail
      refine HF.mono ?_
      rintro e w3 ⟨rfl, rfl⟩
      clear HF
      have F4 := feed_ex (HS2.out.below ((Below.refl w2.heap.size w2).alloc (Nat.le_refl _) (.cells #[.int .u8 (x : Int)] 5))) HG.out (.slice (some ⟨w2.heap.size, 0, none⟩) 1 1) [x] (src_new w2 [x] #[.int .u8 (x : Int)] 5 (0, 0) rfl) (fun y hy => by cases hy) (fun y hy => by simp at hy; have := HX.out; omega) (by simp) (by omega) HALL [] rfl 0 rfl
      go_wp2_with fail
      refine F4.mono ?_
      rintro e w5 ⟨a5, c5, v5, rfl, _, _, HS5, _⟩
      clear F4 HS2 HALL
      have E5 := err_any HS5.out
      go_wp2_with fail
      refine E5.mono ?_
      rintro e w6 ⟨rfl, rfl⟩
      clear E5
      have hn40 : l.length ≤ 40 := HFA.out.2
      have hq0 : (((0 : Nat) : Int) != 0) = false := rfl
      have hq91 : (((91 : Nat) : Int) != ((91 : Nat) : Int)) = false := rfl
      have hq91' : (((91 : Nat) : Int) == 91) = true := rfl
      go_wp2
      go_loopw [10] (fun i wr => ∃ k : Nat, i = .int .i64 (k : Int) ∧ k ≤ l.length ∧ Sl (StrmAt w wr w.heap.size masked 300 [] 91 v5)) (fun i _ => l.length - (intOf i).toNat)
      case atStart => exact ⟨0, rfl, Nat.zero_le _, HS5⟩
      case round =>
        obtain ⟨k, rfl, hk, HS⟩ := hrel
        by_cases hkn : k < l.length
        · have hlt : ((k : Int) < (l.length : Int)) = True := eq_true (by omega)
          obtain rfl := HA.out (by omega)
          obtain ⟨s, hs⟩ : ∃ s, l.getD k ByteArray.empty = s := ⟨_, rfl⟩
          have hc := HCE.out k hkn
          rw [hs] at hc
          have hc' : wr.cell? ⟨sb, so + k, none⟩ = some (.string s) := (HS.out.L.cell (block_lt_of_cell hc)).trans hc
          have hs300 : s.size ≤ 300 := by rw [← hs]; exact HFA.out.1 k
          obtain ⟨c6, w6, hconv, HS6, HX6⟩ := conv_str s wr
          have F7 := feed_err (HS.out.below HX6.out) (by decide) (.slice (some ⟨wr.heap.size, 0, none⟩) s.size c6)
          clear hc hs
          go_wp2_with fail
          refine F7.mono ?_
          rintro e w7 ⟨rfl, HS7, _⟩
          clear F7 hconv hc'
          have E8 := err_any HS7.out
          have P8 := part_ex HS7.out 0 rfl
          go_wp2_with fail
          refine E8.mono ?_
          rintro e w8 ⟨rfl, rfl⟩
          go_wp2_with fail
          refine P8.mono ?_
          rintro e w9 ⟨rfl, rfl⟩
          go_wp2
          exact ⟨⟨k + 1, by go_num, by omega, HS7⟩, by simp [intOf]; omega⟩
        · obtain rfl : k = l.length := by omega
          have hlt : ((l.length : Int) < (l.length : Int)) = False := eq_false (by omega)
          go_wp2
          go_ret
          exact ⟨rfl, HS.out.L⟩
end Go.Proofs.YtlgmgalopdfcaaaDoor
