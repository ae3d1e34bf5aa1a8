/- stream: the document's Few and Same. -/
import Derived.Test.YtlgmgalopdfcaaaDoorSA
import Derived.Test.YtlgmgalopdfcaaaDoorOpenStrs
set_option maxRecDepth 100000
namespace Go.Proofs.YtlgmgalopdfcaaaDoor
open Go.RowKit MaskPlain FramePlain StreamPlain Mas Fra

/-- Texts that aren't too many or long. -/
def few (l : List ByteArray) : Bool := l.all (fun s => decide (s.size ≤ 300)) && decide (l.length ≤ 40)
set_option maxHeartbeats 1000000 in
theorem few_any (l : List ByteArray) (v : Value) (w : World) (hv : StrsAt w v l) : Calls Tryd.prog 11 #[v] w fun e w' => e = .returned (.bool (few l)) ∧ w = w' := by
  obtain ⟨a, cap, sb, so, rfl, hm, ha, hcell, _⟩ := hv
  have HA := Sl.mk ha
  have HCE := Sl.mk hcell
  have HM := Sl.mk hm
  obtain ⟨n, hn⟩ : ∃ n, l.length = n := ⟨_, rfl⟩
  have HN := Sl.mk hn
  rw [hn]
  clear ha hcell hm hn
  go_enter Tryd.func11, Tryd.ntmps11
  go_wp2
  go_loopw [3] (fun i wr => ∃ k : Nat, i = .int .i64 (k : Int) ∧ k ≤ n ∧ wr = w ∧ Sl ((l.take k).all (fun s => decide (s.size ≤ 300)) = true)) (fun i _ => n - (intOf i).toNat)
  case atStart => exact ⟨0, rfl, Nat.zero_le _, rfl, ⟨rfl⟩⟩
  case round =>
    obtain ⟨k, rfl, hk, rfl, HT⟩ := hrel
    by_cases hkn : k < n
    · have hc := HCE.out k (by rw [HN.out]; exact hkn)
      obtain rfl := HA.out (by rw [HN.out]; omega)
      obtain ⟨s, hs⟩ : ∃ s, l.getD k ByteArray.empty = s := ⟨_, rfl⟩
      rw [hs] at hc
      have hmax : n ≤ 9223372036854775807 := by have := HM.out; rw [HN.out] at this; unfold maxLen at this; omega
      have hlt : ((k : Int) < (n : Int)) = True := eq_true (by omega)
      by_cases hz : s.size > 300
      · have hq : ((s.size : Int) > 300) = True := eq_true (by omega)
        have HF : Sl (few l = false) := ⟨by
          unfold few
          rw [Bool.and_eq_false_iff]; left
          rw [List.all_eq_false]
          refine ⟨s, ?_, by simpa using hz⟩
          rw [← hs, List.getD_eq_getElem?_getD, List.getElem?_eq_getElem (by rw [HN.out]; exact hkn)]
          exact List.getElem_mem _⟩
        clear hz hs hmax
        go_wp2
        go_ret
        exact ⟨by rw [HF.out]; rfl, rfl⟩
      · have hq : ((s.size : Int) > 300) = False := eq_false (by omega)
        have HT' : Sl ((l.take (k + 1)).all (fun s => decide (s.size ≤ 300)) = true) := ⟨by
          rw [List.take_add_one, List.all_append, HT.out, Bool.true_and]
          have : l[k]? = some s := by rw [List.getElem?_eq_getElem (by rw [HN.out]; exact hkn), ← hs, List.getD_eq_getElem?_getD, List.getElem?_eq_getElem (by rw [HN.out]; exact hkn)]; rfl
          rw [this]
          simp; omega⟩
        clear hz hs
        go_wp2
        exact ⟨⟨k + 1, by go_num, by omega, trivial, HT'⟩, by simp [intOf]; omega⟩
    · obtain rfl : k = n := by omega
      have hlt : ((k : Int) < (k : Int)) = False := eq_false (by omega)
      have hF : few l = decide (k ≤ 40) := by
        have := HT.out
        rw [List.take_of_length_le (by rw [HN.out]; exact Nat.le_refl _)] at this
        unfold few
        rw [this, HN.out, Bool.true_and]
      obtain ⟨d, hd⟩ : ∃ d, decide (k ≤ 40) = d := ⟨_, rfl⟩
      have hq : decide ((k : Int) ≤ 40) = d := by rw [← hd]; exact decide_eq_decide.2 (by omega)
      have HF : Sl (few l = d) := ⟨by rw [hF, hd]⟩
      clear hF hd hkn
      go_wp2
      go_ret
      exact ⟨by rw [HF.out, ← hq]; rfl, rfl⟩
/-- The cells of a frame in a row. -/
theorem FrsAt.at8 {W : World} {sb so n cap : Nat} {fs : List Fr} (h : FrsAt W (.slice (some ⟨sb, so, none⟩) n cap) fs) (i : Nat) (hi : i < fs.length) {c0 c1 c2 c3 c4 c5 c6 c7 : Value} (hc : (cv (fs.getD i Fr0)).toArray = #[c0, c1, c2, c3, c4, c5, c6, c7]) :
    W.cell? ⟨sb, so + i * 8, none⟩ = some c0 ∧ W.cell? ⟨sb, so + i * 8 + 1, none⟩ = some c1 ∧ W.cell? ⟨sb, so + i * 8 + 2, none⟩ = some c2 ∧ W.cell? ⟨sb, so + i * 8 + 3, none⟩ = some c3 ∧ W.cell? ⟨sb, so + i * 8 + 4, none⟩ = some c4 ∧ W.cell? ⟨sb, so + i * 8 + 5, none⟩ = some c5 ∧ W.cell? ⟨sb, so + i * 8 + 6, none⟩ = some c6 ∧ W.cell? ⟨sb, so + i * 8 + 7, none⟩ = some c7 := by
  obtain ⟨a, cap', sb', so', he, _, h3, h4⟩ := h
  injection he with e1 e2 e3
  rw [h3 (by omega)] at e1
  injection e1 with e1
  injection e1 with e4 e5
  subst e4 e5
  have hc' : cv (fs.getD i Fr0) = [c0, c1, c2, c3, c4, c5, c6, c7] := by simpa using congrArg Array.toList hc
  have g := h4 i hi
  rw [hc'] at g
  exact ⟨g 0 (by decide), g 1 (by decide), g 2 (by decide), g 3 (by decide), g 4 (by decide), g 5 (by decide), g 6 (by decide), g 7 (by decide)⟩
theorem FrsAt.cap {W : World} {a : Option Addr} {n cap : Nat} {fs : List Fr} (h : FrsAt W (.slice a n cap) fs) : n = fs.length ∧ (0 < n → ∃ sb so, a = some ⟨sb, so, none⟩) := by
  obtain ⟨a', cap', sb', so', he, _, h3, _⟩ := h
  injection he with e1 e2 e3
  refine ⟨e2, fun hp => ⟨sb', so', ?_⟩⟩
  rw [e1]; exact h3 (by omega)
theorem FrsAt.slice {W : World} {v : Value} {fs : List Fr} (h : FrsAt W v fs) : ∃ a c, v = .slice a fs.length c := by
  obtain ⟨a, c, _, _, rfl, _⟩ := h; exact ⟨a, c, rfl⟩
theorem cv_parts (f : Fr) : ∃ rf ro rm, ∃ ka kb kc kd : Nat, ∃ rd, (cv f).toArray = #[.bool rf, .int .i64 ro, .bool rm, .int .u8 ((ka : Nat) : Int), .int .u8 ((kb : Nat) : Int), .int .u8 ((kc : Nat) : Int), .int .u8 ((kd : Nat) : Int), .string rd] ∧ (Small 256 f.key → Small 256 [ka, kb, kc, kd]) :=
  ⟨_, _, _, _, _, _, _, _, rfl, fun h x hx => by
    simp only [List.mem_cons, List.not_mem_nil, or_false] at hx
    rcases hx with rfl | rfl | rfl | rfl <;> exact h.getD (by decide) _⟩
set_option maxHeartbeats 2000000 in
theorem same_yes (fs : List Fr) (u x : Value) (w : World) (hu : FrsAt w u fs) (hx : FrsAt w x fs) (hk : ∀ f ∈ fs, Small 256 f.key) (hl : fs.length ≤ 1000000) : Calls Tryd.prog 16 #[u, x] w fun e w' => e = .returned (.bool true) ∧ Sl (Below w.heap.size w w') := by
  obtain ⟨a, c, rfl⟩ := hu.slice
  obtain ⟨a', c', rfl⟩ := hx.slice
  have HU := Sl.mk hu
  have HX := Sl.mk hx
  have HK := Sl.mk hk
  obtain ⟨n, hn⟩ : ∃ n, fs.length = n := ⟨_, rfl⟩
  rw [hn] at HU HX ⊢
  have HN := Sl.mk hn
  rw [hn] at hl
  clear hu hx hk hn
  go_enter Tryd.func16, Tryd.ntmps16
  go_wp2
  go_loopw [5] (fun i wr => ∃ k : Nat, i = .int .i64 (k : Int) ∧ k ≤ n ∧ Sl (Below w.heap.size w wr)) (fun i _ => n - (intOf i).toNat)
  case atStart => exact ⟨0, rfl, Nat.zero_le _, ⟨Below.refl _ _⟩⟩
  case round =>
    obtain ⟨k, rfl, hkn, HB⟩ := hrel
    by_cases hlt : k < n
    · have hq : ((k : Int) < (n : Int)) = True := eq_true (by omega)
      obtain ⟨sb, so, rfl⟩ := HU.out.cap.2 (by omega)
      obtain ⟨sb', so', rfl⟩ := HX.out.cap.2 (by omega)
      obtain ⟨rf, ro, rm, ka, kb, kc, kd, rd, hcv, hks⟩ := cv_parts (fs.getD k Fr0)
      have hks' := hks (HK.out _ (by rw [List.getD_eq_getElem?_getD, List.getElem?_eq_getElem (by rw [HN.out]; exact hlt)]; exact List.getElem_mem _))
      have he := eq_same rf ro rm ka kb kc kd rd hks'
      obtain ⟨c0, c1, c2, c3, c4, c5, c6, c7⟩ := ((HU.out.below HB.out).below (Below.refl _ _).drew).at8 k (by rw [HN.out]; exact hlt) hcv
      obtain ⟨d0, d1, d2, d3, d4, d5, d6, d7⟩ := ((HX.out.below HB.out).below (Below.refl _ _).drew).at8 k (by rw [HN.out]; exact hlt) hcv
      clear hks hks' hcv
      go_upto_region 6 with fail
      go_still (by kernel_rfl)
      go_wp2
      exact ⟨⟨k + 1, by go_num, by omega, ⟨HB.out.drew⟩⟩, by simp [intOf]; omega⟩
    · obtain rfl : k = n := by omega
      have hq : ((k : Int) < (k : Int)) = False := eq_false (by omega)
      go_wp2
      go_ret
      exact ⟨rfl, HB⟩
end Go.Proofs.YtlgmgalopdfcaaaDoor
