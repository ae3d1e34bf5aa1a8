/- HeadTokens, the walk: whatever two strings come in, the law's Go text returns true, and nothing that was in memory changes. -/
import Derived.Test.YtcohecghibndhaaDoorO
namespace Go.Proofs.YtcohecghibndhaaDoor
open Go.RowKit HeadPlain

set_option maxHeartbeats 400000 in
theorem tokens_long (a b : ByteArray) (w : World) (hg : Globs w) (h : 200 < a.size ∨ 200 < b.size) (ha : a.size ≤ maxLen) (hb : b.size ≤ maxLen) :
    Calls Tryd.prog 10 #[.string a, .string b] w fun e w' => e = .returned (.bool true) ∧ Below w.heap.size w w' := by
  unfold maxLen at ha hb
  have HG := Sl.mk hg
  clear hg
  by_cases h1 : 200 < a.size
  · have h1' : (a.size : Int) > 200 := by omega
    clear h
    go_enter Tryd.func10, Tryd.ntmps10
    go_wp2_with fail
    refine (awake_ex w _ (Below.refl _ _) HG.out).mono ?_
    rintro e w1 ⟨rfl, HX1, HB1⟩
    go_wp2_with fail
    refine (awake_ex w _ HB1.out HG.out).mono ?_
    rintro e w2 ⟨rfl, HX2, HB2⟩
    go_wp2
    go_ret
    exact ⟨rfl, HB2.out⟩
  · have h1' : ((a.size : Int) > 200) = False := eq_false (by omega)
    have h2' : (b.size : Int) > 200 := by omega
    clear h
    go_enter Tryd.func10, Tryd.ntmps10
    go_wp2_with fail
    refine (awake_ex w _ (Below.refl _ _) HG.out).mono ?_
    rintro e w1 ⟨rfl, HX1, HB1⟩
    go_wp2_with fail
    refine (awake_ex w _ HB1.out HG.out).mono ?_
    rintro e w2 ⟨rfl, HX2, HB2⟩
    go_wp2
    go_ret
    exact ⟨rfl, HB2.out⟩
/-- Each of the first k bytes is a token, and the text is not empty. -/
def eachTo (a : ByteArray) (k : Nat) : Bool := !(bytes a).isEmpty && ((bytes a).take k).all tokB
theorem eachTo_succ (a : ByteArray) (k : Nat) (hk : k < a.size) : eachTo a (k + 1) = (eachTo a k && token (bytes (a.extract k (k + 1)))) := by
  have hl : k < (bytes a).length := by rw [bytes_length]; exact hk
  have e : bytes (a.extract k (k + 1)) = [(bytes a)[k]] := by
    rw [bytes_extract, List.take_succ_eq_append_getElem hl, List.drop_append_of_le_length (by rw [List.length_take]; omega), List.drop_of_length_le (by rw [List.length_take]; omega)]
    rfl
  unfold eachTo
  rw [e, List.take_succ_eq_append_getElem hl, List.all_append, Bool.and_assoc]
  congr 2
theorem eachTo_all (a : ByteArray) : eachTo a a.size = token (bytes a) := by
  unfold eachTo token
  rw [List.take_of_length_le (by rw [bytes_length]; exact Nat.le_refl _)]

set_option maxHeartbeats 2000000 in
theorem tokens_short (a b : ByteArray) (w : World) (hg : Globs w) (h1 : a.size ≤ 200) (h2 : b.size ≤ 200) :
    Calls Tryd.prog 10 #[.string a, .string b] w fun e w' => e = .returned (.bool true) ∧ Below w.heap.size w w' := by
  have HG := Sl.mk hg
  clear hg
  have h1' : ((a.size : Int) > 200) = False := eq_false (by omega)
  have h2' : ((b.size : Int) > 200) = False := eq_false (by omega)
  obtain ⟨x, hx⟩ : ∃ x, token (bytes a) = x := ⟨_, rfl⟩
  obtain ⟨y, hy⟩ : ∃ y, token (bytes b) = y := ⟨_, rfl⟩
  have HX := Sl.mk hx
  have HY := Sl.mk hy
  have HAB : Sl (x = true → y = true → token (bytes (a ++ b)) = true) := ⟨fun p q => by rw [bytes_append]; exact token_append (hx.trans p) (hy.trans q)⟩
  have HBL : Sl (token (bytes (a ++ { data := #[32] } ++ b)) = false) := ⟨by
    rw [bytes_append, bytes_append, List.append_assoc]
    exact token_blank _ _⟩
  have HEA : Sl (eachTo a a.size = x) := ⟨by rw [eachTo_all, hx]⟩
  have hm : ∀ s : ByteArray, s.size ≤ 500 → s.size ≤ maxLen := fun s h => by unfold maxLen; omega
  have HMa := Sl.mk (hm a (by omega))
  have HMb := Sl.mk (hm b (by omega))
  have HMab : Sl ((a ++ b).size ≤ maxLen) := ⟨hm _ (by rw [ByteArray.size_append]; omega)⟩
  have HMc : Sl ((a ++ { data := #[32] } ++ b).size ≤ maxLen) := ⟨hm _ (by rw [ByteArray.size_append, ByteArray.size_append]; show _ + 1 + _ ≤ _; omega)⟩
  have HE0 : Sl (eachTo a 0 = !(a.toList == [])) := ⟨by
    unfold eachTo
    rw [List.take_zero, beq_bytes]
    cases bytes a <;> simp⟩
  clear hx hy hm
  go_enter Tryd.func10, Tryd.ntmps10
  go_wp2_with fail
  refine (awake_ex w _ (Below.refl _ _) HG.out).mono ?_
  rintro e w1 ⟨rfl, HX1, HB1⟩
  go_wp2_with fail
  refine (token_ex w _ a x HX.out HB1.out HG.out HMa.out).mono ?_
  rintro e w2 ⟨rfl, HX2, HB2⟩
  obtain ⟨z, hz⟩ : ∃ z, (a.toList == []) = z := ⟨_, rfl⟩
  rw [hz] at HE0
  go_wp2
  go_loopw [6, 7] (fun u i wr => ∃ k : Nat, k ≤ a.size ∧ u = .bool (eachTo a k) ∧ i = .int .i64 k ∧ Sl (Below w.heap.size w wr)) (fun _ i _ => a.size - (intOf i).toNat)
  case atStart => exact ⟨0, Nat.zero_le _, by rw [HE0.out], rfl, HB2⟩
  case round =>
    obtain ⟨k, hk, rfl, rfl, HB⟩ := hrel
    by_cases hlt : k < a.size
    · have HS := Sl.mk (eachTo_succ a k hlt)
      have hk0 : (0 : Int) ≤ (k : Int) := by omega
      have hk1 : (k : Int) < (a.size : Int) := by omega
      have HME : Sl ((a.extract k (k + 1)).size ≤ maxLen) := ⟨by rw [ByteArray.size_extract]; unfold maxLen; omega⟩
      obtain ⟨u, hu⟩ : ∃ u, eachTo a k = u := ⟨_, rfl⟩
      obtain ⟨v, hv⟩ : ∃ v, token (bytes (a.extract k (k + 1))) = v := ⟨_, rfl⟩
      have HV := Sl.mk hv
      rw [hu, hv] at HS
      rw [hu]
      clear hv hu hz
      cases u with
      | false =>
        go_wp2
        refine ⟨⟨k + 1, by omega, by rw [HS.out]; rfl, by go_num, HB⟩, by simp [intOf]; omega⟩
      | true =>
        go_wp2_with fail
        refine (token_ex w _ _ v HV.out HB.out HG.out HME.out).mono ?_
        rintro e w3 ⟨rfl, HX3, HB3⟩
        go_wp2
        refine ⟨⟨k + 1, by omega, by rw [HS.out]; rfl, by go_num, HB3⟩, by simp [intOf]; omega⟩
    · have hge : ((k : Int) < (a.size : Int)) = False := eq_false (by omega)
      obtain rfl : k = a.size := by omega
      rw [HEA.out]
      have hxx : (x == x) = true := by simp
      clear hz
      cases x with
      | false =>
        go_wp2_with fail
        refine (token_ex w _ _ false HBL.out HB.out HG.out HMc.out).mono ?_
        rintro e w3 ⟨rfl, HX3, HB3⟩
        go_wp2_with fail
        refine (token_ex w _ _ false (by decide) HB3.out HG.out (by decide)).mono ?_
        rintro e w4 ⟨rfl, HX4, HB4⟩
        go_wp2
        go_ret
        exact ⟨rfl, HB4.out⟩
      | true =>
        go_wp2_with fail
        refine (token_ex w _ b y HY.out HB.out HG.out HMb.out).mono ?_
        rintro e w3 ⟨rfl, HX3, HB3⟩
        cases y with
        | false =>
          go_wp2_with fail
          refine (token_ex w _ _ false HBL.out HB3.out HG.out HMc.out).mono ?_
          rintro e w4 ⟨rfl, HX4, HB4⟩
          go_wp2_with fail
          refine (token_ex w _ _ false (by decide) HB4.out HG.out (by decide)).mono ?_
          rintro e w5 ⟨rfl, HX5, HB5⟩
          go_wp2
          go_ret
          exact ⟨rfl, HB5.out⟩
        | true =>
          go_wp2_with fail
          refine (token_ex w _ _ true (HAB.out (by first | rfl | trivial) (by first | rfl | trivial)) HB3.out HG.out HMab.out).mono ?_
          rintro e w4 ⟨rfl, HX4, HB4⟩
          go_wp2_with fail
          refine (token_ex w _ _ false HBL.out HB4.out HG.out HMc.out).mono ?_
          rintro e w5 ⟨rfl, HX5, HB5⟩
          go_wp2_with fail
          refine (token_ex w _ _ false (by decide) HB5.out HG.out (by decide)).mono ?_
          rintro e w6 ⟨rfl, HX6, HB6⟩
          go_wp2
          go_ret
          exact ⟨rfl, HB6.out⟩
theorem tokens_walk (a b : ByteArray) (w : World) (hg : Globs w) (ha : a.size ≤ maxLen) (hb : b.size ≤ maxLen) :
    Calls Tryd.prog 10 #[.string a, .string b] w fun e w' => e = .returned (.bool true) ∧ Below w.heap.size w w' := by
  by_cases h : 200 < a.size ∨ 200 < b.size
  · exact tokens_long a b w hg h ha hb
  · exact tokens_short a b w hg (by omega) (by omega)
end Go.Proofs.YtcohecghibndhaaDoor
