/- Has: whether lists have a token. -/
import Derived.Test.YtcdpkabbmdannaaDoorK
namespace Go.Proofs.YtcdpkabbmdannaaDoor
open Go.RowKit Go.Shelf HeadPlain Flow

theorem has1_any (x token : ByteArray) (bt : Nat) (W : World) (hb : Box W bt 9 (.string token)) (ht : token.size ≤ maxLen) :
    Calls Tryd.prog 25 #[.string x, .pointer (some ⟨bt, 0, none⟩)] W fun e w' => e = .returned (.bool (same (bytes token) (bytes x))) ∧ Still W w' := by
  have c0 := hb.cell
  have HS : Sl (∀ V, Calls Tryd.prog 26 #[.string token, .string x] V fun e w' => e = .returned (.bool (same (bytes token) (bytes x))) ∧ Still V w') := ⟨fun V => same_any token x V ht⟩
  clear hb ht
  obtain ⟨r, hr⟩ : ∃ r, same (bytes token) (bytes x) = r := ⟨_, rfl⟩
  rw [hr] at HS ⊢
  clear hr
  go_enter Tryd.func25, Tryd.ntmps25
  go_wp2_with (go_at_call 26; refine (HS.out _).mono ?_; rintro e w' ⟨rfl, hs⟩; have H2 := Sl.mk hs; clear hs)
  go_ret
  exact ⟨rfl, H2.out⟩
theorem Box.still {W W' : World} {b : Nat} {t : TypeId} {v : Value} (h : Box W b t v) (hs : Still W W') : Box W' b t v := by unfold Box; rw [hs.heap]; exact h
def IdxR (l : List ByteArray) (token : ByteArray) (e : Ending) : Prop := ∃ z : Int, e = .returned (.int .i64 z) ∧ decide (0 ≤ z) = l.any fun x => same (bytes token) (bytes x)
theorem any_hit {l : List ByteArray} {p : ByteArray → Bool} {k : Nat} (hk : k < l.length) (h : p (l.getD k ByteArray.empty) = true) : l.any p = true := by
  rw [List.any_eq_true]
  rw [List.getD_eq_getElem?_getD, List.getElem?_eq_getElem hk] at h
  exact ⟨_, List.getElem_mem hk, h⟩
theorem any_miss {l : List ByteArray} {p : ByteArray → Bool} (h : ∀ j, j < l.length → p (l.getD j ByteArray.empty) = false) : l.any p = false := by
  rw [List.any_eq_false]
  intro x hx
  obtain ⟨j, hj, rfl⟩ := List.mem_iff_getElem.1 hx
  have := h j hj
  rw [List.getD_eq_getElem?_getD, List.getElem?_eq_getElem hj] at this
  simpa using this
set_option maxRecDepth 100000 in
set_option maxHeartbeats 800000 in
theorem idx_any (l : List ByteArray) (v : Value) (token : ByteArray) (bt : Nat) (W : World) (hv : StrA W v l) (hl : l.length ≤ 1000000) (hb : Box W bt 9 (.string token)) (ht : token.size ≤ maxLen) :
    Calls Tryd.prog 36 #[v, .func (.func 25) #[] #[.pointer (some ⟨bt, 0, none⟩)]] W fun e w' => IdxR l token e ∧ Still W w' := by
  obtain ⟨ad, ca, sa, oa, rfl, hca, haa, hcell⟩ := hv
  have HA := Sl.mk hcell
  have HAA := Sl.mk haa
  have HB := Sl.mk hb
  have HT := Sl.mk ht
  clear hcell haa hca hb ht
  obtain ⟨n, hn⟩ : ∃ n, l.length = n := ⟨_, rfl⟩
  have HN := Sl.mk hn
  rw [hn] at hl ⊢
  clear hn
  go_enter Tryd.func36, Tryd.ntmps36
  go_wp2
  go_loopw [8] (fun i wr => ∃ k : Nat, k ≤ n ∧ i = .int .i64 k ∧ Sl (Still W wr) ∧ Sl (∀ j, j < k → same (bytes token) (bytes (l.getD j ByteArray.empty)) = false)) (fun i _ => n - (intOf i).toNat)
  case atStart => exact ⟨0, Nat.zero_le _, rfl, ⟨Still.refl _⟩, ⟨fun j hj => by omega⟩⟩
  case round =>
    obtain ⟨k, hk, rfl, HS, HE⟩ := hrel
    by_cases hlt : k < n
    · obtain rfl := HAA.out (by rw [HN.out]; omega)
      obtain ⟨p, hp⟩ : ∃ p, l.getD k ByteArray.empty = p := ⟨_, rfl⟩
      have HP := Sl.mk hp
      have e0 : wr.cell? ⟨sa, oa + k, none⟩ = some (.string p) := by
        rw [World.cell?_of_block (w := W) (by rw [HS.out.heap]), HA.out k (by rw [HN.out]; omega), hp]
      have hk0 : (0 : Int) ≤ (k : Int) := by omega
      have hk1 : (k : Int) < (n : Int) := by omega
      have HC : Sl (Calls Tryd.prog 25 #[.string p, .pointer (some ⟨bt, 0, none⟩)] wr fun e w' => e = .returned (.bool (same (bytes token) (bytes p))) ∧ Still wr w') := ⟨has1_any p token bt wr (HB.out.still HS.out) HT.out⟩
      obtain ⟨r, hr⟩ : ∃ r, same (bytes token) (bytes p) = r := ⟨_, rfl⟩
      have HR := Sl.mk hr
      rw [hr] at HC
      clear hp hr
      cases r with
      | true =>
        go_wp2_with (go_at_call 25; refine HC.out.mono ?_; rintro e w' ⟨rfl, hs⟩; have H2 := Sl.mk hs; clear hs)
        go_ret
        refine ⟨⟨_, rfl, ?_⟩, HS.out.trans H2.out⟩
        rw [any_hit (k := k) (by rw [HN.out]; exact hlt) (by rw [HP.out]; exact HR.out)]
        exact decide_eq_true (by omega)
      | false =>
        go_wp2_with (go_at_call 25; refine HC.out.mono ?_; rintro e w' ⟨rfl, hs⟩; have H2 := Sl.mk hs; clear hs)
        refine ⟨⟨k + 1, by omega, by go_num, ⟨HS.out.trans H2.out⟩, ⟨fun j hj => ?_⟩⟩, by simp [intOf]; omega⟩
        by_cases e : j = k
        · subst e; rw [HP.out]; exact HR.out
        · exact HE.out j (by omega)
    · have hge : ((k : Int) < (n : Int)) = False := eq_false (by omega)
      go_wp2
      go_ret
      refine ⟨⟨_, rfl, ?_⟩, HS.out⟩
      rw [any_miss (fun j hj => HE.out j (by rw [HN.out] at hj; omega))]
      rfl
theorem contains_any (l : List ByteArray) (v : Value) (token : ByteArray) (bt : Nat) (W : World) (hv : StrA W v l) (hl : l.length ≤ 1000000) (hb : Box W bt 9 (.string token)) (ht : token.size ≤ maxLen) :
    Calls Tryd.prog 27 #[v, .func (.func 25) #[] #[.pointer (some ⟨bt, 0, none⟩)]] W fun e w' => e = .returned (.bool (l.any fun x => same (bytes token) (bytes x))) ∧ Still W w' := by
  have HI := Sl.mk (idx_any l v token bt W hv hl hb ht)
  obtain ⟨r, hr⟩ : ∃ r, (l.any fun x => same (bytes token) (bytes x)) = r := ⟨_, rfl⟩
  have HR := Sl.mk hr
  rw [hr]
  clear hr hv hb
  go_enter Tryd.func27, Tryd.ntmps27
  go_wp2_with (go_at_call 36; refine HI.out.mono ?_; rintro e w' ⟨⟨z, rfl, hz⟩, hs⟩; have H2 := Sl.mk hs; have H3 : Sl (decide (0 ≤ z) = r) := ⟨hz.trans HR.out⟩; clear hs hz)
  go_ret
  exact ⟨ret_bool H3.out, H2.out⟩
/-- What Has answers. -/
def hasB (token : ByteArray) (l : List ByteArray) : Bool := hasT (bytes token) (l.map bytes)
theorem hasB_eq (token : ByteArray) (l : List ByteArray) : hasB token l = ((tell l).all tokT && (tell l).any fun x => same (bytes token) (bytes x)) := by
  unfold hasB hasT
  rw [tell_toks]
  cases h : (tell l).all tokT with
  | false => rfl
  | true =>
    simp only [if_true, Bool.true_and, List.any_map]
    congr 1
    funext x
    exact same_comm _ _
set_option maxRecDepth 100000 in
set_option maxHeartbeats 1000000 in
theorem has_any (token : ByteArray) (l : List ByteArray) (v : Value) (w : World) (hl : l.length ≤ 1000000) (hs : ∀ s ∈ l, s.size ≤ maxLen) (hT : (tell l).length ≤ 1000000) (ht : token.size ≤ maxLen) (hg : Globs w) (hv : StrA w v l) :
    Calls Tryd.prog 13 #[.string token, v] w fun e w' => e = .returned (.bool (hasB token l)) ∧ Sl (Below w.heap.size w w') := by
  have hw1 := Boxed.new w 9 (.string token)
  obtain ⟨w1, hW1⟩ : ∃ w1, w.alloc (.cells #[.string token] 9) = w1 := ⟨_, rfl⟩
  have HB0 : Sl (Below w.heap.size w w1) := ⟨by rw [← hW1]; exact (Below.refl _ _).alloc (Nat.le_refl _) _⟩
  have HBX : Sl (Box w1 w.heap.size 9 (.string token)) := ⟨by rw [← hW1]; exact hw1⟩
  have HL : Sl (Calls Tryd.prog 11 #[v] w1 fun e w' => ListR w1 w' l e ∧ Sl (Below w1.heap.size w1 w')) := ⟨list_any l v w1 hl hs hT (hg.of HB0.out) (hv.below HB0.out)⟩
  have HHB := Sl.mk (hasB_eq token l)
  have HT := Sl.mk ht
  have HTT := Sl.mk hT
  clear hs hg hv ht hw1 hT
  obtain ⟨r, hr⟩ : ∃ r, hasB token l = r := ⟨_, rfl⟩
  rw [hr] at HHB ⊢
  clear hr
  obtain ⟨bt, hbt⟩ : ∃ bt, w.heap.size = bt := ⟨_, rfl⟩
  have HBT := Sl.mk hbt
  rw [hbt] at HB0 HBX ⊢
  go_enter Tryd.func13, Tryd.ntmps13
  go_wp2_with (go_at_call 11; refine HL.out.mono ?_; rintro e w' ⟨(⟨ha, v', rfl, ho⟩ | ⟨ha, rfl⟩), HB1⟩)
  · have HA := Sl.mk ha
    have HO := Sl.mk ho
    clear ha ho
    refine (contains_any (tell l) v' token bt w' HO.out.strA HTT.out (HBX.out.below HB1.out) HT.out).mono ?_
    rintro e w2 ⟨rfl, hs⟩
    have HS := Sl.mk hs
    clear hs
    have HR : Sl (((tell l).any fun x => same (bytes token) (bytes x)) = r) := ⟨by rw [HHB.out, HA.out, Bool.true_and]⟩
    go_wp2
    go_ret
    exact ⟨ret_bool HR.out, ⟨(HB0.out.trans (HB1.out.mono (by have := HB0.out.size; omega))).trans ((HS.out.below).mono (by have := HB0.out.size; have := HB1.out.size; omega))⟩⟩
  · have HA := Sl.mk ha
    clear ha
    have HR : Sl (false = r) := ⟨by rw [HHB.out, HA.out, Bool.false_and]⟩
    go_ret
    exact ⟨ret_bool HR.out, ⟨HB0.out.trans (HB1.out.mono (by have := HB0.out.size; omega))⟩⟩
end Go.Proofs.YtcdpkabbmdannaaDoor
