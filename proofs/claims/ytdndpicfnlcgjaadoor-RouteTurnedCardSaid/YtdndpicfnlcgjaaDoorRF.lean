/- route: whether routes, and numbers, may be a configuration's; Check. -/
import Derived.Test.YtdndpicfnlcgjaaDoorRE
import Derived.Test.YtdndpicfnlcgjaaDoorRN
set_option maxRecDepth 100000
namespace Go.Proofs.YtdndpicfnlcgjaaDoor.Rou
open Go.RowKit
open HeadPlain (token)
open RoutePlain (Rt)

/-- Is one of these the same as r? -/
def oneOf (l : List Rb) (r : Rb) : Bool := l.any fun x => same3 x.pre x.pro x.dst r.pre r.pro r.dst
theorem oneOf_hit {l : List Rb} {r : Rb} {k : Nat} (hk : k < l.length) (h : same3 (l.getD k Rb0).pre (l.getD k Rb0).pro (l.getD k Rb0).dst r.pre r.pro r.dst = true) : oneOf l r = true := by
  unfold oneOf
  rw [List.any_eq_true]
  exact ⟨_, by rw [List.getD_eq_getElem?_getD, List.getElem?_eq_getElem hk]; exact List.getElem_mem _, h⟩
theorem oneOf_miss {l : List Rb} {r : Rb} (h : ∀ k, k < l.length → same3 (l.getD k Rb0).pre (l.getD k Rb0).pro (l.getD k Rb0).dst r.pre r.pro r.dst = false) : oneOf l r = false := by
  unfold oneOf
  rw [List.any_eq_false]
  intro x hx
  obtain ⟨k, hk, rfl⟩ := List.getElem_of_mem hx
  have := h k hk
  rw [List.getD_eq_getElem?_getD, List.getElem?_eq_getElem hk] at this
  rw [Bool.not_eq_true]; exact this
/-- What an index is, by whether there is one. -/
def IdxT (b : Bool) (e : Ending) : Prop := ∃ z : Int, e = .returned (.int .i64 z) ∧ decide (0 ≤ z) = b
set_option maxHeartbeats 1000000 in
theorem rif_any (l : List Rb) (v : Value) (W : World) (hv : RtsAt W v l) (hl : l.length ≤ 1000000) (d e f : ByteArray) (g : Nat) (hg : W.heap[g]? = some (.cells #[.string d, .string e, .string f] 34 (0, 0))) (r : Bool) (hr : oneOf l ⟨d, e, f⟩ = r) :
    Calls Tryd.prog 49 #[v, .func (.func 36) #[] #[.pointer (some ⟨g, 0, none⟩)]] W fun en w' => IdxT r en ∧ Sl (Below W.heap.size W w') := by
  have HR := Sl.mk hr
  have HGG := Sl.mk hg
  obtain ⟨a, cap, rfl⟩ := hv.slice
  have HV := Sl.mk hv
  obtain ⟨n, hn⟩ : ∃ n, l.length = n := ⟨_, rfl⟩
  have HN := Sl.mk hn
  rw [hn] at HV hl ⊢
  clear hv hn hr hg
  go_enter Tryd.func49, Tryd.ntmps49
  go_wp2
  go_loopw [8] (fun i wr => ∃ k : Nat, k ≤ n ∧ i = .int .i64 k ∧ Sl (Below W.heap.size W wr) ∧ Sl (∀ j, j < k → same3 (l.getD j Rb0).pre (l.getD j Rb0).pro (l.getD j Rb0).dst d e f = false)) (fun i _ => n - (intOf i).toNat)
  case atStart => exact ⟨0, Nat.zero_le _, rfl, ⟨Below.refl _ _⟩, ⟨fun j hj => by omega⟩⟩
  case round =>
    obtain ⟨k, hk, rfl, HB, HA⟩ := hrel
    by_cases hlt : k < n
    · have hq : ((k : Int) < (n : Int)) = True := eq_true (by omega)
      have hkl : k < l.length := by rw [HN.out]; exact hlt
      obtain ⟨sb, so, rfl⟩ := HV.out.cap.2.2 (by omega)
      obtain ⟨x, y, z, he⟩ : ∃ x y z, l.getD k Rb0 = ⟨x, y, z⟩ := ⟨_, _, _, rfl⟩
      have HE := Sl.mk he
      obtain ⟨c0, c1, c2⟩ := (HV.out.below HB.out).at3 k hkl he
      obtain ⟨p, hp⟩ : ∃ p, same3 x y z d e f = p := ⟨_, rfl⟩
      have HP := Sl.mk hp
      have HS := same_any x y z d e f wr g (below_key HGG.out HB.out) p hp
      clear he hp
      go_wp2_with fail
      refine (HS).mono ?_
      rintro e w2 ⟨rfl, HB2⟩
      clear HS
      have HB3 : Sl (Below W.heap.size W w2) := ⟨HB.out.trans (HB2.out.mono HB.out.size)⟩
      cases p with
      | true =>
        have HH : Sl (r = true) := ⟨by rw [← HR.out]; exact oneOf_hit hkl (by rw [HE.out]; exact HP.out)⟩
        go_wp2
        go_ret
        exact ⟨⟨_, rfl, by rw [HH.out]; exact decide_eq_true (by omega)⟩, HB3⟩
      | false =>
        go_wp2
        refine ⟨⟨k + 1, by omega, by go_num, HB3, ⟨fun j hj => ?_⟩⟩, by simp [intOf]; omega⟩
        by_cases e : j = k
        · subst e; rw [HE.out]; exact HP.out
        · exact HA.out j (by omega)
    · obtain rfl : k = n := by omega
      have hge : ((k : Int) < (k : Int)) = False := eq_false (by omega)
      have HH : Sl (r = false) := ⟨by rw [← HR.out]; exact oneOf_miss (fun j hj => HA.out j (by rw [HN.out] at hj; exact hj))⟩
      go_wp2
      go_ret
      exact ⟨⟨_, rfl, by rw [HH.out]; rfl⟩, HB⟩
theorem rcf_any (l : List Rb) (v : Value) (W : World) (hv : RtsAt W v l) (hl : l.length ≤ 1000000) (d e f : ByteArray) (g : Nat) (hg : W.heap[g]? = some (.cells #[.string d, .string e, .string f] 34 (0, 0))) (r : Bool) (hr : oneOf l ⟨d, e, f⟩ = r) :
    Calls Tryd.prog 38 #[v, .func (.func 36) #[] #[.pointer (some ⟨g, 0, none⟩)]] W fun en w' => en = .returned (.bool r) ∧ Sl (Below W.heap.size W w') := by
  have HX := Sl.mk (rif_any l v W hv hl d e f g hg r hr)
  clear hv hr hg
  go_enter Tryd.func38, Tryd.ntmps38
  go_wp2_with fail
  refine HX.out.mono ?_
  rintro e w2 ⟨⟨z, rfl, hz⟩, HB2⟩
  have HZ := Sl.mk hz
  clear hz HX
  go_wp2
  go_ret
  exact ⟨ret_bool HZ.out, HB2⟩
/-- May the i-th one of these be a route, and isn't it there ahead of it? -/
def okAt (l : List Rb) (i : Nat) : Bool := okB (l.getD i Rb0) && !oneOf (l.take i) (l.getD i Rb0)
def okRs (l : List Rb) : Bool := decide (1 ≤ l.length) && (decide (l.length ≤ 16) && (List.range l.length).all (okAt l))
theorem okRs_no {l : List Rb} {k : Nat} (hk : k < l.length) (h : okAt l k = false) : okRs l = false := by
  unfold okRs
  rw [show (List.range l.length).all (okAt l) = false from by rw [List.all_eq_false]; exact ⟨k, List.mem_range.2 hk, by rw [h]; decide⟩, Bool.and_false, Bool.and_false]
theorem okRs_yes {l : List Rb} (h1 : 1 ≤ l.length) (h2 : l.length ≤ 16) (h : ∀ k, k < l.length → okAt l k = true) : okRs l = true := by
  unfold okRs
  rw [decide_eq_true h1, decide_eq_true h2, Bool.true_and, Bool.true_and, List.all_eq_true]
  exact fun k hk => h k (List.mem_range.1 hk)
theorem okRs_few {l : List Rb} (h : ¬ (1 ≤ l.length ∧ l.length ≤ 16)) : okRs l = false := by
  unfold okRs
  by_cases h1 : 1 ≤ l.length
  · rw [decide_eq_false (show ¬ l.length ≤ 16 by omega), Bool.false_and, Bool.and_false]
  · rw [decide_eq_false h1, Bool.false_and]
set_option maxHeartbeats 2000000 in
theorem allmay_any (l : List Rb) (v : Value) (W : World) (hg : Globs W) (hv : RtsAt W v l) (ok : ∀ r ∈ l, RbOk r) (hl : l.length ≤ 1000000) (r : Bool) (hr : okRs l = r) :
    Calls Tryd.prog 26 #[v] W fun en w' => en = .returned (.bool r) ∧ Sl (Below W.heap.size W w') := by
  have HR := Sl.mk hr
  have HG := Sl.mk hg
  have HOK := Sl.mk ok
  obtain ⟨a, cap, rfl⟩ := hv.slice
  have HV := Sl.mk hv
  obtain ⟨n, hn⟩ : ∃ n, l.length = n := ⟨_, rfl⟩
  have HN := Sl.mk hn
  rw [hn] at HV hl ⊢
  have hcap : n ≤ cap := HV.out.cap.2.1
  clear hv hn hr hg ok
  by_cases h1 : n < 1
  · have h1' : ((n : Int) < 1) = True := eq_true (by omega)
    have HF : Sl (false = r) := ⟨by rw [← HR.out]; exact (okRs_few (by rw [HN.out]; omega)).symm⟩
    go_enter Tryd.func26, Tryd.ntmps26
    go_wp2
    go_ret
    exact ⟨ret_bool HF.out, ⟨Below.refl _ _⟩⟩
  have h1' : ((n : Int) < 1) = False := eq_false (by omega)
  by_cases h2 : n > 16
  · have h2' : ((n : Int) > 16) = True := eq_true (by omega)
    have HF : Sl (false = r) := ⟨by rw [← HR.out]; exact (okRs_few (by rw [HN.out]; omega)).symm⟩
    go_enter Tryd.func26, Tryd.ntmps26
    go_wp2
    go_ret
    exact ⟨ret_bool HF.out, ⟨Below.refl _ _⟩⟩
  have h2' : ((n : Int) > 16) = False := eq_false (by omega)
  go_enter Tryd.func26, Tryd.ntmps26
  go_wp2
  go_loopw [16] (fun i wr => ∃ k : Nat, k ≤ n ∧ i = .int .i64 k ∧ Sl (Below W.heap.size W wr) ∧ Sl (∀ j, j < k → okAt l j = true)) (fun i _ => n - (intOf i).toNat)
  case atStart => exact ⟨0, Nat.zero_le _, rfl, ⟨Below.refl _ _⟩, ⟨fun j hj => by omega⟩⟩
  case round =>
    obtain ⟨k, hk, rfl, HB, HA⟩ := hrel
    by_cases hlt : k < n
    · have hq : ((k : Int) < (n : Int)) = True := eq_true (by omega)
      have hkl : k < l.length := by rw [HN.out]; exact hlt
      obtain ⟨sb, so, rfl⟩ := HV.out.cap.2.2 (by omega)
      obtain ⟨x, y, z, he⟩ : ∃ x y z, l.getD k Rb0 = ⟨x, y, z⟩ := ⟨_, _, _, rfl⟩
      have HE := Sl.mk he
      have hok : RbOk ⟨x, y, z⟩ := by
        rw [← he]; refine HOK.out _ ?_
        rw [List.getD_eq_getElem?_getD, List.getElem?_eq_getElem hkl]; exact List.getElem_mem _
      obtain ⟨c0, c1, c2⟩ := (HV.out.below HB.out).at3 k hkl he
      obtain ⟨wa, hwa, HBa, hx⟩ := box_rt wr
      obtain ⟨wb, hwb, HBb, HX⟩ := set_rt hx HBa.out (Nat.le_refl _) #[.string x, .string y, .string z]
      have HI : (Tryd.prog.info? 34).map (·.size) = some (#[Value.string x, .string y, .string z] : Array Value).size := rt_info rfl
      have HB0 : Sl (Below W.heap.size W wb) := ⟨HB.out.trans (HBb.out.mono HB.out.size)⟩
      obtain ⟨p, hp⟩ : ∃ p, okB ⟨x, y, z⟩ = p := ⟨_, rfl⟩
      have HP := Sl.mk hp
      have MB := Sl.mk (maybe_any x y z wb (HG.out.of HB0.out) hok.p hok.q hok.t p hp)
      obtain ⟨q, hq2⟩ : ∃ q, oneOf (l.take k) ⟨x, y, z⟩ = q := ⟨_, rfl⟩
      have HQ := Sl.mk hq2
      have HV2 := Sl.mk (HV.out.below HB0.out)
      have hk3 : (k : Int) ≤ (cap : Int) := by omega
      have hk4 : (0 : Int) ≤ (k : Int) := by omega
      clear he hp hq2 hok
      go_upto_region 6 with (refine wpList_store_row rfl 34 (.tmp 4) (.tmp 20) rfl wr.heap.size #[.string x, .string y, .string z] rfl rfl 34 #[.string { data := #[] }, .string { data := #[] }, .string { data := #[] }] hx HI rfl (rt_all _ _ _) ?_)
      (try rw [hwb])
      clear hwa hwb hx HBa HBb c0 c1 c2
      obtain ⟨g, hgg⟩ : ∃ g, wr.heap.size = g := ⟨_, rfl⟩
      rw [hgg] at HX
      (try rw [hgg])
      obtain ⟨d0, d1, d2⟩ := rt_cells HX.out
      go_wp2_with fail
      refine (MB.out).mono ?_
      rintro e w2 ⟨rfl, HB2⟩
      clear MB d0 d1 d2
      have HB3 : Sl (Below W.heap.size W w2) := ⟨HB0.out.trans (HB2.out.mono HB0.out.size)⟩
      cases p with
      | false =>
        have HF : Sl (false = r) := ⟨by rw [← HR.out, okRs_no hkl (by unfold okAt; rw [HE.out, HP.out]; rfl)]⟩
        go_wp2
        go_ret
        exact ⟨ret_bool HF.out, HB3⟩
      | true =>
        have HC := Sl.mk (rcf_any (l.take k) (.slice (some ⟨sb, so, none⟩) k cap) w2 ((HV2.out.below HB2.out).to (Nat.le_of_lt hlt) (by omega)) (by rw [List.length_take]; omega) x y z g (below_key HX.out HB2.out) q HQ.out)
        go_wp2_with fail
        refine (HC.out).mono ?_
        rintro e w4 ⟨rfl, HB4⟩
        clear HC
        have HB5 : Sl (Below W.heap.size W w4) := ⟨HB3.out.trans (HB4.out.mono HB3.out.size)⟩
        cases q with
        | true =>
          have HF : Sl (false = r) := ⟨by rw [← HR.out, okRs_no hkl (by unfold okAt; rw [HE.out, HQ.out, Bool.not_true, Bool.and_false])]⟩
          go_wp2
          go_ret
          exact ⟨ret_bool HF.out, HB5⟩
        | false =>
          go_wp2
          refine ⟨⟨k + 1, by omega, by go_num, HB5, ⟨fun j hj => ?_⟩⟩, by simp [intOf]; omega⟩
          by_cases e : j = k
          · subst e; unfold okAt; rw [HE.out, HP.out, HQ.out]; rfl
          · exact HA.out j (by omega)
    · obtain rfl : k = n := by omega
      have hge : ((k : Int) < (k : Int)) = False := eq_false (by omega)
      have HT : Sl (true = r) := ⟨by rw [← HR.out, okRs_yes (by rw [HN.out]; omega) (by rw [HN.out]; omega) (fun j hj => HA.out j (by rw [HN.out] at hj; exact hj))]⟩
      go_wp2
      go_ret
      exact ⟨ret_bool HT.out, HB⟩
end Go.Proofs.YtdndpicfnlcgjaaDoor.Rou
