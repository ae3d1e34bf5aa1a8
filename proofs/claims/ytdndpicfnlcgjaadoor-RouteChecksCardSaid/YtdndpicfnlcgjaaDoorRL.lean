/- route: the document's Check. -/
import Derived.Test.YtdndpicfnlcgjaaDoorRG
import Derived.Test.YtdndpicfnlcgjaaDoorLast
set_option maxRecDepth 100000
namespace Go.Proofs.YtdndpicfnlcgjaaDoor.Rou
open Go.RowKit Nam
open HeadPlain (token)
open RoutePlain (Rt)

/-- What the document asks first of a route. -/
def headB (r : Rb) : Bool := (plainB (bytes r.pre) && decide ((bytes r.pre).getD 0 0 = 47)) && (plainB (bytes r.dst) && (decide (bytes r.pro = []) || token (bytes r.pro)))
theorem okB_head (r : Rb) : okB r = (headB r && !decide (63 ∈ bytes r.pre)) := by
  unfold okB headB plainB
  have h1 : decide ((bytes r.pre).getD 0 0 = 47) = (decide (0 < (bytes r.pre).length) && decide ((bytes r.pre).getD 0 0 = 47)) := by
    cases hb : bytes r.pre with
    | nil => rfl
    | cons x l => simp
  have h2 : decide (0 < (bytes r.dst).length) = !decide (bytes r.dst = []) := by
    cases hb : bytes r.dst with
    | nil => rfl
    | cons x l => simp
  rw [h1, h2]
  cases decide (0 < (bytes r.pre).length) <;> cases decide ((bytes r.pre).getD 0 0 = 47) <;> cases seenB (bytes r.pre) <;> cases decide (63 ∈ bytes r.pre) <;> cases decide (bytes r.pro = []) <;> cases token (bytes r.pro) <;> cases decide (bytes r.dst = []) <;> cases seenB (bytes r.dst) <;> rfl
def inT (x : Int) : Bool := decide (1 ≤ x) && decide (x ≤ 1073741824)
theorem check_bad (rs : List Rb) (n1 n2 : Nat) (tb ms fr ct bs ot sh id po cl : Int) (hn : n1 = rs.length) (h : n1 < 1 ∨ n1 > 16 ∨ n2 > 16 ∨ tb < 1 ∨ tb > 64 ∨ ms < 1 ∨ ms > 65536 ∨ fr < 1 ∨ fr > 65536 ∨ ct < 1 ∨ ct > 1024 ∨ bs < ms ∨ bs > 4194304 ∨ ot < 1 ∨ ot > 65536) : checkB rs n2 tb ms fr ct bs ot sh id po cl = false := by
  unfold checkB okRs spansL outB
  subst hn
  simp only [List.any_cons, List.any_nil, Bool.and_eq_false_iff, Bool.not_eq_false', Bool.or_eq_true, decide_eq_true_eq, decide_eq_false_iff_not]
  omega
theorem check_good (rs : List Rb) (n1 n2 : Nat) (tb ms fr ct bs ot sh id po cl : Int) (hn : n1 = rs.length) (h : ¬ (n1 < 1 ∨ n1 > 16 ∨ n2 > 16 ∨ tb < 1 ∨ tb > 64 ∨ ms < 1 ∨ ms > 65536 ∨ fr < 1 ∨ fr > 65536 ∨ ct < 1 ∨ ct > 1024 ∨ bs < ms ∨ bs > 4194304 ∨ ot < 1 ∨ ot > 65536)) : checkB rs n2 tb ms fr ct bs ot sh id po cl = ((List.range rs.length).all (okAt rs) && ([sh, id, po, cl] : List Int).all inT) := by
  subst hn
  unfold checkB okRs spansL outB inT
  rw [decide_eq_true (show 1 ≤ rs.length by omega), decide_eq_true (show rs.length ≤ 16 by omega), decide_eq_true (show n2 ≤ 16 by omega)]
  simp only [Bool.true_and]
  congr 1
  rw [Bool.eq_iff_iff]
  simp only [List.any_cons, List.any_nil, List.all_cons, List.all_nil, Bool.not_eq_true', Bool.or_eq_false_iff, Bool.and_eq_true, decide_eq_true_eq, decide_eq_false_iff_not, Bool.or_false, Bool.and_true]
  omega
theorem good_no {rs : List Rb} {ts : List Int} {k : Nat} (hk : k < rs.length) (h : okAt rs k = false) : ((List.range rs.length).all (okAt rs) && ts.all inT) = false := by
  rw [show (List.range rs.length).all (okAt rs) = false from by rw [List.all_eq_false]; exact ⟨k, List.mem_range.2 hk, by rw [h]; decide⟩]; rfl
theorem time_no {rs : List Rb} {ts : List Int} {k : Nat} (hk : k < ts.length) (h : inT (ts.getD k 0) = false) : ((List.range rs.length).all (okAt rs) && ts.all inT) = false := by
  rw [show ts.all inT = false from by rw [List.all_eq_false]; exact ⟨ts.getD k 0, by rw [List.getD_eq_getElem?_getD, List.getElem?_eq_getElem hk]; exact List.getElem_mem _, by rw [h]; decide⟩, Bool.and_false]
theorem good_yes {rs : List Rb} {ts : List Int} (h : ∀ k, k < rs.length → okAt rs k = true) (g : ∀ k, k < ts.length → inT (ts.getD k 0) = true) : ((List.range rs.length).all (okAt rs) && ts.all inT) = true := by
  rw [Bool.and_eq_true, List.all_eq_true, List.all_eq_true]
  refine ⟨fun k hk => h k (List.mem_range.1 hk), fun x hx => ?_⟩
  obtain ⟨k, hk, rfl⟩ := List.getElem_of_mem hx
  have := g k hk
  rwa [List.getD_eq_getElem?_getD, List.getElem?_eq_getElem hk] at this
theorem no_mark {s : ByteArray} (h : ∀ j, j < s.size → (bytes s).getD j 0 ≠ 63) : decide (63 ∈ bytes s) = false := by
  rw [decide_eq_false]
  intro hm
  obtain ⟨j, hj, e⟩ := List.getElem_of_mem hm
  refine h j (by rw [← bytes_length]; exact hj) ?_
  rw [List.getD_eq_getElem?_getD, List.getElem?_eq_getElem hj]; exact e
theorem a_mark {s : ByteArray} {j : Nat} (hj : j < s.size) (h : (bytes s).getD j 0 = 63) : decide (63 ∈ bytes s) = true := by
  rw [decide_eq_true]
  have hl : j < (bytes s).length := by rw [bytes_length]; exact hj
  rw [← h, List.getD_eq_getElem?_getD, List.getElem?_eq_getElem hl]; exact List.getElem_mem _
set_option maxHeartbeats 16000000 in
theorem rcheck_any (rs : List Rb) (a1 : Option Addr) (n1 c1 : Nat) (a2 : Option Addr) (n2 c2 : Nat) (tb ms fr ct bs ot sh id po cl : Int) (W : World) (hv : RtsAt W (.slice a1 n1 c1) rs) (ok : ∀ r ∈ rs, Short r) (hl : rs.length ≤ 1000000) (r : Bool) (hr : checkB rs n2 tb ms fr ct bs ot sh id po cl = r) :
    Calls Tryd.prog 12 #[.agg #[.slice a1 n1 c1, .slice a2 n2 c2, .int .i64 tb, .int .i64 ms, .int .i64 fr, .int .i64 ct, .int .i64 bs, .int .i64 ot, .int .i64 sh, .int .i64 id, .int .i64 po, .int .i64 cl]] W fun en w' => en = .returned (.bool r) ∧ Sl (Below W.heap.size W w') := by
  obtain ⟨wa, hwa, HBa, hx⟩ := cfg_box W #[.slice a1 n1 c1, .slice a2 n2 c2, .int .i64 tb, .int .i64 ms, .int .i64 fr, .int .i64 ct, .int .i64 bs, .int .i64 ot, .int .i64 sh, .int .i64 id, .int .i64 po, .int .i64 cl]
  have HX := Sl.mk hx
  have HV0 := Sl.mk hv
  have HOK := Sl.mk ok
  have HN1 : Sl (n1 = rs.length) := ⟨hv.cap.1⟩
  have HR := Sl.mk hr
  have hcap : n1 ≤ c1 := hv.cap.2.1
  have PL : Sl (∀ V s r, s.size ≤ maxLen → plainB (bytes s) = r → Calls Tryd.prog 23 #[.string s] V fun e w' => e = .returned (.bool r) ∧ V = w') := ⟨fun V s r h1 h2 => rplain_any s V h1 r h2⟩
  have TK : Sl (∀ V s, s.size ≤ maxLen → Calls Tryd.prog 24 #[.string s] V fun e w' => e = .returned (.bool (token (bytes s))) ∧ V = w') := ⟨fun V s h => (tokenR_any s V h).mono fun e w' ⟨h1, h2⟩ => ⟨h1, h2.symm⟩⟩
  obtain ⟨g, hgg⟩ : ∃ g, W.heap.size = g := ⟨_, rfl⟩
  have HS0 := Sl.mk hgg
  rw [hgg] at HX HBa ⊢
  have hl1 : n1 ≤ 1000000 := by rw [HN1.out]; exact hl
  clear hx hv hr ok
  go_enter Tryd.func12, Tryd.ntmps12
  go_upto_region 1 with fail
  (try rw [hwa])
  (try rw [hgg])
  clear hwa hgg
  have k0 := cell_at HX.out 0 _ rfl
  have k1 := cell_at HX.out 1 _ rfl
  have k2 := cell_at HX.out 2 _ rfl
  have k3 := cell_at HX.out 3 _ rfl
  have k4 := cell_at HX.out 4 _ rfl
  have k5 := cell_at HX.out 5 _ rfl
  have k6 := cell_at HX.out 6 _ rfl
  have k7 := cell_at HX.out 7 _ rfl
  obtain ⟨F, hF⟩ : ∃ F, decide (n1 < 1 ∨ n1 > 16 ∨ n2 > 16 ∨ tb < 1 ∨ tb > 64 ∨ ms < 1 ∨ ms > 65536 ∨ fr < 1 ∨ fr > 65536 ∨ ct < 1 ∨ ct > 1024 ∨ bs < ms ∨ bs > 4194304 ∨ ot < 1 ∨ ot > 65536) = F := ⟨_, rfl⟩
  have HF := Sl.mk hF
  go_cut [86] (fun s86 wx => s86 = .bool F ∧ wa = wx)
  case first =>
    by_cases h0 : n1 < 1
    · have d0 : ((n1 : Int) < 1) = True := eq_true (by omega)
      obtain rfl : F = true := by rw [← hF]; exact decide_eq_true (Or.inl h0)
      go_wp2_with fail
      go_meet
      exact ⟨rfl, rfl⟩
    · have d0 : ((n1 : Int) < 1) = False := eq_false (by omega)
      have e0 : (1 : Int) ≤ (n1 : Int) := by omega
      by_cases h1 : n1 > 16
      · have d1 : ((n1 : Int) > 16) = True := eq_true (by omega)
        obtain rfl : F = true := by rw [← hF]; exact decide_eq_true (Or.inr (Or.inl h1))
        go_wp2_with fail
        go_meet
        exact ⟨rfl, rfl⟩
      · have d1 : ((n1 : Int) > 16) = False := eq_false (by omega)
        by_cases h2 : n2 > 16
        · have d2 : ((n2 : Int) > 16) = True := eq_true (by omega)
          obtain rfl : F = true := by rw [← hF]; exact decide_eq_true (Or.inr (Or.inr (Or.inl h2)))
          go_wp2_with fail
          go_meet
          exact ⟨rfl, rfl⟩
        · have d2 : ((n2 : Int) > 16) = False := eq_false (by omega)
          by_cases h3 : tb < 1
          · have d3 : (tb < 1) = True := eq_true (by omega)
            obtain rfl : F = true := by rw [← hF]; exact decide_eq_true (Or.inr (Or.inr (Or.inr (Or.inl h3))))
            go_wp2_with fail
            go_meet
            exact ⟨rfl, rfl⟩
          · have d3 : (tb < 1) = False := eq_false (by omega)
            have e3 : 1 ≤ tb := by omega
            by_cases h4 : tb > 64
            · have d4 : (tb > 64) = True := eq_true (by omega)
              obtain rfl : F = true := by rw [← hF]; exact decide_eq_true (Or.inr (Or.inr (Or.inr (Or.inr (Or.inl h4)))))
              go_wp2_with fail
              go_meet
              exact ⟨rfl, rfl⟩
            · have d4 : (tb > 64) = False := eq_false (by omega)
              have e4 : tb ≤ 64 := by omega
              by_cases h5 : ms < 1
              · have d5 : (ms < 1) = True := eq_true (by omega)
                obtain rfl : F = true := by rw [← hF]; exact decide_eq_true (Or.inr (Or.inr (Or.inr (Or.inr (Or.inr (Or.inl h5))))))
                go_wp2_with fail
                go_meet
                exact ⟨rfl, rfl⟩
              · have d5 : (ms < 1) = False := eq_false (by omega)
                have e5 : 1 ≤ ms := by omega
                by_cases h6 : ms > 65536
                · have d6 : (ms > 65536) = True := eq_true (by omega)
                  obtain rfl : F = true := by rw [← hF]; exact decide_eq_true (Or.inr (Or.inr (Or.inr (Or.inr (Or.inr (Or.inr (Or.inl h6)))))))
                  go_wp2_with fail
                  go_meet
                  exact ⟨rfl, rfl⟩
                · have d6 : (ms > 65536) = False := eq_false (by omega)
                  have e6 : ms ≤ 65536 := by omega
                  by_cases h7 : fr < 1
                  · have d7 : (fr < 1) = True := eq_true (by omega)
                    obtain rfl : F = true := by rw [← hF]; exact decide_eq_true (Or.inr (Or.inr (Or.inr (Or.inr (Or.inr (Or.inr (Or.inr (Or.inl h7))))))))
                    go_wp2_with fail
                    go_meet
                    exact ⟨rfl, rfl⟩
                  · have d7 : (fr < 1) = False := eq_false (by omega)
                    have e7 : 1 ≤ fr := by omega
                    by_cases h8 : fr > 65536
                    · have d8 : (fr > 65536) = True := eq_true (by omega)
                      obtain rfl : F = true := by rw [← hF]; exact decide_eq_true (Or.inr (Or.inr (Or.inr (Or.inr (Or.inr (Or.inr (Or.inr (Or.inr (Or.inl h8)))))))))
                      go_wp2_with fail
                      go_meet
                      exact ⟨rfl, rfl⟩
                    · have d8 : (fr > 65536) = False := eq_false (by omega)
                      have e8 : fr ≤ 65536 := by omega
                      by_cases h9 : ct < 1
                      · have d9 : (ct < 1) = True := eq_true (by omega)
                        obtain rfl : F = true := by rw [← hF]; exact decide_eq_true (Or.inr (Or.inr (Or.inr (Or.inr (Or.inr (Or.inr (Or.inr (Or.inr (Or.inr (Or.inl h9))))))))))
                        go_wp2_with fail
                        go_meet
                        exact ⟨rfl, rfl⟩
                      · have d9 : (ct < 1) = False := eq_false (by omega)
                        have e9 : 1 ≤ ct := by omega
                        by_cases h10 : ct > 1024
                        · have d10 : (ct > 1024) = True := eq_true (by omega)
                          obtain rfl : F = true := by rw [← hF]; exact decide_eq_true (Or.inr (Or.inr (Or.inr (Or.inr (Or.inr (Or.inr (Or.inr (Or.inr (Or.inr (Or.inr (Or.inl h10)))))))))))
                          go_wp2_with fail
                          go_meet
                          exact ⟨rfl, rfl⟩
                        · have d10 : (ct > 1024) = False := eq_false (by omega)
                          have e10 : ct ≤ 1024 := by omega
                          by_cases h11 : bs < ms
                          · have d11 : (bs < ms) = True := eq_true (by omega)
                            obtain rfl : F = true := by rw [← hF]; exact decide_eq_true (Or.inr (Or.inr (Or.inr (Or.inr (Or.inr (Or.inr (Or.inr (Or.inr (Or.inr (Or.inr (Or.inr (Or.inl h11))))))))))))
                            go_wp2_with fail
                            go_meet
                            exact ⟨rfl, rfl⟩
                          · have d11 : (bs < ms) = False := eq_false (by omega)
                            have e11 : ms ≤ bs := by omega
                            by_cases h12 : bs > 4194304
                            · have d12 : (bs > 4194304) = True := eq_true (by omega)
                              obtain rfl : F = true := by rw [← hF]; exact decide_eq_true (Or.inr (Or.inr (Or.inr (Or.inr (Or.inr (Or.inr (Or.inr (Or.inr (Or.inr (Or.inr (Or.inr (Or.inr (Or.inl h12)))))))))))))
                              go_wp2_with fail
                              go_meet
                              exact ⟨rfl, rfl⟩
                            · have d12 : (bs > 4194304) = False := eq_false (by omega)
                              have e12 : bs ≤ 4194304 := by omega
                              by_cases h13 : ot < 1
                              · have d13 : (ot < 1) = True := eq_true (by omega)
                                obtain rfl : F = true := by rw [← hF]; exact decide_eq_true (Or.inr (Or.inr (Or.inr (Or.inr (Or.inr (Or.inr (Or.inr (Or.inr (Or.inr (Or.inr (Or.inr (Or.inr (Or.inr (Or.inl h13))))))))))))))
                                go_wp2_with fail
                                go_meet
                                exact ⟨rfl, rfl⟩
                              · have d13 : (ot < 1) = False := eq_false (by omega)
                                have e13 : 1 ≤ ot := by omega
                                by_cases h14 : ot > 65536
                                · have d14 : (ot > 65536) = True := eq_true (by omega)
                                  obtain rfl : F = true := by rw [← hF]; exact decide_eq_true (Or.inr (Or.inr (Or.inr (Or.inr (Or.inr (Or.inr (Or.inr (Or.inr (Or.inr (Or.inr (Or.inr (Or.inr (Or.inr (Or.inr (h14)))))))))))))))
                                  go_wp2_with fail
                                  go_meet
                                  exact ⟨rfl, rfl⟩
                                · have d14 : (ot > 65536) = False := eq_false (by omega)
                                  have e14 : ot ≤ 65536 := by omega
                                  obtain rfl : F = false := by rw [← hF]; exact decide_eq_false (by omega)
                                  go_wp2_with fail
                                  go_meet
                                  exact ⟨rfl, rfl⟩
  case rest =>
    obtain ⟨rfl, rfl⟩ := hcut
    cases F with
    | true =>
      have HV : Sl (false = r) := ⟨by rw [← HR.out, check_bad rs n1 n2 tb ms fr ct bs ot sh id po cl HN1.out (of_decide_eq_true HF.out)]⟩
      go_wp2
      go_ret
      exact ⟨ret_bool HV.out, HBa⟩
    | false =>
      have HG : Sl (((List.range rs.length).all (okAt rs) && ([sh, id, po, cl] : List Int).all inT) = r) := ⟨by rw [← HR.out, check_good rs n1 n2 tb ms fr ct bs ot sh id po cl HN1.out (of_decide_eq_false HF.out)]⟩
      clear HR HF hF k1 k2 k3 k4 k5 k6 k7
      have k8 := cell_at HX.out 8 _ rfl
      have k9 := cell_at HX.out 9 _ rfl
      have k10 := cell_at HX.out 10 _ rfl
      have k11 := cell_at HX.out 11 _ rfl
      obtain ⟨wb, hwb, HBb, ht⟩ : ∃ V, wa.alloc (.cells #[.int .i64 sh, .int .i64 id, .int .i64 po, .int .i64 cl] 3) = V ∧ Sl (Below wa.heap.size wa V) ∧ V.heap[wa.heap.size]? = some (.cells #[.int .i64 sh, .int .i64 id, .int .i64 po, .int .i64 cl] 3 (0, 0)) := ⟨_, rfl, ⟨(Below.refl _ _).alloc (Nat.le_refl _) _⟩, alloc_new _ _ _ rfl⟩
      have HT := Sl.mk ht
      have HXb := Sl.mk (below_key HX.out HBb.out)
      have HSZ : Sl (g ≤ wa.heap.size) := ⟨by rw [← HS0.out]; exact HBa.out.size⟩
      have HBab : Sl (Below g W wb) := ⟨HBa.out.trans (HBb.out.mono HSZ.out)⟩
      obtain ⟨gt, hgt⟩ : ∃ g, wa.heap.size = g := ⟨_, rfl⟩
      rw [hgt] at HT
      go_upto_region 4 with fail
      (try rw [hwb])
      (try rw [hgt])
      clear ht hwb hgt HBb HX HBa k0 k8 k9 k10 k11
      go_wp2
      go_loopw [4] (fun i wr => ∃ k : Nat, k ≤ 4 ∧ i = .int .i64 k ∧ wb = wr ∧ Sl (∀ j, j < k → inT (([sh, id, po, cl] : List Int).getD j 0) = true)) (fun i _ => 4 - (intOf i).toNat)
      case atStart => exact ⟨0, Nat.zero_le _, rfl, rfl, ⟨fun j hj => by omega⟩⟩
      case round =>
        obtain ⟨k, hk, rfl, rfl, HA⟩ := hrel
        by_cases hlt : k < 4
        · have hq : ((k : Int) < 4) = True := eq_true (by omega)
          obtain ⟨x, hx⟩ : ∃ x, ([sh, id, po, cl] : List Int).getD k 0 = x := ⟨_, rfl⟩
          have HXX := Sl.mk hx
          have c0 : wb.cell? ⟨gt, k, none⟩ = some (.int .i64 x) := by
            rw [cell_of_row _ _ _ _ _ _ HT.out, ← hx]
            rcases (show k = 0 ∨ k = 1 ∨ k = 2 ∨ k = 3 by omega) with rfl | rfl | rfl | rfl <;> rfl
          have hk4 : (0 : Int) ≤ (k : Int) := by omega
          clear hx
          by_cases h1 : x < 1
          · have h1' : (x < 1) = True := eq_true h1
            have HV : Sl (false = r) := ⟨by rw [← HG.out, time_no (ts := [sh, id, po, cl]) (k := k) hlt (by rw [HXX.out]; unfold inT; rw [decide_eq_false (by omega)]; rfl)]⟩
            go_wp2
            go_ret
            exact ⟨ret_bool HV.out, HBab⟩
          · have h1' : (x < 1) = False := eq_false h1
            have h1q : 1 ≤ x := by omega
            by_cases h2 : x > 1073741824
            · have h2' : (x > 1073741824) = True := eq_true h2
              have HV : Sl (false = r) := ⟨by rw [← HG.out, time_no (ts := [sh, id, po, cl]) (k := k) hlt (by rw [HXX.out]; unfold inT; rw [decide_eq_false (show ¬ x ≤ 1073741824 by omega), Bool.and_false])]⟩
              go_wp2
              go_ret
              exact ⟨ret_bool HV.out, HBab⟩
            · have h2' : (x > 1073741824) = False := eq_false h2
              have h2q : x ≤ 1073741824 := by omega
              have HS2 : Sl (inT x = true) := ⟨by unfold inT; rw [decide_eq_true h1q, decide_eq_true h2q]; rfl⟩
              go_wp2
              refine ⟨⟨k + 1, by omega, by go_num, trivial, ⟨fun j hj => ?_⟩⟩, by simp [intOf]; omega⟩
              by_cases e : j = k
              · subst e; rw [HXX.out]; exact HS2.out
              · exact HA.out j (by omega)
        · obtain rfl : k = 4 := by omega
          have HTM := HA
          clear hlt hk
          go_wp2
          go_loopw [5] (fun i wr => ∃ k : Nat, k ≤ n1 ∧ i = .int .i64 k ∧ Sl (Below g W wr) ∧ Sl (wr.heap[g]? = some (.cells #[.slice a1 n1 c1, .slice a2 n2 c2, .int .i64 tb, .int .i64 ms, .int .i64 fr, .int .i64 ct, .int .i64 bs, .int .i64 ot, .int .i64 sh, .int .i64 id, .int .i64 po, .int .i64 cl] 25 (0, 0))) ∧ Sl (∀ j, j < k → okAt rs j = true)) (fun i _ => n1 - (intOf i).toNat)
          case atStart => exact ⟨0, Nat.zero_le _, rfl, HBab, HXb, ⟨fun j hj => by omega⟩⟩
          case round =>
            clear HXb HBab HT
            obtain ⟨k, hk, rfl, HB, HX, HA⟩ := hrel
            have e0 : wr.cell? ⟨g, 0, none⟩ = some (.slice a1 n1 c1) := cell_at HX.out 0 _ rfl
            by_cases hlt : k < n1
            · have hq : ((k : Int) < (n1 : Int)) = True := eq_true (by omega)
              have hkl : k < rs.length := by rw [← HN1.out]; exact hlt
              obtain ⟨sb, so, rfl⟩ := HV0.out.cap.2.2 (by omega)
              obtain ⟨x, y, u, he⟩ : ∃ x y z, rs.getD k Rb0 = ⟨x, y, z⟩ := ⟨_, _, _, rfl⟩
              have HE := Sl.mk he
              have hok : Short ⟨x, y, u⟩ := by
                rw [← he]; refine HOK.out _ ?_
                rw [List.getD_eq_getElem?_getD, List.getElem?_eq_getElem hkl]; exact List.getElem_mem _
              have hBW : Below W.heap.size W wr := by rw [HS0.out]; exact HB.out
              obtain ⟨c0, c1', c2'⟩ := (HV0.out.below hBW).at3 k hkl he
              obtain ⟨wx, hwx, HBx, hx⟩ := box_rt wr
              obtain ⟨wy, hwy, HBy, HXR⟩ := set_rt hx HBx.out (Nat.le_refl _) #[.string x, .string y, .string u]
              have HI : (Tryd.prog.info? 34).map (·.size) = some (#[Value.string x, .string y, .string u] : Array Value).size := rt_info rfl
              have HXy := Sl.mk (below_key HX.out HBy.out)
              have HWy : Sl (Below W.heap.size W wy) := ⟨hBW.trans (HBy.out.mono hBW.size)⟩
              have HBz : Sl (Below g W wy) := ⟨by rw [← HS0.out]; exact HWy.out⟩
              have HSY : Sl (g ≤ wy.heap.size) := ⟨by rw [← HS0.out]; exact HWy.out.size⟩
              have hsx : x.size ≤ 1000000 := hok.1
              have M1 : x.size ≤ maxLen := Nat.le_trans hok.1 (by decide)
              have M2 : y.size ≤ maxLen := Nat.le_trans hok.2.1 (by decide)
              have M3 : u.size ≤ maxLen := Nat.le_trans hok.2.2 (by decide)
              obtain ⟨p1, hp1⟩ : ∃ p, plainB (bytes x) = p := ⟨_, rfl⟩
              obtain ⟨p3, hp3⟩ : ∃ p, plainB (bytes u) = p := ⟨_, rfl⟩
              have Q1 := Sl.mk (PL.out wy x p1 M1 hp1)
              have Q3 := Sl.mk (PL.out wy u p3 M3 hp3)
              have Q5 := Sl.mk (TK.out wy y M2)
              obtain ⟨p2, hp2⟩ : ∃ p, decide ((bytes x).getD 0 0 = 47) = p := ⟨_, rfl⟩
              obtain ⟨p4, hp4⟩ : ∃ p, decide (bytes y = []) = p := ⟨_, rfl⟩
              obtain ⟨p5, hp5⟩ : ∃ p, token (bytes y) = p := ⟨_, rfl⟩
              rw [hp5] at Q5
              obtain ⟨H, hH⟩ : ∃ H, headB ⟨x, y, u⟩ = H := ⟨_, rfl⟩
              have HH := Sl.mk hH
              have HHP : Sl (((p1 && p2) && (p3 && (p4 || p5))) = H) := ⟨by rw [← hH]; unfold headB; simp only; rw [hp1, hp2, hp3, hp4, hp5]⟩
              have HP1 := Sl.mk hp1
              have HP2 := Sl.mk hp2
              have HP4 := Sl.mk hp4
              have hk4 : (0 : Int) ≤ (k : Int) := by omega
              have HNO : Sl (okB ⟨x, y, u⟩ = false → false = r) := ⟨fun h => by rw [← HG.out, good_no (k := k) hkl (by unfold okAt; rw [HE.out, h]; rfl)]⟩
              clear he hp1 hp2 hp3 hp4 hp5 hH hok M1 M2 M3
              go_upto_region 13 with (refine wpList_store_row rfl 34 (.tmp 6) (.tmp 125) rfl wr.heap.size #[.string x, .string y, .string u] rfl rfl 34 #[.string { data := #[] }, .string { data := #[] }, .string { data := #[] }] hx HI rfl (rt_all _ _ _) ?_)
              (try rw [hwy])
              clear hwx hwy hx HBx c0 c1' c2' e0 HX hBW
              obtain ⟨g6, hgg⟩ : ∃ g, wr.heap.size = g := ⟨_, rfl⟩
              rw [hgg] at HXR
              (try rw [hgg])
              clear hgg HBy HB
              obtain ⟨d0, d1, d2⟩ := rt_cells HXR.out
              simp only [Act.put]
              go_cut [152] (fun s152 wx => s152 = .bool (!H) ∧ wy = wx)
              case first =>
                cases p1 with
                | false =>
                  go_wp2_with fail
                  refine (Q1.out).mono ?_
                  rintro e w3 ⟨rfl, rfl⟩
                  go_wp2_with fail
                  go_meet
                  exact ⟨by rw [← HHP.out]; rfl, rfl⟩
                | true =>
                  have hx0 : 0 < x.size := by
                    have := HP1.out
                    unfold plainB at this
                    rw [Bool.and_eq_true, decide_eq_true_eq, bytes_length] at this
                    exact this.2
                  obtain ⟨c, hc⟩ : ∃ c, (x[0]'hx0).toNat = c := ⟨_, rfl⟩
                  have HC := Sl.mk (byte_at hx0 hc)
                  cases p2 with
                  | false =>
                    have hc47 : ¬ c = 47 := fun e => by have := HP2.out; rw [HC.out, decide_eq_true e] at this; cases this
                    have hc1 : ((c : Int) != 47) = true := bne_iff_ne.2 (by omega)
                    clear hc47
                    go_wp2_with fail
                    refine (Q1.out).mono ?_
                    rintro e w3 ⟨rfl, rfl⟩
                    go_wp2_with fail
                    go_meet
                    exact ⟨by rw [← HHP.out]; rfl, rfl⟩
                  | true =>
                    obtain rfl : c = 47 := by have := HP2.out; rw [HC.out] at this; exact of_decide_eq_true this
                    go_wp2_with fail
                    refine (Q1.out).mono ?_
                    rintro e w3 ⟨rfl, rfl⟩
                    cases p3 with
                    | false =>
                      go_wp2_with fail
                      refine (Q3.out).mono ?_
                      rintro e w4 ⟨rfl, rfl⟩
                      go_wp2_with fail
                      go_meet
                      exact ⟨by rw [← HHP.out]; rfl, rfl⟩
                    | true =>
                      go_wp2_with fail
                      refine (Q3.out).mono ?_
                      rintro e w4 ⟨rfl, rfl⟩
                      cases p4 with
                      | true =>
                        obtain ⟨l1, l2, l3⟩ := nil_yes HP4.out
                        go_wp2_with fail
                        go_meet
                        exact ⟨by rw [← HHP.out]; rfl, rfl⟩
                      | false =>
                        obtain ⟨l1, l2, l3⟩ := nil_no HP4.out
                        go_wp2_with fail
                        refine (Q5.out).mono ?_
                        rintro e w5 ⟨rfl, rfl⟩
                        cases p5 <;> (go_wp2_with fail; go_meet; exact ⟨by rw [← HHP.out]; rfl, rfl⟩)
              case rest =>
                obtain ⟨rfl, rfl⟩ := hcut
                clear Q1 Q3 Q5 HHP HP1 HP2 HP4 d0 d1 d2
                obtain ⟨d0, d1, d2⟩ := rt_cells HXR.out
                cases H with
                | false =>
                  have HV : Sl (false = r) := ⟨HNO.out (by rw [okB_head, HH.out]; rfl)⟩
                  go_wp2
                  go_ret
                  exact ⟨ret_bool HV.out, HBz⟩
                | true =>
                  rw [Bool.not_true]
                  go_wp2
                  go_loopw [7] (fun i wr => ∃ m : Nat, m ≤ x.size ∧ i = .int .i64 m ∧ wy = wr ∧ Sl (∀ j, j < m → (bytes x).getD j 0 ≠ 63)) (fun i _ => x.size - (intOf i).toNat)
                  case atStart => exact ⟨0, Nat.zero_le _, rfl, rfl, ⟨fun j hj => by omega⟩⟩
                  case round =>
                    obtain ⟨m, hm, rfl, rfl, HM⟩ := hrel
                    by_cases hmx : m < x.size
                    · have hq2 : ((m : Int) < (x.size : Int)) = True := eq_true (by omega)
                      obtain ⟨c, hc⟩ : ∃ c, (x[m]'hmx).toNat = c := ⟨_, rfl⟩
                      have HC := Sl.mk (byte_at hmx hc)
                      by_cases h63 : c = 63
                      · subst h63
                        have HV : Sl (false = r) := ⟨HNO.out (by rw [okB_head, a_mark hmx HC.out, Bool.not_true, Bool.and_false])⟩
                        go_wp2
                        go_ret
                        exact ⟨ret_bool HV.out, HBz⟩
                      · have h63' : ((c : Int) == 63) = false := beq_eq_false_iff_ne.2 (by omega)
                        have HC6 : Sl (c ≠ 63) := ⟨h63⟩
                        clear h63
                        go_wp2
                        refine ⟨⟨m + 1, by omega, by go_num, trivial, ⟨fun j hj => ?_⟩⟩, by simp [intOf]; omega⟩
                        by_cases e : j = m
                        · subst e; rw [HC.out]; exact HC6.out
                        · exact HM.out j (by omega)
                    · obtain rfl : m = x.size := by omega
                      have hge2 : ((x.size : Int) < (x.size : Int)) = False := eq_false (by omega)
                      have HOKB : Sl (okB ⟨x, y, u⟩ = true) := ⟨by rw [okB_head, HH.out, no_mark HM.out]; rfl⟩
                      clear HM hmx hm
                      go_wp2
                      go_loopw [8] (fun i wr => ∃ m : Nat, m ≤ k ∧ i = .int .i64 m ∧ Sl (Below wy.heap.size wy wr) ∧ Sl (∀ j, j < m → same3 (rs.getD j Rb0).pre (rs.getD j Rb0).pro (rs.getD j Rb0).dst x y u = false)) (fun i _ => k - (intOf i).toNat)
                      case atStart => exact ⟨0, Nat.zero_le _, rfl, ⟨Below.refl _ _⟩, ⟨fun j hj => by omega⟩⟩
                      case round =>
                        clear d0 d1 d2
                        obtain ⟨m, hm, rfl, HB8, HM⟩ := hrel
                        have HX8 := Sl.mk (below_key HXy.out HB8.out)
                        have HR8 := Sl.mk (below_key HXR.out HB8.out)
                        have e0 : wr.cell? ⟨g, 0, none⟩ = some (.slice (some ⟨sb, so, none⟩) n1 c1) := cell_at HX8.out 0 _ rfl
                        have HB9 : Sl (Below g W wr) := ⟨HBz.out.trans (HB8.out.mono HSY.out)⟩
                        by_cases hmk : m < k
                        · have hq3 : ((m : Int) < (k : Int)) = True := eq_true (by omega)
                          have hml : m < rs.length := by omega
                          obtain ⟨x', y', u', hf⟩ : ∃ x y z, rs.getD m Rb0 = ⟨x, y, z⟩ := ⟨_, _, _, rfl⟩
                          have HFJ := Sl.mk hf
                          obtain ⟨q, hq4⟩ : ∃ q, same3 x' y' u' x y u = q := ⟨_, rfl⟩
                          have HQ := Sl.mk hq4
                          have EQ := eq_rt x' y' u' x y u
                          rw [hq4] at EQ
                          have hm4 : (0 : Int) ≤ (m : Int) := by omega
                          have hm5 : (m : Int) < (n1 : Int) := by omega
                          have HVr : Sl (RtsAt wr (.slice (some ⟨sb, so, none⟩) n1 c1) rs) := ⟨HV0.out.below (by rw [HS0.out]; exact HB9.out)⟩
                          clear hf hq4
                          go_upto_region 23 with fail
                          clear e0
                          obtain ⟨Rw, hRw⟩ : ∃ R, wr.drew = R := ⟨_, rfl⟩
                          have HBR : Below wr.heap.size wr Rw := by rw [← hRw]; exact (Below.refl _ _).drew
                          refine wp_region_noPanic ?_
                          refine wp_region_held (S := fun V => Below wr.heap.size wr V) (by kernel_rfl) ?_
                          change wpAnyH _ _ _ _ _ _ _ _ wr.drew
                          rw [hRw]
                          clear hRw
                          refine heldTake (d := some 170) (op := .fieldAddr 25 (Operand.tmp 1) 0) (g := none) 0 ?v0 rfl (by kernel_rfl) (by kernel_rfl) (by kernel_rfl) (by kernel_rfl) ?y0 HBR ?_
                          case y0 => intro o' ho W hS; simp only [execOp, ho]; go_simp; try rfl
                          simp only [Act.put, List.setIfInBounds_toArray, List.set_cons_zero, List.set_cons_succ]
                          refine heldTake (d := some 171) (op := .load 22 (Operand.tmp 170)) (g := none) 1 ?v1 rfl (by kernel_rfl) (by kernel_rfl) (by kernel_rfl) (by kernel_rfl) ?y1 HBR ?_
                          case y1 => intro o' ho W hS; have f0 : W.cell? ⟨g, 0, none⟩ = some (.slice (some ⟨sb, so, none⟩) n1 c1) := cell_at (below_key HX8.out hS) 0 _ rfl; simp only [execOp, ho]; go_simp; try rfl
                          simp only [Act.put, List.setIfInBounds_toArray, List.set_cons_zero, List.set_cons_succ]
                          refine heldTake (d := some 172) (op := .move (Operand.tmp 8)) (g := none) 2 ?v2 rfl (by kernel_rfl) (by kernel_rfl) (by kernel_rfl) (by kernel_rfl) ?y2 HBR ?_
                          case y2 => intro o' ho W hS; simp only [execOp, ho]; go_simp; try rfl
                          simp only [Act.put, List.setIfInBounds_toArray, List.set_cons_zero, List.set_cons_succ]
                          refine heldTake (d := some 173) (op := .indexAddr 22 (Operand.tmp 171) (Operand.tmp 172)) (g := none) 3 ?v3 rfl (by kernel_rfl) (by kernel_rfl) (by kernel_rfl) (by kernel_rfl) ?y3 HBR ?_
                          case y3 => intro o' ho W hS; simp only [execOp, ho]; go_simp; try rfl
                          simp only [Act.put, List.setIfInBounds_toArray, List.set_cons_zero, List.set_cons_succ]
                          refine heldTake (d := some 174) (op := .load 34 (Operand.tmp 173)) (g := none) 4 ?v4 rfl (by kernel_rfl) (by kernel_rfl) (by kernel_rfl) (by kernel_rfl) ?y4 HBR ?_
                          case y4 => intro o' ho W hS; obtain ⟨f0, f1, f2⟩ := (HVr.out.below hS).at3 m hml HFJ.out; simp only [execOp, ho]; go_simp; try rfl
                          simp only [Act.put, List.setIfInBounds_toArray, List.set_cons_zero, List.set_cons_succ]
                          refine heldTake (d := some 175) (op := .load 34 (Operand.tmp 6)) (g := none) 5 ?v5 rfl (by kernel_rfl) (by kernel_rfl) (by kernel_rfl) (by kernel_rfl) ?y5 HBR ?_
                          case y5 => intro o' ho W hS; obtain ⟨f0, f1, f2⟩ := rt_cells (below_key HR8.out hS); simp only [execOp, ho]; go_simp; try rfl
                          simp only [Act.put, List.setIfInBounds_toArray, List.set_cons_zero, List.set_cons_succ]
                          refine heldTake (d := some 176) (op := .binOp BinOp.eql 34 (Operand.tmp 174) (Operand.tmp 175) 34) (g := none) 6 (.bool q) rfl (by kernel_rfl) (by kernel_rfl) (by kernel_rfl) (by kernel_rfl) ?y6 HBR ?_
                          case y6 => intro o' ho W hS; exact by simp only [execOp, ho]; go_simp; first | done | simp [binOp, Op.equal, Op.maxDepth, EQ W]
                          simp only [Act.put, List.setIfInBounds_toArray, List.set_cons_zero, List.set_cons_succ]
                          refine wpAnyH_done (by kernel_rfl) ?_ _
                          refine NoPanic.normal ?_
                          have HBQ : Sl (Below wy.heap.size wy Rw) := ⟨HB8.out.trans (HBR.mono HB8.out.size)⟩
                          have HBV : Sl (Below g W Rw) := ⟨HBz.out.trans (HBQ.out.mono HSY.out)⟩
                          cases q with
                          | true =>
                            have HV : Sl (false = r) := ⟨by
                              rw [← HG.out, good_no (k := k) hkl]
                              unfold okAt
                              rw [HE.out, oneOf_hit (l := rs.take k) (k := m) (by rw [List.length_take]; omega), Bool.not_true, Bool.and_false]
                              rw [show (rs.take k).getD m Rb0 = rs.getD m Rb0 from by rw [List.getD_eq_getElem?_getD, List.getD_eq_getElem?_getD, List.getElem?_take_of_lt hmk], HFJ.out]
                              exact HQ.out⟩
                            go_wp2
                            go_ret
                            exact ⟨ret_bool HV.out, HBV⟩
                          | false =>
                            go_wp2
                            refine ⟨⟨m + 1, by omega, by go_num, HBQ, ⟨fun j hj => ?_⟩⟩, by simp [intOf]; omega⟩
                            by_cases e : j = m
                            · subst e; rw [HFJ.out]; exact HQ.out
                            · exact HM.out j (by omega)
                        · obtain rfl : m = k := by omega
                          have hge3 : ((m : Int) < (m : Int)) = False := eq_false (by omega)
                          have HAT : Sl (okAt rs m = true) := ⟨by
                            unfold okAt
                            rw [HE.out, HOKB.out, oneOf_miss (fun j hj => ?_)]; rfl
                            rw [List.length_take] at hj
                            rw [show (rs.take m).getD j Rb0 = rs.getD j Rb0 from by rw [List.getD_eq_getElem?_getD, List.getD_eq_getElem?_getD, List.getElem?_take_of_lt (by omega)]]
                            exact HM.out j (by omega)⟩
                          go_wp2
                          refine ⟨⟨m + 1, by omega, by go_num, HB9, HX8, ⟨fun j hj => ?_⟩⟩, by simp [intOf]; omega⟩
                          by_cases e : j = m
                          · subst e; exact HAT.out
                          · exact HA.out j (by omega)
            · obtain rfl : k = n1 := by omega
              have hge : ((k : Int) < (k : Int)) = False := eq_false (by omega)
              have HV : Sl (true = r) := ⟨by rw [← HG.out, good_yes (fun j hj => HA.out j (by rw [HN1.out]; exact hj)) (fun j hj => HTM.out j hj)]⟩
              go_wp2
              go_ret
              exact ⟨ret_bool HV.out, HB⟩
end Go.Proofs.YtdndpicfnlcgjaaDoor.Rou
