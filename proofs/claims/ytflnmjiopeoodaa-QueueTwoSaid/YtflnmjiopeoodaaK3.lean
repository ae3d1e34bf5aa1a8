/- QueueTwo's walk. -/
import Derived.Test.YtflnmjiopeoodaaQI
set_option maxRecDepth 100000
namespace Go.Proofs.Ytflnmjiopeoodaa.Que
open Go.RowKit Evt QueuePlain
open MsgPlain (Ev)

/-- Two queues side by side. -/
structure Pair (w0 W : World) (a : Nat) (va : Value) (ca ba : Int) (la : List Ev) (b : Nat) (vb : Value) (cb bb : Int) (lb : List Ev) : Prop where
  one : Qu w0 W a va ca ba la
  two : Qu w0 W b vb cb bb lb
  ap : ∀ k, Mine a va k → ¬ Mine b vb k
section
variable {w0 W W' : World} {a b : Nat} {va vb v' : Value} {ca ba cb bb : Int} {la lb l' : List Ev}
theorem Pair.below (h : Pair w0 W a va ca ba la b vb cb bb lb) (k : Below W.heap.size W W') : Pair w0 W' a va ca ba la b vb cb bb lb := ⟨h.one.below k, h.two.below k, h.ap⟩
theorem Pair.new (h : Qu w0 W a va ca ba la) (k : Below W.heap.size W W') (h2 : Qu w0 W' W.heap.size (.slice none 0 0) cb bb lb) : Pair w0 W' a va ca ba la W.heap.size (.slice none 0 0) cb bb lb :=
  ⟨h.below k, h2, fun j h3 h4 => by
    have := (h.N.own h3).2
    rcases h4 with h4 | h4
    · omega
    · cases h4⟩
theorem Pair.goA (h : Pair w0 W a va ca ba la b vb cb bb lb) (h2 : Qu w0 W' a v' ca ba l') (g : Goes W W' a va v') : Pair w0 W' a v' ca ba l' b vb cb bb lb :=
  ⟨h2, h.two.stay g.kept (fun k hk e => h.ap k e hk) h2.N.L, fun k hk e => by
    rcases g.mine k hk with h1 | h1
    · exact h.ap k h1 e
    · have := (h.two.N.own e).2; omega⟩
theorem Pair.goB (h : Pair w0 W a va ca ba la b vb cb bb lb) (h2 : Qu w0 W' b v' cb bb l') (g : Goes W W' b vb v') : Pair w0 W' a va ca ba la b v' cb bb l' :=
  ⟨h.one.stay g.kept (fun k hk e => h.ap k hk e) h2.N.L, h2, fun k hk e => by
    rcases g.mine k e with h1 | h1
    · exact h.ap k hk h1
    · have := (h.one.N.own hk).2; omega⟩
end
theorem hd_parts {w0 W : World} {q : Nat} {v : Value} {c b : Int} {l : List Ev} (_h : Qu w0 W q v c b l) : ∃ o k s, evV (hd l) = .agg #[.int .i64 o, .int .i64 k, .string s] := ⟨_, _, _, rfl⟩
set_option maxHeartbeats 16000000 in
theorem two_walk (v : Value) (l : List Ev) (w : World) (hv : EvsAt w v l) (ok : ∀ e ∈ l, EvOk e) (ml : l.length ≤ maxLen) : Calls Try.prog 6 #[v] w fun e w' => e = .returned (.bool true) ∧ Below w.heap.size w w' := by
  have N1 := new_yes w w 5 100 (by omega) (Below.refl _ _)
  obtain ⟨q, hq⟩ : ∃ q, w.heap.size = q := ⟨_, rfl⟩
  have HQQ := Sl.mk hq
  obtain ⟨a, cap, rfl⟩ := hv.slice
  have HV := Sl.mk hv
  have HOK := Sl.mk ok
  obtain ⟨n, hn⟩ : ∃ n, l.length = n := ⟨_, rfl⟩
  have HN := Sl.mk hn
  rw [hn] at HV ml ⊢
  have hn9 : n ≤ 9223372036854775807 := by unfold maxLen at ml; omega
  clear hv ok hn ml
  by_cases hgt : n > 30
  · have hq30 : ((n : Int) > 30) = True := eq_true (by omega)
    go_enter Try.func6, Try.ntmps6
    go_wp2_with fail
    refine N1.mono ?_
    rintro e w1 ⟨rfl, HQ1, HB1⟩
    clear N1
    rw [hq] at HQ1 ⊢
    have N2 := new_yes w w1 3 50 (by omega) HQ1.out.N.L
    go_wp2_with fail
    refine N2.mono ?_
    rintro e w2 ⟨rfl, HQ2, HB2⟩
    clear N2
    have HP2 := Sl.mk (Pair.new HQ1.out HB2.out HQ2.out)
    obtain ⟨p, hp⟩ : ∃ p, w1.heap.size = p := ⟨_, rfl⟩
    rw [hp] at HP2 ⊢
    clear HQ1 HB1 HQ2 HB2 hp hq
    have A1 := awake_any w2
    go_wp2_with fail
    refine A1.mono ?_
    rintro e w3 ⟨rfl, HB3⟩
    clear A1
    have HP := Sl.mk (HP2.out.below HB3.out)
    clear HP2 HB3
    have A2 := awake_below w w3 HP.out.one.N.L
    go_wp2_with fail
    refine A2.mono ?_
    rintro e w4 ⟨rfl, HB4⟩
    clear A2
    go_wp2
    go_ret
    exact ⟨rfl, HB4.out⟩
  have hq30 : ((n : Int) > 30) = False := eq_false (by omega)
  go_enter Try.func6, Try.ntmps6
  go_wp2_with fail
  refine N1.mono ?_
  rintro e w1 ⟨rfl, HQ1, HB1⟩
  clear N1
  rw [hq] at HQ1 ⊢
  have N2 := new_yes w w1 3 50 (by omega) HQ1.out.N.L
  go_wp2_with fail
  refine N2.mono ?_
  rintro e w2 ⟨rfl, HQ2, HB2⟩
  clear N2
  have HP2 := Sl.mk (Pair.new HQ1.out HB2.out HQ2.out)
  obtain ⟨p, hp⟩ : ∃ p, w1.heap.size = p := ⟨_, rfl⟩
  rw [hp] at HP2 ⊢
  clear HQ1 HB1 HQ2 HB2 hp hq
  have A1 := awake_any w2
  go_wp2_with fail
  refine A1.mono ?_
  rintro e w3 ⟨rfl, HB3⟩
  clear A1
  have HP := Sl.mk (HP2.out.below HB3.out)
  clear HP2 HB3
  go_wp2
  go_loopw [7] (fun i wr => ∃ (k : Nat) (va vb : Value) (la lb : List Ev), i = .int .i64 (k : Int) ∧ k ≤ n ∧ Sl (Pair w wr q va 5 100 la p vb 3 50 lb)) (fun i _ => n - (intOf i).toNat)
  case atStart => exact ⟨0, _, _, _, _, rfl, Nat.zero_le _, HP⟩
  case round =>
    clear HP
    obtain ⟨k, va, vb, la, lb, rfl, hk, HP⟩ := hrel
    by_cases hkn : k < n
    · have hlt : ((k : Int) < (n : Int)) = True := eq_true (by omega)
      have hkl : k < l.length := by rw [HN.out]; exact hkn
      obtain ⟨sb, so, rfl⟩ := HV.out.cap.2.2 (by omega)
      obtain ⟨o, c, s, he⟩ := ev_parts HOK.out k hkl
      obtain ⟨c0, c1, c2⟩ := ev_cells_at (HV.out.below HP.out.one.N.L) k hkl he
      by_cases h3 : s.size > 300
      · have hq3 : ((s.size : Int) > 300) = True := eq_true (by omega)
        clear he
        go_wp2
        go_ret
        exact ⟨rfl, HP.out.one.N.L⟩
      · have hq3 : ((s.size : Int) > 300) = False := eq_false (by omega)
        have hs300 : s.size ≤ 300 := by omega
        have HE := Sl.mk he
        obtain ⟨la1, r1, hp1⟩ : ∃ l1 r1, put 5 100 la ⟨o, c, bytes s⟩ = (l1, r1) := ⟨_, _, rfl⟩
        obtain ⟨lb1, r2, hp2⟩ : ∃ l1 r1, put 3 50 lb ⟨o, c, bytes s⟩ = (l1, r1) := ⟨_, _, rfl⟩
        have HP2 := Sl.mk hp2
        have P := put_any o c s r1 HP.out.one (by omega) hp1
        obtain ⟨nb, hnb⟩ : ∃ nb, lb.length = nb := ⟨_, rfl⟩
        obtain ⟨zb, hzb⟩ : ∃ zb, size lb = zb := ⟨_, rfl⟩
        have HNB := Sl.mk hnb
        have HZB := Sl.mk hzb
        have LB := len_any HNB.out HP.out.two.N
        have SB := size_any HP.out.two.N
        rw [hzb] at SB
        clear he hp1 hp2 h3 hnb hzb
        go_wp2_with fail
        refine LB.mono ?_
        rintro e w4 ⟨rfl, rfl⟩
        clear LB
        go_wp2_with fail
        refine SB.mono ?_
        rintro e w4 ⟨rfl, rfl⟩
        clear SB
        go_wp2_with fail
        refine P.mono ?_
        rintro e w5 ⟨v5, rfl, HQ5, HG5⟩
        clear P
        have HP5 := Sl.mk (HP.out.goA HQ5.out HG5.out)
        clear HQ5 HG5 HP c0 c1 c2
        obtain ⟨o2, k2, s2, hx⟩ := hd_parts HP5.out.one
        have HX := Sl.mk hx
        obtain ⟨b, hb⟩ : ∃ b, (!la1.isEmpty) = b := ⟨_, rfl⟩
        have HB := Sl.mk hb
        obtain ⟨na, hna⟩ : ∃ na, la1.length = na := ⟨_, rfl⟩
        have HNA := Sl.mk hna
        have hbn : b = decide (0 < na) := by rw [← hb, ← hna]; cases la1 <;> simp
        have K1 := peek_any o2 k2 s2 b HP5.out.one HX.out HB.out
        clear hx hb hna
        go_wp2_with fail
        refine K1.mono ?_
        rintro e w6 ⟨rfl, HB6⟩
        clear K1
        have HP6 := Sl.mk (HP5.out.below HB6.out)
        clear HP5 HB6
        obtain ⟨w70, hww70, HBw70, hbw70⟩ := box_ev w6
        obtain ⟨w7, hww7, HBw7, HCw7⟩ := set_ev hbw70 HBw70.out (Nat.le_refl _) #[.int .i64 o2, .int .i64 k2, .string s2]
        have HIw7 : (Try.prog.info? 32).map (·.size) = some (#[Value.int .i64 o2, .int .i64 k2, .string s2]).size := ev_info rfl
        go_upto_region 13 with (refine wpList_store_row rfl 32 (.tmp 10) (.tmp 72) rfl w6.heap.size #[.int .i64 o2, .int .i64 k2, .string s2] rfl rfl 32 #[.int .i64 0, .int .i64 0, .string { data := #[] }] hbw70 HIw7 rfl (ev_all _ _ _) ?_)
        (try rw [hww7])
        clear hww70 hww7 hbw70 HBw70 HIw7
        have HP7 := Sl.mk (HP6.out.below HBw7.out)
        clear HP6 HBw7
        obtain ⟨x, hx⟩ : ∃ x, w6.heap.size = x := ⟨_, rfl⟩
        rw [hx] at HCw7 ⊢
        clear hx
        have K2 := peek_any o2 k2 s2 b HP7.out.one HX.out HB.out
        go_wp2_with fail
        refine K2.mono ?_
        rintro e w8 ⟨rfl, HB8⟩
        clear K2
        have HP8 := Sl.mk (HP7.out.below HB8.out)
        have HC8 := Sl.mk (below_key HCw7.out HB8.out)
        clear HP7 HB8 HCw7
        obtain ⟨w90, hww90, HBw90, hbw90⟩ := box_ev w8
        obtain ⟨w9, hww9, HBw9, HCw9⟩ := set_ev hbw90 HBw90.out (Nat.le_refl _) #[.int .i64 o2, .int .i64 k2, .string s2]
        have HIw9 : (Try.prog.info? 32).map (·.size) = some (#[Value.int .i64 o2, .int .i64 k2, .string s2]).size := ev_info rfl
        go_upto_region 14 with (refine wpList_store_row rfl 32 (.tmp 12) (.tmp 77) rfl w8.heap.size #[.int .i64 o2, .int .i64 k2, .string s2] rfl rfl 32 #[.int .i64 0, .int .i64 0, .string { data := #[] }] hbw90 HIw9 rfl (ev_all _ _ _) ?_)
        (try rw [hww9])
        clear hww90 hww9 hbw90 HBw90 HIw9
        have HP9 := Sl.mk (HP8.out.below HBw9.out)
        have HC9 := Sl.mk (below_key HC8.out HBw9.out)
        clear HP8 HBw9 HC8
        obtain ⟨y, hy⟩ : ∃ y, w8.heap.size = y := ⟨_, rfl⟩
        rw [hy] at HCw9 ⊢
        clear hy
        have LB := len_any HNB.out HP9.out.two.N
        have SB := size_any HP9.out.two.N
        rw [HZB.out] at SB
        have LA := len_any HNA.out HP9.out.one.N
        obtain ⟨d0, d1, d2⟩ := ev_cells HC9.out
        obtain ⟨e0, e1, e2⟩ := ev_cells HCw9.out
        have hs := ev_same o2 k2 s2
        have hnz : ((nb : Int) != (nb : Int)) = false := by simp
        have hzz : ((zb : Int) != (zb : Int)) = false := by simp
        have hl5 := HP9.out.one.most.1
        rw [HNA.out] at hl5
        have hk9 : k ≤ 9223372036854775807 := by omega
        obtain ⟨f0, f1, f2⟩ := ev_cells_at (HV.out.below HP9.out.one.N.L) k hkl HE.out
        cases b with
        | true =>
          have hna1 : 0 < na := by simpa using hbn.symm
          have hna0 : ((na : Int) > 0) = True := eq_true (by omega)
          clear hbn
          go_wp2_with fail
          refine LB.mono ?_
          rintro e w10 ⟨rfl, rfl⟩
          clear LB
          go_wp2_with fail
          refine SB.mono ?_
          rintro e w10 ⟨rfl, rfl⟩
          clear SB
          go_wp2_with fail
          refine LA.mono ?_
          rintro e w10 ⟨rfl, rfl⟩
          clear LA
          clear d0 d1 d2 e0 e1 e2
          by_cases hm : k % 3 = 2
          · have hm1 : (k : Int) % 3 = 2 := by omega
            have hm2 : (k : Int).tmod 3 = 2 := by rw [Int.tmod_eq_emod_of_nonneg (by omega)]; exact hm1
            have P := put_any o c s r2 HP9.out.two (by omega) HP2.out
            go_wp2_with fail
            refine P.mono ?_
            rintro e w11 ⟨v11, rfl, HQ11, HG11⟩
            clear P
            have HP11 := Sl.mk (HP9.out.goB HQ11.out HG11.out)
            have T := take_any o2 k2 s2 _ HP11.out.one HX.out HB.out
            clear HQ11 HG11 f0 f1 f2
            go_wp2_with fail
            refine T.mono ?_
            rintro e w12 ⟨v12, rfl, HQ12, HG12⟩
            clear T
            have HP12 := Sl.mk (HP11.out.goA HQ12.out HG12.out)
            clear HQ12 HG12
            go_wp2
            exact ⟨⟨k + 1, _, _, _, _, by go_num, by omega, HP12⟩, by simp [intOf]; omega⟩
          · have hm1 : ¬ (k : Int) % 3 = 2 := by omega
            have hm2 : ((k : Int).tmod 3 == 2) = false := by rw [Int.tmod_eq_emod_of_nonneg (by omega)]; simpa using hm1
            go_wp2
            exact ⟨⟨k + 1, _, _, _, _, by go_num, by omega, HP9⟩, by simp [intOf]; omega⟩
        | false =>
          have hna1 : ¬ 0 < na := by simpa using hbn.symm
          have hna0 : ((na : Int) > 0) = False := eq_false (by omega)
          clear hbn
          go_wp2_with fail
          refine LB.mono ?_
          rintro e w10 ⟨rfl, rfl⟩
          clear LB
          go_wp2_with fail
          refine SB.mono ?_
          rintro e w10 ⟨rfl, rfl⟩
          clear SB
          go_wp2_with fail
          refine LA.mono ?_
          rintro e w10 ⟨rfl, rfl⟩
          clear LA
          clear d0 d1 d2 e0 e1 e2
          by_cases hm : k % 3 = 2
          · have hm1 : (k : Int) % 3 = 2 := by omega
            have hm2 : (k : Int).tmod 3 = 2 := by rw [Int.tmod_eq_emod_of_nonneg (by omega)]; exact hm1
            have P := put_any o c s r2 HP9.out.two (by omega) HP2.out
            go_wp2_with fail
            refine P.mono ?_
            rintro e w11 ⟨v11, rfl, HQ11, HG11⟩
            clear P
            have HP11 := Sl.mk (HP9.out.goB HQ11.out HG11.out)
            have T := take_any o2 k2 s2 _ HP11.out.one HX.out HB.out
            clear HQ11 HG11 f0 f1 f2
            go_wp2_with fail
            refine T.mono ?_
            rintro e w12 ⟨v12, rfl, HQ12, HG12⟩
            clear T
            have HP12 := Sl.mk (HP11.out.goA HQ12.out HG12.out)
            clear HQ12 HG12
            go_wp2
            exact ⟨⟨k + 1, _, _, _, _, by go_num, by omega, HP12⟩, by simp [intOf]; omega⟩
          · have hm1 : ¬ (k : Int) % 3 = 2 := by omega
            have hm2 : ((k : Int).tmod 3 == 2) = false := by rw [Int.tmod_eq_emod_of_nonneg (by omega)]; simpa using hm1
            go_wp2
            exact ⟨⟨k + 1, _, _, _, _, by go_num, by omega, HP9⟩, by simp [intOf]; omega⟩
    · obtain rfl : k = n := by omega
      have hlt : ((k : Int) < (k : Int)) = False := eq_false (by omega)
      go_wp2
      go_ret
      exact ⟨rfl, HP.out.one.N.L⟩
end Go.Proofs.Ytflnmjiopeoodaa.Que
