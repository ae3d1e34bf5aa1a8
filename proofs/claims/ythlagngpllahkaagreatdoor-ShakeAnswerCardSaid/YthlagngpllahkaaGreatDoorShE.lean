/- The contract of the document's Of: its answer is the text of the sum's 20 bytes; nothing that was in memory changes. Condition: at most 300 bytes. -/
import Derived.Test.YthlagngpllahkaaGreatDoorShD
set_option maxRecDepth 100000
namespace Go.Proofs.YthlagngpllahkaaGreatDoor.Sha
open Go.RowKit

set_option maxRecDepth 100000 in
set_option maxHeartbeats 0 in
theorem ref_any (a : ByteArray) (w : World) (hL : a.size ≤ 400) :
    Calls Tryz.prog 48 #[.string a] w fun e w' => ∃ s, e = .returned (.string s) ∧ Sl (s = strOf (told (feed st0 (bytes a)))) ∧ Sl (Below w.heap.size w w') := by
  obtain ⟨v1, w1, hc1, HR1, HB1⟩ := conv_br a w
  obtain ⟨bs, hbs⟩ : ∃ bs, bs = bytes a := ⟨_, rfl⟩
  have HBS := Sl.mk hbs
  have HLB : Sl (bs.length = a.size) := ⟨by rw [hbs, bytes_length]⟩
  rw [← hbs] at HR1 ⊢
  clear hbs
  have HR1a : Sl (BR w.heap.size (w1.alloc (.cells #[.int .u8 128] 5)) v1 bs) := ⟨HR1.out.alloc _⟩
  obtain ⟨v2, w2, happ2, HR2, HB2⟩ := app_bytes HR1a.out 128 ⟨w1.heap.size, 0, none⟩ 1 (new_one w1 _ 5) (by rw [HLB.out]; omega) (by rw [alloc_size]; have := HB1.out.size; omega)
  have HB02 : Sl (Below w.heap.size w w2) := ⟨(HB1.out.alloc HB1.out.size _).trans HB2.out⟩
  clear HR1 HB1 HB2 HR1a
  go_enter Tryz.func48, Tryz.ntmps48
  go_wp2_with (at_builtin; refine wpList_app rfl (.tmp 23) (.tmp 24) 53 53 rfl rfl v1 v2 ⟨w1.heap.size, 0, none⟩ 1 1 w2 rfl rfl happ2 ?_)
  clear hc1 happ2
  go_wp2
  go_loopw [3] (fun v wr => ∃ n : Nat, n ≤ nought a.size ∧ BR w.heap.size wr v (bs ++ 128 :: zs n) ∧ Below w.heap.size w wr) (fun v _ => 1000 - lenOf v)
  case atStart => exact ⟨0, by omega, HR2.out, HB02.out⟩
  case round =>
    clear HR2 HB02
    obtain ⟨n, hn, hbr, hb⟩ := hrel
    obtain ⟨g, cap, rfl, _⟩ := id hbr
    have HR := Sl.mk hbr
    have HB := Sl.mk hb
    clear hbr hb
    have hlen : (bs ++ 128 :: zs n).length = a.size + 1 + n := by simp [HLB.out, zs_length]; omega
    rw [hlen]
    have hn64 : n < 64 := by unfold nought at hn; omega
    by_cases hd : (a.size + 1 + n) % 64 = 56
    · have hn' := pad_done _ _ hn hd
      obtain ⟨pre, hpre⟩ : ∃ pre, pre = bs ++ 128 :: zs n := ⟨_, rfl⟩
      rw [← hpre] at HR
      have HPRE : Sl (pre = bs ++ 128 :: zs (nought a.size)) := ⟨by rw [hpre, hn']⟩
      have hpl : pre.length = a.size + 1 + n := by rw [hpre]; exact hlen
      have HPL := Sl.mk hpl
      clear hpre hn' hlen hpl
      go_wp2
      go_loopw [3, 5] (fun v i wr => ∃ k : Nat, k ≤ 8 ∧ i = .int .i64 (7 - (k : Int)) ∧ BR w.heap.size wr v (pre ++ beTo (a.size * 8) k) ∧ Below w.heap.size w wr) (fun _ i _ => (intOf i + 1).toNat)
      case atStart => exact ⟨0, by omega, rfl, by have := HR.out; rw [HPL.out] at this; simpa [beTo] using this, HB.out⟩
      case round =>
        clear HR HB
        obtain ⟨k, hk, rfl, hbr, hb⟩ := hrel
        have HR := Sl.mk hbr
        have HB := Sl.mk hb
        clear hbr hb
        by_cases hlt : k < 8
        · go_wp2
          go_loop [6, 7] (fun x i => ∃ j q : Nat, j ≤ 7 - k ∧ i = .int .i64 j ∧ x = .int .i64 q ∧ q = a.size * 8 / 256 ^ j) (fun _ i => 8 - (intOf i).toNat)
          case atStart => exact ⟨0, a.size * 8, by omega, rfl, by simp; omega, by simp⟩
          case round =>
            obtain ⟨j, q, hj, rfl, rfl, hq⟩ := hrel
            have HQ := Sl.mk hq
            have hql : q ≤ 3200 := by rw [hq]; exact Nat.le_trans (Nat.div_le_self _ _) (by omega)
            clear hq
            by_cases hlt2 : j < 7 - k
            · have HQ2 : Sl (q / 256 = a.size * 8 / 256 ^ (j + 1)) := ⟨by rw [HQ.out, Nat.div_div_eq_div_mul, Nat.pow_succ]⟩
              have p1 : (j : Int) < 7 - (k : Int) := by omega
              go_wp2
              go_round
              case rel => exact ⟨j + 1, q / 256, by omega, by go_num, by simp, HQ2.out⟩
              case measure => simp [intOf]; omega
            · have hj' : j = 7 - k := by omega
              have p1 : ¬ (j : Int) < 7 - (k : Int) := by omega
              have HB8 : Sl (beTo (a.size * 8) (k + 1) = beTo (a.size * 8) k ++ [q % 256]) := ⟨by rw [be_step, HQ.out, hj']⟩
              have hv8 : v8 (q % 256) = .int .u8 ((q : Int) % 256) := by simp [v8]
              have HRa : Sl (BR w.heap.size (wr.alloc (.cells #[.int .u8 ((q : Int) % 256)] 5)) u3 (pre ++ beTo (a.size * 8) k)) := ⟨HR.out.alloc _⟩
              obtain ⟨v2, w2, happ2, HR2, HB2⟩ := app_bytes HRa.out (q % 256) ⟨wr.heap.size, 0, none⟩ 1 (by rw [hv8]; exact new_one wr _ 5) (by simp [HPL.out, beTo_length]; omega) (by rw [alloc_size]; have := HB.out.size; omega)
              have HB02 : Sl (Below w.heap.size w w2) := ⟨(HB.out.alloc HB.out.size _).trans HB2.out⟩
              have HR3 : Sl (BR w.heap.size w2 v2 (pre ++ beTo (a.size * 8) (k + 1))) := ⟨by have := HR2.out; rw [HB8.out]; simpa using this⟩
              clear HR HB HRa HB2 HR2 hv8 HQ hj'
              go_wp2_with (at_builtin; refine wpList_app rfl (.tmp 48) (.tmp 52) 53 53 rfl rfl _ v2 ⟨wr.heap.size, 0, none⟩ 1 1 w2 rfl rfl happ2 ?_)
              clear happ2
              go_wp2
              go_roundw
              case rel => exact ⟨k + 1, by omega, by go_num, HR3.out, HB02.out⟩
              case measure => simp [intOf]; omega
        · have hk8 : k = 8 := by omega
          subst hk8
          obtain ⟨P, hP⟩ : ∃ P, P = pre ++ beTo (a.size * 8) 8 := ⟨_, rfl⟩
          rw [← hP] at HR
          have HP : Sl (P = bs ++ endOf bs.length) := ⟨by rw [hP, HPRE.out, HLB.out]; simp [endOf]⟩
          obtain ⟨N, hN⟩ : ∃ N, N = (a.size + 1 + n + 8) / 64 := ⟨_, rfl⟩
          have hPN : P.length = 64 * N := by rw [hP, List.length_append, HPL.out, beTo_length]; omega
          have hN8 : N ≤ 8 := by omega
          have HSM : Sl (Small 256 P) := ⟨by rw [HP.out]; exact Small.append (by decide) (by rw [HBS.out]; exact bytes_small a) (endOf_small _)⟩
          clear hP HPRE HPL hN hd hn hn64 hlt
          obtain ⟨gb, cb, rfl, hgb, hgb2, hcb, hrb, _⟩ := HR.out
          have HRB := Sl.mk hrb
          clear HR hrb
          rw [hPN] at hcb ⊢
          go_wp2_with fail
          refine (word_ex 1732584193 _ _ rfl (by decide)).mono ?_
          rintro e q0 ⟨x0, rfl, HX0, HQ0⟩
          obtain ⟨p0a, r0a, hx, _⟩ := HX0.out
          subst hx
          go_wp2_with fail
          refine (word_ex 4023233417 _ _ rfl (by decide)).mono ?_
          rintro e q1 ⟨x1, rfl, HX1, HQ1⟩
          obtain ⟨p1a, r1a, hx, _⟩ := HX1.out
          subst hx
          go_wp2_with fail
          refine (word_ex 2562383102 _ _ rfl (by decide)).mono ?_
          rintro e q2 ⟨x2, rfl, HX2, HQ2⟩
          obtain ⟨p2a, r2a, hx, _⟩ := HX2.out
          subst hx
          go_wp2_with fail
          refine (word_ex 271733878 _ _ rfl (by decide)).mono ?_
          rintro e q3 ⟨x3, rfl, HX3, HQ3⟩
          obtain ⟨p3a, r3a, hx, _⟩ := HX3.out
          subst hx
          go_wp2_with fail
          refine (word_ex 3285377520 _ _ rfl (by decide)).mono ?_
          rintro e q4 ⟨x4, rfl, HX4, HQ4⟩
          obtain ⟨p4a, r4a, hx, _⟩ := HX4.out
          subst hx
          have C3 : Sl (Below q2.heap.size q2 q4) := ⟨HQ3.out.trans (HQ4.out.mono HQ3.out.size)⟩
          have C2 : Sl (Below q1.heap.size q1 q4) := ⟨HQ2.out.trans (C3.out.mono HQ2.out.size)⟩
          have C1 : Sl (Below q0.heap.size q0 q4) := ⟨HQ1.out.trans (C2.out.mono HQ1.out.size)⟩
          have C0 : Sl (Below wr.heap.size wr q4) := ⟨HQ0.out.trans (C1.out.mono HQ0.out.size)⟩
          have HH := Sl.mk (row_new (vs := [.slice (some ⟨p0a, 0, none⟩) 32 r0a, .slice (some ⟨p1a, 0, none⟩) 32 r1a, .slice (some ⟨p2a, 0, none⟩) 32 r2a, .slice (some ⟨p3a, 0, none⟩) 32 r3a, .slice (some ⟨p4a, 0, none⟩) 32 r4a]) (ns := start) rfl (bits5 (HX0.out.below C1.out) (HX1.out.below C2.out) (HX2.out.below C3.out) (HX3.out.below HQ4.out) HX4.out))
          have C5 : Sl (Below wr.heap.size wr (q4.alloc (.cells [.slice (some ⟨p0a, 0, none⟩) 32 r0a, .slice (some ⟨p1a, 0, none⟩) 32 r1a, .slice (some ⟨p2a, 0, none⟩) 32 r2a, .slice (some ⟨p3a, 0, none⟩) 32 r3a, .slice (some ⟨p4a, 0, none⟩) 32 r4a].toArray 79))) := ⟨C0.out.alloc C0.out.size _⟩
          have HZ5 : Sl (q4.heap.size < (q4.alloc (.cells [.slice (some ⟨p0a, 0, none⟩) 32 r0a, .slice (some ⟨p1a, 0, none⟩) 32 r1a, .slice (some ⟨p2a, 0, none⟩) 32 r2a, .slice (some ⟨p3a, 0, none⟩) 32 r3a, .slice (some ⟨p4a, 0, none⟩) 32 r4a].toArray 79)).heap.size ∧ wr.heap.size ≤ q4.heap.size) := ⟨by rw [alloc_size]; omega, C0.out.size⟩
          clear HX0 HX1 HX2 HX3 HX4 HQ0 HQ1 HQ2 HQ3 HQ4 C0 C1 C2 C3
          go_wp2_with fail
          generalize World.alloc _ _ = w5 at HH C5 HZ5 ⊢
          generalize q4.heap.size = gh at HH HZ5 ⊢
          refine (word_ex 1518500249 _ _ rfl (by decide)).mono ?_
          rintro e q0 ⟨x0, rfl, HX0, HQ0⟩
          obtain ⟨p0b, r0b, hx, _⟩ := HX0.out
          subst hx
          go_wp2_with fail
          refine (word_ex 1859775393 _ _ rfl (by decide)).mono ?_
          rintro e q1 ⟨x1, rfl, HX1, HQ1⟩
          obtain ⟨p1b, r1b, hx, _⟩ := HX1.out
          subst hx
          go_wp2_with fail
          refine (word_ex 2400959708 _ _ rfl (by decide)).mono ?_
          rintro e q2 ⟨x2, rfl, HX2, HQ2⟩
          obtain ⟨p2b, r2b, hx, _⟩ := HX2.out
          subst hx
          go_wp2_with fail
          refine (word_ex 3395469782 _ _ rfl (by decide)).mono ?_
          rintro e q3 ⟨x3, rfl, HX3, HQ3⟩
          obtain ⟨p3b, r3b, hx, _⟩ := HX3.out
          subst hx
          have C2 : Sl (Below q1.heap.size q1 q3) := ⟨HQ2.out.trans (HQ3.out.mono HQ2.out.size)⟩
          have C1 : Sl (Below q0.heap.size q0 q3) := ⟨HQ1.out.trans (C2.out.mono HQ1.out.size)⟩
          have C0 : Sl (Below w5.heap.size w5 q3) := ⟨HQ0.out.trans (C1.out.mono HQ0.out.size)⟩
          have HK := Sl.mk (row_new (vs := [.slice (some ⟨p0b, 0, none⟩) 32 r0b, .slice (some ⟨p1b, 0, none⟩) 32 r1b, .slice (some ⟨p2b, 0, none⟩) 32 r2b, .slice (some ⟨p3b, 0, none⟩) 32 r3b]) (ns := ks) rfl (bits4 (HX0.out.below C1.out) (HX1.out.below C2.out) (HX2.out.below HQ3.out) HX3.out))
          have CH0 : Sl (CH w gb gh q3.heap.size P (hsAt P 0) (q3.alloc (.cells [.slice (some ⟨p0b, 0, none⟩) 32 r0b, .slice (some ⟨p1b, 0, none⟩) 32 r1b, .slice (some ⟨p2b, 0, none⟩) 32 r2b, .slice (some ⟨p3b, 0, none⟩) 32 r3b].toArray 79))) := ⟨by
            have c6 : Below w5.heap.size w5 (q3.alloc (.cells [.slice (some ⟨p0b, 0, none⟩) 32 r0b, .slice (some ⟨p1b, 0, none⟩) 32 r1b, .slice (some ⟨p2b, 0, none⟩) 32 r2b, .slice (some ⟨p3b, 0, none⟩) 32 r3b].toArray 79)) := C0.out.alloc C0.out.size _
            have c7 : Below wr.heap.size wr (q3.alloc (.cells [.slice (some ⟨p0b, 0, none⟩) 32 r0b, .slice (some ⟨p1b, 0, none⟩) 32 r1b, .slice (some ⟨p2b, 0, none⟩) 32 r2b, .slice (some ⟨p3b, 0, none⟩) 32 r3b].toArray 79)) := C5.out.trans (c6.mono C5.out.size)
            have z1 := HZ5.out.1
            have z2 := HZ5.out.2
            have z3 := C0.out.size
            have z4 := HB.out.size
            refine ⟨HB.out.trans (c7.mono HB.out.size), Nat.lt_of_lt_of_le hgb2 c7.size, fun j u hu => by rw [c7.cell (p := ⟨gb, 0 + j, none⟩) hgb2]; exact HRB.out j u hu, HK.out.1, HH.out.1.below c6, fun j hj => ?_, by omega, by omega, by omega⟩
            rw [c6.cell (p := ⟨gh, 0 + j, none⟩) z1, c6.frozen (p := ⟨gh, 0 + j, none⟩) z1]; exact HH.out.2 j hj⟩
          clear HX0 HX1 HX2 HX3 HQ0 HQ1 HQ2 HQ3 C0 C1 C2 HK HH C5 HZ5 HRB HB hgb hgb2
          go_wp2_with fail
          generalize World.alloc _ _ = w6 at CH0 ⊢
          generalize q3.heap.size = gk at CH0 ⊢
          go_loopw [10] (fun i wr => ∃ m : Nat, m ≤ N ∧ i = .int .i64 (64 * (m : Int)) ∧ CH w gb gh gk P (hsAt P m) wr) (fun i _ => 1000 - (intOf i).toNat)
          case atStart => exact ⟨0, by omega, rfl, CH0.out⟩
          case round =>
            clear CH0
            rename World => W0
            obtain ⟨m, hm, rfl, hch⟩ := hrel
            have HC := Sl.mk hch
            clear hch
            by_cases hlt : m < N
            · have HHL : Sl ((hsAt P m).length = 5 ∧ Small 4294967296 (hsAt P m)) := ⟨(okAt HSM.out m).pl, (okAt HSM.out m).ps⟩
              have HNX : Sl (hsAt P (m + 1) = mix (hsAt P m) (chunk P m)) := ⟨hsAt_next HSM.out hPN hlt⟩
              obtain ⟨bl, hbl⟩ : ∃ bl, bl = chunk P m := ⟨_, rfl⟩
              have HSB : Sl (Small 256 bl) := ⟨by rw [hbl]; exact chunk_small HSM.out m⟩
              have HBC : Sl (∀ W, Below W0.heap.size W0 W → ∀ j, j < 64 → W.cell? ⟨gb, 64 * m + j, none⟩ = some (.int .u8 ((bl.getD j 0 : Nat) : Int))) := ⟨fun W hW j hj => by
                rw [hW.cell (p := ⟨gb, 64 * m + j, none⟩) HC.out.lb, hbl, chunk_get hj]
                have := HC.out.rb (64 * m + j) _ (u8s_get P (64 * m + j) (by omega))
                rw [Nat.zero_add] at this
                exact this⟩
              rw [← hbl] at HNX
              clear hbl
              go_wp2
              go_loopw [11, 12] (fun v i wr => ∃ t : Nat, t ≤ 80 ∧ i = .int .i64 (t : Int) ∧ OwnR W0.heap.size wr v (words bl t) ∧ Below W0.heap.size W0 wr) (fun _ i _ => 80 - (intOf i).toNat)
              case atStart => exact ⟨0, by omega, rfl, ownR_empty W0, (Below.refl _ _).alloc (Nat.le_refl _) _⟩
              case round =>
                obtain ⟨t, ht, rfl, hown, hb⟩ := hrel
                have HO := Sl.mk hown
                have HB := Sl.mk hb
                clear hown hb
                by_cases ht80 : t < 80
                · by_cases ht16 : t < 16
                  · obtain ⟨o, ho⟩ : ∃ o, o = 64 * m + 4 * t := ⟨_, rfl⟩
                    have e1 := slice26_lh gb o 4 (64 * N) cb (by omega) wr (64 * (m : Int) + 4 * (t : Int)) (64 * (m : Int) + 4 * (t : Int) + 4) (by omega) (by omega) (by omega)
                    obtain ⟨x0, hx0⟩ : ∃ q : Nat, q = bl.getD (4 * t) 0 := ⟨_, rfl⟩
                    obtain ⟨x1, hx1⟩ : ∃ q : Nat, q = bl.getD (4 * t + 1) 0 := ⟨_, rfl⟩
                    obtain ⟨x2, hx2⟩ : ∃ q : Nat, q = bl.getD (4 * t + 2) 0 := ⟨_, rfl⟩
                    obtain ⟨x3, hx3⟩ : ∃ q : Nat, q = bl.getD (4 * t + 3) 0 := ⟨_, rfl⟩
                    have HCE : Sl (∀ W, Below W0.heap.size W0 W → W.cell? ⟨gb, o, none⟩ = some (.int .u8 (x0 : Int)) ∧ W.cell? ⟨gb, o + 1, none⟩ = some (.int .u8 (x1 : Int)) ∧ W.cell? ⟨gb, o + 2, none⟩ = some (.int .u8 (x2 : Int)) ∧ W.cell? ⟨gb, o + 3, none⟩ = some (.int .u8 (x3 : Int))) := ⟨fun W hW => by
                      have h := HBC.out W hW
                      rw [ho, hx0, hx1, hx2, hx3]
                      exact ⟨h (4 * t) (by omega), h (4 * t + 1) (by omega), h (4 * t + 2) (by omega), h (4 * t + 3) (by omega)⟩⟩
                    have l0 : x0 < 256 := by rw [hx0]; exact HSB.out _
                    have l1 : x1 < 256 := by rw [hx1]; exact HSB.out _
                    have l2 : x2 < 256 := by rw [hx2]; exact HSB.out _
                    have l3 : x3 < 256 := by rw [hx3]; exact HSB.out _
                    have HWD : Sl (words bl (t + 1) = words bl t ++ [x0 * 16777216 + x1 * 65536 + x2 * 256 + x3]) := ⟨by rw [words, if_pos ht16, word0_plain HSB.out, hx0, hx1, hx2, hx3]⟩
                    clear hx0 hx1 hx2 hx3 ho
                    go_wp2
                    clear e1
                    have s0 : IntKind.u64.wrap ((x0 : Int)) = (x0 : Int) := IntWalk.u64_in _ (by omega)
                    have s1 : IntKind.u64.wrap ((x1 : Int)) = (x1 : Int) := IntWalk.u64_in _ (by omega)
                    have s2 : IntKind.u64.wrap ((x2 : Int)) = (x2 : Int) := IntWalk.u64_in _ (by omega)
                    have s3 : IntKind.u64.wrap ((x3 : Int)) = (x3 : Int) := IntWalk.u64_in _ (by omega)
                    have s4 : IntKind.u64.wrap ((x0 : Int) * 16777216) = (x0 : Int) * 16777216 := IntWalk.u64_in _ (by omega)
                    have s5 : IntKind.u64.wrap ((x1 : Int) * 65536) = (x1 : Int) * 65536 := IntWalk.u64_in _ (by omega)
                    have s6 : IntKind.u64.wrap ((x2 : Int) * 256) = (x2 : Int) * 256 := IntWalk.u64_in _ (by omega)
                    have s7 : IntKind.u64.wrap ((x0 : Int) * 16777216 + (x1 : Int) * 65536) = (x0 : Int) * 16777216 + (x1 : Int) * 65536 := IntWalk.u64_in _ (by omega)
                    have s8 : IntKind.u64.wrap ((x0 : Int) * 16777216 + (x1 : Int) * 65536 + (x2 : Int) * 256) = (x0 : Int) * 16777216 + (x1 : Int) * 65536 + (x2 : Int) * 256 := IntWalk.u64_in _ (by omega)
                    have s9 : IntKind.u64.wrap ((x0 : Int) * 16777216 + (x1 : Int) * 65536 + (x2 : Int) * 256 + (x3 : Int)) = (x0 : Int) * 16777216 + (x1 : Int) * 65536 + (x2 : Int) * 256 + (x3 : Int) := IntWalk.u64_in _ (by omega)
                    refine wp_region_noPanic ?_
                    refine wp_region_held (S := fun W => W.cell? ⟨gb, o, none⟩ = some (.int .u8 (x0 : Int)) ∧ W.cell? ⟨gb, o + 1, none⟩ = some (.int .u8 (x1 : Int)) ∧ W.cell? ⟨gb, o + 2, none⟩ = some (.int .u8 (x2 : Int)) ∧ W.cell? ⟨gb, o + 3, none⟩ = some (.int .u8 (x3 : Int))) (by kernel_rfl) ?_
                    change wpAnyH _ _ _ _ _ _ _ _ wr.drew
                    have HB0 : Below W0.heap.size W0 wr.drew := HB.out.drew
                    have HS0 := HCE.out _ HB0
                    refine heldTake (d := (some 90)) (op := .move (.tmp 13)) (g := none) 1 (.slice (some ⟨gb, o, none⟩) 4 (cb - o)) rfl (by kernel_rfl) (by kernel_rfl) (by kernel_rfl) (by kernel_rfl) ?y1 HS0 ?_
                    case y1 => intro o ho w _; simp only [execOp, ho]; go_simp; try rfl
                    refine heldTake (d := (some 91)) (op := .indexAddr 53 (.tmp 90) (.const (.int .i64 0))) (g := none) 2 (.pointer (some ⟨gb, o, none⟩)) rfl (by kernel_rfl) (by kernel_rfl) (by kernel_rfl) (by kernel_rfl) ?y2 HS0 ?_
                    case y2 => intro o ho w _; simp only [execOp, ho]; go_simp; try rfl
                    refine heldTake (d := (some 92)) (op := .load 5 (.tmp 91)) (g := none) 3 (.int .u8 (x0 : Int)) rfl (by kernel_rfl) (by kernel_rfl) (by kernel_rfl) (by kernel_rfl) ?y3 HS0 ?_
                    case y3 => intro o ho W hS; obtain ⟨hs1, hs2, hs3, hs4⟩ := hS; simp only [execOp, ho]; go_simp
                    refine heldTake (d := (some 93)) (op := .convert 5 108 (.tmp 92)) (g := none) 4 (.int .u64 (x0 : Int)) rfl (by kernel_rfl) (by kernel_rfl) (by kernel_rfl) (by kernel_rfl) ?y4 HS0 ?_
                    case y4 => intro o ho w _; simp only [execOp, ho]; go_simp; try rfl
                    refine heldTake (d := (some 94)) (op := .binOp .mul 108 (.tmp 93) (.const (.int .u64 16777216)) 108) (g := none) 5 (.int .u64 ((x0 : Int) * 16777216)) rfl (by kernel_rfl) (by kernel_rfl) (by kernel_rfl) (by kernel_rfl) ?y5 HS0 ?_
                    case y5 => intro o ho w _; simp only [execOp, ho]; go_simp; try rfl
                    refine heldTake (d := (some 95)) (op := .move (.tmp 13)) (g := none) 6 (.slice (some ⟨gb, o, none⟩) 4 (cb - o)) rfl (by kernel_rfl) (by kernel_rfl) (by kernel_rfl) (by kernel_rfl) ?y6 HS0 ?_
                    case y6 => intro o ho w _; simp only [execOp, ho]; go_simp; try rfl
                    refine heldTake (d := (some 96)) (op := .indexAddr 53 (.tmp 95) (.const (.int .i64 1))) (g := none) 7 (.pointer (some ⟨gb, o + 1, none⟩)) rfl (by kernel_rfl) (by kernel_rfl) (by kernel_rfl) (by kernel_rfl) ?y7 HS0 ?_
                    case y7 => intro o ho w _; simp only [execOp, ho]; go_simp; try rfl
                    refine heldTake (d := (some 97)) (op := .load 5 (.tmp 96)) (g := none) 8 (.int .u8 (x1 : Int)) rfl (by kernel_rfl) (by kernel_rfl) (by kernel_rfl) (by kernel_rfl) ?y8 HS0 ?_
                    case y8 => intro o ho W hS; obtain ⟨hs1, hs2, hs3, hs4⟩ := hS; simp only [execOp, ho]; go_simp
                    refine heldTake (d := (some 98)) (op := .convert 5 108 (.tmp 97)) (g := none) 9 (.int .u64 (x1 : Int)) rfl (by kernel_rfl) (by kernel_rfl) (by kernel_rfl) (by kernel_rfl) ?y9 HS0 ?_
                    case y9 => intro o ho w _; simp only [execOp, ho]; go_simp; try rfl
                    refine heldTake (d := (some 99)) (op := .binOp .mul 108 (.tmp 98) (.const (.int .u64 65536)) 108) (g := none) 10 (.int .u64 ((x1 : Int) * 65536)) rfl (by kernel_rfl) (by kernel_rfl) (by kernel_rfl) (by kernel_rfl) ?y10 HS0 ?_
                    case y10 => intro o ho w _; simp only [execOp, ho]; go_simp; try rfl
                    refine heldTake (d := (some 100)) (op := .binOp .add 108 (.tmp 94) (.tmp 99) 108) (g := none) 11 (.int .u64 ((x0 : Int) * 16777216 + (x1 : Int) * 65536)) rfl (by kernel_rfl) (by kernel_rfl) (by kernel_rfl) (by kernel_rfl) ?y11 HS0 ?_
                    case y11 => intro o ho w _; simp only [execOp, ho]; go_simp; try rfl
                    refine heldTake (d := (some 101)) (op := .move (.tmp 13)) (g := none) 12 (.slice (some ⟨gb, o, none⟩) 4 (cb - o)) rfl (by kernel_rfl) (by kernel_rfl) (by kernel_rfl) (by kernel_rfl) ?y12 HS0 ?_
                    case y12 => intro o ho w _; simp only [execOp, ho]; go_simp; try rfl
                    refine heldTake (d := (some 102)) (op := .indexAddr 53 (.tmp 101) (.const (.int .i64 2))) (g := none) 13 (.pointer (some ⟨gb, o + 2, none⟩)) rfl (by kernel_rfl) (by kernel_rfl) (by kernel_rfl) (by kernel_rfl) ?y13 HS0 ?_
                    case y13 => intro o ho w _; simp only [execOp, ho]; go_simp; try rfl
                    refine heldTake (d := (some 103)) (op := .load 5 (.tmp 102)) (g := none) 14 (.int .u8 (x2 : Int)) rfl (by kernel_rfl) (by kernel_rfl) (by kernel_rfl) (by kernel_rfl) ?y14 HS0 ?_
                    case y14 => intro o ho W hS; obtain ⟨hs1, hs2, hs3, hs4⟩ := hS; simp only [execOp, ho]; go_simp
                    refine heldTake (d := (some 104)) (op := .convert 5 108 (.tmp 103)) (g := none) 15 (.int .u64 (x2 : Int)) rfl (by kernel_rfl) (by kernel_rfl) (by kernel_rfl) (by kernel_rfl) ?y15 HS0 ?_
                    case y15 => intro o ho w _; simp only [execOp, ho]; go_simp; try rfl
                    refine heldTake (d := (some 105)) (op := .binOp .mul 108 (.tmp 104) (.const (.int .u64 256)) 108) (g := none) 16 (.int .u64 ((x2 : Int) * 256)) rfl (by kernel_rfl) (by kernel_rfl) (by kernel_rfl) (by kernel_rfl) ?y16 HS0 ?_
                    case y16 => intro o ho w _; simp only [execOp, ho]; go_simp; try rfl
                    refine heldTake (d := (some 106)) (op := .binOp .add 108 (.tmp 100) (.tmp 105) 108) (g := none) 17 (.int .u64 ((x0 : Int) * 16777216 + (x1 : Int) * 65536 + (x2 : Int) * 256)) rfl (by kernel_rfl) (by kernel_rfl) (by kernel_rfl) (by kernel_rfl) ?y17 HS0 ?_
                    case y17 => intro o ho w _; simp only [execOp, ho]; go_simp; try rfl
                    refine heldTake (d := (some 107)) (op := .move (.tmp 13)) (g := none) 18 (.slice (some ⟨gb, o, none⟩) 4 (cb - o)) rfl (by kernel_rfl) (by kernel_rfl) (by kernel_rfl) (by kernel_rfl) ?y18 HS0 ?_
                    case y18 => intro o ho w _; simp only [execOp, ho]; go_simp; try rfl
                    refine heldTake (d := (some 108)) (op := .indexAddr 53 (.tmp 107) (.const (.int .i64 3))) (g := none) 19 (.pointer (some ⟨gb, o + 3, none⟩)) rfl (by kernel_rfl) (by kernel_rfl) (by kernel_rfl) (by kernel_rfl) ?y19 HS0 ?_
                    case y19 => intro o ho w _; simp only [execOp, ho]; go_simp; try rfl
                    refine heldTake (d := (some 109)) (op := .load 5 (.tmp 108)) (g := none) 20 (.int .u8 (x3 : Int)) rfl (by kernel_rfl) (by kernel_rfl) (by kernel_rfl) (by kernel_rfl) ?y20 HS0 ?_
                    case y20 => intro o ho W hS; obtain ⟨hs1, hs2, hs3, hs4⟩ := hS; simp only [execOp, ho]; go_simp
                    refine heldTake (d := (some 110)) (op := .convert 5 108 (.tmp 109)) (g := none) 21 (.int .u64 (x3 : Int)) rfl (by kernel_rfl) (by kernel_rfl) (by kernel_rfl) (by kernel_rfl) ?y21 HS0 ?_
                    case y21 => intro o ho w _; simp only [execOp, ho]; go_simp; try rfl
                    refine heldTake (d := (some 111)) (op := .binOp .add 108 (.tmp 106) (.tmp 110) 108) (g := none) 22 (.int .u64 ((x0 : Int) * 16777216 + (x1 : Int) * 65536 + (x2 : Int) * 256 + (x3 : Int))) rfl (by kernel_rfl) (by kernel_rfl) (by kernel_rfl) (by kernel_rfl) ?y22 HS0 ?_
                    case y22 => intro o ho w _; simp only [execOp, ho]; go_simp; try rfl
                    refine heldTake (d := (some 89)) (op := .move (.tmp 11)) (g := none) 0 (u11) rfl (by kernel_rfl) (by kernel_rfl) (by kernel_rfl) (by kernel_rfl) ?y0 HS0 ?_
                    case y0 => intro o ho w _; simp only [execOp, ho]; go_simp; try rfl
                    clear s0 s1 s2 s3 s4 s5 s6 s7 s8 s9
                    refine heldCall (d := (some 112)) (op := .call { callee := .value (.func 87), args := #[.tmp 111], argTypes := #[108] }) (g := none) 23 87 #[.int .u64 ((x0 : Int) * 16777216 + (x1 : Int) * 65536 + (x2 : Int) * 256 + (x3 : Int))] rfl (by kernel_rfl) (by kernel_rfl) ?y23 ?_
                    case y23 => intro o ho; simp only [execOp, ho]; go_simp
                    refine (word_ex (x0 * 16777216 + x1 * 65536 + x2 * 256 + x3) _ _ (by omega) (by omega)).mono ?_
                    rintro e q0 ⟨y, rfl, HX, HQ⟩
                    obtain ⟨py, ry, hy, _⟩ := HX.out
                    subst hy
                    have HB1 : Below W0.heap.size W0 q0 := HB0.trans (HQ.out.mono HB0.size)
                    have HO1 : Sl (OwnR W0.heap.size q0 u11 (words bl t)) := ⟨OwnR.below (W := wr.drew) HO.out HQ.out⟩
                    refine ⟨_, rfl, HCE.out _ HB1, ?_⟩
                    have HB2 : Below W0.heap.size W0 (q0.alloc (.cells #[.slice (some ⟨py, 0, none⟩) 32 ry] 79)) := HB1.alloc HB1.size _
                    have hal : Below q0.heap.size q0 (q0.alloc (.cells #[.slice (some ⟨py, 0, none⟩) 32 ry] 79)) := (Below.refl _ _).alloc (Nat.le_refl _) _
                    refine heldRun (d := (some 113)) (op := .buildSlice 109 1 #[(0, .tmp 112)]) (g := none) 24 (.slice (some ⟨q0.heap.size, 0, none⟩) 1 1) (q0.alloc (.cells #[.slice (some ⟨py, 0, none⟩) 32 ry] 79)) rfl (by kernel_rfl) (by kernel_rfl) ?y24 (HCE.out _ HB2) ?_
                    case y24 => intro o ho; simp only [execOp, ho]; go_simp
                    obtain ⟨v5, w5, happ, HO2, HG2⟩ := app_rows (ms := [x0 * 16777216 + x1 * 65536 + x2 * 256 + x3]) (HO1.out.below hal) ⟨q0.heap.size, 0, none⟩ 1 [.slice (some ⟨py, 0, none⟩) 32 ry] rfl (new_one q0 _ 79) (bits1 (HX.out.below hal)) (by rw [words_length]; simp; omega) (by simp) HB2.size
                    have HB3 : Below W0.heap.size W0 w5 := HB2.trans HG2.out
                    refine heldApp 25 114 (.tmp 89) (.tmp 113) 109 109 none u11 v5 ⟨q0.heap.size, 0, none⟩ 1 1 w5 rfl (by kernel_rfl) (by kernel_rfl) (by kernel_rfl) (by kernel_rfl) happ (HCE.out _ HB3) ?_
                    refine heldTake (d := (some 11)) (op := .assign (.tmp 114)) (g := none) 26 (v5) rfl (by kernel_rfl) (by kernel_rfl) (by kernel_rfl) (by kernel_rfl) ?y26 (HCE.out _ HB3) ?_
                    case y26 => intro o ho w _; simp only [execOp, ho]; go_simp; try rfl
                    refine wpAnyH_done (by kernel_rfl) ?_ _
                    refine NoPanic.normal ?_
                    have HO' : Sl (OwnR W0.heap.size w5 v5 (words bl (t + 1))) := ⟨by rw [HWD.out]; exact HO2.out⟩
                    clear happ HB0 HS0 HB1 HB2 hal HO2 HG2 HO1 HX HQ HCE HWD
                    simp only [Act.put, List.setIfInBounds_toArray, List.set_cons_succ, List.set_cons_zero]
                    go_wp2
                    go_roundw
                    case rel => exact ⟨t + 1, by omega, by go_num, HO'.out, HB3⟩
                    case measure => simp [intOf]; omega
                  · obtain ⟨gw, cw, hv, hcw, _, hrow, _⟩ := HO.out.row
                    rw [words_length] at hv hcw
                    subst hv
                    obtain ⟨z3, hz3, hB3⟩ := hrow.2 (t - 3) (by rw [words_length]; omega)
                    have HZ3 := Sl.mk hB3
                    obtain ⟨z8, hz8, hB8⟩ := hrow.2 (t - 8) (by rw [words_length]; omega)
                    have HZ8 := Sl.mk hB8
                    obtain ⟨z14, hz14, hB14⟩ := hrow.2 (t - 14) (by rw [words_length]; omega)
                    have HZ14 := Sl.mk hB14
                    obtain ⟨z16, hz16, hB16⟩ := hrow.2 (t - 16) (by rw [words_length]; omega)
                    have HZ16 := Sl.mk hB16
                    have hgw := hrow.1
                    have HCE : Sl (∀ W, Below wr.heap.size wr.drew W → W.cell? ⟨gw, t - 3, none⟩ = some z3 ∧ W.cell? ⟨gw, t - 8, none⟩ = some z8 ∧ W.cell? ⟨gw, t - 14, none⟩ = some z14 ∧ W.cell? ⟨gw, t - 16, none⟩ = some z16) := ⟨fun W hW => by
                      rw [hW.cell (p := ⟨gw, t - 3, none⟩) hgw, hW.cell (p := ⟨gw, t - 8, none⟩) hgw, hW.cell (p := ⟨gw, t - 14, none⟩) hgw, hW.cell (p := ⟨gw, t - 16, none⟩) hgw]
                      exact ⟨hz3, hz8, hz14, hz16⟩⟩
                    have HWS : Sl (Small 4294967296 (words bl t)) := ⟨words_small HSB.out t⟩
                    obtain ⟨n3, hn3⟩ : ∃ n, n = (words bl t).getD (t - 3) 0 := ⟨_, rfl⟩
                    rw [← hn3] at HZ3
                    have l3 : n3 < 4294967296 := by rw [hn3]; exact HWS.out _
                    obtain ⟨n8, hn8⟩ : ∃ n, n = (words bl t).getD (t - 8) 0 := ⟨_, rfl⟩
                    rw [← hn8] at HZ8
                    have l8 : n8 < 4294967296 := by rw [hn8]; exact HWS.out _
                    obtain ⟨n14, hn14⟩ : ∃ n, n = (words bl t).getD (t - 14) 0 := ⟨_, rfl⟩
                    rw [← hn14] at HZ14
                    have l14 : n14 < 4294967296 := by rw [hn14]; exact HWS.out _
                    obtain ⟨n16, hn16⟩ : ∃ n, n = (words bl t).getD (t - 16) 0 := ⟨_, rfl⟩
                    rw [← hn16] at HZ16
                    have l16 : n16 < 4294967296 := by rw [hn16]; exact HWS.out _
                    have HWD : Sl (words bl (t + 1) = words bl t ++ [rot ((n3 ^^^ n8) ^^^ (n14 ^^^ n16)) 1]) := ⟨by rw [words, if_neg ht16, word1, hn3, hn8, hn14, hn16, Nat.xor_assoc _ _ (_ ^^^ _), Nat.xor_assoc, Nat.xor_assoc]⟩
                    clear hB3 hB8 hB14 hB16 hz3 hz8 hz14 hz16 hn3 hn8 hn14 hn16 hrow
                    go_wp2
                    have s3 : IntKind.i64.wrap ((t : Int) - 3) = (t : Int) - 3 := IntWalk.i64_in _ (by omega)
                    have p3 : (0 : Int) ≤ (t : Int) - 3 := by omega
                    have o3 : (t : Int) - 3 < (t : Int) := by omega
                    have e3 : ((t : Int) - 3).toNat = t - 3 := by omega
                    have s8 : IntKind.i64.wrap ((t : Int) - 8) = (t : Int) - 8 := IntWalk.i64_in _ (by omega)
                    have p8 : (0 : Int) ≤ (t : Int) - 8 := by omega
                    have o8 : (t : Int) - 8 < (t : Int) := by omega
                    have e8 : ((t : Int) - 8).toNat = t - 8 := by omega
                    have s14 : IntKind.i64.wrap ((t : Int) - 14) = (t : Int) - 14 := IntWalk.i64_in _ (by omega)
                    have p14 : (0 : Int) ≤ (t : Int) - 14 := by omega
                    have o14 : (t : Int) - 14 < (t : Int) := by omega
                    have e14 : ((t : Int) - 14).toNat = t - 14 := by omega
                    have s16 : IntKind.i64.wrap ((t : Int) - 16) = (t : Int) - 16 := IntWalk.i64_in _ (by omega)
                    have p16 : (0 : Int) ≤ (t : Int) - 16 := by omega
                    have o16 : (t : Int) - 16 < (t : Int) := by omega
                    have e16 : ((t : Int) - 16).toNat = t - 16 := by omega
                    refine wp_region_noPanic ?_
                    refine wp_region_held (S := fun W => W.cell? ⟨gw, t - 3, none⟩ = some z3 ∧ W.cell? ⟨gw, t - 8, none⟩ = some z8 ∧ W.cell? ⟨gw, t - 14, none⟩ = some z14 ∧ W.cell? ⟨gw, t - 16, none⟩ = some z16) (by kernel_rfl) ?_
                    change wpAnyH _ _ _ _ _ _ _ _ wr.drew
                    have HB0 : Below W0.heap.size W0 wr.drew := HB.out.drew
                    have HS0 := HCE.out _ (Below.refl _ wr.drew)
                    refine heldTake (d := (some 116)) (op := .move (.tmp 11)) (g := none) 1 (.slice (some ⟨gw, 0, none⟩) t cw) rfl (by kernel_rfl) (by kernel_rfl) (by kernel_rfl) (by kernel_rfl) ?yb1 HS0 ?_
                    case yb1 => intro o ho w _; simp only [execOp, ho]; go_simp; try rfl
                    refine heldTake (d := (some 117)) (op := .move (.tmp 12)) (g := none) 2 (.int .i64 (t : Int)) rfl (by kernel_rfl) (by kernel_rfl) (by kernel_rfl) (by kernel_rfl) ?yb2 HS0 ?_
                    case yb2 => intro o ho w _; simp only [execOp, ho]; go_simp; try rfl
                    refine heldTake (d := (some 118)) (op := .binOp .sub 3 (.tmp 117) (.const (.int .i64 3)) 3) (g := none) 3 (.int .i64 ((t : Int) - 3)) rfl (by kernel_rfl) (by kernel_rfl) (by kernel_rfl) (by kernel_rfl) ?yb3 HS0 ?_
                    case yb3 => intro o ho w _; simp only [execOp, ho]; go_simp; try rfl
                    refine heldTake (d := (some 119)) (op := .indexAddr 109 (.tmp 116) (.tmp 118)) (g := none) 4 (.pointer (some ⟨gw, t - 3, none⟩)) rfl (by kernel_rfl) (by kernel_rfl) (by kernel_rfl) (by kernel_rfl) ?yb4 HS0 ?_
                    case yb4 => intro o ho w _; simp only [execOp, ho]; go_simp; try (intro h; exact absurd h (by omega))
                    refine heldTake (d := (some 120)) (op := .load 79 (.tmp 119)) (g := none) 5 (z3) rfl (by kernel_rfl) (by kernel_rfl) (by kernel_rfl) (by kernel_rfl) ?yb5 HS0 ?_
                    case yb5 => intro o ho W hS; obtain ⟨hs1, hs2, hs3, hs4⟩ := hS; simp only [execOp, ho]; go_simp
                    refine heldTake (d := (some 121)) (op := .move (.tmp 11)) (g := none) 6 (.slice (some ⟨gw, 0, none⟩) t cw) rfl (by kernel_rfl) (by kernel_rfl) (by kernel_rfl) (by kernel_rfl) ?yb6 HS0 ?_
                    case yb6 => intro o ho w _; simp only [execOp, ho]; go_simp; try rfl
                    refine heldTake (d := (some 122)) (op := .move (.tmp 12)) (g := none) 7 (.int .i64 (t : Int)) rfl (by kernel_rfl) (by kernel_rfl) (by kernel_rfl) (by kernel_rfl) ?yb7 HS0 ?_
                    case yb7 => intro o ho w _; simp only [execOp, ho]; go_simp; try rfl
                    refine heldTake (d := (some 123)) (op := .binOp .sub 3 (.tmp 122) (.const (.int .i64 8)) 3) (g := none) 8 (.int .i64 ((t : Int) - 8)) rfl (by kernel_rfl) (by kernel_rfl) (by kernel_rfl) (by kernel_rfl) ?yb8 HS0 ?_
                    case yb8 => intro o ho w _; simp only [execOp, ho]; go_simp; try rfl
                    refine heldTake (d := (some 124)) (op := .indexAddr 109 (.tmp 121) (.tmp 123)) (g := none) 9 (.pointer (some ⟨gw, t - 8, none⟩)) rfl (by kernel_rfl) (by kernel_rfl) (by kernel_rfl) (by kernel_rfl) ?yb9 HS0 ?_
                    case yb9 => intro o ho w _; simp only [execOp, ho]; go_simp; try (intro h; exact absurd h (by omega))
                    refine heldTake (d := (some 125)) (op := .load 79 (.tmp 124)) (g := none) 10 (z8) rfl (by kernel_rfl) (by kernel_rfl) (by kernel_rfl) (by kernel_rfl) ?yb10 HS0 ?_
                    case yb10 => intro o ho W hS; obtain ⟨hs1, hs2, hs3, hs4⟩ := hS; simp only [execOp, ho]; go_simp
                    refine heldTake (d := (some 127)) (op := .move (.tmp 11)) (g := none) 12 (.slice (some ⟨gw, 0, none⟩) t cw) rfl (by kernel_rfl) (by kernel_rfl) (by kernel_rfl) (by kernel_rfl) ?yb12 HS0 ?_
                    case yb12 => intro o ho w _; simp only [execOp, ho]; go_simp; try rfl
                    refine heldTake (d := (some 128)) (op := .move (.tmp 12)) (g := none) 13 (.int .i64 (t : Int)) rfl (by kernel_rfl) (by kernel_rfl) (by kernel_rfl) (by kernel_rfl) ?yb13 HS0 ?_
                    case yb13 => intro o ho w _; simp only [execOp, ho]; go_simp; try rfl
                    refine heldTake (d := (some 129)) (op := .binOp .sub 3 (.tmp 128) (.const (.int .i64 14)) 3) (g := none) 14 (.int .i64 ((t : Int) - 14)) rfl (by kernel_rfl) (by kernel_rfl) (by kernel_rfl) (by kernel_rfl) ?yb14 HS0 ?_
                    case yb14 => intro o ho w _; simp only [execOp, ho]; go_simp; try rfl
                    refine heldTake (d := (some 130)) (op := .indexAddr 109 (.tmp 127) (.tmp 129)) (g := none) 15 (.pointer (some ⟨gw, t - 14, none⟩)) rfl (by kernel_rfl) (by kernel_rfl) (by kernel_rfl) (by kernel_rfl) ?yb15 HS0 ?_
                    case yb15 => intro o ho w _; simp only [execOp, ho]; go_simp; try (intro h; exact absurd h (by omega))
                    refine heldTake (d := (some 131)) (op := .load 79 (.tmp 130)) (g := none) 16 (z14) rfl (by kernel_rfl) (by kernel_rfl) (by kernel_rfl) (by kernel_rfl) ?yb16 HS0 ?_
                    case yb16 => intro o ho W hS; obtain ⟨hs1, hs2, hs3, hs4⟩ := hS; simp only [execOp, ho]; go_simp
                    refine heldTake (d := (some 132)) (op := .move (.tmp 11)) (g := none) 17 (.slice (some ⟨gw, 0, none⟩) t cw) rfl (by kernel_rfl) (by kernel_rfl) (by kernel_rfl) (by kernel_rfl) ?yb17 HS0 ?_
                    case yb17 => intro o ho w _; simp only [execOp, ho]; go_simp; try rfl
                    refine heldTake (d := (some 133)) (op := .move (.tmp 12)) (g := none) 18 (.int .i64 (t : Int)) rfl (by kernel_rfl) (by kernel_rfl) (by kernel_rfl) (by kernel_rfl) ?yb18 HS0 ?_
                    case yb18 => intro o ho w _; simp only [execOp, ho]; go_simp; try rfl
                    refine heldTake (d := (some 134)) (op := .binOp .sub 3 (.tmp 133) (.const (.int .i64 16)) 3) (g := none) 19 (.int .i64 ((t : Int) - 16)) rfl (by kernel_rfl) (by kernel_rfl) (by kernel_rfl) (by kernel_rfl) ?yb19 HS0 ?_
                    case yb19 => intro o ho w _; simp only [execOp, ho]; go_simp; try rfl
                    refine heldTake (d := (some 135)) (op := .indexAddr 109 (.tmp 132) (.tmp 134)) (g := none) 20 (.pointer (some ⟨gw, t - 16, none⟩)) rfl (by kernel_rfl) (by kernel_rfl) (by kernel_rfl) (by kernel_rfl) ?yb20 HS0 ?_
                    case yb20 => intro o ho w _; simp only [execOp, ho]; go_simp; try (intro h; exact absurd h (by omega))
                    refine heldTake (d := (some 136)) (op := .load 79 (.tmp 135)) (g := none) 21 (z16) rfl (by kernel_rfl) (by kernel_rfl) (by kernel_rfl) (by kernel_rfl) ?yb21 HS0 ?_
                    case yb21 => intro o ho W hS; obtain ⟨hs1, hs2, hs3, hs4⟩ := hS; simp only [execOp, ho]; go_simp
                    refine heldTake (d := (some 115)) (op := .move (.tmp 11)) (g := none) 0 (.slice (some ⟨gw, 0, none⟩) t cw) rfl (by kernel_rfl) (by kernel_rfl) (by kernel_rfl) (by kernel_rfl) ?yb0 HS0 ?_
                    case yb0 => intro o ho w _; simp only [execOp, ho]; go_simp; try rfl
                    clear s3 p3 o3 e3
                    clear s8 p8 o8 e8
                    clear s14 p14 o14 e14
                    clear s16 p16 o16 e16
                    refine heldCall (d := (some 126)) (op := .call { callee := .value (.func 89), args := #[.tmp 120, .tmp 125], argTypes := #[79, 79] }) (g := none) 11 89 #[z3, z8] rfl (by kernel_rfl) (by kernel_rfl) ?yb11 ?_
                    case yb11 => intro o ho; simp only [execOp, ho]; go_simp
                    refine (odd_any z3 z8 n3 n8 wr.drew HZ3.out HZ8.out).mono ?_
                    rintro e q1 ⟨r1, rfl, HR1, HQ1⟩
                    refine ⟨_, rfl, HCE.out _ HQ1.out, ?_⟩
                    refine heldCall (d := (some 137)) (op := .call { callee := .value (.func 89), args := #[.tmp 131, .tmp 136], argTypes := #[79, 79] }) (g := none) 22 89 #[z14, z16] rfl (by kernel_rfl) (by kernel_rfl) ?yb22 ?_
                    case yb22 => intro o ho; simp only [execOp, ho]; go_simp
                    refine (odd_any z14 z16 n14 n16 q1 (Bits.below (W := wr.drew) HZ14.out HQ1.out) (Bits.below (W := wr.drew) HZ16.out HQ1.out)).mono ?_
                    rintro e q2 ⟨r2, rfl, HR2, HQ2⟩
                    have HC2 : Below wr.heap.size wr.drew q2 := HQ1.out.trans (HQ2.out.mono HQ1.out.size)
                    refine ⟨_, rfl, HCE.out _ HC2, ?_⟩
                    refine heldCall (d := (some 138)) (op := .call { callee := .value (.func 89), args := #[.tmp 126, .tmp 137], argTypes := #[79, 79] }) (g := none) 23 89 #[r1, r2] rfl (by kernel_rfl) (by kernel_rfl) ?yb23 ?_
                    case yb23 => intro o ho; simp only [execOp, ho]; go_simp
                    refine (odd_any r1 r2 (n3 ^^^ n8) (n14 ^^^ n16) q2 (HR1.out.below HQ2.out) HR2.out).mono ?_
                    rintro e q3 ⟨r3, rfl, HR3, HQ3⟩
                    have HC3 : Below wr.heap.size wr.drew q3 := HC2.trans (HQ3.out.mono HC2.size)
                    refine ⟨_, rfl, HCE.out _ HC3, ?_⟩
                    refine heldCall (d := (some 139)) (op := .call { callee := .value (.func 88), args := #[.tmp 138, .const (.int .i64 1)], argTypes := #[79, 3] }) (g := none) 24 88 #[r3, .int .i64 1] rfl (by kernel_rfl) (by kernel_rfl) ?yb24 ?_
                    case yb24 => intro o ho; simp only [execOp, ho]; go_simp
                    refine (turn_any r3 ((n3 ^^^ n8) ^^^ (n14 ^^^ n16)) 1 1 q3 rfl HR3.out (xor_lt (xor_lt l3 l8) (xor_lt l14 l16)) (by decide)).mono ?_
                    rintro e q4 ⟨r4, rfl, HR4, HQ4⟩
                    have HC4 : Below wr.heap.size wr.drew q4 := HC3.trans (HQ4.out.mono HC3.size)
                    refine ⟨_, rfl, HCE.out _ HC4, ?_⟩
                    obtain ⟨py, ry, hy, _⟩ := HR4.out
                    subst hy
                    have hal : Below q4.heap.size q4 (q4.alloc (.cells #[.slice (some ⟨py, 0, none⟩) 32 ry] 79)) := (Below.refl _ _).alloc (Nat.le_refl _) _
                    have HC5 : Below wr.heap.size wr.drew (q4.alloc (.cells #[.slice (some ⟨py, 0, none⟩) 32 ry] 79)) := HC4.trans (hal.mono HC4.size)
                    refine heldRun (d := (some 140)) (op := .buildSlice 109 1 #[(0, .tmp 139)]) (g := none) 25 (.slice (some ⟨q4.heap.size, 0, none⟩) 1 1) (q4.alloc (.cells #[.slice (some ⟨py, 0, none⟩) 32 ry] 79)) rfl (by kernel_rfl) (by kernel_rfl) ?yb25 (HCE.out _ HC5) ?_
                    case yb25 => intro o ho; simp only [execOp, ho]; go_simp
                    have HO1 : Sl (OwnR W0.heap.size (q4.alloc (.cells #[.slice (some ⟨py, 0, none⟩) 32 ry] 79)) (.slice (some ⟨gw, 0, none⟩) t cw) (words bl t)) := ⟨OwnR.below (W := wr.drew) HO.out HC5⟩
                    have HB5 : Below W0.heap.size W0 (q4.alloc (.cells #[.slice (some ⟨py, 0, none⟩) 32 ry] 79)) := HB0.trans (HC5.mono HB0.size)
                    obtain ⟨v5, w5, happ, HO2, HG2⟩ := app_rows (ms := [rot ((n3 ^^^ n8) ^^^ (n14 ^^^ n16)) 1]) HO1.out ⟨q4.heap.size, 0, none⟩ 1 [.slice (some ⟨py, 0, none⟩) 32 ry] rfl (new_one q4 _ 79) (bits1 (HR4.out.below hal)) (by rw [words_length]; simp; omega) (by simp) HB5.size
                    have hkeep := app_keeps (ms := [rot ((n3 ^^^ n8) ^^^ (n14 ^^^ n16)) 1]) (ns := words bl t) (by rw [words_length]; exact HO1.out) ⟨q4.heap.size, 0, none⟩ 1 [.slice (some ⟨py, 0, none⟩) 32 ry] rfl (new_one q4 _ 79) (bits1 (HR4.out.below hal)) (by rw [words_length]; simp; omega) (by rw [words_length]; exact happ)
                    rw [words_length] at hkeep
                    have HS5 : (fun W : World => W.cell? ⟨gw, t - 3, none⟩ = some z3 ∧ W.cell? ⟨gw, t - 8, none⟩ = some z8 ∧ W.cell? ⟨gw, t - 14, none⟩ = some z14 ∧ W.cell? ⟨gw, t - 16, none⟩ = some z16) w5 := by
                      have h := HCE.out _ HC5
                      show w5.cell? ⟨gw, t - 3, none⟩ = some z3 ∧ w5.cell? ⟨gw, t - 8, none⟩ = some z8 ∧ w5.cell? ⟨gw, t - 14, none⟩ = some z14 ∧ w5.cell? ⟨gw, t - 16, none⟩ = some z16
                      rw [hkeep (t - 3) (by omega), hkeep (t - 8) (by omega), hkeep (t - 14) (by omega), hkeep (t - 16) (by omega)]
                      exact h
                    have HB6 : Below W0.heap.size W0 w5 := HB5.trans HG2.out
                    refine heldApp 26 141 (.tmp 115) (.tmp 140) 109 109 none (.slice (some ⟨gw, 0, none⟩) t cw) v5 ⟨q4.heap.size, 0, none⟩ 1 1 w5 rfl (by kernel_rfl) (by kernel_rfl) (by kernel_rfl) (by kernel_rfl) happ HS5 ?_
                    refine heldTake (d := (some 11)) (op := .assign (.tmp 141)) (g := none) 27 (v5) rfl (by kernel_rfl) (by kernel_rfl) (by kernel_rfl) (by kernel_rfl) ?yb27 HS5 ?_
                    case yb27 => intro o ho w _; simp only [execOp, ho]; go_simp; try rfl
                    refine wpAnyH_done (by kernel_rfl) ?_ _
                    refine NoPanic.normal ?_
                    have HO' : Sl (OwnR W0.heap.size w5 v5 (words bl (t + 1))) := ⟨by rw [HWD.out]; exact HO2.out⟩
                    clear happ HB0 HS0 HC2 HC3 HC4 HC5 HS5 hkeep HB5 hal HO2 HG2 HO1 HCE HWD HR1 HR2 HR3 HR4 HQ1 HQ2 HQ3 HQ4
                    simp only [Act.put, List.setIfInBounds_toArray, List.set_cons_succ, List.set_cons_zero]
                    go_wp2
                    go_roundw
                    case rel => exact ⟨t + 1, by omega, by go_num, HO'.out, HB6⟩
                    case measure => simp [intOf]; omega
                · have ht8 : t = 80 := by omega
                  subst ht8
                  obtain ⟨gw, cw, hv, hcw, _, hrow, _⟩ := HO.out.row
                  rw [words_length] at hv hcw
                  subst hv
                  have HRW := Sl.mk hrow
                  have HC1 : Sl (CH w gb gh gk P (hsAt P m) wr) := ⟨HC.out.below HB.out⟩
                  clear hrow HO HB HC HBC
                  obtain ⟨h0, h1, h2, h3, h4, hhs⟩ := list5 HHL.out.1
                  rw [hhs] at HC1 HNX HHL
                  clear hhs
                  have HHS : Sl (SmallS (h0, h1, h2, h3, h4)) := ⟨⟨HHL.out.2 0, HHL.out.2 1, HHL.out.2 2, HHL.out.2 3, HHL.out.2 4⟩⟩
                  have HWS : Sl (Small 4294967296 (words bl 80)) := ⟨words_small HSB.out 80⟩
                  clear HHL
                  rename World => W1
                  obtain ⟨z0, hz0, hB0⟩ := HC1.out.rh.2 0 (by simp)
                  obtain ⟨z1, hz1, hB1⟩ := HC1.out.rh.2 1 (by simp)
                  obtain ⟨z2, hz2, hB2⟩ := HC1.out.rh.2 2 (by simp)
                  obtain ⟨z3, hz3, hB3⟩ := HC1.out.rh.2 3 (by simp)
                  obtain ⟨z4, hz4, hB4⟩ := HC1.out.rh.2 4 (by simp)
                  have hal : Below W1.heap.size W1 (W1.alloc (.cells #[] 79)) := (Below.refl _ _).alloc (Nat.le_refl _) _
                  obtain ⟨v2, w2, happ2, HX2, HG2⟩ := app_rows (ms := [h0, h1, h2, h3, h4]) (ownR_empty W1) ⟨gh, 0, none⟩ 5 [z0, z1, z2, z3, z4] rfl (fun j u hu => by
                    rw [Addr.add_mid, Nat.zero_add, hal.cell (p := ⟨gh, j, none⟩) HC1.out.rh.1]
                    match j, hu with
                    | 0, hu => simp at hu; rw [← hu]; exact hz0
                    | 1, hu => simp at hu; rw [← hu]; exact hz1
                    | 2, hu => simp at hu; rw [← hu]; exact hz2
                    | 3, hu => simp at hu; rw [← hu]; exact hz3
                    | 4, hu => simp at hu; rw [← hu]; exact hz4
                    | j + 5, hu => simp at hu) (bits5 (hB0.below hal) (hB1.below hal) (hB2.below hal) (hB3.below hal) (hB4.below hal)) (by simp) (by simp) (by rw [alloc_size]; omega)
                  have HB2 : Sl (Below W1.heap.size W1 w2) := ⟨hal.trans HG2.out⟩
                  clear hz0 hz1 hz2 hz3 hz4 hB0 hB1 hB2 hB3 hB4 hal HG2
                  go_wp2_with (at_builtin; refine wpList_app rfl (.tmp 142) (.tmp 143) 109 109 rfl rfl _ v2 ⟨gh, 0, none⟩ 5 5 w2 rfl rfl happ2 ?_)
                  clear happ2
                  obtain ⟨gx, cx, hv, hcx, hgx, hrx, _⟩ := HX2.out.row
                  subst hv
                  have HRX := Sl.mk hrx
                  clear hrx HX2
                  go_wp2
                  go_loopw [14, 15] (fun v i wr => ∃ t gx cx y0 y1 y2 y3 y4 : Nat, t ≤ 80 ∧ i = .int .i64 (t : Int) ∧ v = .slice (some ⟨gx, 0, none⟩) 5 cx ∧ 5 ≤ cx ∧ W1.heap.size ≤ gx ∧ rounds (words bl 80) (h0, h1, h2, h3, h4) t = (y0, y1, y2, y3, y4) ∧ RowAt wr gx [y0, y1, y2, y3, y4] ∧ Below W1.heap.size W1 wr) (fun _ i _ => 80 - (intOf i).toNat)
                  case atStart => exact ⟨0, gx, cx, h0, h1, h2, h3, h4, by omega, rfl, rfl, hcx, hgx, rfl, HRX.out, HB2.out⟩
                  case round =>
                    clear HRX HB2 hcx hgx
                    obtain ⟨t, gx, cx, y0, y1, y2, y3, y4, ht, rfl, rfl, hcx, hgx, hrd, hrx, hb⟩ := hrel
                    have HRD := Sl.mk hrd
                    have HRX := Sl.mk hrx
                    have HB := Sl.mk hb
                    have HYS : Sl (SmallS (y0, y1, y2, y3, y4)) := ⟨by rw [← hrd]; exact rounds_small HHS.out t⟩
                    clear hrd hrx hb
                    by_cases ht80 : t < 80
                    · obtain ⟨z0, hz0, hB0⟩ := HRX.out.2 0 (by simp)
                      have HZ0 := Sl.mk hB0
                      obtain ⟨z1, hz1, hB1⟩ := HRX.out.2 1 (by simp)
                      have HZ1 := Sl.mk hB1
                      obtain ⟨z2, hz2, hB2⟩ := HRX.out.2 2 (by simp)
                      have HZ2 := Sl.mk hB2
                      obtain ⟨z3, hz3, hB3⟩ := HRX.out.2 3 (by simp)
                      have HZ3 := Sl.mk hB3
                      obtain ⟨z4, hz4, hB4⟩ := HRX.out.2 4 (by simp)
                      have HZ4 := Sl.mk hB4
                      have HRWr : RowAt wr gw (words bl 80) := HRW.out.below HB.out
                      have HRKr : RowAt wr gk ks := HC1.out.rk.below HB.out
                      obtain ⟨zw, hzw, hBw⟩ := HRWr.2 t (by rw [words_length]; omega)
                      obtain ⟨zk, hzk, hBk⟩ := HRKr.2 (t / 20) (by show _ < 4; omega)
                      rw [ks_kt t ht80] at hBk
                      have HZW := Sl.mk hBw
                      have HZK := Sl.mk hBk
                      have hgx2 := HRX.out.1
                      have hgw2 := HRWr.1
                      have hgk2 := HRKr.1
                      have HCE : Sl (∀ W, Below wr.heap.size wr W → W.cell? ⟨gx, 0, none⟩ = some z0 ∧ W.cell? ⟨gx, 1, none⟩ = some z1 ∧ W.cell? ⟨gx, 2, none⟩ = some z2 ∧ W.cell? ⟨gx, 3, none⟩ = some z3 ∧ W.cell? ⟨gx, 4, none⟩ = some z4 ∧ W.cell? ⟨gw, t, none⟩ = some zw ∧ W.cell? ⟨gk, t / 20, none⟩ = some zk) := ⟨fun W hW => by
                        rw [hW.cell (p := ⟨gx, 0, none⟩) hgx2, hW.cell (p := ⟨gx, 1, none⟩) hgx2, hW.cell (p := ⟨gx, 2, none⟩) hgx2, hW.cell (p := ⟨gx, 3, none⟩) hgx2, hW.cell (p := ⟨gx, 4, none⟩) hgx2, hW.cell (p := ⟨gw, t, none⟩) hgw2, hW.cell (p := ⟨gk, t / 20, none⟩) hgk2]
                        exact ⟨hz0, hz1, hz2, hz3, hz4, hzw, hzk⟩⟩
                      obtain ⟨wt, hwt⟩ : ∃ n, n = (words bl 80).getD t 0 := ⟨_, rfl⟩
                      rw [← hwt] at HZW
                      have lw : wt < 4294967296 := by rw [hwt]; exact HWS.out _
                      have HNXT : Sl (rounds (words bl 80) (h0, h1, h2, h3, h4) (t + 1) = (((rot y0 5 + ch t y1 y2 y3) % 4294967296 + ((y4 + wt) % 4294967296 + kt t) % 4294967296) % 4294967296, y0, rot y1 30, y2, y3)) := ⟨by rw [hwt]; exact rounds_next _ _ _ _ _ _ _ _ HRD.out⟩
                      clear hz0 hz1 hz2 hz3 hz4 hzw hzk hB0 hB1 hB2 hB3 hB4 hBw hBk hwt HRWr HRKr HRD
                      obtain ⟨l0, l1, l2, l3, l4⟩ := HYS.out
                      clear HYS
                      simp only at l0 l1 l2 l3 l4
                      go_wp2
                      have d0 : (t : Int).tdiv 20 = (t : Int) / 20 := Int.tdiv_eq_ediv_of_nonneg (by omega)
                      have d1 : IntKind.i64.wrap ((t : Int) / 20) = (t : Int) / 20 := IntWalk.i64_in _ (by omega)
                      have d2 : (0 : Int) ≤ (t : Int) / 20 := by omega
                      have d3 : (t : Int) / 20 < 4 := by omega
                      have d4 : ((t : Int) / 20).toNat = t / 20 := by omega
                      have d5 : (t : Int) < 80 := by omega
                      refine wp_region_noPanic ?_
                      refine wp_region_held (S := fun W => W.cell? ⟨gx, 0, none⟩ = some z0 ∧ W.cell? ⟨gx, 1, none⟩ = some z1 ∧ W.cell? ⟨gx, 2, none⟩ = some z2 ∧ W.cell? ⟨gx, 3, none⟩ = some z3 ∧ W.cell? ⟨gx, 4, none⟩ = some z4 ∧ W.cell? ⟨gw, t, none⟩ = some zw ∧ W.cell? ⟨gk, t / 20, none⟩ = some zk) (by kernel_rfl) ?_
                      change wpAnyH _ _ _ _ _ _ _ _ wr.drew
                      have HA0 : Below wr.heap.size wr wr.drew := (Below.refl _ _).drew
                      have HS0 := HCE.out _ HA0
                      refine heldTake (d := (some 149)) (op := .move (.tmp 14)) (g := none) 0 (.slice (some ⟨gx, 0, none⟩) 5 cx) rfl (by kernel_rfl) (by kernel_rfl) (by kernel_rfl) (by kernel_rfl) ?yc0 HS0 ?_
                      case yc0 => intro o ho w _; simp only [execOp, ho]; go_simp; try rfl
                      refine heldTake (d := (some 150)) (op := .indexAddr 109 (.tmp 149) (.const (.int .i64 0))) (g := none) 1 (.pointer (some ⟨gx, 0, none⟩)) rfl (by kernel_rfl) (by kernel_rfl) (by kernel_rfl) (by kernel_rfl) ?yc1 HS0 ?_
                      case yc1 => intro o ho w _; simp only [execOp, ho]; go_simp; try rfl
                      refine heldTake (d := (some 151)) (op := .load 79 (.tmp 150)) (g := none) 2 (z0) rfl (by kernel_rfl) (by kernel_rfl) (by kernel_rfl) (by kernel_rfl) ?yc2 HS0 ?_
                      case yc2 => intro o ho W hS; obtain ⟨hs1, hs2, hs3, hs4, hs5, hs6, hs7⟩ := hS; simp only [execOp, ho]; go_simp
                      refine heldTake (d := (some 154)) (op := .move (.tmp 14)) (g := none) 5 (.slice (some ⟨gx, 0, none⟩) 5 cx) rfl (by kernel_rfl) (by kernel_rfl) (by kernel_rfl) (by kernel_rfl) ?yc5 HS0 ?_
                      case yc5 => intro o ho w _; simp only [execOp, ho]; go_simp; try rfl
                      refine heldTake (d := (some 155)) (op := .indexAddr 109 (.tmp 154) (.const (.int .i64 1))) (g := none) 6 (.pointer (some ⟨gx, 1, none⟩)) rfl (by kernel_rfl) (by kernel_rfl) (by kernel_rfl) (by kernel_rfl) ?yc6 HS0 ?_
                      case yc6 => intro o ho w _; simp only [execOp, ho]; go_simp; try rfl
                      refine heldTake (d := (some 156)) (op := .load 79 (.tmp 155)) (g := none) 7 (z1) rfl (by kernel_rfl) (by kernel_rfl) (by kernel_rfl) (by kernel_rfl) ?yc7 HS0 ?_
                      case yc7 => intro o ho W hS; obtain ⟨hs1, hs2, hs3, hs4, hs5, hs6, hs7⟩ := hS; simp only [execOp, ho]; go_simp
                      refine heldTake (d := (some 157)) (op := .move (.tmp 14)) (g := none) 8 (.slice (some ⟨gx, 0, none⟩) 5 cx) rfl (by kernel_rfl) (by kernel_rfl) (by kernel_rfl) (by kernel_rfl) ?yc8 HS0 ?_
                      case yc8 => intro o ho w _; simp only [execOp, ho]; go_simp; try rfl
                      refine heldTake (d := (some 158)) (op := .indexAddr 109 (.tmp 157) (.const (.int .i64 2))) (g := none) 9 (.pointer (some ⟨gx, 2, none⟩)) rfl (by kernel_rfl) (by kernel_rfl) (by kernel_rfl) (by kernel_rfl) ?yc9 HS0 ?_
                      case yc9 => intro o ho w _; simp only [execOp, ho]; go_simp; try rfl
                      refine heldTake (d := (some 159)) (op := .load 79 (.tmp 158)) (g := none) 10 (z2) rfl (by kernel_rfl) (by kernel_rfl) (by kernel_rfl) (by kernel_rfl) ?yc10 HS0 ?_
                      case yc10 => intro o ho W hS; obtain ⟨hs1, hs2, hs3, hs4, hs5, hs6, hs7⟩ := hS; simp only [execOp, ho]; go_simp
                      refine heldTake (d := (some 160)) (op := .move (.tmp 14)) (g := none) 11 (.slice (some ⟨gx, 0, none⟩) 5 cx) rfl (by kernel_rfl) (by kernel_rfl) (by kernel_rfl) (by kernel_rfl) ?yc11 HS0 ?_
                      case yc11 => intro o ho w _; simp only [execOp, ho]; go_simp; try rfl
                      refine heldTake (d := (some 161)) (op := .indexAddr 109 (.tmp 160) (.const (.int .i64 3))) (g := none) 12 (.pointer (some ⟨gx, 3, none⟩)) rfl (by kernel_rfl) (by kernel_rfl) (by kernel_rfl) (by kernel_rfl) ?yc12 HS0 ?_
                      case yc12 => intro o ho w _; simp only [execOp, ho]; go_simp; try rfl
                      refine heldTake (d := (some 162)) (op := .load 79 (.tmp 161)) (g := none) 13 (z3) rfl (by kernel_rfl) (by kernel_rfl) (by kernel_rfl) (by kernel_rfl) ?yc13 HS0 ?_
                      case yc13 => intro o ho W hS; obtain ⟨hs1, hs2, hs3, hs4, hs5, hs6, hs7⟩ := hS; simp only [execOp, ho]; go_simp
                      refine heldTake (d := (some 165)) (op := .move (.tmp 14)) (g := none) 16 (.slice (some ⟨gx, 0, none⟩) 5 cx) rfl (by kernel_rfl) (by kernel_rfl) (by kernel_rfl) (by kernel_rfl) ?yc16 HS0 ?_
                      case yc16 => intro o ho w _; simp only [execOp, ho]; go_simp; try rfl
                      refine heldTake (d := (some 166)) (op := .indexAddr 109 (.tmp 165) (.const (.int .i64 4))) (g := none) 17 (.pointer (some ⟨gx, 4, none⟩)) rfl (by kernel_rfl) (by kernel_rfl) (by kernel_rfl) (by kernel_rfl) ?yc17 HS0 ?_
                      case yc17 => intro o ho w _; simp only [execOp, ho]; go_simp; try rfl
                      refine heldTake (d := (some 167)) (op := .load 79 (.tmp 166)) (g := none) 18 (z4) rfl (by kernel_rfl) (by kernel_rfl) (by kernel_rfl) (by kernel_rfl) ?yc18 HS0 ?_
                      case yc18 => intro o ho W hS; obtain ⟨hs1, hs2, hs3, hs4, hs5, hs6, hs7⟩ := hS; simp only [execOp, ho]; go_simp
                      refine heldTake (d := (some 153)) (op := .move (.tmp 15)) (g := none) 4 (.int .i64 (t : Int)) rfl (by kernel_rfl) (by kernel_rfl) (by kernel_rfl) (by kernel_rfl) ?yc4 HS0 ?_
                      case yc4 => intro o ho w _; simp only [execOp, ho]; go_simp; try rfl
                      refine heldTake (d := (some 168)) (op := .move (.tmp 11)) (g := none) 19 (.slice (some ⟨gw, 0, none⟩) 80 cw) rfl (by kernel_rfl) (by kernel_rfl) (by kernel_rfl) (by kernel_rfl) ?yc19 HS0 ?_
                      case yc19 => intro o ho w _; simp only [execOp, ho]; go_simp; try rfl
                      refine heldTake (d := (some 169)) (op := .move (.tmp 15)) (g := none) 20 (.int .i64 (t : Int)) rfl (by kernel_rfl) (by kernel_rfl) (by kernel_rfl) (by kernel_rfl) ?yc20 HS0 ?_
                      case yc20 => intro o ho w _; simp only [execOp, ho]; go_simp; try rfl
                      refine heldTake (d := (some 170)) (op := .indexAddr 109 (.tmp 168) (.tmp 169)) (g := none) 21 (.pointer (some ⟨gw, t, none⟩)) rfl (by kernel_rfl) (by kernel_rfl) (by kernel_rfl) (by kernel_rfl) ?yc21 HS0 ?_
                      case yc21 => intro o ho w _; simp only [execOp, ho]; go_simp; try rfl
                      refine heldTake (d := (some 171)) (op := .load 79 (.tmp 170)) (g := none) 22 (zw) rfl (by kernel_rfl) (by kernel_rfl) (by kernel_rfl) (by kernel_rfl) ?yc22 HS0 ?_
                      case yc22 => intro o ho W hS; obtain ⟨hs1, hs2, hs3, hs4, hs5, hs6, hs7⟩ := hS; simp only [execOp, ho]; go_simp
                      refine heldTake (d := (some 173)) (op := .move (.tmp 9)) (g := none) 24 (.slice (some ⟨gk, 0, none⟩) 4 4) rfl (by kernel_rfl) (by kernel_rfl) (by kernel_rfl) (by kernel_rfl) ?yc24 HS0 ?_
                      case yc24 => intro o ho w _; simp only [execOp, ho]; go_simp; try rfl
                      refine heldTake (d := (some 174)) (op := .move (.tmp 15)) (g := none) 25 (.int .i64 (t : Int)) rfl (by kernel_rfl) (by kernel_rfl) (by kernel_rfl) (by kernel_rfl) ?yc25 HS0 ?_
                      case yc25 => intro o ho w _; simp only [execOp, ho]; go_simp; try rfl
                      refine heldTake (d := (some 175)) (op := .binOp .quo 3 (.tmp 174) (.const (.int .i64 20)) 3) (g := none) 26 (.int .i64 ((t : Int) / 20)) rfl (by kernel_rfl) (by kernel_rfl) (by kernel_rfl) (by kernel_rfl) ?yc26 HS0 ?_
                      case yc26 => intro o ho w _; simp only [execOp, ho]; go_simp; try rfl
                      refine heldTake (d := (some 176)) (op := .indexAddr 109 (.tmp 173) (.tmp 175)) (g := none) 27 (.pointer (some ⟨gk, t / 20, none⟩)) rfl (by kernel_rfl) (by kernel_rfl) (by kernel_rfl) (by kernel_rfl) ?yc27 HS0 ?_
                      case yc27 => intro o ho w _; simp only [execOp, ho]; go_simp; try rfl
                      refine heldTake (d := (some 177)) (op := .load 79 (.tmp 176)) (g := none) 28 (zk) rfl (by kernel_rfl) (by kernel_rfl) (by kernel_rfl) (by kernel_rfl) ?yc28 HS0 ?_
                      case yc28 => intro o ho W hS; obtain ⟨hs1, hs2, hs3, hs4, hs5, hs6, hs7⟩ := hS; simp only [execOp, ho]; go_simp
                      clear d0 d1 d2 d3 d4 d5
                      refine heldCall (d := (some 152)) (op := .call { callee := .value (.func 88), args := #[.tmp 151, .const (.int .i64 5)], argTypes := #[79, 3] }) (g := none) 3 88 #[z0, .int .i64 5] rfl (by kernel_rfl) (by kernel_rfl) ?yc3 ?_
                      case yc3 => intro o ho; simp only [execOp, ho]; go_simp
                      refine (turn_any z0 y0 5 5 wr.drew rfl (HZ0.out.below HA0) l0 (by decide)).mono ?_
                      rintro e q1 ⟨r1, rfl, HR1, HQ1⟩
                      have HA1 : Below wr.heap.size wr q1 := HA0.trans (HQ1.out.mono HA0.size)
                      refine ⟨_, rfl, HCE.out _ HA1, ?_⟩
                      refine heldCall (d := (some 163)) (op := .call { callee := .value (.func 91), args := #[.tmp 153, .tmp 156, .tmp 159, .tmp 162], argTypes := #[3, 79, 79, 79] }) (g := none) 14 91 #[.int .i64 (t : Int), z1, z2, z3] rfl (by kernel_rfl) (by kernel_rfl) ?yc14 ?_
                      case yc14 => intro o ho; simp only [execOp, ho]; go_simp
                      refine (f_any t z1 z2 z3 y1 y2 y3 q1 ht80 (HZ1.out.below HA1) (HZ2.out.below HA1) (HZ3.out.below HA1)).mono ?_
                      rintro e q2 ⟨r2, rfl, HR2, HQ2⟩
                      have HA2 : Below wr.heap.size wr q2 := HA1.trans (HQ2.out.mono HA1.size)
                      refine ⟨_, rfl, HCE.out _ HA2, ?_⟩
                      refine heldCall (d := (some 164)) (op := .call { callee := .value (.func 90), args := #[.tmp 152, .tmp 163], argTypes := #[79, 79] }) (g := none) 15 90 #[r1, r2] rfl (by kernel_rfl) (by kernel_rfl) ?yc15 ?_
                      case yc15 => intro o ho; simp only [execOp, ho]; go_simp
                      refine (plus_any r1 r2 (rot y0 5) (ch t y1 y2 y3) q2 (HR1.out.below HQ2.out) HR2.out (rot_lt l0) (ch_lt l1 l2 l3)).mono ?_
                      rintro e q3 ⟨r3, rfl, HR3, HQ3⟩
                      have HA3 : Below wr.heap.size wr q3 := HA2.trans (HQ3.out.mono HA2.size)
                      refine ⟨_, rfl, HCE.out _ HA3, ?_⟩
                      refine heldCall (d := (some 172)) (op := .call { callee := .value (.func 90), args := #[.tmp 167, .tmp 171], argTypes := #[79, 79] }) (g := none) 23 90 #[z4, zw] rfl (by kernel_rfl) (by kernel_rfl) ?yc23 ?_
                      case yc23 => intro o ho; simp only [execOp, ho]; go_simp
                      refine (plus_any z4 zw y4 wt q3 (HZ4.out.below HA3) (HZW.out.below HA3) l4 lw).mono ?_
                      rintro e q4 ⟨r4, rfl, HR4, HQ4⟩
                      have HA4 : Below wr.heap.size wr q4 := HA3.trans (HQ4.out.mono HA3.size)
                      refine ⟨_, rfl, HCE.out _ HA4, ?_⟩
                      refine heldCall (d := (some 178)) (op := .call { callee := .value (.func 90), args := #[.tmp 172, .tmp 177], argTypes := #[79, 79] }) (g := none) 29 90 #[r4, zk] rfl (by kernel_rfl) (by kernel_rfl) ?yc29 ?_
                      case yc29 => intro o ho; simp only [execOp, ho]; go_simp
                      refine (plus_any r4 zk ((y4 + wt) % 4294967296) (kt t) q4 HR4.out (HZK.out.below HA4) (Nat.mod_lt _ (by decide)) (kt_lt t)).mono ?_
                      rintro e q5 ⟨r5, rfl, HR5, HQ5⟩
                      have HA5 : Below wr.heap.size wr q5 := HA4.trans (HQ5.out.mono HA4.size)
                      refine ⟨_, rfl, HCE.out _ HA5, ?_⟩
                      refine heldCall (d := (some 179)) (op := .call { callee := .value (.func 90), args := #[.tmp 164, .tmp 178], argTypes := #[79, 79] }) (g := none) 30 90 #[r3, r5] rfl (by kernel_rfl) (by kernel_rfl) ?yc30 ?_
                      case yc30 => intro o ho; simp only [execOp, ho]; go_simp
                      refine (plus_any r3 r5 ((rot y0 5 + ch t y1 y2 y3) % 4294967296) (((y4 + wt) % 4294967296 + kt t) % 4294967296) q5 ((HR3.out.below HQ4.out).below HQ5.out) HR5.out (Nat.mod_lt _ (by decide)) (Nat.mod_lt _ (by decide))).mono ?_
                      rintro e q6 ⟨r6, rfl, HR6, HQ6⟩
                      have HA6 : Below wr.heap.size wr q6 := HA5.trans (HQ6.out.mono HA5.size)
                      refine ⟨_, rfl, HCE.out _ HA6, ?_⟩
                      refine heldTake (d := (some 16)) (op := .assign (.tmp 179)) (g := none) 31 (r6) rfl (by kernel_rfl) (by kernel_rfl) (by kernel_rfl) (by kernel_rfl) ?yc31 (HCE.out _ HA6) ?_
                      case yc31 => intro o ho w _; simp only [execOp, ho]; go_simp; try rfl
                      refine wpAnyH_done (by kernel_rfl) ?_ _
                      refine NoPanic.normal ?_
                      obtain ⟨nA, hnA⟩ : ∃ n, n = ((rot y0 5 + ch t y1 y2 y3) % 4294967296 + ((y4 + wt) % 4294967296 + kt t) % 4294967296) % 4294967296 := ⟨_, rfl⟩
                      rw [← hnA] at HR6 HNXT
                      clear hnA HR1 HR2 HR3 HR4 HR5 HS0 HA0 HA1 HA2 HA3 HA4 HA5 HQ1 HQ2 HQ3 HQ4 HQ5 HQ6 HZW HZK
                      simp only [Act.put, List.setIfInBounds_toArray, List.set_cons_succ, List.set_cons_zero]
                      obtain ⟨pz0, cz0, hq, _⟩ := HZ0.out
                      subst hq
                      obtain ⟨pz1, cz1, hq, _⟩ := HZ1.out
                      subst hq
                      obtain ⟨pz2, cz2, hq, _⟩ := HZ2.out
                      subst hq
                      obtain ⟨pz3, cz3, hq, _⟩ := HZ3.out
                      subst hq
                      obtain ⟨p6, c6, hq, _⟩ := HR6.out
                      subst hq
                      go_wp2
                      refine wp_region_noPanic ?_
                      refine wp_region_held (S := fun W => W.cell? ⟨gx, 0, none⟩ = some (.slice (some ⟨pz0, 0, none⟩) 32 cz0) ∧ W.cell? ⟨gx, 1, none⟩ = some (.slice (some ⟨pz1, 0, none⟩) 32 cz1) ∧ W.cell? ⟨gx, 2, none⟩ = some (.slice (some ⟨pz2, 0, none⟩) 32 cz2) ∧ W.cell? ⟨gx, 3, none⟩ = some (.slice (some ⟨pz3, 0, none⟩) 32 cz3)) (by kernel_rfl) ?_
                      change wpAnyH _ _ _ _ _ _ _ _ q6.drew
                      have HD0 : Below wr.heap.size wr q6.drew := HA6.drew
                      have HSE : ∀ W, Below wr.heap.size wr W → W.cell? ⟨gx, 0, none⟩ = some (.slice (some ⟨pz0, 0, none⟩) 32 cz0) ∧ W.cell? ⟨gx, 1, none⟩ = some (.slice (some ⟨pz1, 0, none⟩) 32 cz1) ∧ W.cell? ⟨gx, 2, none⟩ = some (.slice (some ⟨pz2, 0, none⟩) 32 cz2) ∧ W.cell? ⟨gx, 3, none⟩ = some (.slice (some ⟨pz3, 0, none⟩) 32 cz3) := fun W hW => ⟨(HCE.out W hW).1, (HCE.out W hW).2.1, (HCE.out W hW).2.2.1, (HCE.out W hW).2.2.2.1⟩
                      have HS1 := HSE _ HD0
                      refine heldTake (d := (some 180)) (op := .move (.tmp 16)) (g := none) 0 (.slice (some ⟨p6, 0, none⟩) 32 c6) rfl (by kernel_rfl) (by kernel_rfl) (by kernel_rfl) (by kernel_rfl) ?yd0 HS1 ?_
                      case yd0 => intro o ho w _; simp only [execOp, ho]; go_simp; try rfl
                      refine heldTake (d := (some 181)) (op := .move (.tmp 14)) (g := none) 1 (.slice (some ⟨gx, 0, none⟩) 5 cx) rfl (by kernel_rfl) (by kernel_rfl) (by kernel_rfl) (by kernel_rfl) ?yd1 HS1 ?_
                      case yd1 => intro o ho w _; simp only [execOp, ho]; go_simp; try rfl
                      refine heldTake (d := (some 182)) (op := .indexAddr 109 (.tmp 181) (.const (.int .i64 0))) (g := none) 2 (.pointer (some ⟨gx, 0, none⟩)) rfl (by kernel_rfl) (by kernel_rfl) (by kernel_rfl) (by kernel_rfl) ?yd2 HS1 ?_
                      case yd2 => intro o ho w _; simp only [execOp, ho]; go_simp; try rfl
                      refine heldTake (d := (some 183)) (op := .load 79 (.tmp 182)) (g := none) 3 (.slice (some ⟨pz0, 0, none⟩) 32 cz0) rfl (by kernel_rfl) (by kernel_rfl) (by kernel_rfl) (by kernel_rfl) ?yd3 HS1 ?_
                      case yd3 => intro o ho W hS; obtain ⟨hs1, hs2, hs3, hs4⟩ := hS; simp only [execOp, ho]; go_simp
                      refine heldTake (d := (some 184)) (op := .move (.tmp 14)) (g := none) 4 (.slice (some ⟨gx, 0, none⟩) 5 cx) rfl (by kernel_rfl) (by kernel_rfl) (by kernel_rfl) (by kernel_rfl) ?yd4 HS1 ?_
                      case yd4 => intro o ho w _; simp only [execOp, ho]; go_simp; try rfl
                      refine heldTake (d := (some 185)) (op := .indexAddr 109 (.tmp 184) (.const (.int .i64 1))) (g := none) 5 (.pointer (some ⟨gx, 1, none⟩)) rfl (by kernel_rfl) (by kernel_rfl) (by kernel_rfl) (by kernel_rfl) ?yd5 HS1 ?_
                      case yd5 => intro o ho w _; simp only [execOp, ho]; go_simp; try rfl
                      refine heldTake (d := (some 186)) (op := .load 79 (.tmp 185)) (g := none) 6 (.slice (some ⟨pz1, 0, none⟩) 32 cz1) rfl (by kernel_rfl) (by kernel_rfl) (by kernel_rfl) (by kernel_rfl) ?yd6 HS1 ?_
                      case yd6 => intro o ho W hS; obtain ⟨hs1, hs2, hs3, hs4⟩ := hS; simp only [execOp, ho]; go_simp
                      refine heldTake (d := (some 188)) (op := .move (.tmp 14)) (g := none) 8 (.slice (some ⟨gx, 0, none⟩) 5 cx) rfl (by kernel_rfl) (by kernel_rfl) (by kernel_rfl) (by kernel_rfl) ?yd8 HS1 ?_
                      case yd8 => intro o ho w _; simp only [execOp, ho]; go_simp; try rfl
                      refine heldTake (d := (some 189)) (op := .indexAddr 109 (.tmp 188) (.const (.int .i64 2))) (g := none) 9 (.pointer (some ⟨gx, 2, none⟩)) rfl (by kernel_rfl) (by kernel_rfl) (by kernel_rfl) (by kernel_rfl) ?yd9 HS1 ?_
                      case yd9 => intro o ho w _; simp only [execOp, ho]; go_simp; try rfl
                      refine heldTake (d := (some 190)) (op := .load 79 (.tmp 189)) (g := none) 10 (.slice (some ⟨pz2, 0, none⟩) 32 cz2) rfl (by kernel_rfl) (by kernel_rfl) (by kernel_rfl) (by kernel_rfl) ?yd10 HS1 ?_
                      case yd10 => intro o ho W hS; obtain ⟨hs1, hs2, hs3, hs4⟩ := hS; simp only [execOp, ho]; go_simp
                      refine heldTake (d := (some 191)) (op := .move (.tmp 14)) (g := none) 11 (.slice (some ⟨gx, 0, none⟩) 5 cx) rfl (by kernel_rfl) (by kernel_rfl) (by kernel_rfl) (by kernel_rfl) ?yd11 HS1 ?_
                      case yd11 => intro o ho w _; simp only [execOp, ho]; go_simp; try rfl
                      refine heldTake (d := (some 192)) (op := .indexAddr 109 (.tmp 191) (.const (.int .i64 3))) (g := none) 12 (.pointer (some ⟨gx, 3, none⟩)) rfl (by kernel_rfl) (by kernel_rfl) (by kernel_rfl) (by kernel_rfl) ?yd12 HS1 ?_
                      case yd12 => intro o ho w _; simp only [execOp, ho]; go_simp; try rfl
                      refine heldTake (d := (some 193)) (op := .load 79 (.tmp 192)) (g := none) 13 (.slice (some ⟨pz3, 0, none⟩) 32 cz3) rfl (by kernel_rfl) (by kernel_rfl) (by kernel_rfl) (by kernel_rfl) ?yd13 HS1 ?_
                      case yd13 => intro o ho W hS; obtain ⟨hs1, hs2, hs3, hs4⟩ := hS; simp only [execOp, ho]; go_simp
                      refine heldCall (d := (some 187)) (op := .call { callee := .value (.func 88), args := #[.tmp 186, .const (.int .i64 30)], argTypes := #[79, 3] }) (g := none) 7 88 #[.slice (some ⟨pz1, 0, none⟩) 32 cz1, .int .i64 30] rfl (by kernel_rfl) (by kernel_rfl) ?yd7 ?_
                      case yd7 => intro o ho; simp only [execOp, ho]; go_simp
                      refine (turn_any _ y1 30 30 q6.drew rfl (HZ1.out.below HD0) l1 (by decide)).mono ?_
                      rintro e q7 ⟨r7, rfl, HR7, HQ7⟩
                      have HD1 : Below wr.heap.size wr q7 := HD0.trans (HQ7.out.mono HD0.size)
                      refine ⟨_, rfl, HSE _ HD1, ?_⟩
                      obtain ⟨p7, c7, hq, _⟩ := HR7.out
                      subst hq
                      have HD2 : Below wr.heap.size wr (q7.alloc (.cells #[.slice (some ⟨p6, 0, none⟩) 32 c6, .slice (some ⟨pz0, 0, none⟩) 32 cz0, .slice (some ⟨p7, 0, none⟩) 32 c7, .slice (some ⟨pz2, 0, none⟩) 32 cz2, .slice (some ⟨pz3, 0, none⟩) 32 cz3] 79)) := HD1.alloc HD1.size _
                      refine heldRun (d := (some 194)) (op := .buildSlice 109 5 #[(0, .tmp 180), (1, .tmp 183), (2, .tmp 187), (3, .tmp 190), (4, .tmp 193)]) (g := none) 14 (.slice (some ⟨q7.heap.size, 0, none⟩) 5 5) (q7.alloc (.cells #[.slice (some ⟨p6, 0, none⟩) 32 c6, .slice (some ⟨pz0, 0, none⟩) 32 cz0, .slice (some ⟨p7, 0, none⟩) 32 c7, .slice (some ⟨pz2, 0, none⟩) 32 cz2, .slice (some ⟨pz3, 0, none⟩) 32 cz3] 79)) rfl (by kernel_rfl) (by kernel_rfl) ?yd14 (HSE _ HD2) ?_
                      case yd14 => intro o ho; simp only [execOp, ho]; go_simp
                      refine heldTake (d := (some 14)) (op := .assign (.tmp 194)) (g := none) 15 (.slice (some ⟨q7.heap.size, 0, none⟩) 5 5) rfl (by kernel_rfl) (by kernel_rfl) (by kernel_rfl) (by kernel_rfl) ?yd15 (HSE _ HD2) ?_
                      case yd15 => intro o ho w _; simp only [execOp, ho]; go_simp; try rfl
                      refine wpAnyH_done (by kernel_rfl) ?_ _
                      refine NoPanic.normal ?_
                      have HROW : Sl (RowAt (q7.alloc (.cells #[.slice (some ⟨p6, 0, none⟩) 32 c6, .slice (some ⟨pz0, 0, none⟩) 32 cz0, .slice (some ⟨p7, 0, none⟩) 32 c7, .slice (some ⟨pz2, 0, none⟩) 32 cz2, .slice (some ⟨pz3, 0, none⟩) 32 cz3] 79)) q7.heap.size [nA, y0, rot y1 30, y2, y3]) := ⟨(row_new (vs := [.slice (some ⟨p6, 0, none⟩) 32 c6, .slice (some ⟨pz0, 0, none⟩) 32 cz0, .slice (some ⟨p7, 0, none⟩) 32 c7, .slice (some ⟨pz2, 0, none⟩) 32 cz2, .slice (some ⟨pz3, 0, none⟩) 32 cz3]) rfl (bits5 (Bits.below (W := q6.drew) HR6.out HQ7.out) (HZ0.out.below HD1) HR7.out (HZ2.out.below HD1) (HZ3.out.below HD1))).1⟩
                      have HB7 : Sl (Below W1.heap.size W1 (q7.alloc (.cells #[.slice (some ⟨p6, 0, none⟩) 32 c6, .slice (some ⟨pz0, 0, none⟩) 32 cz0, .slice (some ⟨p7, 0, none⟩) 32 c7, .slice (some ⟨pz2, 0, none⟩) 32 cz2, .slice (some ⟨pz3, 0, none⟩) 32 cz3] 79)) ∧ W1.heap.size ≤ q7.heap.size) := ⟨HB.out.trans (HD2.mono HB.out.size), Nat.le_trans HB.out.size HD1.size⟩
                      clear HD0 HD1 HD2 HSE HS1 HCE HR6 HR7 HQ7 HZ0 HZ1 HZ2 HZ3 HZ4 HA6
                      simp only [Act.put, List.setIfInBounds_toArray, List.set_cons_succ, List.set_cons_zero]
                      go_wp2
                      go_roundw
                      case rel => exact ⟨t + 1, q7.heap.size, 5, _, _, _, _, _, by omega, by go_num, rfl, by omega, HB7.out.2, HNXT.out, HROW.out, HB7.out.1⟩
                      case measure => simp [intOf]; omega
                    · have ht8 : t = 80 := by omega
                      subst ht8
                      have HMX : Sl (mixTo [h0, h1, h2, h3, h4] [y0, y1, y2, y3, y4] 5 = hsAt P (m + 1)) := ⟨by rw [HNX.out]; exact mixTo_mix _ _ _ _ _ _ _ _ _ _ _ HRD.out⟩
                      have HC2 : Sl (CH w gb gh gk P [h0, h1, h2, h3, h4] wr) := ⟨HC1.out.below HB.out⟩
                      have hne : gx ≠ gh := by have := HC1.out.rh.1; omega
                      have HNE := Sl.mk hne
                      clear hne HRD HB HC1 HRW HNX HWS
                      obtain ⟨l0, l1, l2, l3, l4⟩ := HYS.out
                      obtain ⟨k0, k1, k2, k3, k4⟩ := HHS.out
                      have HSY : Sl (Small 4294967296 [y0, y1, y2, y3, y4]) := ⟨Small.of_mem (by decide) (fun x hx => by simp only [List.mem_cons, List.not_mem_nil, or_false] at hx; rcases hx with rfl | rfl | rfl | rfl | rfl <;> assumption)⟩
                      have HSH : Sl (Small 4294967296 [h0, h1, h2, h3, h4]) := ⟨Small.of_mem (by decide) (fun x hx => by simp only [List.mem_cons, List.not_mem_nil, or_false] at hx; rcases hx with rfl | rfl | rfl | rfl | rfl <;> assumption)⟩
                      clear HYS HHS l0 l1 l2 l3 l4 k0 k1 k2 k3 k4
                      obtain ⟨H, hH⟩ : ∃ H, H = [h0, h1, h2, h3, h4] := ⟨_, rfl⟩
                      obtain ⟨Y, hY⟩ : ∃ Y, Y = [y0, y1, y2, y3, y4] := ⟨_, rfl⟩
                      have HHL : Sl (H.length = 5 ∧ Y.length = 5) := ⟨by rw [hH, hY]; exact ⟨rfl, rfl⟩⟩
                      rw [← hH] at HMX HC2 HSH
                      rw [← hY] at HMX HRX HSY
                      clear hH hY
                      go_wp2
                      go_loopw [17] (fun i wr => ∃ k : Nat, k ≤ 5 ∧ i = .int .i64 (k : Int) ∧ CH w gb gh gk P (mixTo H Y k) wr ∧ RowAt wr gx Y) (fun i _ => 5 - (intOf i).toNat)
                      case atStart => exact ⟨0, by omega, rfl, HC2.out, HRX.out⟩
                      case round =>
                        clear HC2 HRX
                        obtain ⟨k, hk, rfl, hch, hrx⟩ := hrel
                        have HC := Sl.mk hch
                        have HRX := Sl.mk hrx
                        by_cases hk5 : k < 5
                        · obtain ⟨zh, hzh, hBh⟩ := hch.rh.2 k (by rw [mixTo_length, HHL.out.1]; exact hk5)
                          obtain ⟨zx, hzx, hBx⟩ := hrx.2 k (by rw [HHL.out.2]; exact hk5)
                          rw [mixTo_get _ _ _ _ (Nat.le_refl _)] at hBh
                          have HZH := Sl.mk hBh
                          have HZX := Sl.mk hBx
                          have lh : H.getD k 0 < 4294967296 := HSH.out k
                          have lx : Y.getD k 0 < 4294967296 := HSY.out k
                          have HMN : Sl (mixTo H Y (k + 1) = (mixTo H Y k).set k ((H.getD k 0 + Y.getD k 0) % 4294967296)) := ⟨rfl⟩
                          generalize H.getD k 0 = nh at *
                          generalize Y.getD k 0 = nx at *
                          have hgx2 := hrx.1
                          have hth := (hch.th k hk5).2
                          rw [Nat.zero_add] at hth
                          have HCX : Sl (∀ W, Below wr.heap.size wr W → W.cell? ⟨gx, k, none⟩ = some zx) := ⟨fun W hW => by rw [hW.cell (p := ⟨gx, k, none⟩) hgx2]; exact hzx⟩
                          have hgh := hch.rh.1
                          have HZHC := Sl.mk hzh
                          have HTH := Sl.mk hth
                          clear hzx hBh hBx hch hrx hth hzh
                          have p0 : (0 : Int) ≤ (k : Int) := by omega
                          have p1 : (k : Int) < 5 := by omega
                          go_wp2
                          refine wp_region_noPanic ?_
                          refine wp_region_held (S := fun W => W.cell? ⟨gx, k, none⟩ = some zx) (by kernel_rfl) ?_
                          change wpAnyH _ _ _ _ _ _ _ _ wr.drew
                          have HA0 : Below wr.heap.size wr wr.drew := (Below.refl _ _).drew
                          have HS0 := HCX.out _ HA0
                          have hzh : wr.drew.cell? ⟨gh, k, none⟩ = some zh := HZHC.out
                          refine heldTake (d := (some 199)) (op := .move (.tmp 8)) (g := none) 0 (.slice (some ⟨gh, 0, none⟩) 5 5) rfl (by kernel_rfl) (by kernel_rfl) (by kernel_rfl) (by kernel_rfl) ?yf0 HS0 ?_
                          case yf0 => intro o ho w _; simp only [execOp, ho]; go_simp; try rfl
                          refine heldTake (d := (some 200)) (op := .move (.tmp 17)) (g := none) 1 (.int .i64 (k : Int)) rfl (by kernel_rfl) (by kernel_rfl) (by kernel_rfl) (by kernel_rfl) ?yf1 HS0 ?_
                          case yf1 => intro o ho w _; simp only [execOp, ho]; go_simp; try rfl
                          refine heldTake (d := (some 201)) (op := .move (.tmp 8)) (g := none) 2 (.slice (some ⟨gh, 0, none⟩) 5 5) rfl (by kernel_rfl) (by kernel_rfl) (by kernel_rfl) (by kernel_rfl) ?yf2 HS0 ?_
                          case yf2 => intro o ho w _; simp only [execOp, ho]; go_simp; try rfl
                          refine heldTake (d := (some 202)) (op := .move (.tmp 17)) (g := none) 3 (.int .i64 (k : Int)) rfl (by kernel_rfl) (by kernel_rfl) (by kernel_rfl) (by kernel_rfl) ?yf3 HS0 ?_
                          case yf3 => intro o ho w _; simp only [execOp, ho]; go_simp; try rfl
                          refine heldTake (d := (some 203)) (op := .indexAddr 109 (.tmp 201) (.tmp 202)) (g := none) 4 (.pointer (some ⟨gh, k, none⟩)) rfl (by kernel_rfl) (by kernel_rfl) (by kernel_rfl) (by kernel_rfl) ?yf4 HS0 ?_
                          case yf4 => intro o ho w _; simp only [execOp, ho]; go_simp; try rfl
                          refine heldTake (d := (some 205)) (op := .move (.tmp 14)) (g := none) 6 (.slice (some ⟨gx, 0, none⟩) 5 cx) rfl (by kernel_rfl) (by kernel_rfl) (by kernel_rfl) (by kernel_rfl) ?yf6 HS0 ?_
                          case yf6 => intro o ho w _; simp only [execOp, ho]; go_simp; try rfl
                          refine heldTake (d := (some 206)) (op := .move (.tmp 17)) (g := none) 7 (.int .i64 (k : Int)) rfl (by kernel_rfl) (by kernel_rfl) (by kernel_rfl) (by kernel_rfl) ?yf7 HS0 ?_
                          case yf7 => intro o ho w _; simp only [execOp, ho]; go_simp; try rfl
                          refine heldTake (d := (some 207)) (op := .indexAddr 109 (.tmp 205) (.tmp 206)) (g := none) 8 (.pointer (some ⟨gx, k, none⟩)) rfl (by kernel_rfl) (by kernel_rfl) (by kernel_rfl) (by kernel_rfl) ?yf8 HS0 ?_
                          case yf8 => intro o ho w _; simp only [execOp, ho]; go_simp; try rfl
                          refine heldTake (d := (some 208)) (op := .load 79 (.tmp 207)) (g := none) 9 (zx) rfl (by kernel_rfl) (by kernel_rfl) (by kernel_rfl) (by kernel_rfl) ?yf9 HS0 ?_
                          case yf9 => intro o ho W hS; simp only [execOp, ho]; go_simp
                          refine heldRun (d := (some 204)) (op := .load 79 (.tmp 203)) (g := none) 5 zh wr.drew rfl (by kernel_rfl) (by kernel_rfl) ?yf5 HS0 ?_
                          case yf5 => intro o ho; simp only [execOp, ho]; go_simp
                          refine heldCall (d := (some 209)) (op := .call { callee := .value (.func 90), args := #[.tmp 204, .tmp 208], argTypes := #[79, 79] }) (g := none) 10 90 #[zh, zx] rfl (by kernel_rfl) (by kernel_rfl) ?yf10 ?_
                          case yf10 => intro o ho; simp only [execOp, ho]; go_simp
                          refine (plus_any zh zx nh nx wr.drew (HZH.out.below HA0) (HZX.out.below HA0) lh lx).mono ?_
                          rintro e q1 ⟨r1, rfl, HR1, HQ1⟩
                          have HA1 : Below wr.heap.size wr q1 := HA0.trans (HQ1.out.mono HA0.size)
                          have HS1 := HCX.out _ HA1
                          refine ⟨_, rfl, HS1, ?_⟩
                          refine heldTake (d := (some 210)) (op := .indexAddr 109 (.tmp 199) (.tmp 200)) (g := none) 11 (.pointer (some ⟨gh, k, none⟩)) rfl (by kernel_rfl) (by kernel_rfl) (by kernel_rfl) (by kernel_rfl) ?yf11 HS1 ?_
                          case yf11 => intro o ho w _; simp only [execOp, ho]; go_simp; try rfl
                          obtain ⟨p6, c6, hq, _⟩ := HR1.out
                          subst hq
                          have hzh1 : q1.cell? ⟨gh, k, none⟩ = some zh := by rw [HA1.cell (p := ⟨gh, k, none⟩) hgh]; exact HZHC.out
                          have hth1 : q1.frozen? ⟨gh, k, none⟩ = false := by rw [HA1.frozen (p := ⟨gh, k, none⟩) hgh]; exact HTH.out
                          have HC3 : Sl (CH w gb gh gk P (mixTo H Y (k + 1)) (q1.setCell ⟨gh, k, none⟩ (.slice (some ⟨p6, 0, none⟩) 32 c6))) := ⟨by rw [HMN.out]; exact (HC.out.below HA1).store (by rw [mixTo_length, HHL.out.1]) k hk5 _ _ HR1.out⟩
                          have HRX3 : Sl (RowAt (q1.setCell ⟨gh, k, none⟩ (.slice (some ⟨p6, 0, none⟩) 32 c6)) gx Y) := ⟨(HRX.out.below HA1).grown (grown_setCell _ _ _ _) ((HC.out.below HA1).rh.odd0 (by rw [mixTo_length, HHL.out.1]; decide)) HNE.out⟩
                          have HS3 : (q1.setCell ⟨gh, k, none⟩ (.slice (some ⟨p6, 0, none⟩) 32 c6)).cell? ⟨gx, k, none⟩ = some zx := by rw [World.cell?_setCell_far _ _ _ _ (by simpa using Ne.symm HNE.out)]; exact HS1
                          refine heldStore (d := none) (op := .store 79 (.tmp 210) (.tmp 209)) (g := none) 12 (q1.setCell ⟨gh, k, none⟩ (.slice (some ⟨p6, 0, none⟩) 32 c6)) rfl (by kernel_rfl) (by kernel_rfl) ?yf12 HS3 ?_
                          case yf12 => intro o ho; simp only [execOp, ho]; go_simp; try rfl
                          refine wpAnyH_done (by kernel_rfl) ?_ _
                          refine NoPanic.normal ?_
                          clear HS3 hzh1 hth1 HS1 HA1 HA0 HS0 hzh HR1 HQ1 HCX HZHC HTH HZH HZX HC HRX HMN
                          simp only [Act.put, List.setIfInBounds_toArray, List.set_cons_succ, List.set_cons_zero]
                          go_wp2
                          go_roundw
                          case rel => exact ⟨k + 1, by omega, by go_num, HC3.out, HRX3.out⟩
                          case measure => simp [intOf]; omega
                        · have hk6 : k = 5 := by omega
                          subst hk6
                          rw [HMX.out] at HC
                          clear hch hrx
                          go_wp2
                          go_roundw
                          case rel => exact ⟨m + 1, by omega, by go_num, HC.out⟩
                          case measure => simp [intOf]; omega
            · have hmN : m = N := by omega
              subst hmN
              have HFIN : Sl (bytesOf (hsAt P m) 20 = told (feed st0 bs)) := ⟨by rw [HP.out] at hPN ⊢; rw [hsAt_all hPN]; rfl⟩
              have HHL : Sl ((hsAt P m).length = 5 ∧ Small 4294967296 (hsAt P m)) := ⟨(okAt HSM.out m).pl, (okAt HSM.out m).ps⟩
              obtain ⟨H, hH⟩ : ∃ H, H = hsAt P m := ⟨_, rfl⟩
              rw [← hH] at HC HFIN HHL
              have HRH : Sl (RowAt W0 gh H ∧ Below w.heap.size w W0) := ⟨HC.out.rh, HC.out.bel⟩
              clear hH HC
              go_wp2
              go_loopw [18, 19] (fun x i wr => ∃ k : Nat, k ≤ 5 ∧ i = .int .i64 (k : Int) ∧ x = .string (strOf (bytesOf H (4 * k))) ∧ RowAt wr gh H ∧ Below w.heap.size w wr) (fun _ i _ => 5 - (intOf i).toNat)
              case atStart => exact ⟨0, by omega, rfl, rfl, HRH.out.1, HRH.out.2⟩
              case round =>
                clear HRH
                obtain ⟨k, hk, rfl, rfl, hrh, hb⟩ := hrel
                have HRH := Sl.mk hrh
                have HB := Sl.mk hb
                clear hb
                by_cases hk5 : k < 5
                · obtain ⟨zh, hzh, hBh⟩ := hrh.2 k (by rw [HHL.out.1]; exact hk5)
                  have HZH := Sl.mk hBh
                  have lh : H.getD k 0 < 4294967296 := HHL.out.2 k
                  have HBY : Sl (bytesOf H (4 * (k + 1)) = bytesOf H (4 * k) ++ [H.getD k 0 / 16777216, H.getD k 0 / 65536 % 256, H.getD k 0 / 256 % 256, H.getD k 0 % 256]) := ⟨bytesOf_four H k lh⟩
                  generalize H.getD k 0 = nh at *
                  generalize hs0 : strOf (bytesOf H (4 * k)) = s0
                  have HS0 : Sl (s0 ++ strOf [nh / 16777216, nh / 65536 % 256, nh / 256 % 256, nh % 256] = strOf (bytesOf H (4 * (k + 1)))) := ⟨by rw [HBY.out, ← hs0, strOf_append]⟩
                  have hs0z : s0.size = 4 * k := by rw [← hs0, strOf, strOfNums_size, List.length_map, bytesOf_length]
                  clear hBh hrh hs0 HBY
                  have p0 : (0 : Int) ≤ (k : Int) := by omega
                  have p1 : (k : Int) < 5 := by omega
                  go_wp2_with fail
                  refine (number_any zh nh _ HZH.out lh).mono ?_
                  rintro e q1 ⟨rfl, rfl⟩
                  have HB1 : Sl (Below wr.heap.size wr (wr.alloc (.cells (u8s [nh / 16777216, nh / 65536 % 256, nh / 256 % 256, nh % 256]).toArray 5))) := ⟨(Below.refl _ _).alloc (Nat.le_refl _) _⟩
                  have hcv := conv_back (W := wr.alloc (.cells (u8s [nh / 16777216, nh / 65536 % 256, nh / 256 % 256, nh % 256]).toArray 5)) (g := wr.heap.size) (n := 4) (c := 4) [nh / 16777216, nh / 65536 % 256, nh / 256 % 256, nh % 256] rfl (fun j v hv => by rw [Nat.zero_add, row_cell (alloc_new _ _ _ rfl) j _ hv])
                  simp [u8s, v8] at hcv
                  have hz4 : (strOf [nh / 16777216, nh / 65536 % 256, nh / 256 % 256, nh % 256]).size = 4 := by rw [strOf, strOfNums_size]; rfl
                  generalize strOf [nh / 16777216, nh / 65536 % 256, nh / 256 % 256, nh % 256] = s4 at hcv hz4 HS0
                  have b0 : IntKind.u8.wrap ((nh : Int) / 16777216) = (nh : Int) / 16777216 := IntWalk.u8_in _ (by omega)
                  have b1 : IntKind.u8.wrap ((nh : Int) / 65536 % 256) = (nh : Int) / 65536 % 256 := IntWalk.u8_in _ (by omega)
                  have b2 : IntKind.u8.wrap ((nh : Int) / 256 % 256) = (nh : Int) / 256 % 256 := IntWalk.u8_in _ (by omega)
                  have b3 : IntKind.u8.wrap ((nh : Int) % 256) = (nh : Int) % 256 := IntWalk.u8_in _ (by omega)
                  go_wp2
                  go_roundw
                  case rel => exact ⟨k + 1, by omega, by go_num, by rw [← HS0.out], HRH.out.below HB1.out, HB.out.trans (HB1.out.mono HB.out.size)⟩
                  case measure => simp [intOf]; omega
                · have hk6 : k = 5 := by omega
                  subst hk6
                  clear hrh
                  go_wp2
                  go_ret
                  exact ⟨_, rfl, ⟨by rw [HFIN.out]⟩, HB⟩
    · have hn' := pad_more _ _ hn hd
      rw [hlen] at HR
      have HRa : Sl (BR w.heap.size (wr.alloc (.cells #[.int .u8 0] 5)) (.slice (some ⟨g, 0, none⟩) (a.size + 1 + n) cap) (bs ++ 128 :: zs n)) := ⟨HR.out.alloc _⟩
      obtain ⟨v2, w2, happ2, HR2, HB2⟩ := app_bytes HRa.out 0 ⟨wr.heap.size, 0, none⟩ 1 (new_one wr _ 5) (by rw [hlen]; omega) (by rw [alloc_size]; have := HB.out.size; omega)
      have HB02 : Sl (Below w.heap.size w w2) := ⟨(HB.out.alloc HB.out.size _).trans HB2.out⟩
      have HR3 : Sl (BR w.heap.size w2 v2 (bs ++ 128 :: zs (n + 1))) := ⟨by have := HR2.out; rw [zs_more]; simpa using this⟩
      have HLEN : Sl (lenOf v2 = a.size + 1 + n + 1) := ⟨by rw [br_len HR2.out, List.length_append, hlen]; rfl⟩
      clear HR HB HRa HB2 HR2 hlen
      go_wp2_with (at_builtin; refine wpList_app rfl (.tmp 30) (.tmp 31) 53 53 rfl rfl _ v2 ⟨wr.heap.size, 0, none⟩ 1 1 w2 rfl rfl happ2 ?_)
      go_wp2
      go_roundw
      case rel => exact ⟨n + 1, by omega, HR3.out, HB02.out⟩
      case measure => rw [HLEN.out]; simp [lenOf]; omega
end Go.Proofs.YthlagngpllahkaaGreatDoor.Sha
