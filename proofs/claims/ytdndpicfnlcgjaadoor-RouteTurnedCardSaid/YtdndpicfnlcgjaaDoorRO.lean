/- route: awake. -/
import Derived.Test.YtdndpicfnlcgjaaDoorRJ
set_option maxRecDepth 100000
namespace Go.Proofs.YtdndpicfnlcgjaaDoor.Rou
open Go.RowKit Nam
open RoutePlain (Rt below better fits pick)

def exRs : List Rb := [⟨{ data := #[47] }, { data := #[] }, { data := #[120] }⟩, ⟨{ data := #[47, 97] }, { data := #[112] }, { data := #[121] }⟩]
theorem exRs_short : ∀ r ∈ exRs, Short r := fun r hr => by
  simp only [exRs, List.mem_cons, List.not_mem_nil, or_false] at hr
  rcases hr with rfl | rfl <;> exact ⟨by decide, by decide, by decide⟩
theorem exRs_ok : ∀ r ∈ exRs, RbOk r := fun r hr => by
  obtain ⟨h1, h2, h3⟩ := exRs_short r hr
  exact ⟨Nat.le_trans h1 (by decide), Nat.le_trans h2 (by decide), Nat.le_trans h3 (by decide)⟩
/-- A row of routes that is made new. -/
theorem rts_new (W : World) (rs : List Rb) (cs : Array Value) (h : cs = (rcs rs).toArray) : RtsAt (W.alloc (.cells cs 34)) (.slice (some ⟨W.heap.size, 0, none⟩) rs.length rs.length) rs := by
  subst h
  refine ⟨_, _, W.heap.size, 0, rfl, Nat.le_refl _, fun _ => rfl, fun i hi j hj => ?_⟩
  rw [Nat.zero_add, cell_of_row _ _ _ _ _ _ (alloc_new _ _ _ rfl), List.getElem?_toArray, rcs_get rs i hi j hj]
theorem str_none (W : World) : StrA W (.slice none 0 0) [] := ⟨none, 0, 0, 0, rfl, Nat.le_refl _, fun h => by simp at h, fun i hi => by simp at hi⟩
theorem str_one (W : World) (s : ByteArray) : StrA (W.alloc (.cells #[.string s] 9)) (.slice (some ⟨W.heap.size, 0, none⟩) 1 1) [s] := by
  refine ⟨_, _, W.heap.size, 0, rfl, Nat.le_refl _, fun _ => rfl, fun i hi => ?_⟩
  obtain rfl : i = 0 := by simpa using hi
  rw [cell_of_row _ _ _ _ _ _ (alloc_new _ _ _ rfl)]; rfl
set_option maxHeartbeats 8000000 in
theorem awake_any (W : World) (hg : Globs W) : Calls Tryd.prog 10 #[] W fun e w' => e = .returned (.bool true) ∧ Sl (Below W.heap.size W w') := by
  obtain ⟨wa, hwa, HBa, HR⟩ : ∃ V, W.alloc (.cells #[.string { data := #[47] }, .string { data := #[] }, .string { data := #[120] }, .string { data := #[47, 97] }, .string { data := #[112] }, .string { data := #[121] }] 34) = V ∧ Sl (Below W.heap.size W V) ∧ Sl (RtsAt V (.slice (some ⟨W.heap.size, 0, none⟩) 2 2) exRs) := ⟨_, rfl, ⟨(Below.refl _ _).alloc (Nat.le_refl _) _⟩, ⟨rts_new W exRs _ (by kernel_rfl)⟩⟩
  obtain ⟨g, hgg⟩ : ∃ g, W.heap.size = g := ⟨_, rfl⟩
  rw [hgg] at HR
  obtain ⟨wb, hwb, HBb, hc⟩ := cfg_box wa #[.slice (some ⟨g, 0, none⟩) 2 2, .slice none 0 0, .int .i64 1, .int .i64 1, .int .i64 1, .int .i64 1, .int .i64 1, .int .i64 1, .int .i64 1, .int .i64 1, .int .i64 1, .int .i64 1]
  have HC := Sl.mk hc
  obtain ⟨c, hcc⟩ : ∃ g, wa.heap.size = g := ⟨_, rfl⟩
  rw [hcc] at HC
  have HBab : Sl (Below W.heap.size W wb) := ⟨HBa.out.trans (HBb.out.mono HBa.out.size)⟩
  have HRb := Sl.mk (HR.out.below HBb.out)
  have HGL := Sl.mk (hg.of HBab.out)
  have hl2 : exRs.length = 2 := rfl
  have v1 : pickV (bestB (bytes { data := #[47, 97, 47, 98] }) ([{ data := #[112] }].map bytes) exRs) = .tuple #[.agg #[.string { data := #[47, 97] }, .string { data := #[112] }, .string { data := #[121] }], .bool true] := by kernel_rfl
  have v2 : admV (allowB { data := #[] } []) (bestB (bytes { data := #[47, 98] }) (([] : List ByteArray).map bytes) exRs) (decide ((1 : Int) ≤ 0)) = .tuple #[.agg #[.string { data := #[47] }, .string { data := #[] }, .string { data := #[120] }], .int .i64 0] := by kernel_rfl
  have v3 : checkB exRs 0 1 1 1 1 1 1 1 1 1 1 = true := by kernel_rfl
  have PK : Sl (Calls Tryd.prog 15 #[.agg #[.slice (some ⟨g, 0, none⟩) 2 2, .slice none 0 0, .int .i64 1, .int .i64 1, .int .i64 1, .int .i64 1, .int .i64 1, .int .i64 1, .int .i64 1, .int .i64 1, .int .i64 1, .int .i64 1], .string { data := #[47, 97, 47, 98] }, .slice (some ⟨wb.heap.size, 0, none⟩) 1 1] (wb.alloc (.cells #[.string { data := #[112] }] 9)) fun en w' => en = .returned (.tuple #[.agg #[.string { data := #[47, 97] }, .string { data := #[112] }, .string { data := #[121] }], .bool true]) ∧ Sl (Below (wb.alloc (.cells #[.string { data := #[112] }] 9)).heap.size (wb.alloc (.cells #[.string { data := #[112] }] 9)) w')) := ⟨by
    rw [← v1]
    exact pick_any exRs (some ⟨g, 0, none⟩) 2 2 none 0 0 1 1 1 1 1 1 1 1 1 1 { data := #[47, 97, 47, 98] } _ [{ data := #[112] }] _ (HRb.out.below ((Below.refl _ _).alloc (Nat.le_refl _) _)) exRs_short (by decide) (by decide) (str_one _ _) (by decide) (fun s hs => by rw [List.mem_singleton] at hs; subst hs; decide)⟩
  have AD : Sl (∀ V, Below wb.heap.size wb V → Calls Tryd.prog 17 #[.agg #[.slice (some ⟨g, 0, none⟩) 2 2, .slice none 0 0, .int .i64 1, .int .i64 1, .int .i64 1, .int .i64 1, .int .i64 1, .int .i64 1, .int .i64 1, .int .i64 1, .int .i64 1, .int .i64 1], .agg #[.string { data := #[47, 98] }, .string { data := #[] }, .string { data := #[] }, .string { data := #[] }, .slice none 0 0], .int .i64 0] V fun en w' => en = .returned (.tuple #[.agg #[.string { data := #[47] }, .string { data := #[] }, .string { data := #[120] }], .int .i64 0]) ∧ Sl (Below V.heap.size V w')) := ⟨fun V h => by
    rw [← v2]
    exact admit_any exRs (some ⟨g, 0, none⟩) 2 2 none 0 0 1 1 1 1 1 1 1 1 1 1 { data := #[47, 98] } { data := #[] } { data := #[] } { data := #[] } none 0 [] [] 0 V (HRb.out.below h) (str_none _) (by decide) exRs_short (by decide) (by decide) (str_none _) (by decide) (fun s hs => by cases hs)⟩
  have CH : Sl (∀ V, Below wb.heap.size wb V → Calls Tryd.prog 13 #[.agg #[.slice (some ⟨g, 0, none⟩) 2 2, .slice none 0 0, .int .i64 1, .int .i64 1, .int .i64 1, .int .i64 1, .int .i64 1, .int .i64 1, .int .i64 1, .int .i64 1, .int .i64 1, .int .i64 1]] V fun en w' => en = .returned (.int .i64 0) ∧ Sl (Below V.heap.size V w')) := ⟨fun V h => check_any exRs (some ⟨g, 0, none⟩) 2 2 none 0 0 1 1 1 1 1 1 1 1 1 1 V (HGL.out.of h) (HRb.out.below h) exRs_ok (by decide) true v3⟩
  have BL : Sl (∀ V f r, f.size ≤ maxLen → below (bytes { data := #[47, 97, 47, 98, 63, 99] }) (bytes f) = r → Calls Tryd.prog 19 #[.string { data := #[47, 97, 47, 98, 63, 99] }, .string f] V fun e w' => e = .returned (.bool r) ∧ Sl (Below V.heap.size V w')) := ⟨fun V f r h1 h2 => below_any _ f V (by decide) h1 r h2⟩
  have b1 : below (bytes { data := #[47, 97, 47, 98, 63, 99] }) (bytes { data := #[47, 97] }) = true := by kernel_rfl
  have b2 : below (bytes { data := #[47, 97, 47, 98, 63, 99] }) (bytes { data := #[47, 97, 47, 98] }) = true := by kernel_rfl
  have b3 : below (bytes { data := #[47, 97, 47, 98, 63, 99] }) (bytes { data := #[47] }) = true := by kernel_rfl
  have b4 : below (bytes { data := #[47, 97, 47, 98, 63, 99] }) (bytes { data := #[47, 97, 47, 98, 99] }) = false := by kernel_rfl
  have HB1 := Sl.mk b1
  have HB2 := Sl.mk b2
  have HB3 := Sl.mk b3
  have HB4 := Sl.mk b4
  clear hg v1 v2 v3 b1 b2 b3 b4 hc hl2
  rw [hgg] at HBab HBa ⊢
  have HGS : Sl (g ≤ wb.heap.size) := ⟨by rw [← hgg]; exact Nat.le_trans HBa.out.size HBb.out.size⟩
  go_enter Tryd.func10, Tryd.ntmps10
  go_upto_region 2 with fail
  (try rw [hwa])
  (try rw [hgg])
  (try rw [hwb])
  (try rw [hcc])
  clear hwa hwb hgg hcc HR HBa HBb
  clear HRb HGL
  have k0 := cell_at HC.out 0 _ rfl
  have k1 := cell_at HC.out 1 _ rfl
  have k2 := cell_at HC.out 2 _ rfl
  have k3 := cell_at HC.out 3 _ rfl
  have k4 := cell_at HC.out 4 _ rfl
  have k5 := cell_at HC.out 5 _ rfl
  have k6 := cell_at HC.out 6 _ rfl
  have k7 := cell_at HC.out 7 _ rfl
  have k8 := cell_at HC.out 8 _ rfl
  have k9 := cell_at HC.out 9 _ rfl
  have k10 := cell_at HC.out 10 _ rfl
  have k11 := cell_at HC.out 11 _ rfl
  go_wp2_with fail
  refine (PK.out).mono ?_
  rintro e w1 ⟨rfl, HQ1⟩
  clear PK
  have HQ1b : Sl (Below wb.heap.size wb w1) := ⟨((Below.refl wb.heap.size wb).alloc (Nat.le_refl _) _).trans (HQ1.out.mono (by rw [alloc_size]; omega))⟩
  clear HQ1 k0 k1 k2 k3 k4 k5 k6 k7 k8 k9 k10 k11
  have HC1 := Sl.mk (below_key HC.out HQ1b.out)
  obtain ⟨w2, hw2, HQ2, hx2⟩ := box_of w1 { data := #[47, 97] } { data := #[112] } { data := #[121] }
  go_upto_region 3 with fail
  (try rw [hw2])
  have HX2 := Sl.mk hx2
  have HC2 := Sl.mk (below_key HC1.out HQ2.out)
  have HQ2b : Sl (Below wb.heap.size wb w2) := ⟨HQ1b.out.trans (HQ2.out.mono HQ1b.out.size)⟩
  obtain ⟨p, hpp⟩ : ∃ p, w1.heap.size = p := ⟨_, rfl⟩
  rw [hpp] at HX2
  (try rw [hpp])
  clear hw2 hx2 hpp HC1 HC HQ1b HQ2
  have k0 := cell_at HC2.out 0 _ rfl
  have k1 := cell_at HC2.out 1 _ rfl
  have k2 := cell_at HC2.out 2 _ rfl
  have k3 := cell_at HC2.out 3 _ rfl
  have k4 := cell_at HC2.out 4 _ rfl
  have k5 := cell_at HC2.out 5 _ rfl
  have k6 := cell_at HC2.out 6 _ rfl
  have k7 := cell_at HC2.out 7 _ rfl
  have k8 := cell_at HC2.out 8 _ rfl
  have k9 := cell_at HC2.out 9 _ rfl
  have k10 := cell_at HC2.out 10 _ rfl
  have k11 := cell_at HC2.out 11 _ rfl
  go_wp2_with fail
  refine (AD.out _ HQ2b.out).mono ?_
  rintro e w3 ⟨rfl, HQ3⟩
  clear AD k0 k1 k2 k3 k4 k5 k6 k7 k8 k9 k10 k11
  have HC3 := Sl.mk (below_key HC2.out HQ3.out)
  have HX3 := Sl.mk (below_key HX2.out HQ3.out)
  have HQ3b : Sl (Below wb.heap.size wb w3) := ⟨HQ2b.out.trans (HQ3.out.mono HQ2b.out.size)⟩
  obtain ⟨w4, hw4, HQ4, hx4⟩ := box_of w3 { data := #[47] } { data := #[] } { data := #[120] }
  go_upto_region 4 with fail
  (try rw [hw4])
  have HY4 := Sl.mk hx4
  have HC4 := Sl.mk (below_key HC3.out HQ4.out)
  have HX4 := Sl.mk (below_key HX3.out HQ4.out)
  have HQ4b : Sl (Below wb.heap.size wb w4) := ⟨HQ3b.out.trans (HQ4.out.mono HQ3b.out.size)⟩
  obtain ⟨q, hqq⟩ : ∃ p, w3.heap.size = p := ⟨_, rfl⟩
  rw [hqq] at HY4
  (try rw [hqq])
  clear hw4 hx4 hqq HC2 HC3 HX2 HX3 HQ2b HQ3b HQ3 HQ4
  have k0 := cell_at HC4.out 0 _ rfl
  have k1 := cell_at HC4.out 1 _ rfl
  have k2 := cell_at HC4.out 2 _ rfl
  have k3 := cell_at HC4.out 3 _ rfl
  have k4 := cell_at HC4.out 4 _ rfl
  have k5 := cell_at HC4.out 5 _ rfl
  have k6 := cell_at HC4.out 6 _ rfl
  have k7 := cell_at HC4.out 7 _ rfl
  have k8 := cell_at HC4.out 8 _ rfl
  have k9 := cell_at HC4.out 9 _ rfl
  have k10 := cell_at HC4.out 10 _ rfl
  have k11 := cell_at HC4.out 11 _ rfl
  go_wp2_with fail
  refine (CH.out _ HQ4b.out).mono ?_
  rintro e w5 ⟨rfl, HQ5⟩
  clear CH k0 k1 k2 k3 k4 k5 k6 k7 k8 k9 k10 k11
  have HX5 := Sl.mk (below_key HX4.out HQ5.out)
  have HY5 := Sl.mk (below_key HY4.out HQ5.out)
  have HQ5b : Sl (Below wb.heap.size wb w5) := ⟨HQ4b.out.trans (HQ5.out.mono HQ4b.out.size)⟩
  clear HX4 HY4 HQ4b HQ5 HC4
  go_wp2_with fail
  refine (BL.out _ { data := #[47, 97] } true (by decide) HB1.out).mono ?_
  rintro e w6 ⟨rfl, HQ6⟩
  have HX6 := Sl.mk (below_key HX5.out HQ6.out)
  have HY6 := Sl.mk (below_key HY5.out HQ6.out)
  have HQ6b : Sl (Below wb.heap.size wb w6) := ⟨HQ5b.out.trans (HQ6.out.mono HQ5b.out.size)⟩
  clear HX5 HY5 HQ5b HQ6 HB1
  go_wp2_with fail
  refine (BL.out _ { data := #[47, 97, 47, 98] } true (by decide) HB2.out).mono ?_
  rintro e w7 ⟨rfl, HQ7⟩
  have HX7 := Sl.mk (below_key HX6.out HQ7.out)
  have HY7 := Sl.mk (below_key HY6.out HQ7.out)
  have HQ7b : Sl (Below wb.heap.size wb w7) := ⟨HQ6b.out.trans (HQ7.out.mono HQ6b.out.size)⟩
  clear HX6 HY6 HQ6b HQ7 HB2
  go_wp2_with fail
  refine (BL.out _ { data := #[47] } true (by decide) HB3.out).mono ?_
  rintro e w8 ⟨rfl, HQ8⟩
  have HX8 := Sl.mk (below_key HX7.out HQ8.out)
  have HY8 := Sl.mk (below_key HY7.out HQ8.out)
  have HQ8b : Sl (Below wb.heap.size wb w8) := ⟨HQ7b.out.trans (HQ8.out.mono HQ7b.out.size)⟩
  clear HX7 HY7 HQ7b HQ8 HB3
  go_wp2_with fail
  refine (BL.out _ { data := #[47, 97, 47, 98, 99] } false (by decide) HB4.out).mono ?_
  rintro e w9 ⟨rfl, HQ9⟩
  have HX9 := Sl.mk (below_key HX8.out HQ9.out)
  have HY9 := Sl.mk (below_key HY8.out HQ9.out)
  have HQ9b : Sl (Below wb.heap.size wb w9) := ⟨HQ8b.out.trans (HQ9.out.mono HQ8b.out.size)⟩
  clear HX8 HY8 HQ8b HQ9 HB4
  obtain ⟨-, -, x2⟩ := rt_cells HX9.out
  obtain ⟨-, -, y2⟩ := rt_cells HY9.out
  go_wp2
  go_ret
  exact ⟨rfl, ⟨HBab.out.trans (HQ9b.out.mono HGS.out)⟩⟩
end Go.Proofs.YtdndpicfnlcgjaaDoor.Rou
