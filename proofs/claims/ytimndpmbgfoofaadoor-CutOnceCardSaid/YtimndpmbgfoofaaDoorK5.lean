/- CutOnce's walk. -/
import Derived.Test.YtimndpmbgfoofaaDoorCJ
set_option maxRecDepth 100000
namespace Go.Proofs.YtimndpmbgfoofaaDoor.Cut
open Go.RowKit MaskPlain Mas Fra Stm CutPlain
open FramePlain (Fr Fr0 form chk ctl zero4)

theorem fslice_to_run {W : World} {ev : Operand → Value} {o : Oper} {x y : Operand} {a : Option Addr} {n cap k : Nat} (ho : o.op = .slice 23 x none (some y) none) (hx : ev x = .slice a n cap) (hy : ev y = .int .i64 (k : Int)) (hk : k ≤ cap) : (execOp ev o).run Tryd.prog W = .ok (.value (.slice a k cap)) W := by
  unfold execOp
  simp only [ho, hx, hy, Option.map_none, Option.map_some, Sem.run_bind]
  rw [run_sliceAt_slice (h := Tryd.underlying23), fslice_to W a n cap k hk]
  rfl
theorem fslice_from_run {W : World} {ev : Operand → Value} {o : Oper} {x y : Operand} {a : Option Addr} {n cap k : Nat} (ho : o.op = .slice 23 x (some y) none none) (hx : ev x = .slice a n cap) (hy : ev y = .int .i64 (k : Int)) (hk : k ≤ n) : (execOp ev o).run Tryd.prog W = .ok (.value (.slice (fromF a k cap) (n - k) (cap - k))) W := by
  unfold execOp
  simp only [ho, hx, hy, Option.map_none, Option.map_some, Sem.run_bind]
  rw [run_sliceAt_slice (h := Tryd.underlying23), fslice_from W a n cap k hk]
  rfl
set_option maxHeartbeats 8000000 in
theorem once_walk (s : ByteArray) (x y : Nat) (w : World) (hg : Mas.Globs w) (hx : x < 256) (hy : y < 256) : Calls Tryd.prog 10 #[.string s, .int .u8 (x : Int), .int .u8 (y : Int)] w fun e w' => e = .returned (.bool true) ∧ Below w.heap.size w w' := by
  have HG := Sl.mk hg
  have A1 := awake_any w hg
  clear hg
  by_cases hl : s.size > 500
  · have hq : ((s.size : Int) > 500) = True := eq_true (by omega)
    clear hl
    go_enter Tryd.func10, Tryd.ntmps10
    go_wp2_with fail
    refine A1.mono ?_
    rintro e w1 ⟨rfl, HB1⟩
    clear A1
    have A2 := awake_any w1 (HG.out.below HB1.out HG.out.size)
    go_wp2_with fail
    refine A2.mono ?_
    rintro e w2 ⟨rfl, HB2⟩
    clear A2
    have HL := Sl.mk (HB1.out.trans (HB2.out.mono HB1.out.size))
    go_wp2
    go_ret
    exact ⟨rfl, HL.out⟩
  have hq : ((s.size : Int) > 500) = False := eq_false (by omega)
  obtain ⟨m, hm⟩ : ∃ m, 1 + x = m := ⟨_, rfl⟩
  have hm1 : 1 ≤ m := by omega
  have z0 : IntKind.i64.wrap (x : Int) = (x : Int) := by rw [IntKind.wrap_i64]; omega
  have z1 : IntKind.i64.wrap (1 + (x : Int)) = (m : Int) := by rw [IntKind.wrap_i64]; omega
  have z2 : IntKind.i64.wrap (y : Int) = (y : Int) := by rw [IntKind.wrap_i64]; omega
  obtain ⟨n, hn⟩ : ∃ n, (frs m 1 (bytes s)).length = n := ⟨_, rfl⟩
  have F1 := fun W => frames_yes 1 s m n W (.inl rfl) (by omega) ⟨hm1, by omega⟩ hn
  have OKF := frs_ok hm1 (op := 1) (.inl rfl) (bytes_small s) (by rw [bytes_length]; omega)
  have hcn : cnt s.size m = n := by rw [← hn, frs_length hm1 _ 1 (bytes s) (Nat.le_refl _), bytes_length]
  obtain ⟨hn1, _, _, hn4⟩ := cnt_enough (size := s.size) hm1
  rw [hcn] at hn1 hn4
  have hj := join_frs hm1 (op := 1) (.inl rfl) (bytes s)
  have hda := frs_data hm1 _ 1 (bytes s) (Nat.le_refl _)
  obtain ⟨k, hk⟩ : ∃ k, y % n = k := ⟨_, rfl⟩
  have hkn : k < n := by rw [← hk]; exact Nat.mod_lt _ (by omega)
  have hless := once_less hm1 1 (bytes s) k (by rw [hn]; exact hkn)
  have hmore := once_more hm1 1 (bytes s) k (by rw [hn]; exact hkn)
  obtain ⟨FS, hFS⟩ : ∃ FS, frs m 1 (bytes s) = FS := ⟨_, rfl⟩
  rw [hFS] at F1 OKF hj hda hless hmore hn
  rw [bytes_length] at hless hmore
  have HN := Sl.mk hn
  have HOK := Sl.mk OKF
  have HDL : Sl ((dataOf FS).length ≤ 500) := ⟨by rw [hda, bytes_length]; omega⟩
  have z3 : (y : Int).tmod (n : Int) = (k : Int) := by rw [← hk]; rfl
  have z4 : IntKind.i64.wrap (k : Int) = (k : Int) := by rw [IntKind.wrap_i64]; omega
  have z5 : IntKind.i64.wrap ((k : Int) + 1) = (k : Int) + 1 := by rw [IntKind.wrap_i64]; omega
  have d1 : ((n : Int) == 0) = false := by simp; omega
  have d2 : (n = 0) = False := eq_false (by omega)
  have HKN := Sl.mk hkn
  have HNL : Sl (n ≤ 501) := ⟨by omega⟩
  obtain ⟨LS, hLS⟩ : ∃ L, FS.take k ++ FS.drop (k + 1) = L := ⟨_, rfl⟩
  obtain ⟨MR, hMR⟩ : ∃ L, FS.take (k + 1) ++ FS.drop k = L := ⟨_, rfl⟩
  rw [hLS] at hless
  rw [hMR] at hmore
  have hsub : ∀ (i j : Nat) (f : Fr), f ∈ FS.take i ++ FS.drop j → f ∈ FS := fun i j f hf => by
    rcases List.mem_append.1 hf with h | h
    · exact List.mem_of_mem_take h
    · exact List.mem_of_mem_drop h
  have hdl : ∀ i j, (dataOf (FS.take i ++ FS.drop j)).length ≤ 1000 ∧ (FS.take i ++ FS.drop j).length ≤ 1002 := fun i j => by
    have h1 := room_take (fs := FS) (N := 14 * FS.length + (dataOf FS).length) (Nat.le_refl _) i
    have h2 := room_drop (fs := FS) (N := 14 * FS.length + (dataOf FS).length) (Nat.le_refl _) j
    have h3 := dataOf_take_le FS i
    have h4 := congrArg List.length (dataOf_append (FS.take j) (FS.drop j))
    rw [List.take_append_drop, List.length_append] at h4
    have h5 := HDL.out
    have h6 := HNL.out
    have h7 := HN.out
    rw [dataOf_append, List.length_append, List.length_append, List.length_take, List.length_drop]
    omega
  have OKL : Sl (∀ f ∈ LS, FrOk f) := ⟨fun f hf => HOK.out f (hsub k (k + 1) f (by rw [hLS]; exact hf))⟩
  have OKM : Sl (∀ f ∈ MR, FrOk f) := ⟨fun f hf => HOK.out f (hsub (k + 1) k f (by rw [hMR]; exact hf))⟩
  have HDS : Sl ((dataOf LS).length ≤ 1000 ∧ LS.length ≤ 1002) := ⟨by have := hdl k (k + 1); rw [hLS] at this; exact this⟩
  have HDM : Sl ((dataOf MR).length ≤ 1000 ∧ MR.length ≤ 1002) := ⟨by have := hdl (k + 1) k; rw [hMR] at this; exact this⟩
  obtain ⟨⟨o1, T1, b1⟩, hJ1⟩ : ∃ r, join LS = r := ⟨_, rfl⟩
  obtain ⟨⟨o2, T2, b2⟩, hJ2⟩ : ∃ r, join MR = r := ⟨_, rfl⟩
  have HT1 : Sl (b1 = true → T1.length < s.size) := ⟨fun h => by
    unfold join at hJ1
    by_cases ho : okJ true LS = true
    · rw [if_pos ho] at hJ1
      injection hJ1 with _ hJ1
      injection hJ1 with hJ1 _
      rw [← hJ1]; exact hless ho
    · rw [if_neg ho] at hJ1
      injection hJ1 with _ hJ1
      injection hJ1 with _ hJ1
      rw [h] at hJ1; cases hJ1⟩
  have HT2 : Sl (b2 = true → s.size < T2.length) := ⟨fun h => by
    unfold join at hJ2
    by_cases ho : okJ true MR = true
    · rw [if_pos ho] at hJ2
      injection hJ2 with _ hJ2
      injection hJ2 with hJ2 _
      rw [← hJ2]; exact hmore ho
    · rw [if_neg ho] at hJ2
      injection hJ2 with _ hJ2
      injection hJ2 with _ hJ2
      rw [h] at hJ2; cases hJ2⟩
  have HJ := Sl.mk hj
  have HJ1 := Sl.mk hJ1
  have HJ2 := Sl.mk hJ2
  have HLS := Sl.mk hLS
  have HMR := Sl.mk hMR
  clear hl hm hm1 hn hcn hn1 hn4 hFS hx hy hk hless hmore hj hda OKF hsub hdl hJ1 hJ2 hLS hMR
  go_enter Tryd.func10, Tryd.ntmps10
  go_wp2_with fail
  refine A1.mono ?_
  rintro e w1 ⟨rfl, HB1⟩
  clear A1
  go_wp2_with fail
  refine (F1 _).mono ?_
  rintro e w2 ⟨g, rfl, HR2, _, HX2⟩
  have HB2 : Sl (Below w.heap.size w w2) := ⟨HB1.out.trans (HX2.out.mono HB1.out.size)⟩
  have J0 := join_any FS _ w2 (HR2.out.frs HN.out (Nat.le_refl _)) HOK.out (by have := HN.out; have := HNL.out; omega) (by have := HDL.out; omega)
  rw [HJ.out] at J0
  rw [show strOf ((1 : Int), bytes s, true).2.1 = s from strOf_bytes s] at J0
  clear F1 HX2 HB1
  go_wp2_with fail
  refine J0.mono ?_
  rintro e w3 ⟨rfl, HX3⟩
  have HB3 : Sl (Below w.heap.size w w3) := ⟨HB2.out.trans (HX3.out.mono HB2.out.size)⟩
  have HRw3 : Sl (RowF w3 g FS) := ⟨HR2.out.below HX3.out⟩
  clear J0 HX3 HB2 HR2
  go_upto_region 8 with fail
  obtain ⟨Rwp, hRwp⟩ : ∃ R, w3.drew = R := ⟨_, rfl⟩
  have HBRp : Below w3.heap.size w3 Rwp := by rw [← hRwp]; exact (Below.refl _ _).drew
  refine wp_region_noPanic ?_
  refine wp_region_held (S := fun V => Below w3.heap.size w3 V) (by kernel_rfl) ?_
  change wpAnyH _ _ _ _ _ _ _ _ w3.drew
  rw [hRwp]
  clear hRwp
  have hFAp : FrsAt Rwp (.slice (some ⟨g, 0, none⟩) n n) FS := (HRw3.out.below HBRp).frs HN.out (Nat.le_refl _)
  refine heldTake (d := some 56) (op := .move (Operand.tmp 7)) (g := none) 1 ?v1p rfl (by kernel_rfl) (by kernel_rfl) (by kernel_rfl) (by kernel_rfl) ?y1p HBRp ?_
  case y1p => intro o' ho W hS; simp only [execOp, ho]; go_simp; try rfl
  simp only [Act.put, List.setIfInBounds_toArray, List.set_cons_zero, List.set_cons_succ]
  refine heldTake (d := some 57) (op := .move (Operand.tmp 12)) (g := none) 2 ?v2p rfl (by kernel_rfl) (by kernel_rfl) (by kernel_rfl) (by kernel_rfl) ?y2p HBRp ?_
  case y2p => intro o' ho W hS; simp only [execOp, ho]; go_simp; try rfl
  simp only [Act.put, List.setIfInBounds_toArray, List.set_cons_zero, List.set_cons_succ]
  refine heldTake (d := some 58) (op := .slice 23 (Operand.tmp 56) none (some (Operand.tmp 57)) none) (g := none) 3 (.slice (some ⟨g, 0, none⟩) (k) n) rfl (by kernel_rfl) (by kernel_rfl) (by kernel_rfl) (by kernel_rfl) ?y3p HBRp ?_
  case y3p => intro o' ho W hS; exact fslice_to_run ho (by rfl) (by rfl) (by have := HKN.out; omega)
  simp only [Act.put, List.setIfInBounds_toArray, List.set_cons_zero, List.set_cons_succ]
  refine heldTake (d := some 60) (op := .move (Operand.tmp 7)) (g := none) 5 ?v5p rfl (by kernel_rfl) (by kernel_rfl) (by kernel_rfl) (by kernel_rfl) ?y5p HBRp ?_
  case y5p => intro o' ho W hS; simp only [execOp, ho]; go_simp; try rfl
  simp only [Act.put, List.setIfInBounds_toArray, List.set_cons_zero, List.set_cons_succ]
  refine heldTake (d := some 61) (op := .move (Operand.tmp 12)) (g := none) 6 ?v6p rfl (by kernel_rfl) (by kernel_rfl) (by kernel_rfl) (by kernel_rfl) ?y6p HBRp ?_
  case y6p => intro o' ho W hS; simp only [execOp, ho]; go_simp; try rfl
  simp only [Act.put, List.setIfInBounds_toArray, List.set_cons_zero, List.set_cons_succ]
  refine heldTake (d := some 62) (op := .binOp BinOp.add 3 (Operand.tmp 61) (Operand.const (Value.int IntKind.i64 1)) 3) (g := none) 7 (.int .i64 ((k + 1 : Nat) : Int)) rfl (by kernel_rfl) (by kernel_rfl) (by kernel_rfl) (by kernel_rfl) ?y7p HBRp ?_
  case y7p => intro o' ho W hS; exact (by simp only [execOp, ho]; go_simp; try rfl)
  simp only [Act.put, List.setIfInBounds_toArray, List.set_cons_zero, List.set_cons_succ]
  refine heldTake (d := some 63) (op := .slice 23 (Operand.tmp 60) (some (Operand.tmp 62)) none none) (g := none) 8 (.slice (fromF (some ⟨g, 0, none⟩) (k + 1) n) (n - (k + 1)) (n - (k + 1))) rfl (by kernel_rfl) (by kernel_rfl) (by kernel_rfl) (by kernel_rfl) ?y8p HBRp ?_
  case y8p => intro o' ho W hS; exact fslice_from_run ho (by rfl) (by rfl) (by have := HKN.out; omega)
  simp only [Act.put, List.setIfInBounds_toArray, List.set_cons_zero, List.set_cons_succ]
  obtain ⟨ap, cp, Vp, hrp, HOp, HXp⟩ := copy_frs Rwp (.slice (some ⟨g, 0, none⟩) (k) n) (FS.take (k)) (k) (FrsAt.to hFAp (by have := HKN.out; omega)) (by rw [List.length_take, HN.out]; have := HKN.out; omega) (by have := HNL.out; omega)
  obtain ⟨Ap, hAp⟩ : ∃ V, Rwp.alloc (.cells #[] 44) = V := ⟨_, rfl⟩
  have HSAp : Below w3.heap.size w3 Ap := by rw [← hAp]; exact HBRp.alloc HBRp.size _
  rw [hAp] at hrp
  refine heldRunT (d := some 55) (op := .buildSlice 23 0 #[]) (g := none) (t := 23) 0 (.slice (some ⟨Rwp.heap.size, 0, none⟩) 0 0) Ap rfl (by kernel_rfl) (by kernel_rfl) ?y0p HSAp ?_
  case y0p => intro o' ho ht; exact (by simp only [execOp, ho]; go_simp; first | done | rw [hAp] | rfl)
  simp only [Act.put, List.setIfInBounds_toArray, List.set_cons_zero, List.set_cons_succ]
  have HSVp : Below w3.heap.size w3 Vp := HBRp.trans (HXp.out.mono HBRp.size)
  have HFVp : FrsAt Vp (.slice (fromF (some ⟨g, 0, none⟩) (k + 1) n) (n - (k + 1)) (n - (k + 1))) (FS.drop (k + 1)) := FrsAt.from (hFAp.below HXp.out) (by have := HKN.out; omega)
  obtain ⟨vp, Up, hr2p, HO2p, HG2p, _⟩ := add_frs HOp.out HFVp (by rw [List.length_take, List.length_drop, HN.out]; have := HNL.out; omega) HXp.out.size
  rw [HLS.out] at HO2p
  have HSUp : Below w3.heap.size w3 Up := HOp.out.keeps HSVp HG2p HBRp.size HSVp.size
  refine heldRunT (d := some 59) (op := .call { callee := Callee.builtin Builtin.append, args := #[Operand.tmp 55, Operand.tmp 58], argTypes := #[23, 23] }) (g := none) (t := 23) 4 (.slice ap (k) cp) Vp rfl (by kernel_rfl) (by kernel_rfl) ?y4p HSVp ?_
  case y4p => intro o' ho ht; exact run_appB ho ht (by rfl) (by rfl) hrp
  simp only [Act.put, List.setIfInBounds_toArray, List.set_cons_zero, List.set_cons_succ]
  refine heldRunT (d := some 64) (op := .call { callee := Callee.builtin Builtin.append, args := #[Operand.tmp 59, Operand.tmp 63], argTypes := #[23, 23] }) (g := none) (t := 23) 9 (vp) Up rfl (by kernel_rfl) (by kernel_rfl) ?y9p HSUp ?_
  case y9p => intro o' ho ht; exact run_appB ho ht (by rfl) (by rfl) hr2p
  simp only [Act.put, List.setIfInBounds_toArray, List.set_cons_zero, List.set_cons_succ]
  refine heldTake (d := some 13) (op := .assign (Operand.tmp 64)) (g := none) 10 ?v10p rfl (by kernel_rfl) (by kernel_rfl) (by kernel_rfl) (by kernel_rfl) ?y10p HSUp ?_
  case y10p => intro o' ho W hS; simp only [execOp, ho]; go_simp; try rfl
  simp only [Act.put, List.setIfInBounds_toArray, List.set_cons_zero, List.set_cons_succ]
  refine wpAnyH_done (by kernel_rfl) ?_ _
  refine NoPanic.normal ?_
  have HSU2p := Sl.mk HSUp
  have HOUp := Sl.mk HO2p
  clear HSUp HO2p hrp hr2p HSVp HFVp HSAp hAp hFAp HBRp HG2p HXp HOp
  have HB4 : Sl (Below w.heap.size w Up) := ⟨HB3.out.trans (HSU2p.out.mono HB3.out.size)⟩
  have HRUp : Sl (RowF Up g FS) := ⟨HRw3.out.below HSU2p.out⟩
  clear HSU2p HRw3 HB3
  go_upto_region 9 with fail
  obtain ⟨Rwq, hRwq⟩ : ∃ R, Up.drew = R := ⟨_, rfl⟩
  have HBRq : Below Up.heap.size Up Rwq := by rw [← hRwq]; exact (Below.refl _ _).drew
  refine wp_region_noPanic ?_
  refine wp_region_held (S := fun V => Below Up.heap.size Up V) (by kernel_rfl) ?_
  change wpAnyH _ _ _ _ _ _ _ _ Up.drew
  rw [hRwq]
  clear hRwq
  have hFAq : FrsAt Rwq (.slice (some ⟨g, 0, none⟩) n n) FS := (HRUp.out.below HBRq).frs HN.out (Nat.le_refl _)
  refine heldTake (d := some 66) (op := .move (Operand.tmp 7)) (g := none) 1 ?v1q rfl (by kernel_rfl) (by kernel_rfl) (by kernel_rfl) (by kernel_rfl) ?y1q HBRq ?_
  case y1q => intro o' ho W hS; simp only [execOp, ho]; go_simp; try rfl
  simp only [Act.put, List.setIfInBounds_toArray, List.set_cons_zero, List.set_cons_succ]
  refine heldTake (d := some 67) (op := .move (Operand.tmp 12)) (g := none) 2 ?v2q rfl (by kernel_rfl) (by kernel_rfl) (by kernel_rfl) (by kernel_rfl) ?y2q HBRq ?_
  case y2q => intro o' ho W hS; simp only [execOp, ho]; go_simp; try rfl
  simp only [Act.put, List.setIfInBounds_toArray, List.set_cons_zero, List.set_cons_succ]
  refine heldTake (d := some 68) (op := .binOp BinOp.add 3 (Operand.tmp 67) (Operand.const (Value.int IntKind.i64 1)) 3) (g := none) 3 (.int .i64 ((k + 1 : Nat) : Int)) rfl (by kernel_rfl) (by kernel_rfl) (by kernel_rfl) (by kernel_rfl) ?y3q HBRq ?_
  case y3q => intro o' ho W hS; exact (by simp only [execOp, ho]; go_simp; try rfl)
  simp only [Act.put, List.setIfInBounds_toArray, List.set_cons_zero, List.set_cons_succ]
  refine heldTake (d := some 69) (op := .slice 23 (Operand.tmp 66) none (some (Operand.tmp 68)) none) (g := none) 4 (.slice (some ⟨g, 0, none⟩) (k + 1) n) rfl (by kernel_rfl) (by kernel_rfl) (by kernel_rfl) (by kernel_rfl) ?y4q HBRq ?_
  case y4q => intro o' ho W hS; exact fslice_to_run ho (by rfl) (by rfl) (by have := HKN.out; omega)
  simp only [Act.put, List.setIfInBounds_toArray, List.set_cons_zero, List.set_cons_succ]
  refine heldTake (d := some 71) (op := .move (Operand.tmp 7)) (g := none) 6 ?v6q rfl (by kernel_rfl) (by kernel_rfl) (by kernel_rfl) (by kernel_rfl) ?y6q HBRq ?_
  case y6q => intro o' ho W hS; simp only [execOp, ho]; go_simp; try rfl
  simp only [Act.put, List.setIfInBounds_toArray, List.set_cons_zero, List.set_cons_succ]
  refine heldTake (d := some 72) (op := .move (Operand.tmp 12)) (g := none) 7 ?v7q rfl (by kernel_rfl) (by kernel_rfl) (by kernel_rfl) (by kernel_rfl) ?y7q HBRq ?_
  case y7q => intro o' ho W hS; simp only [execOp, ho]; go_simp; try rfl
  simp only [Act.put, List.setIfInBounds_toArray, List.set_cons_zero, List.set_cons_succ]
  refine heldTake (d := some 73) (op := .slice 23 (Operand.tmp 71) (some (Operand.tmp 72)) none none) (g := none) 8 (.slice (fromF (some ⟨g, 0, none⟩) (k) n) (n - (k)) (n - (k))) rfl (by kernel_rfl) (by kernel_rfl) (by kernel_rfl) (by kernel_rfl) ?y8q HBRq ?_
  case y8q => intro o' ho W hS; exact fslice_from_run ho (by rfl) (by rfl) (by have := HKN.out; omega)
  simp only [Act.put, List.setIfInBounds_toArray, List.set_cons_zero, List.set_cons_succ]
  obtain ⟨aq, cq, Vq, hrq, HOq, HXq⟩ := copy_frs Rwq (.slice (some ⟨g, 0, none⟩) (k + 1) n) (FS.take (k + 1)) (k + 1) (FrsAt.to hFAq (by have := HKN.out; omega)) (by rw [List.length_take, HN.out]; have := HKN.out; omega) (by have := HNL.out; omega)
  obtain ⟨Aq, hAq⟩ : ∃ V, Rwq.alloc (.cells #[] 44) = V := ⟨_, rfl⟩
  have HSAq : Below Up.heap.size Up Aq := by rw [← hAq]; exact HBRq.alloc HBRq.size _
  rw [hAq] at hrq
  refine heldRunT (d := some 65) (op := .buildSlice 23 0 #[]) (g := none) (t := 23) 0 (.slice (some ⟨Rwq.heap.size, 0, none⟩) 0 0) Aq rfl (by kernel_rfl) (by kernel_rfl) ?y0q HSAq ?_
  case y0q => intro o' ho ht; exact (by simp only [execOp, ho]; go_simp; first | done | rw [hAq] | rfl)
  simp only [Act.put, List.setIfInBounds_toArray, List.set_cons_zero, List.set_cons_succ]
  have HSVq : Below Up.heap.size Up Vq := HBRq.trans (HXq.out.mono HBRq.size)
  have HFVq : FrsAt Vq (.slice (fromF (some ⟨g, 0, none⟩) (k) n) (n - (k)) (n - (k))) (FS.drop (k)) := FrsAt.from (hFAq.below HXq.out) (by have := HKN.out; omega)
  obtain ⟨vq, Uq, hr2q, HO2q, HG2q, _⟩ := add_frs HOq.out HFVq (by rw [List.length_take, List.length_drop, HN.out]; have := HNL.out; omega) HXq.out.size
  rw [HMR.out] at HO2q
  have HSUq : Below Up.heap.size Up Uq := HOq.out.keeps HSVq HG2q HBRq.size HSVq.size
  refine heldRunT (d := some 70) (op := .call { callee := Callee.builtin Builtin.append, args := #[Operand.tmp 65, Operand.tmp 69], argTypes := #[23, 23] }) (g := none) (t := 23) 5 (.slice aq (k + 1) cq) Vq rfl (by kernel_rfl) (by kernel_rfl) ?y5q HSVq ?_
  case y5q => intro o' ho ht; exact run_appB ho ht (by rfl) (by rfl) hrq
  simp only [Act.put, List.setIfInBounds_toArray, List.set_cons_zero, List.set_cons_succ]
  refine heldRunT (d := some 74) (op := .call { callee := Callee.builtin Builtin.append, args := #[Operand.tmp 70, Operand.tmp 73], argTypes := #[23, 23] }) (g := none) (t := 23) 9 (vq) Uq rfl (by kernel_rfl) (by kernel_rfl) ?y9q HSUq ?_
  case y9q => intro o' ho ht; exact run_appB ho ht (by rfl) (by rfl) hr2q
  simp only [Act.put, List.setIfInBounds_toArray, List.set_cons_zero, List.set_cons_succ]
  refine heldTake (d := some 14) (op := .assign (Operand.tmp 74)) (g := none) 10 ?v10q rfl (by kernel_rfl) (by kernel_rfl) (by kernel_rfl) (by kernel_rfl) ?y10q HSUq ?_
  case y10q => intro o' ho W hS; simp only [execOp, ho]; go_simp; try rfl
  simp only [Act.put, List.setIfInBounds_toArray, List.set_cons_zero, List.set_cons_succ]
  refine wpAnyH_done (by kernel_rfl) ?_ _
  refine NoPanic.normal ?_
  have HSU2q := Sl.mk HSUq
  have HOUq := Sl.mk HO2q
  clear HSUq HO2q hrq hr2q HSVq HFVq HSAq hAq hFAq HBRq HG2q HXq HOq
  have HB5 : Sl (Below w.heap.size w Uq) := ⟨HB4.out.trans (HSU2q.out.mono HB4.out.size)⟩
  have HFL : Sl (FrsAt Uq vp LS) := ⟨HOUp.out.frs.below HSU2q.out⟩
  clear HSU2q HRUp HB4 HOUp
  obtain ⟨ap', cp', rfl⟩ := HFL.out.slice
  obtain ⟨aq', cq', rfl⟩ := HOUq.out.slice
  have J1 := join_any LS _ Uq HFL.out OKL.out (by have := HDS.out; omega) (by have := HDS.out; omega)
  rw [HJ1.out] at J1
  obtain ⟨np, hnp⟩ : ∃ n, LS.length = n := ⟨_, rfl⟩
  obtain ⟨nq, hnq⟩ : ∃ n, MR.length = n := ⟨_, rfl⟩
  obtain ⟨S1, hS1⟩ : ∃ S, strOf T1 = S := ⟨_, rfl⟩
  obtain ⟨S2, hS2⟩ : ∃ S, strOf T2 = S := ⟨_, rfl⟩
  have HS1 : Sl (b1 = true → S1.size < s.size) := ⟨by rw [← hS1, strOf_size]; exact HT1.out⟩
  have HS2 : Sl (b2 = true → s.size < S2.size) := ⟨by rw [← hS2, strOf_size]; exact HT2.out⟩
  have J1' : Calls Tryd.prog 17 #[.slice ap' np cp'] Uq fun e w' => e = .returned (.tuple #[.int .i64 o1, .string S1, .bool b1]) ∧ Sl (Below Uq.heap.size Uq w') := by rw [← hnp, ← hS1]; exact J1
  have J2' : ∀ W, Below Uq.heap.size Uq W → Calls Tryd.prog 17 #[.slice aq' nq cq'] W fun e w' => e = .returned (.tuple #[.int .i64 o2, .string S2, .bool b2]) ∧ Sl (Below W.heap.size W w') := fun W hW => by
    have h := join_any MR _ W (HOUq.out.frs.below hW) OKM.out (by have := HDM.out; omega) (by have := HDM.out; omega)
    rw [HJ2.out] at h
    rw [← hnq, ← hS2]; exact h
  rw [hnp, hnq]
  clear J1 hnp hnq hS1 hS2 HFL
  go_wp2_with fail
  refine J1'.mono ?_
  rintro e w6 ⟨rfl, HX6⟩
  have HB6 : Sl (Below w.heap.size w w6) := ⟨HB5.out.trans (HX6.out.mono HB5.out.size)⟩
  have J3 := J2' w6 HX6.out
  clear J1' J2' HX6 HB5 HOUq
  go_wp2_with fail
  refine J3.mono ?_
  rintro e w7 ⟨rfl, HX7⟩
  have HB7 : Sl (Below w.heap.size w w7) := ⟨HB6.out.trans (HX7.out.mono HB6.out.size)⟩
  clear J3 HX7 HB6
  have hss : (s.toList == s.toList) = true := by simp
  cases b1 with
  | false =>
    cases b2 with
    | false =>
      go_wp2
      go_ret
      exact ⟨rfl, HB7.out⟩
    | true =>
      have u2 : ((S2.size : Int) > (s.size : Int)) = True := eq_true (by have := HS2.out rfl; omega)
      go_wp2
      go_ret
      exact ⟨rfl, HB7.out⟩
  | true =>
    have u1 : ((S1.size : Int) < (s.size : Int)) = True := eq_true (by have := HS1.out rfl; omega)
    cases b2 with
    | false =>
      go_wp2
      go_ret
      exact ⟨rfl, HB7.out⟩
    | true =>
      have u2 : ((S2.size : Int) > (s.size : Int)) = True := eq_true (by have := HS2.out rfl; omega)
      go_wp2
      go_ret
      exact ⟨rfl, HB7.out⟩
end Go.Proofs.YtimndpmbgfoofaaDoor.Cut
