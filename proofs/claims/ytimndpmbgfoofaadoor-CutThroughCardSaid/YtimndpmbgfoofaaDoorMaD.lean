/- mask: the document's Put. -/
import Derived.Test.YtimndpmbgfoofaaDoorMaC
import Derived.Deep.DeepCutAuto
set_option maxRecDepth 100000
namespace Go.Proofs.YtimndpmbgfoofaaDoor.Mas
open Go.RowKit MaskPlain

/-- What the document's digits holds to, i bytes on. -/
def DG (n size : Nat) (m i : Nat) (s : ByteArray) : Prop := be n size = be m (size - i) ++ bytes s
theorem DG.next {n size m i : Nat} {s : ByteArray} (h : DG n size m i s) (hi : i < size) : DG n size (m / 256) (i + 1) (strOf [m % 256] ++ s) := by
  unfold DG at *
  rw [h, show size - i = (size - (i + 1)) + 1 by omega, be, bytes_append, strOf_one _ (Nat.mod_lt _ (by decide)), List.append_assoc]
theorem DG.size {n size m i : Nat} {s : ByteArray} (h : DG n size m i s) (hi : i ≤ size) : s.size = i := by
  unfold DG at h
  have h2 := congrArg List.length h
  rw [be_length, List.length_append, be_length, bytes_length] at h2
  omega
theorem DG.fin {n size m : Nat} {s : ByteArray} (h : DG n size m size s) : s = strOf (be n size) := by
  unfold DG at h
  rw [Nat.sub_self] at h
  rw [h]
  exact (strOf_bytes s).symm

set_option maxHeartbeats 2000000 in
theorem digits_any (n size : Nat) (w : World) (hn : n < 18446744073709551616) (hk : size ≤ 8) : Calls Tryd.prog 61 #[.int .u64 n, .int .i64 size] w fun e w' => e = .returned (.string (strOf (be n size))) ∧ Sl (Below w.heap.size w w') := by
  have HN := Sl.mk hn
  have H0 : Sl (DG n size n 0 ByteArray.empty) := ⟨by unfold DG; simp [bytes]⟩
  have HB0 : Sl (Below w.heap.size w w) := ⟨Below.refl _ _⟩
  clear hn
  go_enter Tryd.func61, Tryd.ntmps61
  go_wp2
  go_loopw [0, 5, 6] (fun u t i wr => ∃ (k m : Nat) (s : ByteArray), k ≤ size ∧ u = .int .u64 (m : Int) ∧ t = .string s ∧ i = .int .i64 k ∧ Sl (m < 18446744073709551616) ∧ Sl (DG n size m k s) ∧ Sl (Below w.heap.size w wr)) (fun _ _ i _ => size - (intOf i).toNat)
  case atStart => exact ⟨0, n, ByteArray.empty, Nat.zero_le _, rfl, rfl, rfl, HN, H0, HB0⟩
  case round =>
    obtain ⟨k, m, s, hks, rfl, rfl, rfl, HM, HD, HB⟩ := hrel
    by_cases hlt : k < size
    · obtain ⟨c, hc⟩ : ∃ c, m % 256 = c := ⟨_, rfl⟩
      obtain ⟨q, hq⟩ : ∃ q, m / 256 = q := ⟨_, rfl⟩
      have HD2 := HD.out.next hlt
      rw [hc, hq] at HD2
      have HD3 := Sl.mk HD2
      clear HD2
      have HSZ : Sl ((strOf [c]).size + s.size = 1 + k) := ⟨by rw [strOf_size, HD.out.size hks]; rfl⟩
      have e1 : (m : Int) % 256 = (c : Int) := by omega
      have e2 : (m : Int) / 256 = (q : Int) := by omega
      have e3 : IntKind.u8.wrap (c : Int) = (c : Int) := by rw [IntKind.wrap_u8']; omega
      have e4 : IntKind.u64.wrap (q : Int) = (q : Int) := by rw [IntKind.wrap_u64]; have := HM.out; omega
      have HQ : Sl (q < 18446744073709551616) := ⟨by have := HM.out; omega⟩
      have HBA : Sl (Below w.heap.size w (wr.alloc (.cells #[.int .u8 (c : Int)] 5))) := ⟨HB.out.alloc HB.out.size _⟩
      have hst := (rowB_new wr [c]).str (k := 1) rfl
      have e0 : (u8s [c]).toArray = #[.int .u8 (c : Int)] := rfl
      rw [e0] at hst
      clear hc hq
      go_wp2
      · have := HSZ.out; omega
      exact ⟨⟨k + 1, q, _, by omega, by go_num, rfl, by go_num, HQ, HD3, HBA⟩, by simp [intOf]; omega⟩
    · have hge : ((k : Int) < (size : Int)) = False := eq_false (by omega)
      obtain rfl : k = size := by omega
      have HE := Sl.mk HD.out.fin
      go_wp2
      go_ret
      exact ⟨by rw [← HE.out]; rfl, HB⟩
/-- What the document's Put answers. -/
theorem put_low (n : Nat) (h : n < 126) : putL n = some [n] := by unfold putL; rw [if_neg (by omega), if_pos h]
theorem put_mid (n : Nat) (h : ¬ n < 126) (h2 : n ≤ 65535) : putL n = some (126 :: be n 2) := by unfold putL; rw [if_neg (by omega), if_neg h, if_pos h2]
theorem put_high (n : Nat) (h2 : ¬ n ≤ 65535) (h3 : n ≤ 9223372036854775807) : putL n = some (127 :: be n 8) := by unfold putL; rw [if_neg (by omega), if_neg (by omega), if_neg h2]
theorem refput_no (n : Nat) (w : World) (h : 9223372036854775807 < n) : Calls Tryd.prog 50 #[.int .u64 n] w fun e w' => e = .returned (.tuple #[.string ByteArray.empty, .bool false]) ∧ Sl (Below w.heap.size w w') := by
  have hq : ((n : Int) > 9223372036854775807) = True := eq_true (by omega)
  have HB0 : Sl (Below w.heap.size w w) := ⟨Below.refl _ _⟩
  clear h
  go_enter Tryd.func50, Tryd.ntmps50
  go_wp2
  go_ret2
  exact ⟨rfl, HB0⟩

set_option maxHeartbeats 2000000 in
theorem refput_yes (n : Nat) (s : List Nat) (w : World) (hs : putL n = some s) (h : n ≤ 9223372036854775807) : Calls Tryd.prog 50 #[.int .u64 n] w fun e w' => e = .returned (.tuple #[.string (strOf s), .bool true]) ∧ Sl (Below w.heap.size w w') := by
  have hq : ((n : Int) > 9223372036854775807) = False := eq_false (by omega)
  have HB0 : Sl (Below w.heap.size w w) := ⟨Below.refl _ _⟩
  by_cases h1 : n < 126
  · obtain rfl : s = [n] := Option.some.inj (hs.symm.trans (put_low n h1))
    have e3 : IntKind.u8.wrap (n : Int) = (n : Int) := by rw [IntKind.wrap_u8']; omega
    have hst := (rowB_new w [n]).str (k := 1) rfl
    have e0 : (u8s [n]).toArray = #[.int .u8 (n : Int)] := rfl
    rw [e0] at hst
    have HBA : Sl (Below w.heap.size w (w.alloc (.cells #[.int .u8 (n : Int)] 5))) := ⟨HB0.out.alloc HB0.out.size _⟩
    clear h hs
    go_enter Tryd.func50, Tryd.ntmps50
    go_wp2
    go_ret2
    exact ⟨rfl, HBA⟩
  · have hq1 : ((n : Int) < 126) = False := eq_false (by omega)
    by_cases h2 : n ≤ 65535
    · obtain rfl : s = 126 :: be n 2 := Option.some.inj (hs.symm.trans (put_mid n h1 h2))
      have HC := digits_any n 2 w (by omega) (by omega)
      have HE := Sl.mk (strOf_cons 126 (be n 2) (by decide) (be_small n 2))
      have HZ : Sl ((strOf (be n 2)).size = 2) := ⟨by rw [strOf_size, be_length]⟩
      have hq2 : ((n : Int) ≤ 65535) = True := eq_true (by omega)
      clear h hs h1
      go_enter Tryd.func50, Tryd.ntmps50
      go_wp2_with fail
      refine HC.mono ?_
      rintro e w1 ⟨rfl, HB1⟩
      generalize strOf (be n 2) = t at *
      go_wp2
      · have := HZ.out; omega
      go_ret2
      exact ⟨by rw [← HE.out]; rfl, HB1⟩
    · obtain rfl : s = 127 :: be n 8 := Option.some.inj (hs.symm.trans (put_high n h2 h))
      have HC := digits_any n 8 w (by omega) (by omega)
      have HE := Sl.mk (strOf_cons 127 (be n 8) (by decide) (be_small n 8))
      have HZ : Sl ((strOf (be n 8)).size = 8) := ⟨by rw [strOf_size, be_length]⟩
      have hq2 : ((n : Int) ≤ 65535) = False := eq_false (by omega)
      clear h hs h1
      go_enter Tryd.func50, Tryd.ntmps50
      go_wp2_with fail
      refine HC.mono ?_
      rintro e w1 ⟨rfl, HB1⟩
      generalize strOf (be n 8) = t at *
      go_wp2
      · have := HZ.out; omega
      go_ret2
      exact ⟨by rw [← HE.out]; rfl, HB1⟩
end Go.Proofs.YtimndpmbgfoofaaDoor.Mas
/- mask: the document's Apply. -/
set_option maxRecDepth 100000
namespace Go.Proofs.YtimndpmbgfoofaaDoor.Mas
open Go.RowKit MaskPlain

theorem rest4_pos {at' r : Int} (h : at'.tmod 4 = r) (h0 : ¬ r < 0) : ((rest4 at' : Nat) : Int) = r := by
  subst h
  unfold rest4
  by_cases hp : 0 ≤ at'
  · rw [Int.tmod_eq_emod_of_nonneg hp]; omega
  · obtain ⟨m, rfl⟩ : ∃ m, at' = -m := ⟨-at', by omega⟩
    rw [Int.neg_tmod, Int.tmod_eq_emod_of_nonneg (by omega)] at h0 ⊢
    omega
theorem rest4_neg {at' r : Int} (h : at'.tmod 4 = r) (h0 : r < 0) : ((rest4 at' : Nat) : Int) = r + 4 ∧ -4 < r := by
  subst h
  unfold rest4
  by_cases hp : 0 ≤ at'
  · rw [Int.tmod_eq_emod_of_nonneg hp] at h0; omega
  · obtain ⟨m, rfl⟩ : ∃ m, at' = -m := ⟨-at', by omega⟩
    rw [Int.neg_tmod, Int.tmod_eq_emod_of_nonneg (by omega)] at h0 ⊢
    omega

set_option maxHeartbeats 2000000 in
theorem refapply_any (key : List Nat) (at' : Int) (s : ByteArray) (w : World) (hk : key.length = 4) (hks : Small 256 key) (hs : s.size ≤ 100000) :
    Calls Tryd.prog 28 #[.agg (u8s key).toArray, .int .i64 at', .string s] w fun e w' => e = .returned (.string (strOf (turn key (rest4 at') (bytes s)))) ∧ Sl (Below w.heap.size w w') := by
  have HKL := Sl.mk hk
  have HKS := Sl.mk hks
  obtain ⟨r, hr⟩ : ∃ r, at'.tmod 4 = r := ⟨_, rfl⟩
  have HW1 : Sl (Below w.heap.size w (w.alloc (.cells (u8s key).toArray 42)) ∧ (w.alloc (.cells (u8s key).toArray 42)).heap[w.heap.size]? = some (.cells (u8s key).toArray 42 (0, 0))) := ⟨(Below.refl _ _).alloc (Nat.le_refl _) _, alloc_new _ _ _ rfl⟩
  have hK4 := rest4_lt at'
  clear hk hks
  by_cases hneg : r < 0
  · have hrr := (rest4_neg hr hneg).1
    have hr4 := (rest4_neg hr hneg).2
    obtain ⟨K, hK⟩ : ∃ K, rest4 at' = K := ⟨_, rfl⟩
    rw [hK] at hrr hK4 ⊢
    clear hK
    have hadd : r + 4 = (K : Int) := hrr.symm
    clear hrr
    go_enter Tryd.func28, Tryd.ntmps28
    go_wp2
    go_loopw [8, 9] (fun t i wr => ∃ (k : Nat) (o : ByteArray), k ≤ s.size ∧ i = .int .i64 k ∧ t = .string o ∧ Sl (bytes o = turn key K ((bytes s).take k)) ∧ Sl (Below w.heap.size w wr ∧ wr.heap[w.heap.size]? = some (.cells (u8s key).toArray 42 (0, 0)))) (fun _ i _ => s.size - (intOf i).toNat)
    case atStart => exact ⟨0, ByteArray.empty, Nat.zero_le _, rfl, rfl, ⟨rfl⟩, HW1⟩
    case round =>
      obtain ⟨k, o, hk, rfl, rfl, HO, HW⟩ := hrel
      by_cases hlt : k < s.size
      · have hx : (s[k]'hlt).toNat = (bytes s).getD k 0 := by rw [bytes_getD s k hlt]; rfl
        obtain ⟨x, hxx⟩ : ∃ x, (bytes s).getD k 0 = x := ⟨_, rfl⟩
        have hx256 : Sl (x < 256) := ⟨by rw [← hxx]; exact (bytes_small s).getD (by omega) k⟩
        obtain ⟨j, hj⟩ : ∃ j, (K + k) % 4 = j := ⟨_, rfl⟩
        have hj4 : j < 4 := by omega
        have q1 : ((K : Int) + (k : Int)) % 4 = (j : Int) := by omega
        have q2 : ((K : Int) + (k : Int)).tmod 4 = (j : Int) := by rw [Int.tmod_eq_emod_of_nonneg (by omega)]; omega
        have q3 : IntKind.i64.wrap ((K : Int) + (k : Int)) = (K : Int) + (k : Int) := by rw [IntKind.wrap_i64]; omega
        obtain ⟨y, hyy⟩ : ∃ y, key.getD j 0 = y := ⟨_, rfl⟩
        have hy := Sl.mk hyy
        have hxor := u8_xor_nat x y hx256.out (by rw [← hyy]; exact HKS.out.getD (by omega) j)
        obtain ⟨z, hzz⟩ : ∃ z, x ^^^ y = z := ⟨_, rfl⟩
        have hz256 : z < 256 := by
          rw [← hzz]; exact Nat.xor_lt_two_pow (n := 8) hx256.out (by rw [← hyy]; exact HKS.out.getD (by omega) j)
        have HN2 : Sl (bytes (o ++ strOf [z]) = turn key K ((bytes s).take (k + 1))) := ⟨by rw [bytes_append, HO.out, strOf_one z hz256, turn_take key K _ k (by rw [bytes_length]; exact hlt), hxx, hj, hyy, hzz]⟩
        have HZZ : Sl (o.size + (strOf [z]).size ≤ 100001) := ⟨by
          have h1 := congrArg List.length HO.out
          rw [bytes_length, turn_length, List.length_take, bytes_length] at h1
          rw [strOf_size, h1]
          simp; omega⟩
        rw [hxx] at hx
        rw [hzz] at hxor
        have hk0 : (0 : Int) ≤ (k : Int) := by omega
        have hk1 : (k : Int) < (s.size : Int) := by omega
        have hj0 : (0 : Int) ≤ (j : Int) := by omega
        have hj1 : (j : Int) < 4 := by omega
        clear hj hxx hyy hzz hz256
        go_upto_region 8 with fail
        obtain ⟨R, hR⟩ : ∃ R, wr.drew = R := ⟨_, rfl⟩
        have HS0 : Below w.heap.size w R ∧ R.heap[w.heap.size]? = some (.cells (u8s key).toArray 42 (0, 0)) := ⟨by rw [← hR]; exact HW.out.1.drew, by rw [← hR]; exact HW.out.2⟩
        refine wp_region_noPanic ?_
        refine wp_region_held (S := fun V => Below w.heap.size w V ∧ V.heap[w.heap.size]? = some (.cells (u8s key).toArray 42 (0, 0))) (by kernel_rfl) ?_
        change wpAnyH _ _ _ _ _ _ _ _ wr.drew
        rw [hR]
        clear hR
        refine heldTake (d := some 22) (op := .move (Operand.tmp 8)) (g := none) 0 ?v0p rfl (by kernel_rfl) (by kernel_rfl) (by kernel_rfl) (by kernel_rfl) ?y0p HS0 ?_
        case y0p => intro o' ho W hS; simp only [execOp, ho]; go_simp; try rfl
        simp only [Act.put, List.setIfInBounds_toArray, List.set_cons_zero, List.set_cons_succ]
        refine heldTake (d := some 23) (op := .move (Operand.tmp 2)) (g := none) 1 ?v1p rfl (by kernel_rfl) (by kernel_rfl) (by kernel_rfl) (by kernel_rfl) ?y1p HS0 ?_
        case y1p => intro o' ho W hS; simp only [execOp, ho]; go_simp; try rfl
        simp only [Act.put, List.setIfInBounds_toArray, List.set_cons_zero, List.set_cons_succ]
        refine heldTake (d := some 24) (op := .move (Operand.tmp 9)) (g := none) 2 ?v2p rfl (by kernel_rfl) (by kernel_rfl) (by kernel_rfl) (by kernel_rfl) ?y2p HS0 ?_
        case y2p => intro o' ho W hS; simp only [execOp, ho]; go_simp; try rfl
        simp only [Act.put, List.setIfInBounds_toArray, List.set_cons_zero, List.set_cons_succ]
        refine heldTake (d := some 25) (op := .index 9 (Operand.tmp 23) (Operand.tmp 24)) (g := none) 3 ?v3p rfl (by kernel_rfl) (by kernel_rfl) (by kernel_rfl) (by kernel_rfl) ?y3p HS0 ?_
        case y3p => intro o' ho W hS; simp only [execOp, ho]; go_simp; try rfl
        simp only [Act.put, List.setIfInBounds_toArray, List.set_cons_zero, List.set_cons_succ]
        refine heldTake (d := some 26) (op := .move (Operand.tmp 7)) (g := none) 4 ?v4p rfl (by kernel_rfl) (by kernel_rfl) (by kernel_rfl) (by kernel_rfl) ?y4p HS0 ?_
        case y4p => intro o' ho W hS; simp only [execOp, ho]; go_simp; try rfl
        simp only [Act.put, List.setIfInBounds_toArray, List.set_cons_zero, List.set_cons_succ]
        refine heldTake (d := some 27) (op := .move (Operand.tmp 9)) (g := none) 5 ?v5p rfl (by kernel_rfl) (by kernel_rfl) (by kernel_rfl) (by kernel_rfl) ?y5p HS0 ?_
        case y5p => intro o' ho W hS; simp only [execOp, ho]; go_simp; try rfl
        simp only [Act.put, List.setIfInBounds_toArray, List.set_cons_zero, List.set_cons_succ]
        refine heldTake (d := some 28) (op := .binOp BinOp.add 3 (Operand.tmp 26) (Operand.tmp 27) 3) (g := none) 6 ?v6p rfl (by kernel_rfl) (by kernel_rfl) (by kernel_rfl) (by kernel_rfl) ?y6p HS0 ?_
        case y6p => intro o' ho W hS; simp only [execOp, ho]; go_simp; try rfl
        simp only [Act.put, List.setIfInBounds_toArray, List.set_cons_zero, List.set_cons_succ]
        refine heldTake (d := some 29) (op := .binOp BinOp.rem 3 (Operand.tmp 28) (Operand.const (Value.int IntKind.i64 4)) 3) (g := none) 7 ?v7p rfl (by kernel_rfl) (by kernel_rfl) (by kernel_rfl) (by kernel_rfl) ?y7p HS0 ?_
        case y7p => intro o' ho W hS; simp only [execOp, ho]; go_simp; try rfl
        simp only [Act.put, List.setIfInBounds_toArray, List.set_cons_zero, List.set_cons_succ]
        refine heldTake (d := some 30) (op := .indexAddr 42 (Operand.tmp 3) (Operand.tmp 29)) (g := none) 8 ?v8p rfl (by kernel_rfl) (by kernel_rfl) (by kernel_rfl) (by kernel_rfl) ?y8p HS0 ?_
        case y8p => intro o' ho W hS; simp only [execOp, ho]; go_simp; try rfl
        simp only [Act.put, List.setIfInBounds_toArray, List.set_cons_zero, List.set_cons_succ]
        refine heldTake (d := some 31) (op := .load 5 (Operand.tmp 30)) (g := none) 9 ?v9p rfl (by kernel_rfl) (by kernel_rfl) (by kernel_rfl) (by kernel_rfl) ?y9p HS0 ?_
        case y9p => intro o' ho W hS; have cW := keycell hS.2 hj4 HKL.out hy.out; simp only [execOp, ho]; go_simp; try rfl
        simp only [Act.put, List.setIfInBounds_toArray, List.set_cons_zero, List.set_cons_succ]
        refine heldTake (d := some 32) (op := .binOp BinOp.xor 5 (Operand.tmp 25) (Operand.tmp 31) 5) (g := none) 10 ?v10p rfl (by kernel_rfl) (by kernel_rfl) (by kernel_rfl) (by kernel_rfl) ?y10p HS0 ?_
        case y10p => intro o' ho W hS; simp only [execOp, ho]; go_simp; try rfl
        simp only [Act.put, List.setIfInBounds_toArray, List.set_cons_zero, List.set_cons_succ]
        obtain ⟨X, hX⟩ : ∃ X, R.alloc (.cells #[.int .u8 (z : Int)] 5) = X := ⟨_, rfl⟩
        have HXB : Sl (Below R.heap.size R X) := ⟨by rw [← hX]; exact (Below.refl _ _).alloc (Nat.le_refl _) _⟩
        have HSX : Below w.heap.size w X ∧ X.heap[w.heap.size]? = some (.cells (u8s key).toArray 42 (0, 0)) := ⟨HS0.1.trans (HXB.out.mono HS0.1.size), by rw [HXB.out.block _ (Array.getElem?_eq_some_iff.1 HS0.2).1]; exact HS0.2⟩
        have hst : (convert 36 9 (.slice (some ⟨R.heap.size, 0, none⟩) 1 1)).run Tryd.prog X = .ok (.string (strOf [z])) X := by
          have := (rowB_new R [z]).str (k := 1) rfl
          have e0 : (u8s [z]).toArray = #[.int .u8 (z : Int)] := rfl
          rwa [e0, hX] at this
        refine heldRunT (d := some 33) (op := .buildSlice 36 1 #[(0, Operand.tmp 32)]) (g := none) (t := 36) 11 (.slice (some ⟨R.heap.size, 0, none⟩) 1 1) X rfl (by kernel_rfl) (by kernel_rfl) ?y11p HSX ?_
        case y11p => intro o' ho _; simp only [execOp, ho]; go_simp; first | done | rw [hX] | rfl
        simp only [Act.put, List.setIfInBounds_toArray, List.set_cons_zero, List.set_cons_succ]
        refine heldRunT (d := some 34) (op := .convert 36 9 (Operand.tmp 33)) (g := none) (t := 9) 12 (.string (strOf [z])) X rfl (by kernel_rfl) (by kernel_rfl) ?y12p HSX ?_
        case y12p => intro o' ho _; simp only [execOp, ho]; go_simp; try rfl
        simp only [Act.put, List.setIfInBounds_toArray, List.set_cons_zero, List.set_cons_succ]
        refine heldRunT (d := some 35) (op := .binOp BinOp.add 9 (Operand.tmp 22) (Operand.tmp 34) 9) (g := none) (t := 9) 13 (.string (o ++ strOf [z])) X rfl (by kernel_rfl) (by kernel_rfl) ?y13p HSX ?_
        case y13p => intro o' ho _; simp only [execOp, ho]; go_simp; first | done | (have := HZZ.out; omega) | rfl
        simp only [Act.put, List.setIfInBounds_toArray, List.set_cons_zero, List.set_cons_succ]
        refine heldTake (d := some 8) (op := .assign (Operand.tmp 35)) (g := none) 14 ?v14p rfl (by kernel_rfl) (by kernel_rfl) (by kernel_rfl) (by kernel_rfl) ?y14p HSX ?_
        case y14p => intro o' ho W hS; simp only [execOp, ho]; go_simp; try rfl
        simp only [Act.put, List.setIfInBounds_toArray, List.set_cons_zero, List.set_cons_succ]
        refine wpAnyH_done (by kernel_rfl) ?_ _
        refine NoPanic.normal ?_
        go_wp2
        exact ⟨⟨k + 1, _, by omega, by go_num, rfl, HN2, ⟨HSX⟩⟩, by simp [intOf] <;> omega⟩
      · have hge : ((k : Int) < (s.size : Int)) = False := eq_false (by omega)
        obtain rfl : k = s.size := by omega
        have HE : Sl (o = strOf (turn key K (bytes s))) := ⟨by
          have h1 := HO.out
          rw [List.take_of_length_le (by rw [bytes_length]; exact Nat.le_refl _)] at h1
          rw [← h1, strOf_bytes]⟩
        have HBW : Sl (Below w.heap.size w wr) := ⟨HW.out.1⟩
        go_wp2
        go_ret
        exact ⟨by rw [← HE.out]; rfl, HBW⟩
  · have hrr := rest4_pos hr hneg
    obtain ⟨K, hK⟩ : ∃ K, rest4 at' = K := ⟨_, rfl⟩
    rw [hK] at hrr hK4 ⊢
    clear hK
    have hneg2 : (r < 0) = False := eq_false hneg
    subst hrr
    go_enter Tryd.func28, Tryd.ntmps28
    go_wp2
    go_loopw [8, 9] (fun t i wr => ∃ (k : Nat) (o : ByteArray), k ≤ s.size ∧ i = .int .i64 k ∧ t = .string o ∧ Sl (bytes o = turn key K ((bytes s).take k)) ∧ Sl (Below w.heap.size w wr ∧ wr.heap[w.heap.size]? = some (.cells (u8s key).toArray 42 (0, 0)))) (fun _ i _ => s.size - (intOf i).toNat)
    case atStart => exact ⟨0, ByteArray.empty, Nat.zero_le _, rfl, rfl, ⟨rfl⟩, HW1⟩
    case round =>
      obtain ⟨k, o, hk, rfl, rfl, HO, HW⟩ := hrel
      by_cases hlt : k < s.size
      · have hx : (s[k]'hlt).toNat = (bytes s).getD k 0 := by rw [bytes_getD s k hlt]; rfl
        obtain ⟨x, hxx⟩ : ∃ x, (bytes s).getD k 0 = x := ⟨_, rfl⟩
        have hx256 : Sl (x < 256) := ⟨by rw [← hxx]; exact (bytes_small s).getD (by omega) k⟩
        obtain ⟨j, hj⟩ : ∃ j, (K + k) % 4 = j := ⟨_, rfl⟩
        have hj4 : j < 4 := by omega
        have q1 : ((K : Int) + (k : Int)) % 4 = (j : Int) := by omega
        have q2 : ((K : Int) + (k : Int)).tmod 4 = (j : Int) := by rw [Int.tmod_eq_emod_of_nonneg (by omega)]; omega
        have q3 : IntKind.i64.wrap ((K : Int) + (k : Int)) = (K : Int) + (k : Int) := by rw [IntKind.wrap_i64]; omega
        obtain ⟨y, hyy⟩ : ∃ y, key.getD j 0 = y := ⟨_, rfl⟩
        have hy := Sl.mk hyy
        have hxor := u8_xor_nat x y hx256.out (by rw [← hyy]; exact HKS.out.getD (by omega) j)
        obtain ⟨z, hzz⟩ : ∃ z, x ^^^ y = z := ⟨_, rfl⟩
        have hz256 : z < 256 := by
          rw [← hzz]; exact Nat.xor_lt_two_pow (n := 8) hx256.out (by rw [← hyy]; exact HKS.out.getD (by omega) j)
        have HN2 : Sl (bytes (o ++ strOf [z]) = turn key K ((bytes s).take (k + 1))) := ⟨by rw [bytes_append, HO.out, strOf_one z hz256, turn_take key K _ k (by rw [bytes_length]; exact hlt), hxx, hj, hyy, hzz]⟩
        have HZZ : Sl (o.size + (strOf [z]).size ≤ 100001) := ⟨by
          have h1 := congrArg List.length HO.out
          rw [bytes_length, turn_length, List.length_take, bytes_length] at h1
          rw [strOf_size, h1]
          simp; omega⟩
        rw [hxx] at hx
        rw [hzz] at hxor
        have hk0 : (0 : Int) ≤ (k : Int) := by omega
        have hk1 : (k : Int) < (s.size : Int) := by omega
        have hj0 : (0 : Int) ≤ (j : Int) := by omega
        have hj1 : (j : Int) < 4 := by omega
        clear hj hxx hyy hzz hz256
        go_upto_region 8 with fail
        obtain ⟨R, hR⟩ : ∃ R, wr.drew = R := ⟨_, rfl⟩
        have HS0 : Below w.heap.size w R ∧ R.heap[w.heap.size]? = some (.cells (u8s key).toArray 42 (0, 0)) := ⟨by rw [← hR]; exact HW.out.1.drew, by rw [← hR]; exact HW.out.2⟩
        refine wp_region_noPanic ?_
        refine wp_region_held (S := fun V => Below w.heap.size w V ∧ V.heap[w.heap.size]? = some (.cells (u8s key).toArray 42 (0, 0))) (by kernel_rfl) ?_
        change wpAnyH _ _ _ _ _ _ _ _ wr.drew
        rw [hR]
        clear hR
        refine heldTake (d := some 22) (op := .move (Operand.tmp 8)) (g := none) 0 ?v0q rfl (by kernel_rfl) (by kernel_rfl) (by kernel_rfl) (by kernel_rfl) ?y0q HS0 ?_
        case y0q => intro o' ho W hS; simp only [execOp, ho]; go_simp; try rfl
        simp only [Act.put, List.setIfInBounds_toArray, List.set_cons_zero, List.set_cons_succ]
        refine heldTake (d := some 23) (op := .move (Operand.tmp 2)) (g := none) 1 ?v1q rfl (by kernel_rfl) (by kernel_rfl) (by kernel_rfl) (by kernel_rfl) ?y1q HS0 ?_
        case y1q => intro o' ho W hS; simp only [execOp, ho]; go_simp; try rfl
        simp only [Act.put, List.setIfInBounds_toArray, List.set_cons_zero, List.set_cons_succ]
        refine heldTake (d := some 24) (op := .move (Operand.tmp 9)) (g := none) 2 ?v2q rfl (by kernel_rfl) (by kernel_rfl) (by kernel_rfl) (by kernel_rfl) ?y2q HS0 ?_
        case y2q => intro o' ho W hS; simp only [execOp, ho]; go_simp; try rfl
        simp only [Act.put, List.setIfInBounds_toArray, List.set_cons_zero, List.set_cons_succ]
        refine heldTake (d := some 25) (op := .index 9 (Operand.tmp 23) (Operand.tmp 24)) (g := none) 3 ?v3q rfl (by kernel_rfl) (by kernel_rfl) (by kernel_rfl) (by kernel_rfl) ?y3q HS0 ?_
        case y3q => intro o' ho W hS; simp only [execOp, ho]; go_simp; try rfl
        simp only [Act.put, List.setIfInBounds_toArray, List.set_cons_zero, List.set_cons_succ]
        refine heldTake (d := some 26) (op := .move (Operand.tmp 7)) (g := none) 4 ?v4q rfl (by kernel_rfl) (by kernel_rfl) (by kernel_rfl) (by kernel_rfl) ?y4q HS0 ?_
        case y4q => intro o' ho W hS; simp only [execOp, ho]; go_simp; try rfl
        simp only [Act.put, List.setIfInBounds_toArray, List.set_cons_zero, List.set_cons_succ]
        refine heldTake (d := some 27) (op := .move (Operand.tmp 9)) (g := none) 5 ?v5q rfl (by kernel_rfl) (by kernel_rfl) (by kernel_rfl) (by kernel_rfl) ?y5q HS0 ?_
        case y5q => intro o' ho W hS; simp only [execOp, ho]; go_simp; try rfl
        simp only [Act.put, List.setIfInBounds_toArray, List.set_cons_zero, List.set_cons_succ]
        refine heldTake (d := some 28) (op := .binOp BinOp.add 3 (Operand.tmp 26) (Operand.tmp 27) 3) (g := none) 6 ?v6q rfl (by kernel_rfl) (by kernel_rfl) (by kernel_rfl) (by kernel_rfl) ?y6q HS0 ?_
        case y6q => intro o' ho W hS; simp only [execOp, ho]; go_simp; try rfl
        simp only [Act.put, List.setIfInBounds_toArray, List.set_cons_zero, List.set_cons_succ]
        refine heldTake (d := some 29) (op := .binOp BinOp.rem 3 (Operand.tmp 28) (Operand.const (Value.int IntKind.i64 4)) 3) (g := none) 7 ?v7q rfl (by kernel_rfl) (by kernel_rfl) (by kernel_rfl) (by kernel_rfl) ?y7q HS0 ?_
        case y7q => intro o' ho W hS; simp only [execOp, ho]; go_simp; try rfl
        simp only [Act.put, List.setIfInBounds_toArray, List.set_cons_zero, List.set_cons_succ]
        refine heldTake (d := some 30) (op := .indexAddr 42 (Operand.tmp 3) (Operand.tmp 29)) (g := none) 8 ?v8q rfl (by kernel_rfl) (by kernel_rfl) (by kernel_rfl) (by kernel_rfl) ?y8q HS0 ?_
        case y8q => intro o' ho W hS; simp only [execOp, ho]; go_simp; try rfl
        simp only [Act.put, List.setIfInBounds_toArray, List.set_cons_zero, List.set_cons_succ]
        refine heldTake (d := some 31) (op := .load 5 (Operand.tmp 30)) (g := none) 9 ?v9q rfl (by kernel_rfl) (by kernel_rfl) (by kernel_rfl) (by kernel_rfl) ?y9q HS0 ?_
        case y9q => intro o' ho W hS; have cW := keycell hS.2 hj4 HKL.out hy.out; simp only [execOp, ho]; go_simp; try rfl
        simp only [Act.put, List.setIfInBounds_toArray, List.set_cons_zero, List.set_cons_succ]
        refine heldTake (d := some 32) (op := .binOp BinOp.xor 5 (Operand.tmp 25) (Operand.tmp 31) 5) (g := none) 10 ?v10q rfl (by kernel_rfl) (by kernel_rfl) (by kernel_rfl) (by kernel_rfl) ?y10q HS0 ?_
        case y10q => intro o' ho W hS; simp only [execOp, ho]; go_simp; try rfl
        simp only [Act.put, List.setIfInBounds_toArray, List.set_cons_zero, List.set_cons_succ]
        obtain ⟨X, hX⟩ : ∃ X, R.alloc (.cells #[.int .u8 (z : Int)] 5) = X := ⟨_, rfl⟩
        have HXB : Sl (Below R.heap.size R X) := ⟨by rw [← hX]; exact (Below.refl _ _).alloc (Nat.le_refl _) _⟩
        have HSX : Below w.heap.size w X ∧ X.heap[w.heap.size]? = some (.cells (u8s key).toArray 42 (0, 0)) := ⟨HS0.1.trans (HXB.out.mono HS0.1.size), by rw [HXB.out.block _ (Array.getElem?_eq_some_iff.1 HS0.2).1]; exact HS0.2⟩
        have hst : (convert 36 9 (.slice (some ⟨R.heap.size, 0, none⟩) 1 1)).run Tryd.prog X = .ok (.string (strOf [z])) X := by
          have := (rowB_new R [z]).str (k := 1) rfl
          have e0 : (u8s [z]).toArray = #[.int .u8 (z : Int)] := rfl
          rwa [e0, hX] at this
        refine heldRunT (d := some 33) (op := .buildSlice 36 1 #[(0, Operand.tmp 32)]) (g := none) (t := 36) 11 (.slice (some ⟨R.heap.size, 0, none⟩) 1 1) X rfl (by kernel_rfl) (by kernel_rfl) ?y11q HSX ?_
        case y11q => intro o' ho _; simp only [execOp, ho]; go_simp; first | done | rw [hX] | rfl
        simp only [Act.put, List.setIfInBounds_toArray, List.set_cons_zero, List.set_cons_succ]
        refine heldRunT (d := some 34) (op := .convert 36 9 (Operand.tmp 33)) (g := none) (t := 9) 12 (.string (strOf [z])) X rfl (by kernel_rfl) (by kernel_rfl) ?y12q HSX ?_
        case y12q => intro o' ho _; simp only [execOp, ho]; go_simp; try rfl
        simp only [Act.put, List.setIfInBounds_toArray, List.set_cons_zero, List.set_cons_succ]
        refine heldRunT (d := some 35) (op := .binOp BinOp.add 9 (Operand.tmp 22) (Operand.tmp 34) 9) (g := none) (t := 9) 13 (.string (o ++ strOf [z])) X rfl (by kernel_rfl) (by kernel_rfl) ?y13q HSX ?_
        case y13q => intro o' ho _; simp only [execOp, ho]; go_simp; first | done | (have := HZZ.out; omega) | rfl
        simp only [Act.put, List.setIfInBounds_toArray, List.set_cons_zero, List.set_cons_succ]
        refine heldTake (d := some 8) (op := .assign (Operand.tmp 35)) (g := none) 14 ?v14q rfl (by kernel_rfl) (by kernel_rfl) (by kernel_rfl) (by kernel_rfl) ?y14q HSX ?_
        case y14q => intro o' ho W hS; simp only [execOp, ho]; go_simp; try rfl
        simp only [Act.put, List.setIfInBounds_toArray, List.set_cons_zero, List.set_cons_succ]
        refine wpAnyH_done (by kernel_rfl) ?_ _
        refine NoPanic.normal ?_
        go_wp2
        exact ⟨⟨k + 1, _, by omega, by go_num, rfl, HN2, ⟨HSX⟩⟩, by simp [intOf] <;> omega⟩
      · have hge : ((k : Int) < (s.size : Int)) = False := eq_false (by omega)
        obtain rfl : k = s.size := by omega
        have HE : Sl (o = strOf (turn key K (bytes s))) := ⟨by
          have h1 := HO.out
          rw [List.take_of_length_le (by rw [bytes_length]; exact Nat.le_refl _)] at h1
          rw [← h1, strOf_bytes]⟩
        have HBW : Sl (Below w.heap.size w wr) := ⟨HW.out.1⟩
        go_wp2
        go_ret
        exact ⟨by rw [← HE.out]; rfl, HBW⟩
end Go.Proofs.YtimndpmbgfoofaaDoor.Mas
/- mask: MaskTurns' walk. -/
set_option maxRecDepth 100000
namespace Go.Proofs.YtimndpmbgfoofaaDoor.Mas
open Go.RowKit MaskPlain

theorem apply_len (key : List Nat) (at' : Int) (v : Value) (bs : List Nat) (n : Nat) (w : World) (hk : key.length = 4) (hks : Small 256 key) (hv : SrcAt w v bs) (hsm : Small 256 bs) (hm : n ≤ 100000) (hn : bs.length = n) :
    Calls Tryd.prog 59 #[.agg (u8s key).toArray, .int .i64 at', v] w fun e w' => ∃ g, e = .returned (.slice (some ⟨g, 0, none⟩) n n) ∧ Sl (RowB w' g (turn key (rest4 at') bs)) ∧ Sl (Below w.heap.size w w') := by
  subst hn
  exact (apply_any key at' v bs w hk hks hv hsm hm).mono fun _ _ ⟨g, he, _, hr, hb⟩ => ⟨g, he, hr, hb⟩
end Go.Proofs.YtimndpmbgfoofaaDoor.Mas
/- mask: MaskCuts' walk. -/
set_option maxRecDepth 100000
namespace Go.Proofs.YtimndpmbgfoofaaDoor.Mas
open Go.RowKit MaskPlain

theorem rest4_add (key : List Nat) (n m : Nat) (l : List Nat) : turn key (rest4 ((n : Int) + (m : Int))) l = turn key (rest4 (n : Int) + m) l :=
  turn_same key (by unfold rest4; omega) l
theorem cut_str (key : List Nat) (K : Nat) (a b : ByteArray) (hks : Small 256 key) : strOf (turn key K (bytes (a ++ b))) = strOf (turn key K (bytes a)) ++ strOf (turn key (K + a.size) (bytes b)) := by
  have hk := fun i => hks.getD (by omega) i
  refine bytes_inj ?_
  rw [bytes_append (strOf (turn key K (bytes a))), bytes_strOf _ (turn_lt key K _ (bytes_small a) hk), bytes_strOf _ (turn_lt key (K + a.size) _ (bytes_small b) hk), bytes_strOf _ (turn_lt key K _ (bytes_small (a ++ b)) hk), bytes_append, turn_append, bytes_length]
end Go.Proofs.YtimndpmbgfoofaaDoor.Mas
