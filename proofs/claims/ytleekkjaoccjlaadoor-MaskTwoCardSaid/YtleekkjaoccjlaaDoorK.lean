/- mask: the document's Put. -/
import Derived.Test.YtleekkjaoccjlaaDoorG
set_option maxRecDepth 100000
namespace Go.Proofs.YtleekkjaoccjlaaDoor
open Go.RowKit MaskPlain

/-- What the document's digits holds to, i bytes on. -/
def DG (n size : Nat) (m i : Nat) (s : ByteArray) : Prop := be n size = be m (size - i) ++ bytes s
theorem strOf_one (x : Nat) (h : x < 256) : bytes (strOf [x]) = [x] := bytes_strOf _ (fun y hy => by simp at hy; omega)
theorem DG.next {n size m i : Nat} {s : ByteArray} (h : DG n size m i s) (hi : i < size) : DG n size (m / 256) (i + 1) (strOf [m % 256] ++ s) := by
  unfold DG at *
  rw [h, show size - i = (size - (i + 1)) + 1 by omega, be, bytes_append, strOf_one _ (Nat.mod_lt _ (by decide)), List.append_assoc]
theorem DG.size {n size m i : Nat} {s : ByteArray} (h : DG n size m i s) (hi : i ≤ size) : s.size = i := by
  unfold DG at h
  have h2 := congrArg List.length h
  rw [be_length, List.length_append, be_length, bytes_length] at h2
  omega
theorem DG.fin {n size m : Nat} {s : ByteArray} (h : DG n size m size s) : s = strOf (be n size) := by
  unfold DG at h
  rw [Nat.sub_self] at h
  rw [h]
  exact (strOf_bytes s).symm

set_option maxHeartbeats 2000000 in
theorem digits_any (n size : Nat) (w : World) (hn : n < 18446744073709551616) (hk : size ≤ 8) : Calls Tryd.prog 19 #[.int .u64 n, .int .i64 size] w fun e w' => e = .returned (.string (strOf (be n size))) ∧ Sl (Below w.heap.size w w') := by
  have HN := Sl.mk hn
  have H0 : Sl (DG n size n 0 ByteArray.empty) := ⟨by unfold DG; simp [bytes]⟩
  have HB0 : Sl (Below w.heap.size w w) := ⟨Below.refl _ _⟩
  clear hn
  go_enter Tryd.func19, Tryd.ntmps19
  go_wp2
  go_loopw [0, 5, 6] (fun u t i wr => ∃ (k m : Nat) (s : ByteArray), k ≤ size ∧ u = .int .u64 (m : Int) ∧ t = .string s ∧ i = .int .i64 k ∧ Sl (m < 18446744073709551616) ∧ Sl (DG n size m k s) ∧ Sl (Below w.heap.size w wr)) (fun _ _ i _ => size - (intOf i).toNat)
  case atStart => exact ⟨0, n, ByteArray.empty, Nat.zero_le _, rfl, rfl, rfl, HN, H0, HB0⟩
  case round =>
    obtain ⟨k, m, s, hks, rfl, rfl, rfl, HM, HD, HB⟩ := hrel
    by_cases hlt : k < size
    · obtain ⟨c, hc⟩ : ∃ c, m % 256 = c := ⟨_, rfl⟩
      obtain ⟨q, hq⟩ : ∃ q, m / 256 = q := ⟨_, rfl⟩
      have HD2 := HD.out.next hlt
      rw [hc, hq] at HD2
      have HD3 := Sl.mk HD2
      clear HD2
      have HSZ : Sl ((strOf [c]).size + s.size = 1 + k) := ⟨by rw [strOf_size, HD.out.size hks]; rfl⟩
      have e1 : (m : Int) % 256 = (c : Int) := by omega
      have e2 : (m : Int) / 256 = (q : Int) := by omega
      have e3 : IntKind.u8.wrap (c : Int) = (c : Int) := by rw [IntKind.wrap_u8']; omega
      have e4 : IntKind.u64.wrap (q : Int) = (q : Int) := by rw [IntKind.wrap_u64]; have := HM.out; omega
      have HQ : Sl (q < 18446744073709551616) := ⟨by have := HM.out; omega⟩
      have HBA : Sl (Below w.heap.size w (wr.alloc (.cells #[.int .u8 (c : Int)] 5))) := ⟨HB.out.alloc HB.out.size _⟩
      have hst := (rowB_new wr [c]).str (k := 1) rfl
      have e0 : (u8s [c]).toArray = #[.int .u8 (c : Int)] := rfl
      rw [e0] at hst
      clear hc hq
      go_wp2
      · have := HSZ.out; omega
      exact ⟨⟨k + 1, q, _, by omega, by go_num, rfl, by go_num, HQ, HD3, HBA⟩, by simp [intOf]; omega⟩
    · have hge : ((k : Int) < (size : Int)) = False := eq_false (by omega)
      obtain rfl : k = size := by omega
      have HE := Sl.mk HD.out.fin
      go_wp2
      go_ret
      exact ⟨by rw [← HE.out]; rfl, HB⟩
/-- What the document's Put answers. -/
theorem put_low (n : Nat) (h : n < 126) : putL n = some [n] := by unfold putL; rw [if_neg (by omega), if_pos h]
theorem put_mid (n : Nat) (h : ¬ n < 126) (h2 : n ≤ 65535) : putL n = some (126 :: be n 2) := by unfold putL; rw [if_neg (by omega), if_neg h, if_pos h2]
theorem put_high (n : Nat) (h2 : ¬ n ≤ 65535) (h3 : n ≤ 9223372036854775807) : putL n = some (127 :: be n 8) := by unfold putL; rw [if_neg (by omega), if_neg (by omega), if_neg h2]
theorem strOf_cons (x : Nat) (l : List Nat) (hx : x < 256) (h : Small 256 l) : strOf [x] ++ strOf l = strOf (x :: l) := by
  refine bytes_inj ?_
  rw [bytes_append, strOf_one x hx, bytes_strOf l h, bytes_strOf]
  · rfl
  · intro y hy
    rcases List.mem_cons.1 hy with rfl | hy
    · exact hx
    · exact h y hy
theorem refput_no (n : Nat) (w : World) (h : 9223372036854775807 < n) : Calls Tryd.prog 14 #[.int .u64 n] w fun e w' => e = .returned (.tuple #[.string ByteArray.empty, .bool false]) ∧ Sl (Below w.heap.size w w') := by
  have hq : ((n : Int) > 9223372036854775807) = True := eq_true (by omega)
  have HB0 : Sl (Below w.heap.size w w) := ⟨Below.refl _ _⟩
  clear h
  go_enter Tryd.func14, Tryd.ntmps14
  go_wp2
  go_ret2
  exact ⟨rfl, HB0⟩

set_option maxHeartbeats 2000000 in
theorem refput_yes (n : Nat) (s : List Nat) (w : World) (hs : putL n = some s) (h : n ≤ 9223372036854775807) : Calls Tryd.prog 14 #[.int .u64 n] w fun e w' => e = .returned (.tuple #[.string (strOf s), .bool true]) ∧ Sl (Below w.heap.size w w') := by
  have hq : ((n : Int) > 9223372036854775807) = False := eq_false (by omega)
  have HB0 : Sl (Below w.heap.size w w) := ⟨Below.refl _ _⟩
  by_cases h1 : n < 126
  · obtain rfl : s = [n] := Option.some.inj (hs.symm.trans (put_low n h1))
    have e3 : IntKind.u8.wrap (n : Int) = (n : Int) := by rw [IntKind.wrap_u8']; omega
    have hst := (rowB_new w [n]).str (k := 1) rfl
    have e0 : (u8s [n]).toArray = #[.int .u8 (n : Int)] := rfl
    rw [e0] at hst
    have HBA : Sl (Below w.heap.size w (w.alloc (.cells #[.int .u8 (n : Int)] 5))) := ⟨HB0.out.alloc HB0.out.size _⟩
    clear h hs
    go_enter Tryd.func14, Tryd.ntmps14
    go_wp2
    go_ret2
    exact ⟨rfl, HBA⟩
  · have hq1 : ((n : Int) < 126) = False := eq_false (by omega)
    by_cases h2 : n ≤ 65535
    · obtain rfl : s = 126 :: be n 2 := Option.some.inj (hs.symm.trans (put_mid n h1 h2))
      have HC := digits_any n 2 w (by omega) (by omega)
      have HE := Sl.mk (strOf_cons 126 (be n 2) (by decide) (be_small n 2))
      have HZ : Sl ((strOf (be n 2)).size = 2) := ⟨by rw [strOf_size, be_length]⟩
      have hq2 : ((n : Int) ≤ 65535) = True := eq_true (by omega)
      clear h hs h1
      go_enter Tryd.func14, Tryd.ntmps14
      go_wp2_with fail
      refine HC.mono ?_
      rintro e w1 ⟨rfl, HB1⟩
      generalize strOf (be n 2) = t at *
      go_wp2
      · have := HZ.out; omega
      go_ret2
      exact ⟨by rw [← HE.out]; rfl, HB1⟩
    · obtain rfl : s = 127 :: be n 8 := Option.some.inj (hs.symm.trans (put_high n h2 h))
      have HC := digits_any n 8 w (by omega) (by omega)
      have HE := Sl.mk (strOf_cons 127 (be n 8) (by decide) (be_small n 8))
      have HZ : Sl ((strOf (be n 8)).size = 8) := ⟨by rw [strOf_size, be_length]⟩
      have hq2 : ((n : Int) ≤ 65535) = False := eq_false (by omega)
      clear h hs h1
      go_enter Tryd.func14, Tryd.ntmps14
      go_wp2_with fail
      refine HC.mono ?_
      rintro e w1 ⟨rfl, HB1⟩
      generalize strOf (be n 8) = t at *
      go_wp2
      · have := HZ.out; omega
      go_ret2
      exact ⟨by rw [← HE.out]; rfl, HB1⟩
end Go.Proofs.YtleekkjaoccjlaaDoor
