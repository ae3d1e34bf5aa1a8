/- The contract of awake. -/
import Derived.Test.YtfgpohfegjomfaaG
namespace Go.Proofs.Ytfgpohfegjomfaa
open Go.RowKit

set_option maxHeartbeats 1000000 in
theorem awake_any (w : World) : Calls Try.prog 10 #[] w fun e w' => e = .returned (.bool true) ∧ Sl (Below w.heap.size w w') := by
  have kc := fun (w : World) (C : Array Value) (n c : Nat) => Lib.run_convert_bytes_const (P := Try.prog) w 33 5 C n c Try.underlying33 Try.underlying5
  go_enter Try.func10, Try.ntmps10
  go_wp2_with fail
  refine (new_ex w _ 4 (by decide) (by decide) (Below.refl _ _)).mono ?_
  rintro e w1 ⟨rfl, HR1, HX1, HB1⟩
  clear HX1
  go_wp2_with fail
  refine (put_ex w _ (w.heap.size + 1) w.heap.size 4 3 [] [97, 98, 99] _ (HB1.out.alloc HB1.out.size _) (by omega) (by omega) (HR1.out.below ((Below.refl _ _).alloc (Nat.le_refl _) _)) ((src_new _ [97, 98, 99] _ _ _ rfl).offs HR1.out.plt) (by unfold Small; decide) (by decide) rfl).mono ?_
  rintro e w2 ⟨rfl, HR2, HX2, HB2⟩
  clear HX2 HR1 HB1
  go_wp2_with fail
  refine (take_ex w _ (w.heap.size + 1) w.heap.size 4 2 _ [97, 98] [99] _ HB2.out (by omega) (by omega) HR2.out rfl rfl rfl).mono ?_
  rintro e w3 ⟨rfl, HO3, HR3, HX3, HB3⟩
  have HB2' : Sl (w.heap.size + 1 < w2.heap.size) := ⟨HR2.out.blt⟩
  clear HX3 HR2 HB2
  go_wp2_with fail
  have hlt := HO3.out.lt
  refine (put_ex w _ (w.heap.size + 1) w.heap.size 4 3 [99] [100, 101, 102, 103] _ (HB3.out.alloc HB3.out.size _) (by omega) (by omega) (HR3.out.below ((Below.refl _ _).alloc (Nat.le_refl _) _)) ((src_new _ [100, 101, 102, 103] _ _ _ rfl).offs HR3.out.plt) (by unfold Small; decide) (by decide) rfl).mono ?_
  rintro e w4 ⟨rfl, HR4, HX4, HB4⟩
  have HO4 : Sl (RowB w4 w2.heap.size [97, 98]) := ⟨(HO3.out.below ((Below.refl _ _).alloc (Nat.le_refl _) _)).two HX4.out (by have := HB2'.out; omega) (by have := HB2'.out; omega)⟩
  clear HX4 HR3 HB3 HO3
  have hcv := HO4.out.str (k := 2) rfl
  have hq := beq_str [97, 98] (by unfold Small; decide) [97, 98] true (by decide)
  go_wp2_with fail
  refine (peek_ex w _ (w.heap.size + 1) w.heap.size 4 4 _ [99, 100, 101, 102] _ HB4.out HR4.out rfl rfl).mono ?_
  rintro e w5 ⟨rfl, HO5, HR5, HX5, HB5⟩
  have hcv5 := HO5.out.str (k := 4) rfl
  have hq5 := beq_str [99, 100, 101, 102] (by unfold Small; decide) [99, 100, 101, 102] true (by decide)
  go_wp2_with fail
  refine (len_ex _ (w.heap.size + 1) w.heap.size 4 4 _ HR5.out rfl).mono ?_
  rintro e w5' ⟨rfl, rfl⟩
  go_wp2_with fail
  refine (room_ex w _ (w.heap.size + 1) w.heap.size 4 0 _ HB5.out HR5.out rfl).mono ?_
  rintro e w6 ⟨rfl, HR6, HK6, HB6⟩
  go_wp2
  go_ret
  exact ⟨rfl, HB6⟩
theorem awake_ex (w0 W : World) (hB : Below w0.heap.size w0 W) : Calls Try.prog 10 #[] W fun e w' => e = .returned (.bool true) ∧ Sl (Below W.heap.size W w') ∧ Sl (Below w0.heap.size w0 w') :=
  (awake_any W).mono fun _ _ ⟨he, hb⟩ => ⟨he, hb, ⟨hB.trans (hb.out.mono hB.size)⟩⟩
end Go.Proofs.Ytfgpohfegjomfaa
