/- shake: the document's Accept and Key. -/
import Derived.Test.YthlagngpllahkaaGreatDoorW3
import Derived.Test.YthlagngpllahkaaGreatDoorBaD
import Derived.Test.YthlagngpllahkaaGreatDoorShE
set_option maxRecDepth 100000
namespace Go.Proofs.YthlagngpllahkaaGreatDoor
open Go.RowKit HeadPlain

set_option maxHeartbeats 1000000 in
theorem acceptR_any (key : ByteArray) (w : World) (hs : key.size ≤ 300) :
    Calls Tryz.prog 20 #[.string key] w fun e w' => e = .returned (.string (accS key)) ∧ Sl (Below w.heap.size w w') := by
  obtain ⟨x, hx⟩ : ∃ x, key ++ ending = x := ⟨_, rfl⟩
  have HX : Sl (bytes x = bytes key ++ bytes ending) := ⟨by rw [← hx, bytes_append]⟩
  have HXL : Sl (x.size ≤ 400) := ⟨by
    rw [← bytes_length, HX.out, List.length_append, bytes_length]
    have : (bytes ending).length = 36 := rfl
    omega⟩
  have C1 : Sl (Calls Tryz.prog 48 #[.string x] w fun e w' => e = .returned (.string (strOf (sumB (bytes key)))) ∧ Sl (Below w.heap.size w w')) := ⟨(Sha.ref_any x w HXL.out).mono fun e w' ⟨s, h1, h2, h3⟩ => ⟨by
    rw [h1, h2.out]
    show Ending.returned (Value.string (strOf (Sha.told (Sha.feed Sha.st0 (bytes x))))) = _
    rw [HX.out]; rfl, ⟨h3.out⟩⟩⟩
  have C2 : Sl (∀ V, Calls Tryz.prog 47 #[.string (strOf (sumB (bytes key)))] V fun e w' => e = .returned (.string (accS key)) ∧ Sl (Below V.heap.size V w')) := ⟨fun V => (Bas.ref_put (strOf (sumB (bytes key))) V (by rw [← bytes_length, bytes_strOf _ (sumB_small _), sumB_length]; decide)).mono fun e w' ⟨h1, h2⟩ => ⟨by
    rw [h1]
    show Ending.returned (Value.string (strOf (Bas.enc (bytes (strOf (sumB (bytes key))))))) = _
    rw [bytes_strOf _ (sumB_small _)]; rfl, ⟨h2⟩⟩⟩
  obtain ⟨y, hy⟩ : ∃ y, strOf (sumB (bytes key)) = y := ⟨_, rfl⟩
  rw [hy] at C1 C2
  have hx' : key ++ { data := #[50, 53, 56, 69, 65, 70, 65, 53, 45, 69, 57, 49, 52, 45, 52, 55, 68, 65, 45, 57, 53, 67, 65, 45, 67, 53, 65, 66, 48, 68, 67, 56, 53, 66, 49, 49] } = x := hx
  clear hx hy
  go_enter Tryz.func20, Tryz.ntmps20
  go_wp2_with fail
  refine C1.out.mono ?_
  rintro e w2 ⟨rfl, HB2⟩
  go_wp2_with fail
  refine (C2.out _).mono ?_
  rintro e w3 ⟨rfl, HB3⟩
  go_wp2
  go_ret
  exact ⟨rfl, ⟨below_trans HB2.out HB3.out⟩⟩
set_option maxHeartbeats 1000000 in
theorem keyR_any (s : ByteArray) (w : World) (hs : s.size ≤ 4000) :
    Calls Tryz.prog 40 #[.string s] w fun e w' => e = .returned (.bool (keyB (bytes s))) ∧ Sl (Below w.heap.size w w') := by
  have C1 : Sl (Calls Tryz.prog 79 #[.string s] w fun e w' => e = .returned (Bas.refV (Bas.rd (bytes s))) ∧ Below w.heap.size w w') := ⟨Bas.ref_get s w hs⟩
  unfold keyB Bas.hasB
  cases hr : Bas.rd (bytes s) with
  | none =>
    rw [hr] at C1
    clear hr
    simp only [Bas.refV] at C1
    go_enter Tryz.func40, Tryz.ntmps40
    go_wp2_with fail
    refine C1.out.mono ?_
    rintro e w2 ⟨rfl, hB2⟩
    have HB2 := Sl.mk hB2
    clear hB2
    go_wp2
    go_ret
    exact ⟨rfl, HB2⟩
  | some b =>
    rw [hr] at C1
    simp only [Bas.refV] at C1
    have HL : Sl ((strOf b).size = b.length) := ⟨strOf_size b⟩
    have C1 : Sl (Calls Tryz.prog 79 #[.string s] w fun e w' => e = .returned (.tuple #[.string (strOf b), .bool true]) ∧ Below w.heap.size w w') := C1
    obtain ⟨y, hy⟩ : ∃ y, strOf b = y := ⟨_, rfl⟩
    rw [hy] at C1 HL
    show Calls _ _ _ _ fun e w' => e = .returned (.bool (decide ((b.length : Int) = 16))) ∧ _
    rw [← HL.out]
    clear hr hy HL
    by_cases h16 : y.size = 16
    · have h1 : ((y.size : Int) == 16) = true := by simp; omega
      have HD : Sl (decide ((y.size : Int) = 16) = true) := ⟨decide_eq_true (by omega)⟩
      rw [HD.out]
      go_enter Tryz.func40, Tryz.ntmps40
      go_wp2_with fail
      refine C1.out.mono ?_
      rintro e w2 ⟨rfl, hB2⟩
      have HB2 := Sl.mk hB2
      clear hB2
      go_wp2
      go_ret
      exact ⟨rfl, HB2⟩
    · have h1 : ((y.size : Int) == 16) = false := by simp; omega
      have HD : Sl (decide ((y.size : Int) = 16) = false) := ⟨decide_eq_false (by omega)⟩
      rw [HD.out]
      go_enter Tryz.func40, Tryz.ntmps40
      go_wp2_with fail
      refine C1.out.mono ?_
      rintro e w2 ⟨rfl, hB2⟩
      have HB2 := Sl.mk hB2
      clear hB2
      go_wp2
      go_ret
      exact ⟨rfl, HB2⟩
end Go.Proofs.YthlagngpllahkaaGreatDoor
