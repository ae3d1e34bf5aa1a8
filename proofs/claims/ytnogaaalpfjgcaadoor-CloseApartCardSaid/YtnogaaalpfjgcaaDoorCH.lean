/- close: forms for use; awake. -/
import Derived.Test.YtnogaaalpfjgcaaDoorCE
set_option maxRecDepth 100000
namespace Go.Proofs.YtnogaaalpfjgcaaDoor
open Go.RowKit UtfPlain ClosePlain Utf

theorem valid_ex' (w0 W : World) (n : Int) (r : Bool) (hr : valid n = r) (hB : Below w0.heap.size w0 W) : Calls Tryd.prog 12 #[.int .i64 n] W fun e w' => e = .returned (.bool r) ∧ Sl (Below w0.heap.size w0 w') :=
  (codeValid_any n W).mono fun _ _ ⟨he, h1⟩ => ⟨by rw [he, hr], ⟨hB.trans (h1.out.mono hB.size)⟩⟩
theorem across_ex (w0 W : World) (n r : Int) (hr : acrossC n = r) (hB : Below w0.heap.size w0 W) : Calls Tryd.prog 16 #[.int .i64 n] W fun e w' => e = .returned (.int .i64 r) ∧ Sl (Below w0.heap.size w0 w') :=
  (across_any n W).mono fun _ _ ⟨he, h1⟩ => ⟨by rw [he, hr], ⟨hB.trans (h1.out.mono hB.size)⟩⟩
theorem code_ex (w0 W : World) (n r : Int) (hr : codeC n = r) (hB : Below w0.heap.size w0 W) : Calls Tryd.prog 17 #[.int .i64 n] W fun e w' => e = .returned (.int .i64 r) ∧ Sl (Below w0.heap.size w0 w') :=
  (code_any n W).mono fun _ _ ⟨he, h1⟩ => ⟨by rw [he, hr], ⟨hB.trans (h1.out.mono hB.size)⟩⟩
theorem put_ex (w0 W : World) (n : Int) (s t : ByteArray) (k : Nat) (h : putC n (bytes s) = (bytes t, k)) (hB : Below w0.heap.size w0 W) (hg : Globs w0) :
    Calls Tryd.prog 10 #[.int .i64 n, .string s] W fun e w' => e = .returned (.tuple #[.string t, .int .i64 (k : Int)]) ∧ Sl (Below w0.heap.size w0 w') :=
  (put_any n s W (hg.below hB hg.size)).mono fun _ _ ⟨he, h1⟩ => ⟨by rw [he, h, strOf_bytes], ⟨hB.trans (h1.out.mono hB.size)⟩⟩
theorem get_ex (w0 W : World) (s t : ByteArray) (n : Int) (k : Nat) (h : getC (bytes s) = (n, bytes t, k)) (hm : s.size ≤ 1000000) (hB : Below w0.heap.size w0 W) (hg : Globs w0) :
    Calls Tryd.prog 14 #[.string s] W fun e w' => e = .returned (.tuple #[.int .i64 n, .string t, .int .i64 (k : Int)]) ∧ Sl (Below w0.heap.size w0 w') :=
  (get_any s W (hg.below hB hg.size) hm).mono fun _ _ ⟨he, h1⟩ => ⟨by rw [he, h, gotV, strOf_bytes], ⟨hB.trans (h1.out.mono hB.size)⟩⟩
theorem awake_any (w : World) (hg : Globs w) : Calls Tryd.prog 9 #[] w fun e w' => e = .returned (.bool true) ∧ Sl (Below w.heap.size w w') := by
  have HG := Sl.mk hg
  have G1 := get_ex w w { data := #[3, 232] } { data := #[] } 1000 0 (by decide) (by decide) (Below.refl _ _) hg
  clear hg
  go_enter Tryd.func9, Tryd.ntmps9
  go_wp2_with fail
  refine G1.mono ?_
  rintro e w1 ⟨rfl, HB1⟩
  clear G1
  have G2 := get_ex w w1 { data := #[3, 237] } { data := #[] } 0 110 (by decide) (by decide) HB1.out HG.out
  go_wp2_with fail
  refine G2.mono ?_
  rintro e w2 ⟨rfl, HB2⟩
  clear G2 HB1
  have G3 := put_ex w w2 1000 { data := #[] } { data := #[3, 232] } 0 (by decide) HB2.out HG.out
  go_wp2_with fail
  refine G3.mono ?_
  rintro e w3 ⟨rfl, HB3⟩
  clear G3 HB2
  have G4 := valid_ex' w w3 1000 true (by decide) HB3.out
  go_wp2_with fail
  refine G4.mono ?_
  rintro e w4 ⟨rfl, HB4⟩
  clear G4 HB3
  have G5 := code_ex w w4 122 1007 (by decide) HB4.out
  go_wp2_with fail
  refine G5.mono ?_
  rintro e w5 ⟨rfl, HB5⟩
  clear G5 HB4
  have G6 := across_ex w w5 1006 1011 (by decide) HB5.out
  go_wp2_with fail
  refine G6.mono ?_
  rintro e w6 ⟨rfl, HB6⟩
  clear G6 HB5
  go_wp2
  go_ret
  exact ⟨rfl, HB6⟩
theorem awake_ex (w0 W : World) (hB : Below w0.heap.size w0 W) (hg : Globs w0) : Calls Tryd.prog 9 #[] W fun e w' => e = .returned (.bool true) ∧ Sl (Below w0.heap.size w0 w') :=
  (awake_any W (hg.below hB hg.size)).mono fun _ _ ⟨he, h1⟩ => ⟨he, ⟨hB.trans (h1.out.mono hB.size)⟩⟩
end Go.Proofs.YtnogaaalpfjgcaaDoor
