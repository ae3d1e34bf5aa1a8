/- What is the same in all of the statements' walks: contracts in the form in which they are used, and that of awake. -/
import Derived.Test.YtlkfkglcefhbgaaDoorE
namespace Go.Proofs.YtlkfkglcefhbgaaDoor
open Go.RowKit

theorem chk_below {w w' : World} {b : Nat} {o : Option St} (h : ChkO w b o) (hb : Below w.heap.size w w') : ChkO w' b o := by
  cases o with
  | none => obtain ⟨n0, n1, l, h⟩ := h; exact ⟨n0, n1, l, by show _ = _; rw [hb.block _ (Array.getElem?_eq_some_iff.1 h).1]; exact h⟩
  | some s => obtain ⟨n0, n1, h, k⟩ := h; exact ⟨n0, n1, by show _ = _; rw [hb.block _ (Array.getElem?_eq_some_iff.1 h).1]; exact h, k⟩
theorem chk_lt {w : World} {b : Nat} {o : Option St} (h : ChkO w b o) : b < w.heap.size := by
  cases o with
  | none => obtain ⟨n0, n1, l, h⟩ := h; exact (Array.getElem?_eq_some_iff.1 h).1
  | some s => obtain ⟨n0, n1, h, k⟩ := h; exact (Array.getElem?_eq_some_iff.1 h).1
theorem chk_grown {w w' : World} {b c : Nat} {o : Option St} (h : ChkO w b o) (hg : w.grownBy w' (some c)) (hne : b ≠ c) : ChkO w' b o := by
  have hlt := chk_lt h
  have e := hg.block b hlt (fun e => hne (by injection e))
  cases o with
  | none => obtain ⟨n0, n1, l, h⟩ := h; exact ⟨n0, n1, l, by show _ = _; rw [e]; exact h⟩
  | some s => obtain ⟨n0, n1, h, k⟩ := h; exact ⟨n0, n1, by show _ = _; rw [e]; exact h, k⟩
theorem chk_drew {w : World} {b : Nat} {o : Option St} (h : ChkO w b o) : ChkO w.drew b o := by cases o <;> exact h

/-- A new row's bytes lie outside what was there. -/
theorem SrcAt.offs {w : World} {g n c : Nat} {bs : List Nat} (h : SrcAt w (.slice (some ⟨g, 0, none⟩) n c) bs) {b : Nat} (hb : b < g) : SrcN w b (.slice (some ⟨g, 0, none⟩) n c) bs := by
  obtain ⟨a, cap, sb, so, h0, h1, h3, h5⟩ := h
  refine ⟨a, cap, sb, so, h0, h1, h3, fun hp => ?_, h5⟩
  have e := h3 hp
  injection h0 with h0
  rw [e] at h0
  injection h0 with h0
  injection h0 with h0
  omega
theorem new_ex (w0 W : World) (hB : Below w0.heap.size w0 W) : Calls Tryd.prog 10 #[] W fun e w' => e = .returned (.pointer (some ⟨W.heap.size, 0, none⟩)) ∧ Sl (ChkO w' W.heap.size (some s0)) ∧ Sl (Below W.heap.size W w') ∧ Sl (Below w0.heap.size w0 w') :=
  (new_any W).mono fun _ _ ⟨he, hw⟩ => ⟨he, ⟨by rw [hw]; exact chk_new W⟩, ⟨by rw [hw]; exact (Below.refl _ _).alloc (Nat.le_refl _) _⟩, ⟨by rw [hw]; exact hB.alloc hB.size _⟩⟩
theorem feed_ex (w0 W : World) (b : Nat) (o : Option St) (bs : List Nat) (v : Value) (n : Nat) (hn : rt o bs = n) (h0 : w0.heap.size ≤ b) (hB : Below w0.heap.size w0 W) (hg : Globs w0) (hc : ChkO W b o) (ok : OkO o) (hv : SrcN W b v bs) (hL : bs.length ≤ 100000) :
    Calls Tryd.prog 13 #[.pointer (some ⟨b, 0, none⟩), v] W fun e w' => e = .returned (.int .i64 (n : Int)) ∧ Sl (ChkO w' b (en o bs)) ∧ Sl (W.grownBy w' (some b)) ∧ Sl (Below w0.heap.size w0 w') :=
  (feed_any b o bs v W (hg.below hB hg.size) hc ok hv (by have := hg.size; omega) hL).mono fun _ _ ⟨he, h1, h2⟩ => ⟨by rw [he, hn], ⟨h1⟩, ⟨h2⟩, ⟨below_grow hB h2 h0⟩⟩
theorem right_ex (b : Nat) (o : Option St) (W : World) (r : Bool) (hc : ChkO W b o) (hr : o.isSome = r) : Calls Tryd.prog 15 #[.pointer (some ⟨b, 0, none⟩)] W fun e w' => e = .returned (.bool r) ∧ W = w' := by
  rw [← hr]; exact right_any b o W hc
theorem whole_ex (b : Nat) (o : Option St) (W : World) (r : Bool) (hc : ChkO W b o) (ok : OkO o) (hr : decide (o = some s0) = r) : Calls Tryd.prog 16 #[.pointer (some ⟨b, 0, none⟩)] W fun e w' => e = .returned (.bool r) ∧ W = w' := by
  rw [← hr]; exact whole_any b o W hc ok
theorem valid_ex (w0 W : World) (bs : List Nat) (v : Value) (r : Bool) (hr : vb bs = r) (hB : Below w0.heap.size w0 W) (hg : Globs w0) (hv : SrcAt W v bs) (hL : bs.length ≤ 100000) :
    Calls Tryd.prog 17 #[v] W fun e w' => e = .returned (.bool r) ∧ Sl (Below W.heap.size W w') ∧ Sl (Below w0.heap.size w0 w') :=
  (valid_any bs v W (hg.below hB hg.size) hv hL).mono fun _ _ ⟨he, h1⟩ => ⟨by rw [he, hr], ⟨h1⟩, ⟨hB.trans (h1.mono hB.size)⟩⟩
theorem count_ex (w0 W : World) (bs : List Nat) (v : Value) (n : Nat) (r : Bool) (hn : cb bs = n) (hr : vb bs = r) (hB : Below w0.heap.size w0 W) (hg : Globs w0) (hv : SrcAt W v bs) (hL : bs.length ≤ 100000) :
    Calls Tryd.prog 14 #[v] W fun e w' => e = .returned (.tuple #[.int .i64 (n : Int), .bool r]) ∧ Sl (Below W.heap.size W w') ∧ Sl (Below w0.heap.size w0 w') :=
  (count_any bs v W (hg.below hB hg.size) hv hL).mono fun _ _ ⟨he, h1⟩ => ⟨by rw [he, hn, hr], ⟨h1⟩, ⟨hB.trans (h1.mono hB.size)⟩⟩

set_option maxHeartbeats 1000000 in
theorem awake_any (w : World) (hg : Globs w) : Calls Tryd.prog 11 #[] w fun e w' => e = .returned (.bool true) ∧ Sl (Below w.heap.size w w') := by
  have HG := Sl.mk hg
  clear hg
  have kc := fun (w : World) (C : Array Value) (n c : Nat) => Lib.run_convert_bytes_const (P := Tryd.prog) w 28 5 C n c Tryd.underlying28 Tryd.underlying5
  go_enter Tryd.func11, Tryd.ntmps11
  go_wp2_with fail
  refine (new_ex w _ (Below.refl _ _)).mono ?_
  rintro e w1 ⟨rfl, HC1, HX1, HB1⟩
  clear HX1
  go_wp2_with fail
  refine (feed_ex w _ w.heap.size (some s0) [195] _ 1 rfl (Nat.le_refl _) (HB1.out.alloc HB1.out.size _) HG.out (chk_below HC1.out ((Below.refl _ _).alloc (Nat.le_refl _) _)) okO0 ((src_new _ [195] _ _ _ rfl).offs (chk_lt HC1.out)) (by decide)).mono ?_
  rintro e w2 ⟨rfl, HC2, HX2, HB2⟩
  clear HX2 HC1 HB1
  go_wp2_with fail
  refine (whole_ex w.heap.size _ _ false HC2.out (okO0.en _) rfl).mono ?_
  rintro e w2' ⟨rfl, rfl⟩
  go_wp2_with fail
  refine (feed_ex w _ w.heap.size _ [164, 237, 160] _ 2 rfl (Nat.le_refl _) (HB2.out.alloc HB2.out.size _) HG.out (chk_below HC2.out ((Below.refl _ _).alloc (Nat.le_refl _) _)) (okO0.en _) ((src_new _ [164, 237, 160] _ _ _ rfl).offs (chk_lt HC2.out)) (by decide)).mono ?_
  rintro e w3 ⟨rfl, HC3, HX3, HB3⟩
  clear HX3 HC2 HB2
  go_wp2_with fail
  refine (count_ex w _ [195, 164] _ 1 true rfl rfl (HB3.out.alloc HB3.out.size _) HG.out (src_new _ [195, 164] _ _ _ rfl) (by decide)).mono ?_
  rintro e w4 ⟨rfl, HX4, HB4⟩
  have HC4 := Sl.mk (chk_below HC3.out (((Below.refl _ _).alloc (Nat.le_refl _) _).trans (HX4.out.mono (by rw [alloc_size]; omega))))
  clear HX4 HC3 HB3
  go_wp2_with fail
  refine (right_ex w.heap.size _ _ false HC4.out rfl).mono ?_
  rintro e w4' ⟨rfl, rfl⟩
  clear HC4
  go_wp2_with fail
  refine (valid_ex w _ [97] _ true rfl (HB4.out.alloc HB4.out.size _) HG.out (src_new _ [97] _ _ _ rfl) (by decide)).mono ?_
  rintro e w5 ⟨rfl, HX5, HB5⟩
  clear HX5 HB4
  go_wp2_with fail
  refine (valid_ex w _ [192] _ false rfl (HB5.out.alloc HB5.out.size _) HG.out (src_new _ [192] _ _ _ rfl) (by decide)).mono ?_
  rintro e w6 ⟨rfl, HX6, HB6⟩
  clear HX6 HB5
  go_wp2
  go_ret
  exact ⟨rfl, HB6⟩
theorem awake_ex (w0 W : World) (hB : Below w0.heap.size w0 W) (hg : Globs w0) : Calls Tryd.prog 11 #[] W fun e w' => e = .returned (.bool true) ∧ Sl (Below W.heap.size W w') ∧ Sl (Below w0.heap.size w0 w') :=
  (awake_any W (hg.below hB hg.size)).mono fun _ _ ⟨he, hb⟩ => ⟨he, hb, ⟨hB.trans (hb.out.mono hB.size)⟩⟩
end Go.Proofs.YtlkfkglcefhbgaaDoor
