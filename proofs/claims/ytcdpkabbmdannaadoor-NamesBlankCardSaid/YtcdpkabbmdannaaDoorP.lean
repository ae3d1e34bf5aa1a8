/- The forms for use, in worlds that grow; awake. -/
import Derived.Test.YtcdpkabbmdannaaDoorO
namespace Go.Proofs.YtcdpkabbmdannaaDoor
open Go.RowKit HeadPlain

theorem strA_lit (W : World) (l : List ByteArray) (vs : Array Value) (h : vs = (l.map Value.string).toArray) : StrA (W.alloc (.cells vs 9)) (.slice (some ⟨W.heap.size, 0, none⟩) l.length l.length) l :=
  ⟨_, _, W.heap.size, 0, rfl, Nat.le_refl _, fun _ => rfl, fun i hi => by
    rw [Nat.zero_add, cell_of_row _ _ _ _ _ _ (alloc_new _ _ _ rfl), h, List.getElem?_toArray, List.getElem?_map, List.getElem?_eq_getElem hi, List.getD_eq_getElem?_getD, List.getElem?_eq_getElem hi]; rfl⟩
/-- One world behind another one. -/
theorem below_then {w0 W w' : World} (hB : Below w0.heap.size w0 W) (h : Below W.heap.size W w') : Below w0.heap.size w0 w' := hB.trans (h.mono hB.size)
theorem list_ex {w0 W : World} {l : List ByteArray} {v : Value} (hB : Below w0.heap.size w0 W) (hg : Globs w0) (hv : StrA W v l) (hl : l.length ≤ 100) (hs : ∀ s ∈ l, s.size ≤ 1000) :
    Calls Tryd.prog 11 #[v] W fun e w' => ListR W w' l e ∧ Sl (Below W.heap.size W w') ∧ Sl (Below w0.heap.size w0 w') :=
  (list_any l v W (by omega) (fun s hx => Nat.le_trans (hs s hx) (by unfold maxLen; omega)) (by have := tell_len l 1000 hs; have := Nat.mul_le_mul_right 1001 hl; omega) (hg.of hB) hv).mono fun _ _ ⟨h1, h2⟩ => ⟨h1, h2, ⟨below_then hB h2.out⟩⟩
theorem has_ex {w0 W : World} {l : List ByteArray} {v : Value} {token : ByteArray} {r : Bool} (hr : hasB token l = r) (hB : Below w0.heap.size w0 W) (hg : Globs w0) (hv : StrA W v l) (hl : l.length ≤ 100) (hs : ∀ s ∈ l, s.size ≤ 1000) (ht : token.size ≤ maxLen) :
    Calls Tryd.prog 13 #[.string token, v] W fun e w' => e = .returned (.bool r) ∧ Sl (Below W.heap.size W w') ∧ Sl (Below w0.heap.size w0 w') :=
  (has_any token l v W (by omega) (fun s hx => Nat.le_trans (hs s hx) (by unfold maxLen; omega)) (by have := tell_len l 1000 hs; have := Nat.mul_le_mul_right 1001 hl; omega) ht (hg.of hB) hv).mono fun _ _ ⟨h1, h2⟩ => ⟨by rw [h1, hr], h2, ⟨below_then hB h2.out⟩⟩
theorem first_ex {w0 W : World} {a b : List ByteArray} {x y : Value} {o : Option ByteArray} (ho : fstIn a b = o) (hB : Below w0.heap.size w0 W) (ha : StrA W x a) (hb : StrA W y b) (hla : a.length ≤ 100) (hlb : b.length ≤ 100) (hsa : ∀ s ∈ a, s.size ≤ 1000) (hsb : ∀ s ∈ b, s.size ≤ 1000) :
    Calls Tryd.prog 16 #[x, y] W fun e w' => e = .returned (strV o) ∧ Sl (Below W.heap.size W w') ∧ Sl (Below w0.heap.size w0 w') :=
  (first_any a b x y W ha hb (by omega) (by omega) (fun s hx => Nat.le_trans (hsb s hx) (by unfold maxLen; omega)) (fun s hx => Nat.le_trans (hsa s hx) (by unfold maxLen; omega))).mono fun _ _ ⟨h1, h2⟩ => ⟨by rw [h1, ho], h2, ⟨below_then hB h2.out⟩⟩
theorem once_ex {w0 W : World} {l : List ByteArray} {v : Value} {r : Bool} (hr : decide (l.map bytes).Nodup = r) (hB : Below w0.heap.size w0 W) (hv : StrA W v l) (hl : l.length ≤ 100) (hs : ∀ s ∈ l, s.size ≤ 1000) :
    Calls Tryd.prog 19 #[v] W fun e w' => e = .returned (.bool r) ∧ Sl (Below W.heap.size W w') ∧ Sl (Below w0.heap.size w0 w') :=
  (once_any l v W hv (by omega) (fun s hx => Nat.le_trans (hs s hx) (by unfold maxLen; omega))).mono fun _ _ ⟨h1, h2⟩ => ⟨by rw [h1, hr], h2, ⟨below_then hB h2.out⟩⟩
theorem row_ex {w0 W : World} {a b : List ByteArray} {x y : Value} {r : Bool} (hr : decide (a.map bytes = b.map bytes) = r) (hB : Below w0.heap.size w0 W) (ha : StrA W x a) (hb : StrA W y b) (hL : a.length ≤ 1000000) :
    Calls Tryd.prog 15 #[x, y] W fun e w' => e = .returned (.bool r) ∧ Sl (Below W.heap.size W w') ∧ Sl (Below w0.heap.size w0 w') :=
  (row_any a b x y W ha hb hL).mono fun _ _ ⟨h1, h2⟩ => ⟨by rw [h1, hr], ⟨h2.below⟩, ⟨below_then hB h2.below⟩⟩
def sKeep : ByteArray := ⟨#[107, 101, 101, 112, 45, 97, 108, 105, 118, 101, 44, 32, 85, 112, 103, 114, 97, 100, 101]⟩
def sX : ByteArray := ⟨#[44, 120]⟩
theorem exTell : tell [sKeep, sX] = [⟨#[107, 101, 101, 112, 45, 97, 108, 105, 118, 101]⟩, ⟨#[85, 112, 103, 114, 97, 100, 101]⟩, ⟨#[120]⟩] := by kernel_rfl
theorem exAll : (tell [sKeep, sX]).all tokT = true := by rw [exTell]; kernel_rfl
theorem exHas : hasB ⟨#[117, 112, 103, 114, 97, 100, 101]⟩ [⟨#[97]⟩, ⟨#[85, 112, 103, 114, 97, 100, 101]⟩] = true := by rw [hasB_eq]; kernel_rfl
theorem exFst : fstIn [⟨#[97]⟩, ⟨#[98]⟩] [⟨#[99]⟩, ⟨#[98]⟩, ⟨#[97]⟩] = some ⟨#[97]⟩ := by kernel_rfl
theorem exOnce : decide (([⟨#[97]⟩, ⟨#[98]⟩] : List ByteArray).map bytes).Nodup = true := by kernel_rfl
theorem below0 (w : World) : Below w.heap.size w w := Below.refl _ _
set_option maxRecDepth 100000 in
set_option maxHeartbeats 2000000 in
theorem awake_any (w : World) (hg : Globs w) : Calls Tryd.prog 9 #[] w fun e w' => e = .returned (.bool true) ∧ Sl (Below w.heap.size w w') := by
  have HG := Sl.mk hg
  clear hg
  have B0 : ∀ o, Sl (Below w.heap.size w (w.alloc o)) := fun o => ⟨(Below.refl _ _).alloc (Nat.le_refl _) _⟩
  have L1 : Sl (Calls Tryd.prog 11 #[.slice (some ⟨w.heap.size, 0, none⟩) 2 2] (w.alloc (.cells #[.string { data := #[107, 101, 101, 112, 45, 97, 108, 105, 118, 101, 44, 32, 85, 112, 103, 114, 97, 100, 101] }, .string { data := #[44, 120] }] 9)) fun e w' => (∃ v, e = .returned (.tuple #[v, .int .i64 0]) ∧ Sl (StrA w' v (tell [sKeep, sX]))) ∧ Sl (Below w.heap.size w w')) :=
    ⟨(list_ex (w0 := w) (l := [sKeep, sX]) (B0 _).out HG.out (strA_lit w [sKeep, sX] _ rfl) (by decide) (by intro s hs; simp at hs; rcases hs with rfl | rfl <;> decide)).mono fun e w' ⟨h1, _, h3⟩ => by
      rcases h1 with ⟨_, v, h, ho⟩ | ⟨h, _⟩
      · exact ⟨⟨v, h, ⟨ho.strA⟩⟩, h3⟩
      · rw [exAll] at h; cases h⟩
  go_enter Tryd.func9, Tryd.ntmps9
  go_wp2_with (go_at_call 11; refine L1.out.mono ?_; rintro e w1 ⟨⟨v, rfl, HV⟩, HB1⟩)
  have hz1 := HB1.out.size
  have F1 := strA_lit w1 [⟨#[97]⟩, ⟨#[98]⟩] #[.string { data := #[97] }, .string { data := #[98] }] rfl
  have F2 := strA_lit (w1.alloc (.cells #[.string { data := #[97] }, .string { data := #[98] }] 9)) [⟨#[99]⟩, ⟨#[98]⟩, ⟨#[97]⟩] #[.string { data := #[99] }, .string { data := #[98] }, .string { data := #[97] }] rfl
  rw [alloc_size] at F2
  have C2 : Below w.heap.size w ((w1.alloc (.cells #[.string { data := #[97] }, .string { data := #[98] }] 9)).alloc (.cells #[.string { data := #[99] }, .string { data := #[98] }, .string { data := #[97] }] 9)) := (HB1.out.alloc hz1 _).alloc (by rw [alloc_size]; omega) _
  refine (first_ex exFst C2 (F1.below ((Below.refl _ _).alloc (Nat.le_refl _) _)) F2 (by decide) (by decide) (by intro s hs; simp at hs; rcases hs with rfl | rfl <;> decide) (by intro s hs; simp at hs; rcases hs with rfl | rfl | rfl <;> decide)).mono ?_
  rintro e w2 ⟨he, HB2', HB2⟩
  have he2 : e = .returned (.tuple #[.string { data := #[97] }, .bool true]) := he
  subst he2
  have HV2 : Sl (StrA w2 v (tell [sKeep, sX])) := ⟨(HV.out.below (((Below.refl _ w1).alloc (Nat.le_refl _) _).alloc (by rw [alloc_size]; omega) _)).below HB2'.out⟩
  clear he F1 F2 C2 HV HB2'
  go_wp2_with fail
  have hz2 := HB2.out.size
  have F3 := strA_lit w2 [⟨#[118]⟩] #[.string { data := #[118] }] rfl
  refine (one_any [⟨#[118]⟩] _ _ F3 (by decide)).mono ?_
  rintro e w3 ⟨he, hw⟩
  have he2 : e = .returned (.tuple #[.string { data := #[118] }, .bool true]) := he
  subst he2
  subst hw
  clear he F3
  go_wp2_with fail
  have F4 := strA_lit (w2.alloc (.cells #[.string { data := #[118] }] 9)) [⟨#[107, 101, 101, 112, 45, 97, 108, 105, 118, 101]⟩, ⟨#[85, 112, 103, 114, 97, 100, 101]⟩, ⟨#[120]⟩] #[.string { data := #[107, 101, 101, 112, 45, 97, 108, 105, 118, 101] }, .string { data := #[85, 112, 103, 114, 97, 100, 101] }, .string { data := #[120] }] rfl
  rw [alloc_size] at F4
  have C4 : Below w.heap.size w ((w2.alloc (.cells #[.string { data := #[118] }] 9)).alloc (.cells #[.string { data := #[107, 101, 101, 112, 45, 97, 108, 105, 118, 101] }, .string { data := #[85, 112, 103, 114, 97, 100, 101] }, .string { data := #[120] }] 9)) := (HB2.out.alloc hz2 _).alloc (by rw [alloc_size]; omega) _
  refine (row_ex (w0 := w) (r := true) (decide_eq_true (by rw [exTell])) C4 (HV2.out.below (((Below.refl _ w2).alloc (Nat.le_refl _) _).alloc (by rw [alloc_size]; omega) _)) F4 (by rw [exTell]; decide)).mono ?_
  rintro e w4 ⟨rfl, HB4', HB4⟩
  clear F4 C4 HB4' HV2
  go_wp2_with fail
  have hz4 := HB4.out.size
  have F5 := strA_lit w4 [⟨#[97]⟩, ⟨#[85, 112, 103, 114, 97, 100, 101]⟩] #[.string { data := #[97] }, .string { data := #[85, 112, 103, 114, 97, 100, 101] }] rfl
  refine (has_ex (w0 := w) exHas (HB4.out.alloc hz4 _) HG.out F5 (by decide) (by intro s hs; simp at hs; rcases hs with rfl | rfl <;> decide) (by decide)).mono ?_
  rintro e w5 ⟨rfl, HB5', HB5⟩
  clear F5 HB5'
  go_wp2_with fail
  have hz5 := HB5.out.size
  have F6 := strA_lit w5 [⟨#[97]⟩, ⟨#[98]⟩] #[.string { data := #[97] }, .string { data := #[98] }] rfl
  refine (once_ex (w0 := w) exOnce (HB5.out.alloc hz5 _) F6 (by decide) (by intro s hs; simp at hs; rcases hs with rfl | rfl <;> decide)).mono ?_
  rintro e w6 ⟨rfl, HB6', HB6⟩
  clear F6 HB6'
  go_wp2_with fail
  go_ret
  exact ⟨rfl, HB6⟩
theorem awake_ex {w0 W : World} (hB : Below w0.heap.size w0 W) (hg : Globs w0) : Calls Tryd.prog 9 #[] W fun e w' => e = .returned (.bool true) ∧ Sl (Below W.heap.size W w') ∧ Sl (Below w0.heap.size w0 w') :=
  (awake_any W (hg.of hB)).mono fun _ _ ⟨h1, h2⟩ => ⟨h1, h2, ⟨below_then hB h2.out⟩⟩
theorem list_yes {w0 W : World} {l : List ByteArray} {v : Value} (h : (tell l).all tokT = true) (hB : Below w0.heap.size w0 W) (hg : Globs w0) (hv : StrA W v l) (hl : l.length ≤ 100) (hs : ∀ s ∈ l, s.size ≤ 1000) :
    Calls Tryd.prog 11 #[v] W fun e w' => (∃ v, e = .returned (.tuple #[v, .int .i64 0]) ∧ Sl (StrA w' v (tell l))) ∧ Sl (Below W.heap.size W w') ∧ Sl (Below w0.heap.size w0 w') :=
  (list_ex hB hg hv hl hs).mono fun _ _ ⟨h1, h2, h3⟩ => by
    rcases h1 with ⟨_, v, he, ho⟩ | ⟨h0, _⟩
    · exact ⟨⟨v, he, ⟨ho.strA⟩⟩, h2, h3⟩
    · rw [h] at h0; cases h0
theorem list_no {w0 W : World} {l : List ByteArray} {v : Value} (h : (tell l).all tokT = false) (hB : Below w0.heap.size w0 W) (hg : Globs w0) (hv : StrA W v l) (hl : l.length ≤ 100) (hs : ∀ s ∈ l, s.size ≤ 1000) :
    Calls Tryd.prog 11 #[v] W fun e w' => e = .returned (.tuple #[.slice none 0 0, .int .i64 60]) ∧ Sl (Below W.heap.size W w') ∧ Sl (Below w0.heap.size w0 w') :=
  (list_ex hB hg hv hl hs).mono fun _ _ ⟨h1, h2, h3⟩ => by
    rcases h1 with ⟨h0, _⟩ | ⟨_, he⟩
    · rw [h] at h0; cases h0
    · exact ⟨he, h2, h3⟩
theorem lists_yes {w0 W : World} {l : List ByteArray} {v : Value} (h : (tell l).all tokT = true) (hB : Below w0.heap.size w0 W) (hv : StrA W v l) (hl : l.length ≤ 100) (hs : ∀ s ∈ l, s.size ≤ 1000) :
    Calls Tryd.prog 12 #[v] W fun e w' => (∃ v, e = .returned (.tuple #[v, .bool true]) ∧ Sl (StrA w' v (tell l))) ∧ Sl (Below W.heap.size W w') ∧ Sl (Below w0.heap.size w0 w') :=
  (listsR_any l v W hv hl hs).mono fun _ _ ⟨h1, h2⟩ => by
    rcases h1 with ⟨v, m, hm, he, ho⟩ | ⟨h0, _⟩
    · rw [toks_tell hm] at ho
      exact ⟨⟨v, he, ⟨ho.strA⟩⟩, h2, ⟨below_then hB h2.out⟩⟩
    · rw [tell_toks, if_pos h] at h0; cases h0
theorem lists_no {w0 W : World} {l : List ByteArray} {v : Value} (h : (tell l).all tokT = false) (hB : Below w0.heap.size w0 W) (hv : StrA W v l) (hl : l.length ≤ 100) (hs : ∀ s ∈ l, s.size ≤ 1000) :
    Calls Tryd.prog 12 #[v] W fun e w' => e = .returned (.tuple #[.slice none 0 0, .bool false]) ∧ Sl (Below W.heap.size W w') ∧ Sl (Below w0.heap.size w0 w') :=
  (listsR_any l v W hv hl hs).mono fun _ _ ⟨h1, h2⟩ => by
    rcases h1 with ⟨v, m, hm, _, _⟩ | ⟨_, he⟩
    · rw [tell_toks, h] at hm; cases hm
    · exact ⟨he, h2, ⟨below_then hB h2.out⟩⟩
theorem hasR_ex {w0 W : World} {l : List ByteArray} {v : Value} {token : ByteArray} {r : Bool} (hr : hasB token l = r) (hB : Below w0.heap.size w0 W) (hv : StrA W v l) (hl : l.length ≤ 100) (hs : ∀ s ∈ l, s.size ≤ 1000) :
    Calls Tryd.prog 14 #[.string token, v] W fun e w' => e = .returned (.bool r) ∧ Sl (Below W.heap.size W w') ∧ Sl (Below w0.heap.size w0 w') :=
  (hasR_any token l v W hv hl hs).mono fun _ _ ⟨h1, h2⟩ => ⟨by rw [h1, hr], h2, ⟨below_then hB h2.out⟩⟩
theorem few_ex {W : World} {l : List ByteArray} {v : Value} {r : Bool} (hr : fewB l = r) (hv : StrA W v l) (hl : l.length ≤ maxLen) (hs : ∀ s ∈ l, s.size ≤ maxLen) : Calls Tryd.prog 10 #[v] W fun e w' => e = .returned (.bool r) ∧ W = w' :=
  (few_any l v W hv hl hs).mono fun _ _ ⟨h1, h2⟩ => ⟨by rw [h1, hr], h2⟩
/-- Behind an append to a row of the call's own, made new. -/
theorem app_below {w0 W w' : World} {o : Obj} {v : Value} {l : List ByteArray} (hB : Below w0.heap.size w0 W) (ho : OwnS (W.alloc o) W.heap.size v l) (hg : (W.alloc o).grownBy w' v.ownBlock) : Sl (Below W.heap.size W w') ∧ Sl (Below w0.heap.size w0 w') := by
  have h : Below W.heap.size W w' := ((Below.refl _ W).alloc (Nat.le_refl _) o).grown hg (by rw [alloc_size]; omega) (fun k hk => own_ge ho hk)
  exact ⟨⟨h⟩, ⟨below_then hB h⟩⟩
end Go.Proofs.YtcdpkabbmdannaaDoor
