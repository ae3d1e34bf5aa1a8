/- shake, small functions: a text of plain bytes, a key, a field's one value, a field's tokens; whether a row has a text, whether protocols may be offered. -/
import Derived.Test.YthlagngpllahkaaGreatDoorNmD
import Derived.Test.YthlagngpllahkaaGreatDoorHdD
import Derived.Test.YthlagngpllahkaaGreatDoorBaB
import Derived.Test.YthlagngpllahkaaGreatDoorShB
import Derived.Test.YthlagngpllahkaaGreatDoorHeld
import Derived.Test.YthlagngpllahkaaGreatDoorShakePlain
import Derived.Shelf.Unicode.PredsPay
set_option maxRecDepth 100000
namespace Go.Proofs.YthlagngpllahkaaGreatDoor
open Go.RowKit HeadPlain

/-- The tables as their texts lay them. -/
structure GlobA (w : World) : Prop where
  s : Sha.Globs w
  b : Bas.Globs w
  h : Globs w
  p : Lib.TabIs Tryz.prog w "internal/strconv.uint64pow10" .u64 Lib.pow10Tab
theorem GlobA.of {w0 w : World} (g : GlobA w0) (hb : Below w0.heap.size w0 w) : GlobA w :=
  ⟨g.s.below hb g.s.size, g.b.below hb g.b.size, g.h.of hb, TabIs_below (g := 5) (by kernel_rfl) g.p hb⟩
/-- A contract for a call behind others. -/
theorem exB {w0 W : World} {f : FuncId} {args : Array Value} {P : Ending → World → Prop} (hB : Below w0.heap.size w0 W) (h : Calls Tryz.prog f args W fun e w' => P e w' ∧ Sl (Below W.heap.size W w')) :
    Calls Tryz.prog f args W fun e w' => P e w' ∧ Sl (Below W.heap.size W w') ∧ Sl (Below w0.heap.size w0 w') :=
  h.mono fun _ _ ⟨h1, h2⟩ => ⟨h1, h2, ⟨below_trans hB h2.out⟩⟩

set_option maxHeartbeats 400000 in
theorem isWord_any (s : ByteArray) (W : World) (hs : s.size ≤ maxLen) : Calls Tryz.prog 96 #[.string s] W fun e w' => e = .returned (.bool (plainB 33 (bytes s))) ∧ W = w' := by
  unfold maxLen at hs
  go_enter Tryz.func96, Tryz.ntmps96
  go_wp2
  go_loopw [6] (fun i wr => ∃ k : Nat, k ≤ s.size ∧ i = .int .i64 k ∧ W = wr ∧ Sl (∀ j, j < k → 33 ≤ (bytes s).getD j 0 ∧ (bytes s).getD j 0 ≤ 126)) (fun i _ => s.size - (intOf i).toNat)
  case atStart => exact ⟨0, by omega, rfl, rfl, ⟨fun j hj => by omega⟩⟩
  case round =>
    obtain ⟨k, hk, rfl, rfl, HA⟩ := hrel
    by_cases hlt : k < s.size
    · obtain ⟨x, hx⟩ : ∃ x, (s[k]'hlt).toNat = x := ⟨_, rfl⟩
      have HXX : Sl ((bytes s).getD k 0 = x) := ⟨by rw [bytes_getD s k hlt, ← hx]; rfl⟩
      by_cases h1 : 33 ≤ x
      · have h1' : ((x : Int) < 33) = False := by simp; omega
        by_cases h2 : x ≤ 126
        · have h2' : ((x : Int) > 126) = False := by simp; omega
          go_wp2
          refine ⟨⟨k + 1, by omega, by go_num, trivial, ⟨fun j hj => ?_⟩⟩, by simp [intOf]; omega⟩
          by_cases e : j = k
          · subst e; rw [HXX.out]; exact ⟨h1, h2⟩
          · exact HA.out j (by omega)
        · have h2' : (x : Int) > 126 := by omega
          go_wp2
          go_ret
          exact ⟨ret_bool (plain_no k hlt (by rw [HXX.out]; omega)).symm, rfl⟩
      · have h1' : (x : Int) < 33 := by omega
        go_wp2
        go_ret
        exact ⟨ret_bool (plain_no k hlt (by rw [HXX.out]; omega)).symm, rfl⟩
    · have hge : ((k : Int) < (s.size : Int)) = False := by simp; omega
      have HY : Sl (plainB 33 (bytes s) = true) := ⟨(plain_get 33 s).2 (fun j hj => HA.out j (by omega))⟩
      go_wp2
      go_ret
      exact ⟨ret_bool HY.out.symm, rfl⟩
/-- Is it a key? -/
def keyB (l : List Nat) : Bool := Bas.hasB l 16
theorem isKey_any (s : ByteArray) (W : World) (hs : s.size ≤ 100000) : Calls Tryz.prog 75 #[.string s] W fun e w' => e = .returned (.bool (keyB (bytes s))) ∧ Sl (Below W.heap.size W w') := by
  have HC := Sl.mk (Bas.has_ex s 16 (keyB (bytes s)) W hs rfl)
  obtain ⟨r, hr⟩ : ∃ r, keyB (bytes s) = r := ⟨_, rfl⟩
  rw [hr] at HC ⊢
  clear hr
  go_enter Tryz.func75, Tryz.ntmps75
  go_wp2_with fail
  refine HC.out.mono ?_
  rintro e w' ⟨rfl, HB⟩
  go_wp2
  go_ret
  exact ⟨rfl, ⟨HB.out⟩⟩
/-- A head whose fields are few, and not too long. -/
structure Fw (h : HdV) : Prop where
  n : h.fs.length ≤ 60
  a : h.a.size ≤ 3000
  b : h.b.size ≤ 3000
  c : h.c.size ≤ 3000
  f : ∀ f ∈ h.fs, f.1.size ≤ 3000 ∧ f.2.size ≤ 3000
theorem Fw.get {h : HdV} (f : Fw h) (name : ByteArray) : (getV h.fs name).length ≤ 60 ∧ ∀ s ∈ getV h.fs name, s.size ≤ 3000 :=
  ⟨Nat.le_trans (getV_le _ _) f.n, fun s hs => by
    unfold getV at hs
    obtain ⟨x, hx, rfl⟩ := List.mem_map.1 hs
    exact (f.f x (List.mem_filter.1 hx).1).2⟩
theorem get_hd (h : HdV) (name : ByteArray) : (getV h.fs name).map bytes = get h.hd.fs (bytes name) := getV_bytes h.fs name
/-- The one text, or none. -/
def oneS (l : List ByteArray) : ByteArray := if l.length = 1 then l.getD 0 ByteArray.empty else ByteArray.empty
theorem oneV_eq (l : List ByteArray) : Nam.oneV l = .tuple #[.string (oneS l), .bool (decide (l.length = 1))] := by
  match l with
  | [] => rfl
  | [x] => rfl
  | x :: y :: r =>
    rw [Nam.oneV_ne (by simp)]
    unfold oneS
    rw [if_neg (by simp), decide_eq_false (by simp)]
theorem one_ex (l : List ByteArray) (v : Value) (w : World) (hv : StrA w v l) (hl : l.length ≤ 1000000) : Calls Tryz.prog 60 #[v] w fun e w' => e = .returned (.tuple #[.string (oneS l), .bool (decide (l.length = 1))]) ∧ w = w' :=
  (Nam.one_any l v w hv hl).mono fun _ _ ⟨h1, h2⟩ => ⟨by rw [h1, oneV_eq], h2.symm⟩
theorem only_any (h : HdV) (bx : Value) (name : ByteArray) (W : World) (hv : FieldsAt W bx h.fs) (hl : h.fs.length ≤ 100000) :
    Calls Tryz.prog 59 #[.agg #[.string h.a, .string h.b, .string h.c, bx], .string name] W fun e w' => e = .returned (.string (oneS (getV h.fs name))) ∧ Sl (Below W.heap.size W w') := by
  have HG : Sl (Calls Tryz.prog 36 #[.agg #[.string h.a, .string h.b, .string h.c, bx], .string name] (W.alloc (.cells #[.string h.a, .string h.b, .string h.c, bx] 25)) fun e w' => ∃ a c, e = .returned (.slice a (getV h.fs name).length c) ∧ Sl (StrA w' (.slice a (getV h.fs name).length c) (getV h.fs name)) ∧ Sl (Below W.heap.size W w')) :=
    ⟨(get_ex W _ h bx name ((Below.refl _ _).alloc (Nat.le_refl _) _) (hv.below ((Below.refl _ _).alloc (Nat.le_refl _) _)) hl).mono fun _ _ ⟨a, c, h1, h2, _, h4⟩ => ⟨a, c, h1, h2, h4⟩⟩
  have HLN : Sl ((getV h.fs name).length ≤ 1000000) := ⟨Nat.le_trans (getV_le _ _) (by omega)⟩
  clear hv hl
  obtain ⟨l, hl⟩ : ∃ l, getV h.fs name = l := ⟨_, rfl⟩
  rw [hl] at HG HLN ⊢
  clear hl
  go_enter Tryz.func59, Tryz.ntmps59
  go_wp2_with fail
  refine HG.out.mono ?_
  rintro e w1 ⟨a, c, rfl, HS, HB⟩
  go_wp2_with fail
  refine (one_ex l _ _ HS.out HLN.out).mono ?_
  rintro e w2 ⟨rfl, rfl⟩
  go_wp2
  go_ret
  exact ⟨rfl, ⟨HB.out⟩⟩
theorem hasT_any (h : HdV) (bx : Value) (name token : ByteArray) (r : Bool) (W : World) (hr : Nam.hasB token (getV h.fs name) = r) (hg : GlobA W) (hv : FieldsAt W bx h.fs) (hf : Fw h) (ht : token.size ≤ maxLen) :
    Calls Tryz.prog 58 #[.agg #[.string h.a, .string h.b, .string h.c, bx], .string name, .string token] W fun e w' => e = .returned (.bool r) ∧ Sl (Below W.heap.size W w') := by
  have HG : Sl (Calls Tryz.prog 36 #[.agg #[.string h.a, .string h.b, .string h.c, bx], .string name] (W.alloc (.cells #[.string h.a, .string h.b, .string h.c, bx] 25)) fun e w' => ∃ a c, e = .returned (.slice a (getV h.fs name).length c) ∧ Sl (StrA w' (.slice a (getV h.fs name).length c) (getV h.fs name)) ∧ Sl (Below W.heap.size W w')) :=
    ⟨(get_ex W _ h bx name ((Below.refl _ _).alloc (Nat.le_refl _) _) (hv.below ((Below.refl _ _).alloc (Nat.le_refl _) _)) (by have := hf.n; omega)).mono fun _ _ ⟨a, c, h1, h2, _, h4⟩ => ⟨a, c, h1, h2, h4⟩⟩
  have HFW := Sl.mk (hf.get name)
  have HGL := Sl.mk hg
  have HTK := Sl.mk ht
  have HR := Sl.mk hr
  clear hv hg hf ht hr
  obtain ⟨l, hl⟩ : ∃ l, getV h.fs name = l := ⟨_, rfl⟩
  rw [hl] at HG HFW HR
  clear hl
  go_enter Tryz.func58, Tryz.ntmps58
  go_wp2_with fail
  refine HG.out.mono ?_
  rintro e w1 ⟨a, c, rfl, HS, HB⟩
  go_wp2_with fail
  refine (Nam.has_any token l _ w1 (by have := HFW.out.1; omega) (fun s hs => Nat.le_trans (HFW.out.2 s hs) (by unfold maxLen; omega)) (by have h1 := Nam.tell_len l 3000 HFW.out.2; have h2 := Nat.mul_le_mul_right 3001 HFW.out.1; omega) HTK.out (HGL.out.of HB.out).h HS.out).mono ?_
  rw [HR.out]
  rintro e w2 ⟨rfl, HB2⟩
  go_wp2
  go_ret
  exact ⟨rfl, ⟨below_trans HB.out HB2.out⟩⟩
end Go.Proofs.YthlagngpllahkaaGreatDoor
