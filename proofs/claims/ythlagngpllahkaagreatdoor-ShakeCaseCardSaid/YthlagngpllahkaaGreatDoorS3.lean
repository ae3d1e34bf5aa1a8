/- shake: whether protocols may be offered, whether one may ask. -/
import Derived.Test.YthlagngpllahkaaGreatDoorS2
set_option maxRecDepth 100000
namespace Go.Proofs.YthlagngpllahkaaGreatDoor
open Go.RowKit HeadPlain

/-- Whether protocols may be offered. -/
def offerB (l : List ByteArray) : Bool := decide (l.length ≤ 16) && (!(l.any fun x => !(Nam.tokT x)) && decide (l.map bytes).Nodup)
theorem mayOffer_any (l : List ByteArray) (v : Value) (W : World) (r : Bool) (hr : offerB l = r) (hg : Globs W) (hv : StrA W v l) (hl : l.length ≤ 1000000) (hs : ∀ s ∈ l, s.size ≤ maxLen) :
    Calls Tryz.prog 53 #[v] W fun e w' => e = .returned (.bool r) ∧ Sl (Below W.heap.size W w') := by
  have HC := Sl.mk (containsTok_any l v W (l.any fun x => !(Nam.tokT x)) rfl hg hv hl hs)
  have HO : Sl (∀ V, Below W.heap.size W V → Calls Tryz.prog 100 #[v] V fun e w' => e = .returned (.bool (decide (l.map bytes).Nodup)) ∧ Sl (Below V.heap.size V w')) := ⟨fun V hB => Nam.once_any l v V (hv.below hB) hl hs⟩
  unfold offerB at hr
  obtain ⟨a, ha⟩ : ∃ a, (l.any fun x => !(Nam.tokT x)) = a := ⟨_, rfl⟩
  obtain ⟨b, hb⟩ : ∃ b, decide (l.map bytes).Nodup = b := ⟨_, rfl⟩
  rw [ha] at HC hr
  rw [hb] at HO hr
  clear ha hb hg hs
  obtain ⟨ad, ca, sa, oa, rfl, _⟩ := hv
  by_cases h0 : l.length ≤ 16
  · rw [decide_eq_true h0, Bool.true_and] at hr
    have h1 : decide ((l.length : Int) ≤ 16) = true := decide_eq_true (by omega)
    have HR := Sl.mk hr
    clear hr h0
    cases a with
    | true =>
      go_enter Tryz.func53, Tryz.ntmps53
      go_wp2_with fail
      refine HC.out.mono ?_
      rintro e w1 ⟨rfl, HB⟩
      go_wp2
      go_ret
      exact ⟨ret_bool HR.out, HB⟩
    | false =>
      rw [show (!false && b) = b from rfl] at HR
      go_enter Tryz.func53, Tryz.ntmps53
      go_wp2_with fail
      refine HC.out.mono ?_
      rintro e w1 ⟨rfl, HB⟩
      go_wp2_with fail
      refine (HO.out _ HB.out).mono ?_
      rintro e w2 ⟨rfl, HB2⟩
      go_wp2
      go_ret
      exact ⟨ret_bool HR.out, ⟨below_trans HB.out HB2.out⟩⟩
  · rw [decide_eq_false h0, Bool.false_and] at hr
    have h1 : decide ((l.length : Int) ≤ 16) = false := decide_eq_false (by omega)
    have HR := Sl.mk hr
    clear hr h0
    go_enter Tryz.func53, Tryz.ntmps53
    go_wp2
    go_ret
    exact ⟨ret_bool HR.out, ⟨Below.refl _ _⟩⟩
/-- Whether one may ask. -/
def askB (p h k : ByteArray) : Bool := Lib.hasPrefix p.data.toList [47] && (plainB 33 (bytes p) && ((!(h.toList == [])) && (plainB 33 (bytes h) && keyB (bytes k))))
theorem mayAsk_any (p h k : ByteArray) (W : World) (r : Bool) (hr : askB p h k = r) (hp : p.size ≤ maxLen) (hh : h.size ≤ maxLen) (hk : k.size ≤ 100000) :
    Calls Tryz.prog 52 #[.string p, .string h, .string k] W fun e w' => e = .returned (.bool r) ∧ Sl (Below W.heap.size W w') := by
  have C1 : Sl (∀ V, Calls Tryz.prog 69 #[.string p, .string { data := #[47] }] V fun e w' => e = .returned (.bool (Lib.hasPrefix p.data.toList [47])) ∧ V = w') := ⟨fun V => (Tryz.strings_HasPrefix p { data := #[47] } V).mono fun _ _ ⟨h1, h2⟩ => ⟨h1, h2.symm⟩⟩
  have C2 : Sl (∀ V, Calls Tryz.prog 96 #[.string p] V fun e w' => e = .returned (.bool (plainB 33 (bytes p))) ∧ V = w') := ⟨fun V => isWord_any p V hp⟩
  have C3 : Sl (∀ V, Calls Tryz.prog 96 #[.string h] V fun e w' => e = .returned (.bool (plainB 33 (bytes h))) ∧ V = w') := ⟨fun V => isWord_any h V hh⟩
  have C4 : Sl (∀ V, Calls Tryz.prog 75 #[.string k] V fun e w' => e = .returned (.bool (keyB (bytes k))) ∧ Sl (Below V.heap.size V w')) := ⟨fun V => isKey_any k V hk⟩
  unfold askB at hr
  obtain ⟨a, ha⟩ : ∃ a, Lib.hasPrefix p.data.toList [47] = a := ⟨_, rfl⟩
  obtain ⟨b, hb⟩ : ∃ b, plainB 33 (bytes p) = b := ⟨_, rfl⟩
  obtain ⟨c, hc⟩ : ∃ c, (h.toList == []) = c := ⟨_, rfl⟩
  obtain ⟨d, hd⟩ : ∃ d, plainB 33 (bytes h) = d := ⟨_, rfl⟩
  obtain ⟨f, hf⟩ : ∃ f, keyB (bytes k) = f := ⟨_, rfl⟩
  rw [ha] at C1
  rw [hb] at C2
  rw [hd] at C3
  rw [hf] at C4
  rw [ha, hb, hc, hd, hf] at hr
  have HR := Sl.mk hr
  clear ha hb hd hf hr hp hh hk
  cases a with
  | false =>
    go_enter Tryz.func52, Tryz.ntmps52
    go_wp2_with fail
    refine (C1.out _).mono ?_
    rintro e w1 ⟨rfl, rfl⟩
    go_wp2
    go_ret
    exact ⟨ret_bool HR.out, ⟨Below.refl _ _⟩⟩
  | true =>
    cases b with
    | false =>
      go_enter Tryz.func52, Tryz.ntmps52
      go_wp2_with fail
      refine (C1.out _).mono ?_
      rintro e w1 ⟨rfl, rfl⟩
      go_wp2_with fail
      refine (C2.out _).mono ?_
      rintro e w1 ⟨rfl, rfl⟩
      go_wp2
      go_ret
      exact ⟨ret_bool HR.out, ⟨Below.refl _ _⟩⟩
    | true =>
      cases c with
      | true =>
        go_enter Tryz.func52, Tryz.ntmps52
        go_wp2_with fail
        refine (C1.out _).mono ?_
        rintro e w1 ⟨rfl, rfl⟩
        go_wp2_with fail
        refine (C2.out _).mono ?_
        rintro e w1 ⟨rfl, rfl⟩
        go_wp2
        go_ret
        exact ⟨ret_bool HR.out, ⟨Below.refl _ _⟩⟩
      | false =>
        cases d with
        | false =>
          go_enter Tryz.func52, Tryz.ntmps52
          go_wp2_with fail
          refine (C1.out _).mono ?_
          rintro e w1 ⟨rfl, rfl⟩
          go_wp2_with fail
          refine (C2.out _).mono ?_
          rintro e w1 ⟨rfl, rfl⟩
          go_wp2_with fail
          refine (C3.out _).mono ?_
          rintro e w1 ⟨rfl, rfl⟩
          go_wp2
          go_ret
          exact ⟨ret_bool HR.out, ⟨Below.refl _ _⟩⟩
        | true =>
          go_enter Tryz.func52, Tryz.ntmps52
          go_wp2_with fail
          refine (C1.out _).mono ?_
          rintro e w1 ⟨rfl, rfl⟩
          go_wp2_with fail
          refine (C2.out _).mono ?_
          rintro e w1 ⟨rfl, rfl⟩
          go_wp2_with fail
          refine (C3.out _).mono ?_
          rintro e w1 ⟨rfl, rfl⟩
          go_wp2_with fail
          refine (C4.out _).mono ?_
          rintro e w2 ⟨rfl, HB⟩
          go_wp2
          go_ret
          exact ⟨ret_bool HR.out, HB⟩
end Go.Proofs.YthlagngpllahkaaGreatDoor
