/- stream: forms of Feed for use; awake. -/
import Derived.Test.YtlgmgalopdfcaaaDoorSG
import Derived.Test.YtlgmgalopdfcaaaDoorSF0
import Derived.Test.YtlgmgalopdfcaaaDoorSH
set_option maxRecDepth 100000
namespace Go.Proofs.YtlgmgalopdfcaaaDoor
open Go.RowKit MaskPlain FramePlain StreamPlain Mas Fra

/-- Feed, for use. -/
theorem feed_ex {w0 W : World} {b : Nat} {masked : Bool} {most : Int} {part : List Nat} {v : Value} (hs : StrmAt w0 W b masked most part 0 v) (hg : Globs w0) (u : Value) (bs : List Nat) (hu : SrcAt W u bs) (hsp : Small 256 part) (hsb : Small 256 bs) (hl : part.length + bs.length ≤ 100000) (hmo : most ≤ 9223372036854775807) {gs : List Fr} {e lf : Nat} (hall : all (part ++ bs) masked most = (gs, e, lf)) (part' : List Nat) (hp : (part ++ bs).drop ((part ++ bs).length - lf) = part') (n : Nat) (hn : gs.length = n) :
    Calls Tryd.prog 12 #[.pointer (some ⟨b, 0, none⟩), u] W fun x w' => ∃ a c v', x = .returned (.tuple #[.slice a n c, .int .i64 (e : Int)]) ∧ Sl (FrsAt w' (.slice a n c) gs) ∧ Sl (∀ g, (Value.slice a n c).ownBlock = some g → W.heap.size ≤ g) ∧ Sl (StrmAt w0 w' b masked most part' e v') ∧ Sl (Two W w' b (ob v b)) := by
  subst hp hn
  obtain ⟨a, cap, sb, so, rfl, h1, h2, h3⟩ := hu
  refine (feed_any hs hg a bs.length cap bs ⟨a, cap, sb, so, rfl, h1, h2, h3⟩ hsp hsb hl hmo gs e lf hall).mono ?_
  rintro x w' ⟨vf, v', rfl, ho, hS, hT, _⟩
  obtain ⟨a', c', rfl⟩ := ho.out.slice
  exact ⟨a', c', v', rfl, ⟨ho.out.frs⟩, ⟨fun g hg => ho.out.ge hg⟩, hS, hT⟩
theorem part_ex {w0 W : World} {b : Nat} {masked : Bool} {most : Int} {part : List Nat} {err : Nat} {v : Value} (h : StrmAt w0 W b masked most part err v) (n : Nat) (hn : part.length = n) :
    Calls Tryd.prog 15 #[.pointer (some ⟨b, 0, none⟩)] W fun e w' => e = .returned (.int .i64 (n : Int)) ∧ W = w' := by subst hn; exact part_any h
def fHi : Fr := ⟨true, 1, false, [0, 0, 0, 0], [72, 105]⟩
theorem hi_one : all ([] ++ [129]) false 200 = ([], 0, 1) := by rfl
theorem hi_two : all ([129] ++ [2, 72]) false 200 = ([], 0, 3) := by rfl
theorem hi_three : all ([129, 2, 72] ++ [105]) false 200 = ([fHi], 0, 0) := by rfl
theorem hi_cv : (#[.bool true, .int .i64 1, .bool false, .int .u8 0, .int .u8 0, .int .u8 0, .int .u8 0, .string { data := #[72, 105] }] : Array Value) = (cv fHi).toArray := by
  show _ = #[Value.bool true, .int .i64 1, .bool false, .int .u8 0, .int .u8 0, .int .u8 0, .int .u8 0, .string (strOf [72, 105])]
  rw [show strOf [72, 105] = { data := #[72, 105] } from bytes_inj (by rw [bytes_strOf _ (by intro x hx; simp at hx; omega)]; rfl)]
theorem two_of {w0 W w' : World} {b : Nat} {masked : Bool} {most : Int} {part : List Nat} {err : Nat} {v : Value} (hs : StrmAt w0 W b masked most part err v) (h : Two W w' b (ob v b)) {B : Nat} (hB : B ≤ w0.heap.size) : Below B W w' :=
  ⟨h.os, h.tape, h.output, h.size, fun k hk => h.block k (by have := hs.L.size; omega) (by have := hs.B; omega) (by have := hs.ge; omega)⟩
set_option maxHeartbeats 4000000 in
theorem awake_any (w : World) (hg : Globs w) : Calls Tryd.prog 10 #[] w fun e w' => e = .returned (.bool true) ∧ Sl (Below w.heap.size w w') := by
  have HG := Sl.mk hg
  have N0 := new_yes false 200 w w (Below.refl _ _) (by omega)
  have q0 : (((0 : Nat) : Int) == 0) = true := rfl
  have q3 : (((3 : Nat) : Int) == 3) = true := rfl
  clear hg
  go_enter Tryd.func10, Tryd.ntmps10
  go_wp2_with fail
  refine N0.mono ?_
  rintro e w1 ⟨rfl, HS1, HX1⟩
  clear N0
  have F1 := feed_ex (HS1.out.below ((Below.refl w1.heap.size w1).alloc (Nat.le_refl _) (.cells #[.int .u8 129] 5))) HG.out (.slice (some ⟨w1.heap.size, 0, none⟩) 1 1) [129] (src_new w1 [129] #[.int .u8 129] 5 (0, 0) rfl) (fun x hx => by cases hx) (fun x hx => by simp at hx; omega) (by decide) (by omega) hi_one [129] rfl 0 rfl
  go_wp2_with fail
  refine F1.mono ?_
  rintro e w2 ⟨a2, c2, v2, rfl, _, _, HS2, _⟩
  clear F1 HX1
  have F2 := feed_ex (HS2.out.below ((Below.refl w2.heap.size w2).alloc (Nat.le_refl _) (.cells #[.int .u8 2, .int .u8 72] 5))) HG.out (.slice (some ⟨w2.heap.size, 0, none⟩) 2 2) [2, 72] (src_new w2 [2, 72] #[.int .u8 2, .int .u8 72] 5 (0, 0) rfl) (fun x hx => by simp at hx; omega) (fun x hx => by simp at hx; omega) (by decide) (by omega) hi_two [129, 2, 72] rfl 0 rfl
  go_wp2_with fail
  refine F2.mono ?_
  rintro e w3 ⟨a3, c3, v3, rfl, _, _, HS3, _⟩
  clear F2
  have P3 := part_ex HS3.out 3 rfl
  go_wp2_with fail
  refine P3.mono ?_
  rintro e w4 ⟨rfl, rfl⟩
  clear P3
  have F4 := feed_ex (HS3.out.below ((Below.refl w3.heap.size w3).alloc (Nat.le_refl _) (.cells #[.int .u8 105] 5))) HG.out (.slice (some ⟨w3.heap.size, 0, none⟩) 1 1) [105] (src_new w3 [105] #[.int .u8 105] 5 (0, 0) rfl) (fun x hx => by simp at hx; omega) (fun x hx => by simp at hx; omega) (by decide) (by omega) hi_three [] rfl 1 rfl
  go_wp2_with fail
  refine F4.mono ?_
  rintro e w5 ⟨a5, c5, v5, rfl, HF5, _, HS5, _⟩
  clear F4
  have B6 : Below w5.heap.size w5 (w5.alloc (.cells #[.bool true, .int .i64 1, .bool false, .int .u8 0, .int .u8 0, .int .u8 0, .int .u8 0, .string { data := #[72, 105] }] 43)) := (Below.refl _ _).alloc (Nat.le_refl _) _
  have HS6 := Sl.mk (HS5.out.below B6)
  have S6 := same_yes [fHi] (.slice a5 1 c5) (.slice (some ⟨w5.heap.size, 0, none⟩) 1 1) _ (HF5.out.below B6) (frs_one (alloc_new _ _ _ rfl) hi_cv) (fun f hf => by simp at hf; subst hf; intro x hx; simp [fHi] at hx; omega) (by simp)
  clear B6
  go_wp2_with fail
  refine S6.mono ?_
  rintro e w7 ⟨rfl, HX7⟩
  clear S6
  have HS7 := Sl.mk (HS6.out.below HX7.out)
  have P7 := part_ex HS7.out 0 rfl
  go_wp2_with fail
  refine P7.mono ?_
  rintro e w8 ⟨rfl, rfl⟩
  clear P7
  have E8 := err_any HS7.out
  go_wp2_with fail
  refine E8.mono ?_
  rintro e w9 ⟨rfl, rfl⟩
  clear E8
  have HL := Sl.mk HS7.out.L
  clear HS1 HS2 HS3 HS5 HS6 HS7
  go_wp2
  go_ret
  exact ⟨rfl, HL⟩
end Go.Proofs.YtlgmgalopdfcaaaDoor
