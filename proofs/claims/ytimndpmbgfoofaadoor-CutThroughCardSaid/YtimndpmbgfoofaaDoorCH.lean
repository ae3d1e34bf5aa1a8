/- cut: the laws' example. -/
import Derived.Test.YtimndpmbgfoofaaDoorCG
set_option maxRecDepth 100000
namespace Go.Proofs.YtimndpmbgfoofaaDoor.Cut
open Go.RowKit MaskPlain Mas Fra Stm CutPlain
open FramePlain (Fr Fr0 form chk ctl zero4)

theorem frs_ok {m : Nat} (hm : 1 ≤ m) {op : Int} (ho : op = 1 ∨ op = 2) {t : List Nat} (ht : Small 256 t) (hl : t.length ≤ 1048576) : ∀ f ∈ frs m op t, FrOk f := fun f hf => by
  obtain ⟨i, hi, rfl⟩ := List.getElem_of_mem hf
  have h := frs_get hm i op t hi
  rw [List.getD_eq_getElem?_getD, List.getElem?_eq_getElem hi] at h
  simp only [Option.getD_some] at h
  rw [h]
  refine ⟨rfl, fun x hx => ?_, (ht.drop _).take _, ?_, ?_⟩
  · simp [zero4] at hx; omega
  · show ((t.drop (i * m)).take m).length ≤ maxLen
    rw [List.length_take, List.length_drop]; unfold maxLen; omega
  · show -9223372036854775808 ≤ (if i = 0 then op else 0) ∧ (if i = 0 then op else 0) ≤ 9223372036854775807
    split <;> omega
def helloF : List Fr := [⟨false, 1, false, zero4, [72, 101]⟩, ⟨false, 0, false, zero4, [108, 108]⟩, ⟨true, 0, false, zero4, [111]⟩]
def helloM : List Fr := [⟨false, 1, true, [0, 0, 0, 1], [72, 101]⟩, ⟨false, 0, true, [0, 0, 0, 2], [108, 108]⟩, ⟨true, 0, true, [0, 0, 0, 3], [111]⟩]
theorem hello_frs : frs 2 1 (bytes { data := #[72, 101, 108, 108, 111] }) = helloF := by kernel_rfl
theorem hello_join : join helloF = (1, [72, 101, 108, 108, 111], true) := by decide +kernel
theorem hello_bytes : bytesF helloF = ([1, 2, 72, 101, 0, 2, 108, 108, 128, 1, 111], 0) := by decide +kernel
theorem hello_msk : msk K4 helloF [1, 2, 3] = helloM := by kernel_rfl
theorem u32_new (W : World) : U32At (W.alloc (.cells #[.int .u32 1, .int .u32 2, .int .u32 3] 45)) (.slice (some ⟨W.heap.size, 0, none⟩) 3 3) [1, 2, 3] := by
  refine ⟨_, 3, W.heap.size, 0, rfl, Nat.le_refl _, fun _ => rfl, fun i hi => ?_⟩
  rw [cell_of_row _ _ _ _ _ _ (alloc_new W _ _ rfl), Nat.zero_add]
  match i, hi with
  | 0, _ => rfl
  | 1, _ => rfl
  | 2, _ => rfl
theorem eq_key3 (W : World) : (Op.equalIn 10000 42 (.agg #[.int .u8 0, .int .u8 0, .int .u8 0, .int .u8 3]) (.agg #[.int .u8 0, .int .u8 0, .int .u8 0, .int .u8 3])).run Tryd.prog W = .ok true W :=
  (eq_keys [0, 0, 0, 3] [0, 0, 0, 3] rfl rfl (fun x hx => by simp at hx; omega) (fun x hx => by simp at hx; omega) W).trans rfl
set_option maxHeartbeats 4000000 in
theorem awake_any (w : World) (hg : Mas.Globs w) : Calls Tryd.prog 11 #[] w fun e w' => e = .returned (.bool true) ∧ Sl (Below w.heap.size w w') := by
  have HG := Sl.mk hg
  have OKF : ∀ f ∈ helloF, FrOk f := by rw [← hello_frs]; exact frs_ok (by decide) (.inl rfl) (bytes_small _) (by decide +kernel)
  have C1 := frames_yes 1 { data := #[72, 101, 108, 108, 111] } 2 3 w (.inl rfl) (by decide) ⟨by decide, by decide⟩ (by rw [hello_frs]; rfl)
  rw [hello_frs] at C1
  have C1' : Calls Tryd.prog 12 #[.int .i64 1, .string { data := #[72, 101, 108, 108, 111] }, .int .i64 2] w _ := C1
  clear C1
  go_enter Tryd.func11, Tryd.ntmps11
  go_wp2_with fail
  refine C1'.mono ?_
  rintro e w1 ⟨g, rfl, HR1, hg1, HB1⟩
  clear C1'
  have HF1 : Sl (FrsAt w1 (.slice (some ⟨g, 0, none⟩) 3 3) helloF) := ⟨HR1.out.frs rfl (Nat.le_refl _)⟩
  have C2 := join_any helloF _ w1 HF1.out OKF (by decide) (by decide)
  rw [hello_join, show strOf [72, 101, 108, 108, 111] = { data := #[72, 101, 108, 108, 111] } from by decide +kernel] at C2
  go_wp2_with fail
  refine C2.mono ?_
  rintro e w2 ⟨rfl, HX2⟩
  have HB2 : Sl (Below w.heap.size w w2) := ⟨HB1.out.trans (HX2.out.mono HB1.out.size)⟩
  have HR2 : Sl (RowF w2 g helloF) := ⟨HR1.out.below HX2.out⟩
  clear C2 HX2 HR1 HB1 HF1
  have C3 := bytes_any helloF _ w2 (HG.out.below HB2.out HG.out.size) (HR2.out.frs (n := 3) (cap := 3) rfl (Nat.le_refl _)) OKF (by decide)
  rw [hello_bytes] at C3
  go_wp2_with fail
  refine C3.mono ?_
  rintro e w3 ⟨a3, n3, c3, rfl, hn3, HO3, _, HX3⟩
  have HB3 : Sl (Below w.heap.size w w3) := ⟨HB2.out.trans (HX3.out.mono HB2.out.size)⟩
  have HR3 : Sl (RowF w3 g helloF) := ⟨HR2.out.below HX3.out⟩
  have hb3 : (convert 36 9 (.slice a3 n3 c3)).run Tryd.prog w3 = .ok (.string { data := #[1, 2, 72, 101, 0, 2, 108, 108, 128, 1, 111] }) w3 := by
    subst hn3
    have := Msg.own_conv (HO3 trivial).out
    rw [this]; rfl
  have HO : Sl (w3.ownsRow w2.heap.size 5 1 (.slice a3 n3 c3) n3 (u8s [1, 2, 72, 101, 0, 2, 108, 108, 128, 1, 111])) := HO3 trivial
  have HN3 := Sl.mk hn3
  clear C3 HX3 HR2 HB2 HO3 hn3
  obtain ⟨V, hV⟩ : ∃ V, w3.alloc (.cells #[.int .u32 1, .int .u32 2, .int .u32 3] 45) = V := ⟨_, rfl⟩
  have HXV : Sl (Below w3.heap.size w3 V) := ⟨by rw [← hV]; exact (Below.refl _ _).alloc (Nat.le_refl _) _⟩
  have HUV : Sl (U32At V (.slice (some ⟨w3.heap.size, 0, none⟩) 3 3) [1, 2, 3]) := ⟨by rw [← hV]; exact u32_new w3⟩
  have HBV : Sl (Below w.heap.size w V) := ⟨HB3.out.trans (HXV.out.mono HB3.out.size)⟩
  have HRV : Sl (RowF V g helloF) := ⟨HR3.out.below HXV.out⟩
  have C4 := masked_yes helloF [1, 2, 3] _ _ 3 V (HRV.out.frs (n := 3) (cap := 3) rfl (Nat.le_refl _)) OKF (fun f hf => by have := data_le hf; have h2 : (dataOf helloF).length = 5 := rfl; omega) HUV.out (by intro x hx; simp at hx; omega) (by decide) (by decide) rfl (by decide)
  rw [hello_msk] at C4
  go_wp2_with fail
  (try rw [hV])
  refine C4.mono ?_
  rintro e w5 ⟨rfl, HR5, HX5⟩
  have HB5 : Sl (Below w.heap.size w w5) := ⟨HBV.out.trans (HX5.out.mono HBV.out.size)⟩
  have HRF : Sl (RowF w5 g helloF) := ⟨HRV.out.below HX5.out⟩
  have hb5 : (convert 36 9 (.slice a3 n3 c3)).run Tryd.prog w5 = .ok (.string { data := #[1, 2, 72, 101, 0, 2, 108, 108, 128, 1, 111] }) w5 := by
    have h1 := own_below (own_below HO.out HXV.out) HX5.out
    have hn := HN3.out
    subst hn
    have := Msg.own_conv h1
    rw [this]; rfl
  obtain ⟨p, hp⟩ : ∃ p, V.heap.size = p := ⟨_, rfl⟩
  rw [hp] at HR5 ⊢
  have l1 : w5.cell? ⟨g, 15, none⟩ = some (.string { data := #[108, 108] }) := (HRF.out.cell (i := 1) (j := 7) (by decide) (by decide)).trans rfl
  have k0 : w5.cell? ⟨p, 19, none⟩ = some (.int .u8 0) := (HR5.out.cell (i := 2) (j := 3) (by decide) (by decide)).trans rfl
  have k1 : w5.cell? ⟨p, 20, none⟩ = some (.int .u8 0) := (HR5.out.cell (i := 2) (j := 4) (by decide) (by decide)).trans rfl
  have k2 : w5.cell? ⟨p, 21, none⟩ = some (.int .u8 0) := (HR5.out.cell (i := 2) (j := 5) (by decide) (by decide)).trans rfl
  have k3 : w5.cell? ⟨p, 22, none⟩ = some (.int .u8 3) := (HR5.out.cell (i := 2) (j := 6) (by decide) (by decide)).trans rfl
  clear C4 hb3 HX5 HRV HXV HUV HBV hV hp HR3 HB3
  have C6 := count_ex 5 2 3 (by decide +kernel) w5
  have hek := eq_key3 w5
  go_wp2_with fail
  refine C6.mono ?_
  rintro e w6 ⟨rfl, rfl⟩
  go_wp2
  go_ret
  exact ⟨rfl, HB5⟩
end Go.Proofs.YtimndpmbgfoofaaDoor.Cut
