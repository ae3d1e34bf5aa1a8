/- shake: a key's accept. -/
import Derived.Test.YthlagngpllahkaaGreatDoorS0
set_option maxRecDepth 100000
namespace Go.Proofs.YthlagngpllahkaaGreatDoor
open Go.RowKit HeadPlain

/-- What stands behind a key's letters in its sum. -/
def ending : ByteArray := { data := #[50, 53, 56, 69, 65, 70, 65, 53, 45, 69, 57, 49, 52, 45, 52, 55, 68, 65, 45, 57, 53, 67, 65, 45, 67, 53, 65, 66, 48, 68, 67, 56, 53, 66, 49, 49] }
/-- The sum's bytes. -/
def sumB (l : List Nat) : List Nat := Sha.told (Sha.feed Sha.st0 (l ++ bytes ending))
/-- A key's accept. -/
def accB (l : List Nat) : List Nat := Bas.enc (sumB l)
theorem sumB_length (l : List Nat) : (sumB l).length = 20 := Sha.told_length _
theorem sha_small {l : List Nat} (h : Small 256 l) : Sha.Small 256 l := fun i => h.getD (by decide) i
theorem small_sha {l : List Nat} (h : Sha.Small 256 l) : Small 256 l := fun x hx => by
  obtain ⟨i, hi, rfl⟩ := List.mem_iff_getElem.1 hx
  have := h i
  rwa [List.getD_eq_getElem?_getD, List.getElem?_eq_getElem hi] at this
theorem sumB_small (l : List Nat) : Small 256 (sumB l) := small_sha (Sha.told_small _)
/-- The text of a key's accept. -/
def accS (key : ByteArray) : ByteArray := strOf (accB (bytes key))
theorem accS_bytes (key : ByteArray) : bytes (accS key) = accB (bytes key) := bytes_strOf _ (Bas.small_128 (Bas.enc_small _ (sumB_small _)))
theorem src_sha {w : World} {v : Value} {bs : List Nat} (h : SrcAt w v bs) : ∃ b0, Sha.SrcAt w b0 v bs := ⟨w.heap.size, h.off (Nat.le_refl _)⟩
def RowB' (w : World) (g : Nat) (bs : List Nat) : Prop := w.heap[g]? = some (.cells (u8s bs).toArray 76 (0, 0))
theorem accept_any (key : ByteArray) (w : World) (hg : GlobA w) (hs : key.size ≤ 100000) :
    Calls Tryz.prog 19 #[.string key] w fun e w' => e = .returned (.string (accS key)) ∧ Sl (Below w.heap.size w w') := by
  obtain ⟨x, hx⟩ : ∃ x, key ++ ending = x := ⟨_, rfl⟩
  have HX : Sl (bytes x = bytes key ++ bytes ending) := ⟨by rw [← hx, bytes_append]⟩
  have HXL : Sl ((bytes x).length < 1000000000) := ⟨by
    rw [HX.out, List.length_append, bytes_length]
    have : (bytes ending).length = 36 := rfl
    omega⟩
  obtain ⟨cap, w1, hc, HS, HB⟩ := conv_str x w
  have HG := Sl.mk hg
  have HOF : Sl (Calls Tryz.prog 45 #[.slice (some ⟨w.heap.size, 0, none⟩) x.size cap] w1 fun e w' => e = .returned (.agg (u8s (sumB (bytes key))).toArray) ∧ Below w1.heap.size w1 w') :=
    ⟨Sha.ofW w1 (HG.out.of HB.out).s _ (bytes x) (sumB (bytes key)) ⟨src_sha HS.out⟩ (sha_small (bytes_small x)) HXL.out ⟨by rw [HX.out]; rfl⟩⟩
  obtain ⟨l, hl⟩ : ∃ l, sumB (bytes key) = l := ⟨_, rfl⟩
  have HL := Sl.mk hl
  have HLL : Sl (l.length = 20 ∧ Small 256 l) := ⟨by rw [← hl]; exact ⟨sumB_length _, sumB_small _⟩⟩
  have HA : Sl (accS key = strOf (Bas.enc l)) := ⟨by rw [← hl]; rfl⟩
  rw [hl] at HOF
  clear hl hg
  have hx' : key ++ { data := #[50, 53, 56, 69, 65, 70, 65, 53, 45, 69, 57, 49, 52, 45, 52, 55, 68, 65, 45, 57, 53, 67, 65, 45, 67, 53, 65, 66, 48, 68, 67, 56, 53, 66, 49, 49] } = x := hx
  clear hx
  have HI : Sl ((Tryz.prog.info? 76).map (·.size) = some (u8s l).toArray.size) := ⟨by
    have : (Tryz.prog.info? 76).map (·.size) = some 20 := by kernel_rfl
    simpa [HLL.out.1] using this⟩
  have HO : Sl ((List.replicate 20 (Value.int .u8 0)).toArray.size = (u8s l).toArray.size) := ⟨by simp [HLL.out.1]⟩
  go_enter Tryz.func19, Tryz.ntmps19
  go_wp2_with fail
  refine HOF.out.mono ?_
  rintro e w2 ⟨rfl, hB2⟩
  have HB2 := Sl.mk hB2
  clear hB2
  go_wp2_with (refine wpList_store_row rfl 76 (.tmp 3) (.tmp 7) rfl w2.heap.size _ rfl rfl 76 _ (alloc_new _ _ _ rfl) HI.out HO.out (all_oneCell_toArray (u8s_one _)) ?_; generalize hw3 : World.setRow _ _ _ = w3)
  have HR3 : Sl (RowB' w3 w2.heap.size l) := ⟨by rw [← hw3]; exact setRow_heap _ _ _ _ _ _ (alloc_new _ _ _ rfl)⟩
  have HB3 : Sl (Below w2.heap.size w2 w3) := ⟨by rw [← hw3]; exact below_setRow ((Below.refl _ _).alloc (Nat.le_refl _) _) (Nat.le_refl _) (by rw [alloc_size]; omega) _⟩
  have HB03 : Sl (Below w.heap.size w w3) := ⟨below_trans HB.out (below_trans HB2.out HB3.out)⟩
  clear hw3
  have HSL : Sl (SrcAt w3 (.slice (some ⟨w2.heap.size, 0, none⟩) 20 20) l) := ⟨by
    have := (show SrcAt w3 (.slice (some ⟨w2.heap.size, 0, none⟩) l.length l.length) l from ⟨_, _, w2.heap.size, 0, rfl, Nat.le_refl _, fun _ => rfl, fun i hi => by rw [Nat.zero_add, cell_of_row _ _ _ _ _ _ HR3.out, List.getElem?_toArray]; exact u8s_get l i hi⟩)
    rwa [HLL.out.1] at this⟩
  go_wp2_with fail
  refine (Bas.put_ex l _ w3 HSL.out HLL.out.2 (HG.out.of HB03.out).b (by rw [HLL.out.1]; decide)).mono ?_
  rintro e w4 ⟨rfl, HB4⟩
  go_wp2
  go_ret
  exact ⟨by rw [HA.out]; rfl, ⟨below_trans HB03.out HB4.out⟩⟩
end Go.Proofs.YthlagngpllahkaaGreatDoor
