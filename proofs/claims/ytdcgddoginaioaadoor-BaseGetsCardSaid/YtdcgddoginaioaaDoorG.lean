/- What is the same in all of the statements' walks: contracts in the form in which they are used, and that of awake. -/
import Derived.Test.YtdcgddoginaioaaDoorF
namespace Go.Proofs.YtdcgddoginaioaaDoor
open Go.RowKit

theorem strOf_size (l : List Nat) : (strOf l).size = l.length := by unfold strOf; rw [strOfNums_size]; simp
theorem bytes_strOf (l : List Nat) (h : Small 256 l) : bytes (strOf l) = l := by
  unfold bytes strOf
  rw [strOfNums_data, List.map_map, List.map_map]
  conv => rhs; rw [← List.map_id l]
  refine List.map_congr_left (fun x hx => ?_)
  have := h x hx
  simp only [Function.comp_def, Int.toNat_natCast, id]
  exact UInt8.toNat_ofNat_of_lt' this
theorem strOf_bytes (s : ByteArray) : strOf (bytes s) = s := bytes_inj (bytes_strOf _ (bytes_small s))
theorem small_128 {l : List Nat} (h : Small 128 l) : Small 256 l := fun x hx => Nat.lt_trans (h x hx) (by decide)
theorem bytes_enc (l : List Nat) (h : Small 256 l) : bytes (strOf (enc l)) = enc l := bytes_strOf _ (small_128 (enc_small l h))

theorem get_yes (s : ByteArray) (b : List Nat) (w : World) (hs : s.size ≤ 100000) (hr : rd (bytes s) = some b) :
    Calls Tryd.prog 13 #[.string s] w fun e w' => ∃ v, e = .returned (.tuple #[v, .int .i64 0]) ∧ Sl (w'.ownsRow w.heap.size 5 1 v b.length (u8s b)) ∧ Sl (Below w.heap.size w w') :=
  (get_any s w hs).mono fun _ _ ⟨hb, _, h⟩ => by
    obtain ⟨v, he, ho⟩ := h b hr
    exact ⟨v, he, ⟨ho⟩, ⟨hb⟩⟩
theorem get_no (s : ByteArray) (w : World) (hs : s.size ≤ 100000) (hr : rd (bytes s) = none) :
    Calls Tryd.prog 13 #[.string s] w fun e w' => e = .returned (.tuple #[.slice none 0 0, .int .i64 20]) ∧ Sl (Below w.heap.size w w') :=
  (get_any s w hs).mono fun _ _ ⟨hb, h, _⟩ => ⟨h hr, ⟨hb⟩⟩
/-- What Has answers. -/
def hasB (s : List Nat) (n : Int) : Bool := match rd s with | none => false | some b => decide ((b.length : Int) = n)
theorem has_ex (s : ByteArray) (n : Int) (r : Bool) (w : World) (hs : s.size ≤ 100000) (hr : hasB (bytes s) n = r) :
    Calls Tryd.prog 16 #[.string s, .int .i64 n] w fun e w' => e = .returned (.bool r) ∧ Sl (Below w.heap.size w w') :=
  (has_any s n w hs).mono fun _ _ ⟨he, hb⟩ => ⟨by rw [he, ← hr]; rfl, ⟨hb⟩⟩
theorem put_ex (bs : List Nat) (v : Value) (w : World) (hv : SrcAt w v bs) (hsm : Small 256 bs) (hg : Globs w) (hL : bs.length ≤ 100000) :
    Calls Tryd.prog 12 #[v] w fun e w' => e = .returned (.string (strOf (enc bs))) ∧ Sl (Below w.heap.size w w') :=
  (put_any bs v w hv hsm hg hL).mono fun _ _ ⟨he, hb⟩ => ⟨he, ⟨hb⟩⟩
/-- A slice that is the whole of a new block. -/
theorem src_new (w : World) (bs : List Nat) (vs : Array Value) (t : TypeId) (fr : Nat × Nat) (h : vs = (u8s bs).toArray) : SrcAt (w.alloc (.cells vs t fr)) (.slice (some ⟨w.heap.size, 0, none⟩) bs.length bs.length) bs :=
  ⟨_, _, w.heap.size, 0, rfl, Nat.le_refl _, fun _ => rfl, fun i hi => by
    rw [Nat.zero_add, cell_of_row _ _ _ _ _ _ (alloc_new _ _ _ rfl), h, List.getElem?_toArray]; exact u8s_get bs i hi⟩
/-- The bytes of a string, made new. -/
theorem conv_str (s : ByteArray) (W : World) : ∃ cap w', (convert 9 24 (.string s)).run Tryd.prog W = .ok (.slice (some ⟨W.heap.size, 0, none⟩) s.size cap) w' ∧
    Sl (SrcAt w' (.slice (some ⟨W.heap.size, 0, none⟩) s.size cap) (bytes s)) ∧ Sl (Below W.heap.size W w') := by
  refine ⟨_, _, run_bytes_of_string (P := Tryd.prog) W 9 24 5 s Tryd.underlying9 Tryd.underlying24 Tryd.underlying5, ⟨?_⟩, ⟨((Below.refl _ _).drew).alloc (Nat.le_refl _) _⟩⟩
  refine ⟨some ⟨W.heap.size, 0, none⟩, _, W.heap.size, 0, by rw [bytes_length], by rw [bytes_length]; exact grownCap_ge _ _ _ _, fun _ => rfl, fun i hi => ?_⟩
  rw [bytes_length] at hi
  rw [Nat.zero_add]
  have h := World.cell?_alloc_mark W.drew (bytesRow s (grownCap W s.size 0 5)) 5 ((bytesRow s (grownCap W s.size 0 5)).size, (bytesRow s (grownCap W s.size 0 5)).size + 1) i
  rw [show W.drew.heap.size = W.heap.size from rfl] at h
  rw [h, bytesRow_at s _ i hi, bytes_getD s i hi]
/-- The string of a row that was handed out, in a later world. -/
theorem conv_later {w W W' : World} {v : Value} {l : List Nat} (h : W.ownsRow w.heap.size 5 1 v l.length (u8s l)) (hb : Below W.heap.size W W') : (convert 24 9 v).run Tryd.prog W' = .ok (.string (strOf l)) W' := conv_own (own_below h hb)

set_option maxHeartbeats 1000000 in
theorem awake_any (w : World) (hg : Globs w) : Calls Tryd.prog 11 #[] w fun e w' => e = .returned (.bool true) ∧ Sl (Below w.heap.size w w') := by
  have HG := Sl.mk hg
  clear hg
  have kc := fun (w : World) (C : Array Value) (n c : Nat) => Lib.run_convert_bytes_const (P := Tryd.prog) w 24 5 C n c Tryd.underlying24 Tryd.underlying5
  go_enter Tryd.func11, Tryd.ntmps11
  go_wp2_with fail
  refine (get_yes { data := #[89, 87, 74, 106] } [97, 98, 99] _ (by decide) (by decide)).mono ?_
  rintro e w1 ⟨v, rfl, HO1, HB1⟩
  go_wp2_with fail
  refine (get_no { data := #[89, 82, 61, 61] } _ (by decide) (by decide)).mono ?_
  rintro e w2 ⟨rfl, HX2⟩
  have HB2 : Sl (Below w.heap.size w w2) := ⟨HB1.out.trans (HX2.out.mono HB1.out.size)⟩
  go_wp2_with fail
  refine (put_ex [97] _ _ (src_new _ [97] _ _ _ rfl) (fun x hx => by simp at hx; omega) (HG.out.below (HB2.out.alloc HB2.out.size _) HG.out.size) (by decide)).mono ?_
  rintro e w3 ⟨rfl, HX3⟩
  have HB3 : Sl (Below w.heap.size w w3) := ⟨(HB2.out.alloc HB2.out.size _).trans (HX3.out.mono (HB2.out.alloc HB2.out.size _).size)⟩
  have hq1 : ((strOf (enc [97])).toList == [89, 81, 61, 61]) = true := by rw [beq_bytes, bytes_enc _ (fun x hx => by simp at hx; omega)]; decide
  have hcv := conv_later HO1.out (HX2.out.trans (((Below.refl _ _).alloc HX2.out.size _).trans (HX3.out.mono (by rw [alloc_size]; have := HX2.out.size; omega))))
  have hq2 : ((strOf [97, 98, 99]).toList == [97, 98, 99]) = true := by rw [beq_bytes, bytes_strOf _ (fun x hx => by simp at hx; omega)]; decide
  go_wp2_with fail
  refine (size_any 16 _).mono ?_
  rintro e w4 ⟨rfl, rfl⟩
  have hq3 : (sizeI 16 == 24) = true := by decide
  go_wp2_with fail
  refine (has_ex { data := #[89, 81, 61, 61] } 1 true _ (by decide) (by decide)).mono ?_
  rintro e w5 ⟨rfl, HX5⟩
  go_wp2
  go_ret
  exact ⟨rfl, ⟨HB3.out.trans (HX5.out.mono HB3.out.size)⟩⟩
end Go.Proofs.YtdcgddoginaioaaDoor
