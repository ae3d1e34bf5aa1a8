/- RingOwn, the walk: whatever string and byte are handed over, the law's Go text returns true, and nothing that was in memory changes. Conditions: the byte is a number of its kind; the string fits in memory. -/
import Derived.Test.YtfgpohfegjomfaaK
namespace Go.Proofs.Ytfgpohfegjomfaa
open Go.RowKit

/-- A row of bytes that may be written to, at its first n cells. -/
def RowW (w : World) (g n : Nat) : Prop := ∀ i, i < n → (∃ x : Nat, w.cell? ⟨g, i, none⟩ = some (.int .u8 (x : Int))) ∧ w.frozen? ⟨g, i, none⟩ = false
theorem RowW.set {w : World} {g n i b : Nat} (h : RowW w g n) (hi : i < n) : RowW (w.setCell ⟨g, i, none⟩ (.int .u8 (b : Int))) g n := fun j hj => by
  refine ⟨?_, by rw [World.frozen?_setCell]; exact (h j hj).2⟩
  by_cases e : j = i
  · subst e
    obtain ⟨x, hx⟩ := (h j hj).1
    exact ⟨b, World.cell?_setCell_same' _ _ _ (by rw [hx]; rfl)⟩
  · have hna : (⟨g, i, none⟩ : Addr) ≠ ⟨g, j, none⟩ := fun e2 => e (by injection e2 with _ e3; exact e3.symm)
    rw [World.cell?_setCell_other (h := hna)]
    exact (h j hj).1
theorem RowW.two {w w' : World} {g n b p : Nat} (h : RowW w g n) (k : Two w w' b p) (h1 : g ≠ b) (h2 : g ≠ p) : RowW w' g n := fun i hi => by
  obtain ⟨⟨x, hx⟩, hf⟩ := h i hi
  have hb := k.block g (block_lt_of_cell hx) h1 h2
  exact ⟨⟨x, by rw [World.cell?_of_block (w := w) hb]; exact hx⟩, by rw [World.frozen?_of_block (w := w) hb]; exact hf⟩
theorem RowB.rw {w : World} {g : Nat} {bs : List Nat} (h : RowB w g bs) : RowW w g bs.length := fun i hi =>
  ⟨⟨bs.getD i 0, by rw [cell_of_row _ _ _ _ _ _ h, List.getElem?_toArray]; exact u8s_get bs i hi⟩, frozen_of_row _ _ _ _ _ h⟩
/-- The bytes of a string, made new, in memory that may be written. -/
theorem conv_rw (s : ByteArray) (W : World) : ∃ cap w', (convert 9 33 (.string s)).run Try.prog W = .ok (.slice (some ⟨W.heap.size, 0, none⟩) s.size cap) w' ∧
    Sl (SrcAt w' (.slice (some ⟨W.heap.size, 0, none⟩) s.size cap) (bytes s)) ∧ Sl (RowW w' W.heap.size s.size) ∧ Sl (Below W.heap.size W w') := by
  have hg : ∀ cap, s.size ≤ cap → ∀ j, j < s.size → (W.drew.alloc (.cells (bytesRow s cap) 5 ((bytesRow s cap).size, (bytesRow s cap).size + 1))).cell? ⟨W.heap.size, j, none⟩ = some (.int .u8 (((bytes s).getD j 0 : Nat) : Int)) := fun cap _ j hj => by
    have h := World.cell?_alloc_mark W.drew (bytesRow s cap) 5 ((bytesRow s cap).size, (bytesRow s cap).size + 1) j
    rw [show W.drew.heap.size = W.heap.size from rfl] at h
    rw [h, bytesRow_at s _ j hj, bytes_getD s j hj]
  refine ⟨_, _, run_bytes_of_string (P := Try.prog) W 9 33 5 s Try.underlying9 Try.underlying33 Try.underlying5, ⟨?_⟩, ⟨fun j hj => ⟨⟨_, hg _ (grownCap_ge _ _ _ _) j hj⟩, ?_⟩⟩, ⟨((Below.refl _ _).drew).alloc (Nat.le_refl _) _⟩⟩
  · refine ⟨some ⟨W.heap.size, 0, none⟩, _, W.heap.size, 0, by rw [bytes_length], by rw [bytes_length]; exact grownCap_ge _ _ _ _, fun _ => rfl, fun i hi => ?_⟩
    rw [bytes_length] at hi
    rw [Nat.zero_add]
    exact hg _ (grownCap_ge _ _ _ _) i hi
  · generalize hcap : grownCap W s.size 0 5 = cap
    have hge : s.size ≤ cap := by rw [← hcap]; exact grownCap_ge _ _ _ _
    have hsz : (bytesRow s cap).size = cap := by
      have : s.data.size = s.size := rfl
      simp [bytesRow, this]; omega
    rw [hsz]
    have hn : (W.drew.alloc (.cells (bytesRow s cap) 5 (cap, cap + 1))).heap[W.heap.size]? = some (.cells (bytesRow s cap) 5 (cap, cap + 1)) := alloc_new _ _ _ rfl
    simp only [World.frozen?, hn]
    simp; omega
/-- What a loop that writes over a row holds to. -/
def OW (w0 : World) (b p g n : Nat) (hs : List Nat) (wr : World) : Prop := RingH wr b p 100 hs ∧ RowW wr g n ∧ Below w0.heap.size w0 wr
theorem OW.set {w0 wr : World} {b p g n i v : Nat} {hs : List Nat} (h : OW w0 b p g n hs wr) (hi : i < n) (h0 : w0.heap.size ≤ g) (h1 : b ≠ g) (h2 : p ≠ g) : OW w0 b p g n hs (wr.setCell ⟨g, i, none⟩ (.int .u8 (v : Int))) :=
  ⟨h.1.two (Two.left (b := g) (p := g) (grown_setCell _ _ _ _)) h1 h1 h2 h2, h.2.1.set hi, h.2.2.setCell h0 _⟩

set_option maxHeartbeats 400000 in
theorem own_long (a : ByteArray) (b : Nat) (w : World) (h : 100 < a.size) (ha : a.size ≤ maxLen) :
    Calls Try.prog 5 #[.string a, .int .u8 b] w fun e w' => e = .returned (.bool true) ∧ Below w.heap.size w w' := by
  unfold maxLen at ha
  go_enter Try.func5, Try.ntmps5
  go_wp2_with fail
  refine (new_ex w _ 100 (by omega) (by omega) (Below.refl _ _)).mono ?_
  rintro e w1 ⟨rfl, HR1, HX1, HB1⟩
  go_wp2_with fail
  refine (awake_ex w _ HB1.out).mono ?_
  rintro e w2 ⟨rfl, HX2, HB2⟩
  go_wp2_with fail
  refine (awake_ex w _ HB2.out).mono ?_
  rintro e w3 ⟨rfl, HX3, HB3⟩
  go_wp2
  go_ret
  exact ⟨rfl, HB3.out⟩

set_option maxHeartbeats 1000000 in
theorem own_short (a : ByteArray) (b : Nat) (w : World) (h : a.size ≤ 100) :
    Calls Try.prog 5 #[.string a, .int .u8 b] w fun e w' => e = .returned (.bool true) ∧ Below w.heap.size w w' := by
  have HA : Sl ((bytes a).length ≤ 100000) := ⟨by rw [bytes_length]; omega⟩
  have HM : Sl (min (bytes a).length (100 - ([] : List Nat).length) = a.size) := ⟨by rw [bytes_length]; simp; omega⟩
  have HE : Sl (bytes a = [] ++ (bytes a).take a.size) := ⟨by rw [List.nil_append, List.take_of_length_le (by rw [bytes_length]; exact Nat.le_refl _)]⟩
  have HT : Sl ((bytes a).take (100 : Int).toNat = bytes a ∧ (bytes a).drop (100 : Int).toNat = []) := ⟨by
    have h2 : (bytes a).length ≤ (100 : Int).toNat := by rw [bytes_length]; exact h
    exact ⟨List.take_of_length_le h2, List.drop_eq_nil_of_le h2⟩⟩
  go_enter Try.func5, Try.ntmps5
  go_wp2_with fail
  refine (new_ex w _ 100 (by omega) (by omega) (Below.refl _ _)).mono ?_
  rintro e w1 ⟨rfl, HR1, HX1, HB1⟩
  go_wp2_with fail
  refine (awake_ex w _ HB1.out).mono ?_
  rintro e w2 ⟨rfl, HX2, HB2⟩
  have HR2 := Sl.mk (HR1.out.below HX2.out)
  obtain ⟨k3, w3, hc3, HV3, HW3, HX3⟩ := conv_rw a w2
  have HB3 : Sl (Below w.heap.size w w3) := ⟨HB2.out.trans (HX3.out.mono HB2.out.size)⟩
  have HR3 := Sl.mk (HR2.out.below HX3.out)
  have lt2 := HR2.out.blt
  go_wp2_with fail
  refine (put_ex w _ (w.heap.size + 1) w.heap.size 100 a.size [] (bytes a) _ HB3.out (by omega) (by omega) HR3.out (HV3.out.offs HR2.out.plt) (bytes_small a) HA.out HM.out).mono ?_
  rw [← HE.out]
  rintro e w4 ⟨rfl, HR4, HX4, HB4⟩
  have HOW4 : Sl (OW w (w.heap.size + 1) w.heap.size w2.heap.size a.size (bytes a) w4) := ⟨HR4.out, HW3.out.two HX4.out (by omega) (by omega), HB4.out⟩
  clear hc3
  go_wp2
  go_loopw [8] (fun i wr => ∃ k : Nat, k ≤ a.size ∧ i = .int .i64 k ∧ OW w (w.heap.size + 1) w.heap.size w2.heap.size a.size (bytes a) wr) (fun i _ => a.size - (intOf i).toNat)
  case atStart => exact ⟨0, Nat.zero_le _, rfl, HOW4.out⟩
  case round =>
    obtain ⟨k, hk, rfl, hrel⟩ := hrel
    have HR := Sl.mk hrel
    clear hrel
    by_cases hlt : k < a.size
    · obtain ⟨⟨x, hx⟩, hf⟩ := HR.out.2.1 k hlt
      have HN : Sl (OW w (w.heap.size + 1) w.heap.size w2.heap.size a.size (bytes a) (wr.setCell ⟨w2.heap.size, k, none⟩ (.int .u8 (b : Int)))) := ⟨HR.out.set hlt (by omega) (by omega) (by omega)⟩
      go_wp2
      go_roundw
      case rel => exact ⟨k + 1, by omega, by go_num, HN.out⟩
      case measure => simp [intOf]; omega
    · have hge : ¬ (k : Int) < (a.size : Int) := by omega
      have HRR := Sl.mk HR.out.1
      have HBR := Sl.mk HR.out.2.2
      obtain ⟨wo, hwo⟩ : ∃ wo : World, wo = wr := ⟨_, rfl⟩
      subst hwo
      go_wp2_with fail
      refine (peek_ex w _ (w.heap.size + 1) w.heap.size 100 a.size (bytes a) (bytes a) 100 HBR.out HRR.out HT.out.1 (bytes_length a)).mono ?_
      rintro e w5 ⟨rfl, HO5, HR5, HX5, HB5⟩
      have hcv := HO5.out.str (bytes_length a)
      have lt5 := HRR.out.blt
      have HOW5 : Sl (OW w (w.heap.size + 1) w.heap.size wo.heap.size a.size (bytes a) w5) := ⟨HR5.out, by rw [← bytes_length a]; exact HO5.out.rw, HB5.out⟩
      rw [strOf_bytes] at hcv
      go_wp2
      clear hcv
      go_loopw [11] (fun i wr => ∃ k : Nat, k ≤ a.size ∧ i = .int .i64 k ∧ OW w (w.heap.size + 1) w.heap.size wo.heap.size a.size (bytes a) wr) (fun i _ => a.size - (intOf i).toNat)
      case atStart => exact ⟨0, Nat.zero_le _, rfl, HOW5.out⟩
      case round =>
        obtain ⟨k2, hk2, rfl, hrel⟩ := hrel
        have HR := Sl.mk hrel
        clear hrel
        by_cases hlt : k2 < a.size
        · obtain ⟨⟨x, hx⟩, hf⟩ := HR.out.2.1 k2 hlt
          have HN : Sl (OW w (w.heap.size + 1) w.heap.size wo.heap.size a.size (bytes a) (wr.setCell ⟨wo.heap.size, k2, none⟩ (.int .u8 (b : Int)))) := ⟨HR.out.set hlt (by omega) (by omega) (by omega)⟩
          go_wp2
          go_roundw
          case rel => exact ⟨k2 + 1, by omega, by go_num, HN.out⟩
          case measure => simp [intOf]; omega
        · have hge2 : ¬ (k2 : Int) < (a.size : Int) := by omega
          have HRR := Sl.mk HR.out.1
          have HBR := Sl.mk HR.out.2.2
          have q1 : (a.toList == a.toList) = true := by simp
          go_wp2_with fail
          refine (take_ex w _ (w.heap.size + 1) w.heap.size 100 a.size (bytes a) (bytes a) [] 100 HBR.out (by omega) (by omega) HRR.out HT.out.1 (bytes_length a) HT.out.2).mono ?_
          rintro e w6 ⟨rfl, HO6, HR6, HX6, HB6⟩
          have hcv := HO6.out.str (bytes_length a)
          rw [strOf_bytes] at hcv
          go_wp2
          go_ret
          exact ⟨by simp, HB6.out⟩
theorem own_walk (a : ByteArray) (b : Nat) (w : World) (ha : a.size ≤ maxLen) (_hb : b < 256) :
    Calls Try.prog 5 #[.string a, .int .u8 b] w fun e w' => e = .returned (.bool true) ∧ Below w.heap.size w w' := by
  by_cases h : 100 < a.size
  · exact own_long a b w h ha
  · exact own_short a b w (by omega)
end Go.Proofs.Ytfgpohfegjomfaa
