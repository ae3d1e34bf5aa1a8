/- The contract of the document's Read: how many bytes are right, how many letters there are, whether they are whole; nothing that was in memory changes. Condition: at most 100000 bytes. -/
import Derived.Test.YtlkfkglcefhbgaaDoorP2
import Derived.Test.YtlkfkglcefhbgaaDoorP3
import Derived.Test.YtlkfkglcefhbgaaDoorP4
namespace Go.Proofs.YtlkfkglcefhbgaaDoor
open Go.RowKit

theorem refBegins_any (s : ByteArray) (w : World) (hs : 0 < s.size) (hL : s.size ≤ 100000) :
    Calls Tryd.prog 21 #[.string s] w fun e w' => e = .returned (.bool (beg (bytes s))) ∧ Below w.heap.size w w' := by
  by_cases h : long ((bytes s).headD 0) ≤ s.size
  · have e : beg (bytes s) = false := by
      unfold beg
      simp only [bytes_length]
      rw [if_pos h]
    rw [e]
    exact begins_no s w hs hL h
  · have h5 := long_le ((bytes s).headD 0)
    obtain ⟨n, hn⟩ : ∃ n, long ((bytes s).headD 0) = n := ⟨_, rfl⟩
    rw [hn] at h h5
    match n, h5 with
    | 0, _ => omega
    | 1, _ => omega
    | 2, _ => exact begins_2 s w hs hn (by omega)
    | 3, _ => exact begins_3 s w hs hn (by omega)
    | 4, _ => exact begins_4 s w hs hn (by omega)
theorem whole_r (w0 W : World) (s : ByteArray) (n : Nat) (hn : whole' (bytes s) = n) (hs : 0 < s.size) (hL : s.size ≤ 100000) (hB : Below w0.heap.size w0 W) :
    Calls Tryd.prog 20 #[.string s] W fun e w' => e = .returned (.int .i64 n) ∧ Sl (Below w0.heap.size w0 w') :=
  (refWhole_any s W hs hL).mono fun _ _ ⟨he, hb⟩ => ⟨by rw [he, hn], ⟨hB.trans (hb.mono hB.size)⟩⟩
theorem begins_r (w0 W : World) (s : ByteArray) (r : Bool) (hr : beg (bytes s) = r) (hs : 0 < s.size) (hL : s.size ≤ 100000) (hB : Below w0.heap.size w0 W) :
    Calls Tryd.prog 21 #[.string s] W fun e w' => e = .returned (.bool r) ∧ Sl (Below w0.heap.size w0 w') :=
  (refBegins_any s W hs hL).mono fun _ _ ⟨he, hb⟩ => ⟨by rw [he, hr], ⟨hB.trans (hb.mono hB.size)⟩⟩

/-- What the first loop of Read holds to. -/
def RD1 (w : World) (s : ByteArray) (at' le : Value) (wr : World) : Prop :=
  ∃ k c : Nat, k ≤ s.size ∧ c ≤ k ∧ at' = .int .i64 k ∧ le = .int .i64 c ∧ Sl (uend s0 ((bytes s).take k) = some s0) ∧ Sl (ucount s0 ((bytes s).take k) = c) ∧ Below w.heap.size w wr
/-- What the second loop of Read holds to. -/
def RD2 (w : World) (s : ByteArray) (k : Nat) (en' : Value) (wr : World) : Prop :=
  ∃ j : Nat, k + j ≤ s.size ∧ en' = .int .i64 ((k + j : Nat) : Int) ∧ Sl (j ≤ uright s0 ((bytes s).drop k)) ∧ Below w.heap.size w wr

theorem ext_end (s : ByteArray) (k : Nat) : bytes (s.extract k s.size) = (bytes s).drop k := by
  rw [bytes_extract, List.take_of_length_le (by rw [bytes_length]; exact Nat.le_refl _)]
theorem ext_mid (s : ByteArray) (k j : Nat) : bytes (s.extract k (k + j)) = ((bytes s).drop k).take j := by
  rw [bytes_extract, List.drop_take, Nat.add_sub_cancel_left]
theorem more_letter (s : ByteArray) (k c n : Nat) (hk : k ≤ s.size) (h1 : uend s0 ((bytes s).take k) = some s0) (h2 : ucount s0 ((bytes s).take k) = c) (hw : whole' ((bytes s).drop k) = n) (hn : 1 ≤ n) :
    k + n ≤ s.size ∧ uend s0 ((bytes s).take (k + n)) = some s0 ∧ ucount s0 ((bytes s).take (k + n)) = c + 1 := by
  obtain ⟨m, rfl⟩ : ∃ m, n = m + 1 := ⟨n - 1, by omega⟩
  obtain ⟨a, b, d⟩ := whole_yes _ m hw
  rw [List.length_drop, bytes_length] at a
  refine ⟨by omega, ?_, ?_⟩
  · rw [List.take_add, uend_append, h1]; exact b
  · rw [List.take_add, ucount_append, h1, h2]; simp only; rw [d]

theorem read_fin (s : ByteArray) (k c j : Nat) (hk : k ≤ s.size) (h1 : uend s0 ((bytes s).take k) = some s0) (h2 : ucount s0 ((bytes s).take k) = c) (hw : k < s.size → whole' ((bytes s).drop k) = 0) (hj : j = uright s0 ((bytes s).drop k)) :
    uright s0 (bytes s) = k + j ∧ ucount s0 (bytes s) = c ∧ vb (bytes s) = decide (k = s.size) := by
  obtain ⟨a, b, d⟩ := read_done (bytes s) k (by rw [bytes_length]; exact hk) h1 (by rw [bytes_length]; exact hw)
  rw [bytes_length] at d
  exact ⟨by rw [a, hj], by rw [b, h2], decide_eq_decide.2 d⟩
theorem fin3 {s : ByteArray} {k c j : Nat} (h : uright s0 (bytes s) = k + j ∧ ucount s0 (bytes s) = c ∧ vb (bytes s) = decide (k = s.size)) :
    Ending.returned (.tuple #[.int .i64 ((k + j : Nat) : Int), .int .i64 (c : Int), .bool ((k : Int) == (s.size : Int))]) = .returned (.tuple #[.int .i64 (uright s0 (bytes s) : Nat), .int .i64 (ucount s0 (bytes s) : Nat), .bool (vb (bytes s))]) := by
  have e : ((k : Int) == (s.size : Int)) = decide (k = s.size) := by
    rw [Bool.eq_iff_iff]; simp; omega
  rw [h.1, h.2.1, h.2.2, e]

set_option maxHeartbeats 1000000 in
theorem read_any (s : ByteArray) (w : World) (hL : s.size ≤ 100000) :
    Calls Tryd.prog 12 #[.string s] w fun e w' => e = .returned (.tuple #[.int .i64 (uright s0 (bytes s) : Nat), .int .i64 (ucount s0 (bytes s) : Nat), .bool (vb (bytes s))]) ∧ Below w.heap.size w w' := by
  have LB : Sl ((bytes s).length = s.size) := ⟨bytes_length s⟩
  go_enter Tryd.func12, Tryd.ntmps12
  go_wp2
  go_loopw [5, 6] (fun a l wr => RD1 w s a l wr) (fun a _ _ => s.size - (intOf a).toNat)
  case atStart => exact ⟨0, 0, Nat.zero_le _, Nat.le_refl _, rfl, rfl, ⟨rfl⟩, ⟨rfl⟩, Below.refl _ _⟩
  case round =>
    obtain ⟨k, c, hk, hck, rfl, rfl, HU, HC, hrel⟩ := hrel
    have HR := Sl.mk hrel
    clear hrel
    by_cases hlt : k < s.size
    · have hltI : (k : Int) < (s.size : Int) := by omega
      have HEX : Sl (bytes (s.extract k s.size) = (bytes s).drop k) := ⟨ext_end s k⟩
      have ES : (s.extract k s.size).size = s.size - k := by rw [ByteArray.size_extract]; omega
      obtain ⟨n, hn⟩ : ∃ n, whole' ((bytes s).drop k) = n := ⟨_, rfl⟩
      have HN := Sl.mk hn
      by_cases h0 : n = 0
      · subst h0
        clear hn
        go_wp2_with fail
        refine (whole_r w _ (s.extract k s.size) 0 (by rw [HEX.out]; exact HN.out) (by omega) (by omega) HR.out).mono ?_
        rintro e w2 ⟨rfl, HB2⟩
        go_wp2
        have HWK : Sl (k < s.size → whole' ((bytes s).drop k) = 0) := ⟨by exact fun _ => HN.out⟩
        have HDL : Sl (((bytes s).drop k).length = s.size - k) := ⟨by rw [List.length_drop, LB.out]⟩
        go_loopw [8] (fun e wr => RD2 w s k e wr) (fun e _ => s.size - (intOf e).toNat)
        case atStart => exact ⟨0, by omega, rfl, ⟨Nat.zero_le _⟩, HB2.out⟩
        case round =>
          obtain ⟨j, hj, rfl, HJ, hrel⟩ := hrel
          have HR2 := Sl.mk hrel
          have hbnd : k + j ≤ 100000 := by omega
          clear hrel
          by_cases hjs : k + j < s.size
          · have hjI : ((k + j : Nat) : Int) < (s.size : Int) := by omega
            have hk' : k < s.size := by omega
            have EB : Sl (bytes (s.extract k (k + j + 1)) = ((bytes s).drop k).take (j + 1)) := ⟨ext_mid s k (j + 1)⟩
            have ES2 : (s.extract k (k + j + 1)).size = j + 1 := by rw [ByteArray.size_extract]; omega
            have HBI : Sl (beg (((bytes s).drop k).take (j + 1)) = true ↔ j < uright s0 ((bytes s).drop k)) := ⟨beg_iff _ j (by rw [HDL.out]; omega) (HWK.out hk')⟩
            have hsl1 : (0 : Int) ≤ (k : Int) := by omega
            have hsl2 : (k : Int) ≤ ((k + j : Nat) : Int) + 1 := by omega
            have hsl3 : ((k + j : Nat) : Int) + 1 ≤ (s.size : Int) := by omega
            by_cases hju : j < uright s0 ((bytes s).drop k)
            · have HBT : Sl (beg (bytes (s.extract k (k + j + 1))) = true) := ⟨by rw [EB.out]; exact HBI.out.2 hju⟩
              have HJU := Sl.mk hju
              clear hju
              go_wp2_with fail
              refine (begins_r w _ (s.extract k (k + j + 1)) true HBT.out (by omega) (by omega) HR2.out).mono ?_
              rintro e w3 ⟨rfl, HB3⟩
              go_wp2
              go_roundw
              case rel => exact ⟨j + 1, by omega, by go_num, ⟨HJU.out⟩, HB3.out⟩
              case measure => simp [intOf]; omega
            · have HBT : Sl (beg (bytes (s.extract k (k + j + 1))) = false) := ⟨by
                rw [EB.out]
                cases hb : beg (((bytes s).drop k).take (j + 1)) with
                | false => rfl
                | true => exact absurd (HBI.out.1 hb) hju⟩
              have HFIN := Sl.mk (read_fin s k c j hk HU.out HC.out HWK.out (by have := HJ.out; omega))
              clear hju
              go_wp2_with fail
              refine (begins_r w _ (s.extract k (k + j + 1)) false HBT.out (by omega) (by omega) HR2.out).mono ?_
              rintro e w3 ⟨rfl, HB3⟩
              go_wp2
              go_ret3
              exact ⟨fin3 HFIN.out, HB3.out⟩
          · have hjI : ¬ ((k + j : Nat) : Int) < (s.size : Int) := by omega
            have HFIN := Sl.mk (read_fin s k c j hk HU.out HC.out HWK.out (by have h1 := HJ.out; have h2 := uright_le ((bytes s).drop k) s0; rw [HDL.out] at h2; omega))
            go_wp2
            go_ret3
            exact ⟨fin3 HFIN.out, HR2.out⟩
      · obtain ⟨m1, m2, m3⟩ := more_letter s k c n hk HU.out HC.out hn (by omega)
        have M2 := Sl.mk m2
        have M3 := Sl.mk m3
        have hn0 : ((n : Int) == 0) = false := by simp; omega
        have hn1 : 1 ≤ n := by omega
        clear hn m2 m3 h0
        go_wp2_with fail
        refine (whole_r w _ (s.extract k s.size) n (by rw [HEX.out]; exact HN.out) (by omega) (by omega) HR.out).mono ?_
        rintro e w2 ⟨rfl, HB2⟩
        go_wp2
        go_roundw
        case rel => exact ⟨k + n, c + 1, m1, by omega, by go_num, by go_num, M2, M3, HB2.out⟩
        case measure => simp [intOf]; omega
    · have hltI : ¬ (k : Int) < (s.size : Int) := by omega
      go_wp2
      have HWK : Sl (k < s.size → whole' ((bytes s).drop k) = 0) := ⟨by exact fun h => absurd h hlt⟩
      have HDL : Sl (((bytes s).drop k).length = s.size - k) := ⟨by rw [List.length_drop, LB.out]⟩
      go_loopw [8] (fun e wr => RD2 w s k e wr) (fun e _ => s.size - (intOf e).toNat)
      case atStart => exact ⟨0, by omega, rfl, ⟨Nat.zero_le _⟩, HR.out⟩
      case round =>
        obtain ⟨j, hj, rfl, HJ, hrel⟩ := hrel
        have HR2 := Sl.mk hrel
        have hbnd : k + j ≤ 100000 := by omega
        clear hrel
        by_cases hjs : k + j < s.size
        · exfalso; omega
        · have hjI : ¬ ((k + j : Nat) : Int) < (s.size : Int) := by omega
          have HFIN := Sl.mk (read_fin s k c j hk HU.out HC.out HWK.out (by have h1 := HJ.out; have h2 := uright_le ((bytes s).drop k) s0; rw [HDL.out] at h2; omega))
          go_wp2
          go_ret3
          exact ⟨fin3 HFIN.out, HR2.out⟩
end Go.Proofs.YtlkfkglcefhbgaaDoor
