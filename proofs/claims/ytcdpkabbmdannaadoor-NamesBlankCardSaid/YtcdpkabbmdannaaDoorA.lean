/- The given variables; letters' case, texts that are the same but for it; bytes that lie within bounds: the program's functions and the document's. -/
import Derived.Test.YtcdpkabbmdannaaDoorBase
import Derived.Test.YtcdpkabbmdannaaDoorBrid
namespace Go.Proofs.YtcdpkabbmdannaaDoor
open Go.RowKit HeadPlain

def spans : List Value := [.int .u8 97, .int .u8 122, .int .u8 65, .int .u8 90, .int .u8 48, .int .u8 57]
/-- The spans of a token's bytes lie in memory as the program's text lays them, and the library's variable holds some number. -/
structure Globs (w : World) : Prop where
  t : w.rangeAt 0 0 spans
  m : ∃ m : Int, w.cell? ⟨1, 0, none⟩ = some (.int .i64 m)
theorem Globs.size {w : World} (h : Globs w) : 2 ≤ w.heap.size := by
  obtain ⟨m, hm⟩ := h.m
  have : (1 : Nat) < w.heap.size := block_lt_of_cell hm
  omega
theorem Globs.below {w w' : World} {B : Nat} (h : Globs w) (hb : Below B w w') (hB : 2 ≤ B) : Globs w' :=
  ⟨fun j v hv => by rw [hb.cell (p := ⟨0, 0 + j, none⟩) (show 0 < B by omega)]; exact h.t j v hv, by
    obtain ⟨m, hm⟩ := h.m
    exact ⟨m, by rw [hb.cell (p := ⟨1, 0, none⟩) (show 1 < B by omega)]; exact hm⟩⟩
theorem Globs.of {w0 w : World} (h : Globs w0) (hb : Below w0.heap.size w0 w) : Globs w := h.below hb h.size

theorem up_lt {c : Nat} (h : c < 256) : up c < 256 := by unfold up; split <;> omega
theorem upper_any (c : Nat) (hc : c < 256) (W : World) : Calls Tryd.prog 35 #[.int .u8 c] W fun e w' => e = .returned (.int .u8 (up c)) ∧ w' = W := by
  by_cases h1 : 97 ≤ c
  · by_cases h2 : c ≤ 122
    · have e : up c = c - 32 := by unfold up; rw [if_pos ⟨h1, h2⟩]
      rw [e]
      have h1' : (97 : Int) ≤ (c : Int) := by omega
      have h2' : (c : Int) ≤ 122 := by omega
      go_enter Tryd.func35, Tryd.ntmps35
      go_wp2
      go_ret
      exact ⟨ret_int (by omega), rfl⟩
    · have e : up c = c := by unfold up; rw [if_neg (by omega)]
      rw [e]
      have h1' : (97 : Int) ≤ (c : Int) := by omega
      have h2' : ((c : Int) ≤ 122) = False := by simp; omega
      go_enter Tryd.func35, Tryd.ntmps35
      go_wp2
      go_ret
      exact ⟨rfl, rfl⟩
  · have e : up c = c := by unfold up; rw [if_neg (by omega)]
    rw [e]
    have h1' : ((c : Int) ≥ 97) = False := by simp; omega
    go_enter Tryd.func35, Tryd.ntmps35
    go_wp2
    go_ret
    exact ⟨rfl, rfl⟩
theorem up_any (c : Nat) (hc : c < 256) (W : World) : Calls Tryd.prog 37 #[.int .u8 c] W fun e w' => e = .returned (.int .u8 (up c)) ∧ w' = W := by
  by_cases h1 : 97 ≤ c
  · by_cases h2 : c ≤ 122
    · have e : up c = c - 32 := by unfold up; rw [if_pos ⟨h1, h2⟩]
      rw [e]
      have h1' : (97 : Int) ≤ (c : Int) := by omega
      have h2' : (c : Int) ≤ 122 := by omega
      go_enter Tryd.func37, Tryd.ntmps37
      go_wp2
      go_ret
      exact ⟨ret_int (by omega), rfl⟩
    · have e : up c = c := by unfold up; rw [if_neg (by omega)]
      rw [e]
      have h1' : (97 : Int) ≤ (c : Int) := by omega
      have h2' : ((c : Int) ≤ 122) = False := by simp; omega
      go_enter Tryd.func37, Tryd.ntmps37
      go_wp2
      go_ret
      exact ⟨rfl, rfl⟩
  · have e : up c = c := by unfold up; rw [if_neg (by omega)]
    rw [e]
    have h1' : ((c : Int) ≥ 97) = False := by simp; omega
    go_enter Tryd.func37, Tryd.ntmps37
    go_wp2
    go_ret
    exact ⟨rfl, rfl⟩
theorem same_yes {a b : ByteArray} (hl : a.size = b.size) (h : ∀ j, j < a.size → up ((bytes a).getD j 0) = up ((bytes b).getD j 0)) : same (bytes a) (bytes b) = true := by
  rw [same_iff]
  refine ⟨by rw [bytes_length, bytes_length]; exact hl, fun i hi => h i (by rwa [bytes_length] at hi)⟩
theorem same_no {a b : ByteArray} (k : Nat) (hk : k < a.size) (h : up ((bytes a).getD k 0) ≠ up ((bytes b).getD k 0)) : same (bytes a) (bytes b) = false := by
  rw [Bool.eq_false_iff]
  intro e
  rw [same_iff] at e
  exact h (e.2 k (by rw [bytes_length]; exact hk))
theorem same_len {a b : ByteArray} (h : a.size ≠ b.size) : same (bytes a) (bytes b) = false := by
  rw [Bool.eq_false_iff]
  intro e
  have := same_length e
  rw [bytes_length, bytes_length] at this
  exact h this

/-- Nothing but the count of draws has moved. -/
def Still (w w' : World) : Prop := ∃ m, w' = w.drewN m
theorem Still.heap {w w' : World} (h : Still w w') : w'.heap = w.heap := by obtain ⟨m, rfl⟩ := h; rfl
theorem Still.below {w w' : World} (h : Still w w') : Below w.heap.size w w' := by obtain ⟨m, rfl⟩ := h; exact ⟨rfl, rfl, rfl, Nat.le_refl _, fun _ _ => rfl⟩
theorem Still.refl (w : World) : Still w w := ⟨0, rfl⟩
theorem Still.drewN {w w' : World} (h : Still w w') (n : Nat) : Still w (w'.drewN n) := by
  obtain ⟨m, rfl⟩ := h; exact ⟨m + n, World.drewN_drewN _ _ _⟩
theorem Still.trans {u v w : World} (h : Still u v) (k : Still v w) : Still u w := by
  obtain ⟨m, rfl⟩ := h; obtain ⟨n, rfl⟩ := k; exact ⟨m + n, World.drewN_drewN _ _ _⟩

set_option maxHeartbeats 400000 in
/-- Texts that are the same but for case, byte by byte. -/
theorem same_any (a b : ByteArray) (W : World) (ha : a.size ≤ maxLen) : Calls Tryd.prog 26 #[.string a, .string b] W fun e w' => e = .returned (.bool (same (bytes a) (bytes b))) ∧ Still W w' := by
  unfold maxLen at ha
  by_cases hl : a.size = b.size
  · have HL := Sl.mk hl
    have hl' : ((a.size : Int) == (b.size : Int)) = true := by simp [hl]
    clear hl
    go_enter Tryd.func26, Tryd.ntmps26
    go_wp2
    go_loopw [13] (fun i wr => ∃ k : Nat, k ≤ a.size ∧ i = .int .i64 k ∧ Sl (Still W wr) ∧ Sl (∀ j, j < k → up ((bytes a).getD j 0) = up ((bytes b).getD j 0))) (fun i _ => a.size - (intOf i).toNat)
    case atStart => exact ⟨0, by omega, rfl, ⟨Still.refl _⟩, ⟨fun j hj => by omega⟩⟩
    case round =>
      obtain ⟨k, hk, rfl, HB, HA⟩ := hrel
      by_cases hlt : k < a.size
      · have hlt2 : k < b.size := by rw [← HL.out]; exact hlt
        obtain ⟨x, hx⟩ : ∃ x, (a[k]'hlt).toNat = x := ⟨_, rfl⟩
        obtain ⟨y, hy⟩ : ∃ y, (b[k]'hlt2).toNat = y := ⟨_, rfl⟩
        have hx2 : x < 256 := by rw [← hx]; exact UInt8.toNat_lt _
        have hy2 : y < 256 := by rw [← hy]; exact UInt8.toNat_lt _
        have HXX : Sl ((bytes a).getD k 0 = x) := ⟨by rw [bytes_getD a k hlt, ← hx]; rfl⟩
        have HYY : Sl ((bytes b).getD k 0 = y) := ⟨by rw [bytes_getD b k hlt2, ← hy]; rfl⟩
        have UU : Sl (∀ c : Nat, c < 256 → ∀ V, Calls Tryd.prog 35 #[.int .u8 (c : Int)] V fun e w' => e = .returned (.int .u8 (up c)) ∧ w' = V) := ⟨fun c hc V => upper_any c hc V⟩
        go_wp2
        go_quiet (first | (go_at_call 35; exact Calls.quiet_of_same (UU.out _ (by assumption) _)))
        by_cases hq : up x = up y
        · have hq' : ((up x : Int) == (up y : Int)) = true := by simp [hq]
          go_wp2
          refine ⟨⟨k + 1, by omega, by go_num, ⟨HB.out.drewN _⟩, ⟨fun j hj => ?_⟩⟩, by simp [intOf]; omega⟩
          by_cases e : j = k
          · subst e; rw [HXX.out, HYY.out]; exact hq
          · exact HA.out j (by omega)
        · have hq' : ((up x : Int) == (up y : Int)) = false := by simp; omega
          go_wp2
          go_ret
          exact ⟨ret_bool (same_no k hlt (by rw [HXX.out, HYY.out]; exact hq)).symm, HB.out.drewN _⟩
      · have hge : ((k : Int) < (a.size : Int)) = False := by simp; omega
        go_wp2
        go_ret
        exact ⟨ret_bool (same_yes HL.out (fun j hj => HA.out j (by omega))).symm, HB.out⟩
  · have hl' : ((a.size : Int) == (b.size : Int)) = false := by simp; omega
    go_enter Tryd.func26, Tryd.ntmps26
    go_wp2
    go_ret
    exact ⟨ret_bool (same_len hl).symm, Still.refl _⟩
set_option maxHeartbeats 400000 in
/-- Texts that are the same but for case, byte by byte: the document's. -/
theorem sameR_any (a b : ByteArray) (W : World) (ha : a.size ≤ maxLen) : Calls Tryd.prog 28 #[.string a, .string b] W fun e w' => e = .returned (.bool (same (bytes a) (bytes b))) ∧ Still W w' := by
  unfold maxLen at ha
  by_cases hl : a.size = b.size
  · have HL := Sl.mk hl
    have hl' : ((a.size : Int) == (b.size : Int)) = true := by simp [hl]
    clear hl
    go_enter Tryd.func28, Tryd.ntmps28
    go_wp2
    go_loopw [5] (fun i wr => ∃ k : Nat, k ≤ a.size ∧ i = .int .i64 k ∧ Sl (Still W wr) ∧ Sl (∀ j, j < k → up ((bytes a).getD j 0) = up ((bytes b).getD j 0))) (fun i _ => a.size - (intOf i).toNat)
    case atStart => exact ⟨0, by omega, rfl, ⟨Still.refl _⟩, ⟨fun j hj => by omega⟩⟩
    case round =>
      obtain ⟨k, hk, rfl, HB, HA⟩ := hrel
      by_cases hlt : k < a.size
      · have hlt2 : k < b.size := by rw [← HL.out]; exact hlt
        obtain ⟨x, hx⟩ : ∃ x, (a[k]'hlt).toNat = x := ⟨_, rfl⟩
        obtain ⟨y, hy⟩ : ∃ y, (b[k]'hlt2).toNat = y := ⟨_, rfl⟩
        have hx2 : x < 256 := by rw [← hx]; exact UInt8.toNat_lt _
        have hy2 : y < 256 := by rw [← hy]; exact UInt8.toNat_lt _
        have HXX : Sl ((bytes a).getD k 0 = x) := ⟨by rw [bytes_getD a k hlt, ← hx]; rfl⟩
        have HYY : Sl ((bytes b).getD k 0 = y) := ⟨by rw [bytes_getD b k hlt2, ← hy]; rfl⟩
        have UU : Sl (∀ c : Nat, c < 256 → ∀ V, Calls Tryd.prog 37 #[.int .u8 (c : Int)] V fun e w' => e = .returned (.int .u8 (up c)) ∧ w' = V) := ⟨fun c hc V => up_any c hc V⟩
        go_wp2
        go_quiet (first | (go_at_call 37; exact Calls.quiet_of_same (UU.out _ (by assumption) _)))
        by_cases hq : up x = up y
        · have hq' : ((up x : Int) == (up y : Int)) = true := by simp [hq]
          go_wp2
          refine ⟨⟨k + 1, by omega, by go_num, ⟨HB.out.drewN _⟩, ⟨fun j hj => ?_⟩⟩, by simp [intOf]; omega⟩
          by_cases e : j = k
          · subst e; rw [HXX.out, HYY.out]; exact hq
          · exact HA.out j (by omega)
        · have hq' : ((up x : Int) == (up y : Int)) = false := by simp; omega
          go_wp2
          go_ret
          exact ⟨ret_bool (same_no k hlt (by rw [HXX.out, HYY.out]; exact hq)).symm, HB.out.drewN _⟩
      · have hge : ((k : Int) < (a.size : Int)) = False := by simp; omega
        go_wp2
        go_ret
        exact ⟨ret_bool (same_yes HL.out (fun j hj => HA.out j (by omega))).symm, HB.out⟩
  · have hl' : ((a.size : Int) == (b.size : Int)) = false := by simp; omega
    go_enter Tryd.func28, Tryd.ntmps28
    go_wp2
    go_ret
    exact ⟨ret_bool (same_len hl).symm, Still.refl _⟩
end Go.Proofs.YtcdpkabbmdannaaDoor
