/- The contracts of Valid and Count of package utf; nothing that was in memory changes. Conditions: the table is as the text lays it; at most 100000 bytes. -/
import Derived.Test.YtlkfkglcefhbgaaDoorD
namespace Go.Proofs.YtlkfkglcefhbgaaDoor
open Go.RowKit

theorem below_grow {b : Nat} {w W W' : World} (h : Below w.heap.size w W) (g : W.grownBy W' (some b)) (hb : w.heap.size ≤ b) : Below w.heap.size w W' :=
  h.grown g h.size (fun k hk => by injection hk with hk; omega)
theorem okO0 : OkO (some s0) := fun s h => by injection h with h; exact .inl h.symm

/-- Are they letters? -/
def vb (bs : List Nat) : Bool := decide (uend s0 bs = some s0)
theorem valid_any (bs : List Nat) (v : Value) (w : World) (hg : Globs w) (hv : SrcAt w v bs) (hL : bs.length ≤ 100000) :
    Calls Tryd.prog 17 #[v] w fun e w' => e = .returned (.bool (vb bs)) ∧ Below w.heap.size w w' := by
  have HG := Sl.mk hg
  have HV := Sl.mk hv
  obtain ⟨a, cap, sb, so, rfl, -⟩ := hv
  clear hg
  go_enter Tryd.func17, Tryd.ntmps17
  go_wp2_with fail
  refine (new_any _).mono ?_
  rintro e w1 ⟨rfl, hw1⟩
  have HB1 : Sl (Below w.heap.size w w1) := ⟨by rw [hw1]; exact (Below.refl _ _).alloc (Nat.le_refl _) _⟩
  have HC1 : Sl (ChkO w1 w.heap.size (some s0)) := ⟨by rw [hw1]; exact chk_new w⟩
  have HV1 : Sl (SrcN w1 w.heap.size (.slice a bs.length cap) bs) := ⟨(HV.out.off (Nat.le_refl _)).below HB1.out⟩
  clear hw1
  go_wp2_with fail
  refine (feed_any w.heap.size (some s0) bs _ _ (HG.out.below HB1.out HG.out.size) HC1.out okO0 HV1.out HG.out.size hL).mono ?_
  rintro e w2 ⟨rfl, hc2, hg2⟩
  have HC2 := Sl.mk hc2
  have HB2 : Sl (Below w.heap.size w w2) := ⟨below_grow HB1.out hg2 (Nat.le_refl _)⟩
  clear hc2 hg2
  go_wp2_with fail
  refine (whole_any w.heap.size _ _ HC2.out (okO0.en bs)).mono ?_
  rintro e w3 ⟨rfl, rfl⟩
  go_wp2
  go_ret
  exact ⟨rfl, HB2.out⟩

/-- Bytes that begin a letter. -/
def cont (x : Nat) : Bool := decide (128 ≤ x ∧ x ≤ 191)
def firsts (bs : List Nat) : Nat := bs.countP fun x => !cont x
theorem firsts_no {x : Nat} (r : List Nat) (h : ¬ (128 ≤ x ∧ x ≤ 191)) : firsts (x :: r) = firsts r + 1 := by
  have e : cont x = false := decide_eq_false h
  simp [firsts, e]
theorem firsts_yes {x : Nat} (r : List Nat) (h : 128 ≤ x ∧ x ≤ 191) : firsts (x :: r) = firsts r := by
  have e : cont x = true := decide_eq_true h
  simp [firsts, e]
theorem firsts_succ (bs : List Nat) (k : Nat) (hk : k < bs.length) : firsts (bs.take (k + 1)) = firsts (bs.take k) + if cont (bs.getD k 0) = true then 0 else 1 := by
  have e : bs.take (k + 1) = bs.take k ++ [bs.getD k 0] := by
    rw [List.take_succ_eq_append_getElem hk]; simp [List.getD, List.getElem?_eq_getElem hk]
  rw [e, firsts, List.countP_append]
  congr 1
  generalize bs.getD k 0 = x
  cases h : cont x <;> simp [h]
theorem firsts_le (bs : List Nat) (k : Nat) : firsts (bs.take k) ≤ bs.length := Nat.le_trans List.countP_le_length (by rw [List.length_take]; omega)
theorem firsts_count (bs : List Nat) : ∀ s t : St, Ok s → uend s bs = some t → firsts bs + (if s.1 = 0 then 0 else 1) = ucount s bs + (if t.1 = 0 then 0 else 1) := by
  induction bs with
  | nil => intro s t _ h; injection h with h; subst h; rfl
  | cons x r ih =>
    intro s t hs h
    simp only [uend] at h
    cases hx : ustep s x with
    | none => rw [hx] at h; cases h
    | some u =>
      rw [hx] at h
      have hi := ih u t (ustep_ok hs hx) h
      have hc : ucount s (x :: r) = ucount u r + if u.1 = 0 then 1 else 0 := by simp only [ucount, hx]
      rw [hc]
      by_cases h0 : s.1 = 0
      · have hl : lead x = some u := by rw [← hx, ustep, if_pos h0]
        have hf : firsts (x :: r) = firsts r + 1 := firsts_no r (fun hn => by rw [lead2n hn.1 (by omega)] at hl; cases hl)
        rw [hf, if_pos h0]
        by_cases hu : u.1 = 0
        · rw [if_pos hu] at hi ⊢; omega
        · rw [if_neg hu] at hi ⊢; omega
      · have hin : s.2.1 ≤ x ∧ x ≤ s.2.2 := by
          by_cases q : s.2.1 ≤ x ∧ x ≤ s.2.2
          · exact q
          · rw [ustep, if_neg h0, if_neg q] at hx; cases hx
        have hf : firsts (x :: r) = firsts r := firsts_yes r (by
          rcases hs with rfl | rfl | rfl | rfl | rfl | rfl | rfl | rfl <;> simp [s0] at hin h0 ⊢ <;> omega)
        have hu : u.1 = s.1 - 1 := by rw [ustep, if_neg h0, if_pos hin] at hx; injection hx with hx; rw [← hx]
        rw [hf, if_neg h0]
        by_cases hu : u.1 = 0
        · rw [if_pos hu] at hi ⊢; omega
        · rw [if_neg hu] at hi ⊢; omega
theorem firsts_valid (bs : List Nat) (h : uend s0 bs = some s0) : firsts bs = ucount s0 bs := by
  have := firsts_count bs s0 s0 (.inl rfl) h
  simpa [s0] using this

theorem hold_eq (b : Nat) (w : World) : Calls Tryd.prog 23 #[.agg #[.int .u8 128, .int .u8 191], .int .u8 b] w fun e w' => e = .returned (.bool (cont b)) ∧ Below w.heap.size w w' := hold_any 128 191 b w
/-- What the loop of Count holds to. -/
structure CR (w w1 : World) (wr : World) : Prop where
  b : Below w.heap.size w wr
  c : wr.heap[w1.heap.size]? = some (.cells #[.int .u8 128, .int .u8 191] 43 (0, 0))

set_option maxHeartbeats 400000 in
theorem count_yes (bs : List Nat) (v : Value) (w : World) (hg : Globs w) (hv : SrcAt w v bs) (hL : bs.length ≤ 100000) (h : vb bs = true) :
    Calls Tryd.prog 14 #[v] w fun e w' => e = .returned (.tuple #[.int .i64 (ucount s0 bs : Nat), .bool true]) ∧ Below w.heap.size w w' := by
  have HG := Sl.mk hg
  have HV := Sl.mk hv
  obtain ⟨a, cap, sb, so, rfl, h1, h3, h5⟩ := hv
  have HVB := Sl.mk (valid_any bs _ w hg HV.out hL)
  rw [h] at HVB
  have HF : Sl (firsts bs = ucount s0 bs) := ⟨firsts_valid bs (of_decide_eq_true h)⟩
  have H3 := Sl.mk h3
  have H5 := Sl.mk h5
  clear hg h h3 h5
  go_enter Tryd.func14, Tryd.ntmps14
  go_wp2_with fail
  refine HVB.out.mono ?_
  rintro e w1 ⟨rfl, hb1⟩
  have HB1 := Sl.mk hb1
  clear hb1
  go_wp2
  go_loopw [4, 14] (fun c i wr => ∃ k n : Nat, k ≤ bs.length ∧ i = .int .i64 k ∧ c = .int .i64 n ∧ n ≤ 100000 ∧ Sl (n = firsts (bs.take k)) ∧ CR w w1 wr) (fun _ i _ => bs.length - (intOf i).toNat)
  case atStart => exact ⟨0, 0, by omega, rfl, rfl, by omega, ⟨rfl⟩, ⟨HB1.out.alloc HB1.out.size _, alloc_new _ _ _ rfl⟩⟩
  case round =>
    obtain ⟨k, n, hk, rfl, rfl, hn, HN, hcr⟩ := hrel
    have HCR := Sl.mk hcr
    clear hcr
    by_cases hlt : k < bs.length
    · obtain rfl := H3.out (by omega)
      obtain ⟨x, hx⟩ : ∃ x, x = bs.getD k 0 := ⟨_, rfl⟩
      have hcell : wr.cell? ⟨sb, so + k, none⟩ = some (.int .u8 (x : Int)) := by
        rw [HCR.out.b.cell (p := ⟨sb, so + k, none⟩) (block_lt_of_cell (H5.out k hlt)), hx]
        exact H5.out k hlt
      have c0 : wr.cell? ⟨w1.heap.size, 0, none⟩ = some (.int .u8 128) := by rw [cell_of_row _ _ _ _ _ _ HCR.out.c]; rfl
      have c1 : wr.cell? ⟨w1.heap.size, 1, none⟩ = some (.int .u8 191) := by rw [cell_of_row _ _ _ _ _ _ HCR.out.c]; rfl
      have HS : Sl (firsts (bs.take (k + 1)) = n + if cont x = true then 0 else 1) := ⟨by rw [firsts_succ bs k hlt, ← hx, HN.out]⟩
      have HLE : Sl (firsts (bs.take (k + 1)) ≤ 100000) := ⟨Nat.le_trans (firsts_le bs _) hL⟩
      have HH := Sl.mk (hold_eq x)
      clear hx
      cases hc : cont x with
      | true =>
        rw [hc] at HH HS
        go_wp2_with fail
        refine (HH.out _).mono ?_
        rintro e w2 ⟨rfl, hb2⟩
        have HCR2 : Sl (CR w w1 w2) := ⟨⟨HCR.out.b.trans (hb2.mono HCR.out.b.size), by rw [hb2.block _ (Array.getElem?_eq_some_iff.1 HCR.out.c).1]; exact HCR.out.c⟩⟩
        clear hb2
        go_wp2
        go_roundw
        case rel => exact ⟨k + 1, n, by omega, by go_num, rfl, hn, ⟨by rw [HS.out]; simp⟩, HCR2.out⟩
        case measure => simp [intOf]; omega
      | false =>
        rw [hc] at HH HS
        go_wp2_with fail
        refine (HH.out _).mono ?_
        rintro e w2 ⟨rfl, hb2⟩
        have HCR2 : Sl (CR w w1 w2) := ⟨⟨HCR.out.b.trans (hb2.mono HCR.out.b.size), by rw [hb2.block _ (Array.getElem?_eq_some_iff.1 HCR.out.c).1]; exact HCR.out.c⟩⟩
        clear hb2
        go_wp2
        go_roundw
        case rel => exact ⟨k + 1, n + 1, by omega, by go_num, by go_num, by have h1 := HS.out; have h2 := HLE.out; simp at h1; omega, ⟨by rw [HS.out]; simp⟩, HCR2.out⟩
        case measure => simp [intOf]; omega
    · have hge : ¬ (k : Int) < (bs.length : Int) := by omega
      have HE : Sl (n = ucount s0 bs) := ⟨by have h := HN.out; rw [List.take_of_length_le (by omega)] at h; rw [h]; exact HF.out⟩
      go_wp2
      go_ret2
      exact ⟨by rw [← HE.out]; rfl, HCR.out.b⟩
theorem count_no (bs : List Nat) (v : Value) (w : World) (hg : Globs w) (hv : SrcAt w v bs) (hL : bs.length ≤ 100000) (h : vb bs = false) :
    Calls Tryd.prog 14 #[v] w fun e w' => e = .returned (.tuple #[.int .i64 0, .bool false]) ∧ Below w.heap.size w w' := by
  have HV := Sl.mk hv
  obtain ⟨a, cap, sb, so, rfl, -⟩ := hv
  have HVB := Sl.mk (valid_any bs _ w hg HV.out hL)
  rw [h] at HVB
  clear hg h
  go_enter Tryd.func14, Tryd.ntmps14
  go_wp2_with fail
  refine HVB.out.mono ?_
  rintro e w1 ⟨rfl, hb1⟩
  have HB1 := Sl.mk hb1
  clear hb1
  go_wp2
  go_ret2
  exact ⟨rfl, HB1.out⟩
/-- Of how many letters. -/
def cb (bs : List Nat) : Nat := if vb bs = true then ucount s0 bs else 0
theorem count_any (bs : List Nat) (v : Value) (w : World) (hg : Globs w) (hv : SrcAt w v bs) (hL : bs.length ≤ 100000) :
    Calls Tryd.prog 14 #[v] w fun e w' => e = .returned (.tuple #[.int .i64 (cb bs : Nat), .bool (vb bs)]) ∧ Below w.heap.size w w' := by
  cases h : vb bs with
  | true => have e : cb bs = ucount s0 bs := if_pos h
            rw [e]; exact count_yes bs v w hg hv hL h
  | false => have e : cb bs = 0 := by unfold cb; rw [h]; rfl
             rw [e]; exact count_no bs v w hg hv hL h
end Go.Proofs.YtlkfkglcefhbgaaDoor
