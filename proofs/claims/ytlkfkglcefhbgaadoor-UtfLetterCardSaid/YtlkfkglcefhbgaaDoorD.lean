/- The contracts of New, Right, Whole, Reset and Feed of package utf. Conditions: the table is as the text lays it; the bytes lie outside the checker. -/
import Derived.Test.YtlkfkglcefhbgaaDoorC
namespace Go.Proofs.YtlkfkglcefhbgaaDoor
open Go.RowKit

/-- The checker at b, where a wrong byte may have come. -/
def ChkO (w : World) (b : Nat) : Option St → Prop
  | some s => ChkSt w b s false
  | none => ∃ n0 n1 l, ChkAt w b n0 n1 l true
/-- How many bytes are right, behind what came. -/
def rt : Option St → List Nat → Nat
  | some s, bs => uright s bs
  | none, _ => 0
/-- What stands behind more bytes. -/
def en (o : Option St) (bs : List Nat) : Option St := o.bind fun s => uend s bs
def OkO (o : Option St) : Prop := ∀ s, o = some s → Ok s
theorem ok_le {s : St} (h : Ok s) : s.1 ≤ 3 := by rcases h with rfl | rfl | rfl | rfl | rfl | rfl | rfl | rfl <;> simp [s0]

theorem new_any (w : World) : Calls Tryd.prog 10 #[] w fun e w' => e = .returned (.pointer (some ⟨w.heap.size, 0, none⟩)) ∧ w' = w.alloc (.cells #[.int .u8 0, .int .u8 0, .int .i64 0, .bool false] 45) := by
  go_enter Tryd.func10, Tryd.ntmps10
  go_wp2
  go_ret
  exact ⟨rfl, rfl⟩
theorem chk_new (w : World) : ChkO (w.alloc (.cells #[.int .u8 0, .int .u8 0, .int .i64 0, .bool false] 45)) w.heap.size (some s0) := ⟨0, 0, alloc_new _ _ _ rfl, fun h => absurd rfl h⟩

theorem right_any (b : Nat) (o : Option St) (w : World) (hc : ChkO w b o) : Calls Tryd.prog 15 #[.pointer (some ⟨b, 0, none⟩)] w fun e w' => e = .returned (.bool o.isSome) ∧ w = w' := by
  obtain ⟨n0, n1, l, bad, hb, hc⟩ : ∃ n0 n1 l bad, bad = !o.isSome ∧ ChkAt w b n0 n1 l bad := by
    cases o with
    | none => obtain ⟨n0, n1, l, h⟩ := hc; exact ⟨n0, n1, l, true, rfl, h⟩
    | some s => obtain ⟨n0, n1, h, _⟩ := hc; exact ⟨n0, n1, s.1, false, rfl, h⟩
  have d3 : w.cell? ⟨b, 3, none⟩ = some (.bool bad) := by rw [cell_of_row _ _ _ _ _ _ hc]; rfl
  have HB := Sl.mk hb
  clear hc hb
  go_enter Tryd.func15, Tryd.ntmps15
  go_wp2
  go_ret
  exact ⟨ret_bool (by rw [HB.out]; simp), rfl⟩
theorem whole_any (b : Nat) (o : Option St) (w : World) (hc : ChkO w b o) (ok : OkO o) : Calls Tryd.prog 16 #[.pointer (some ⟨b, 0, none⟩)] w fun e w' => e = .returned (.bool (decide (o = some s0))) ∧ w = w' := by
  cases o with
  | none =>
    obtain ⟨n0, n1, l, hc⟩ := hc
    have d3 : w.cell? ⟨b, 3, none⟩ = some (.bool true) := by rw [cell_of_row _ _ _ _ _ _ hc]; rfl
    clear hc ok
    go_enter Tryd.func16, Tryd.ntmps16
    go_wp2
    go_ret
    exact ⟨ret_bool (by simp), rfl⟩
  | some s =>
    obtain ⟨n0, n1, hc, _⟩ := hc
    have d3 : w.cell? ⟨b, 3, none⟩ = some (.bool false) := by rw [cell_of_row _ _ _ _ _ _ hc]; rfl
    have d2 : w.cell? ⟨b, 2, none⟩ = some (.int .i64 s.1) := by rw [cell_of_row _ _ _ _ _ _ hc]; rfl
    have hz : Sl (((s.1 : Int) == 0) = decide (some s = some s0)) := ⟨by
      rcases ok s rfl with rfl | rfl | rfl | rfl | rfl | rfl | rfl | rfl <;> decide⟩
    clear hc ok
    go_enter Tryd.func16, Tryd.ntmps16
    go_wp2
    go_ret
    exact ⟨ret_bool hz.out, rfl⟩
theorem reset_any (b : Nat) (o : Option St) (w : World) (hc : ChkO w b o) : Calls Tryd.prog 19 #[.pointer (some ⟨b, 0, none⟩)] w fun e w' => e = .returned (.tuple #[]) ∧ ChkO w' b (some s0) ∧ w.grownBy w' (some b) := by
  obtain ⟨n0, n1, l, bad, hc⟩ : ∃ n0 n1 l bad, ChkAt w b n0 n1 l bad := by
    cases o with
    | none => obtain ⟨n0, n1, l, h⟩ := hc; exact ⟨n0, n1, l, true, h⟩
    | some s => obtain ⟨n0, n1, h, _⟩ := hc; exact ⟨n0, n1, s.1, false, h⟩
  have d0 : w.cell? ⟨b, 0, none⟩ = some (.int .u8 n0) := by rw [cell_of_row _ _ _ _ _ _ hc]; rfl
  have d1 : w.cell? ⟨b, 1, none⟩ = some (.int .u8 n1) := by rw [cell_of_row _ _ _ _ _ _ hc]; rfl
  have d2 : w.cell? ⟨b, 2, none⟩ = some (.int .i64 l) := by rw [cell_of_row _ _ _ _ _ _ hc]; rfl
  have d3 : w.cell? ⟨b, 3, none⟩ = some (.bool bad) := by rw [cell_of_row _ _ _ _ _ _ hc]; rfl
  have f0 : w.frozen? ⟨b, 0, none⟩ = false := frozen_of_row _ _ _ _ _ hc
  have f1 : w.frozen? ⟨b, 1, none⟩ = false := frozen_of_row _ _ _ _ _ hc
  have f2 : w.frozen? ⟨b, 2, none⟩ = false := frozen_of_row _ _ _ _ _ hc
  have f3 : w.frozen? ⟨b, 3, none⟩ = false := frozen_of_row _ _ _ _ _ hc
  have HC := Sl.mk hc
  clear hc
  go_enter Tryd.func19, Tryd.ntmps19
  go_wp2
  go_end0
  refine ⟨rfl, ⟨0, 0, ?_, fun h => absurd rfl h⟩, grown_trans (grown_trans (grown_trans (grown_setCell _ _ _ _) (grown_setCell _ _ _ _)) (grown_setCell _ _ _ _)) (grown_setCell _ _ _ _)⟩
  show _ = _
  rw [heap_setCell_same _ _ _ _ _ _ (heap_setCell_same _ _ _ _ _ _ (heap_setCell_same _ _ _ _ _ _ (heap_setCell_same _ _ _ _ _ _ HC.out)))]
  rfl

/-- The bytes bs lie behind the slice v, outside block b. -/
def SrcN (w : World) (b : Nat) (v : Value) (bs : List Nat) : Prop :=
  ∃ (a : Option Addr) (cap sb so : Nat), v = .slice a bs.length cap ∧ bs.length ≤ cap ∧ (0 < bs.length → a = some ⟨sb, so, none⟩) ∧ (0 < bs.length → sb ≠ b) ∧
    ∀ i, i < bs.length → w.cell? ⟨sb, so + i, none⟩ = some (.int .u8 ((bs.getD i 0 : Nat) : Int))
theorem SrcAt.off {w : World} {v : Value} {bs : List Nat} (h : SrcAt w v bs) {b : Nat} (hb : w.heap.size ≤ b) : SrcN w b v bs := by
  obtain ⟨a, cap, sb, so, h0, h1, h3, h5⟩ := h
  refine ⟨a, cap, sb, so, h0, h1, h3, fun hp => ?_, h5⟩
  have := block_lt_of_cell (h5 0 hp)
  intro e; simp only at this; omega
theorem SrcN.any {w : World} {v : Value} {bs : List Nat} {b : Nat} (h : SrcN w b v bs) : SrcAt w v bs := by
  obtain ⟨a, cap, sb, so, h0, h1, h3, _, h5⟩ := h
  exact ⟨a, cap, sb, so, h0, h1, h3, h5⟩
theorem SrcAt.below {w w' : World} {v : Value} {bs : List Nat} (h : SrcAt w v bs) (hb : Below w.heap.size w w') : SrcAt w' v bs := by
  obtain ⟨a, cap, sb, so, h0, h1, h3, h5⟩ := h
  exact ⟨a, cap, sb, so, h0, h1, h3, fun i hi => by rw [hb.cell (p := ⟨sb, so + i, none⟩) (block_lt_of_cell (h5 i hi))]; exact h5 i hi⟩
theorem SrcN.below {w w' : World} {v : Value} {bs : List Nat} {b : Nat} (h : SrcN w b v bs) (hb : Below w.heap.size w w') : SrcN w' b v bs := by
  obtain ⟨a, cap, sb, so, h0, h1, h3, h4, h5⟩ := h
  exact ⟨a, cap, sb, so, h0, h1, h3, h4, fun i hi => by rw [hb.cell (p := ⟨sb, so + i, none⟩) (block_lt_of_cell (h5 i hi))]; exact h5 i hi⟩
theorem SrcN.grown {w w' : World} {v : Value} {bs : List Nat} {b : Nat} (h : SrcN w b v bs) (hb : w.grownBy w' (some b)) : SrcN w' b v bs := by
  obtain ⟨a, cap, sb, so, h0, h1, h3, h4, h5⟩ := h
  refine ⟨a, cap, sb, so, h0, h1, h3, h4, fun i hi => ?_⟩
  rw [World.cell?_of_block (w := w) (hb.block sb (block_lt_of_cell (h5 i hi)) (fun e => h4 (by omega) (by injection e)))]
  exact h5 i hi

theorem uend_succ (s : St) (bs : List Nat) (k : Nat) (hk : k < bs.length) : uend s (bs.take (k + 1)) = (uend s (bs.take k)).bind fun t => ustep t (bs.getD k 0) := by
  have e : bs.take (k + 1) = bs.take k ++ [bs.getD k 0] := by
    rw [List.take_succ_eq_append_getElem hk]; simp [List.getD, List.getElem?_eq_getElem hk]
  rw [e, uend_append]
  congr 1
  funext t
  simp only [uend]
  cases ustep t (bs.getD k 0) <;> rfl
theorem uright_stop (s t : St) (bs : List Nat) (k : Nat) (hk : k < bs.length) (h : uend s (bs.take k) = some t) (hs : ustep t (bs.getD k 0) = none) : uright s bs = k ∧ uend s bs = none := by
  have e : bs = bs.take k ++ bs.drop k := (List.take_append_drop k bs).symm
  have ed : bs.drop k = bs.getD k 0 :: bs.drop (k + 1) := by
    rw [List.drop_eq_getElem_cons hk]; simp [List.getD, List.getElem?_eq_getElem hk]
  constructor
  · conv => lhs; rw [e]
    rw [uright_append, h, ed]
    simp only [uright, hs, List.length_take, Nat.min_eq_left (Nat.le_of_lt hk)]
    omega
  · conv => lhs; rw [e]
    rw [uend_append, h, ed]
    simp only [Option.bind_some, uend, hs]
theorem uright_all (s t : St) (bs : List Nat) (h : uend s bs = some t) : uright s bs = bs.length := (uend_iff bs s).1 (by rw [h]; rfl)
theorem uend_ok {s t : St} (bs : List Nat) (hs : Ok s) (h : uend s bs = some t) : Ok t := by
  induction bs generalizing s with
  | nil => injection h with h; subst h; exact hs
  | cons x r ih =>
    simp only [uend] at h
    cases hx : ustep s x with
    | none => rw [hx] at h; cases h
    | some u => rw [hx] at h; exact ih (ustep_ok hs hx) h
theorem OkO.en {o : Option St} (h : OkO o) (bs : List Nat) : OkO (en o bs) := by
  intro t ht
  cases o with
  | none => cases ht
  | some s => exact uend_ok bs (h s rfl) ht

/-- What the loop of Feed holds to. -/
def FR (w : World) (b : Nat) (s : St) (bs : List Nat) (k : Nat) (wr : World) : Prop := ∃ t, uend s (bs.take k) = some t ∧ ChkSt wr b t false ∧ w.grownBy wr (some b)
theorem globs_grown {w w' : World} {b : Nat} (h : Globs w) (hb : 1 ≤ b) (hg : w.grownBy w' (some b)) : Globs w' :=
  ⟨fun j v hv => by
    rw [World.cell?_of_block (w := w) (hg.block 0 (by have := h.size; omega) (fun e => by injection e with e; omega))]
    exact h.t j v hv⟩

set_option maxHeartbeats 400000 in
theorem feed_any (b : Nat) (o : Option St) (bs : List Nat) (v : Value) (w : World) (hg : Globs w) (hc : ChkO w b o) (ok : OkO o) (hv : SrcN w b v bs) (hb : 1 ≤ b) (hL : bs.length ≤ 100000) :
    Calls Tryd.prog 13 #[.pointer (some ⟨b, 0, none⟩), v] w fun e w' => e = .returned (.int .i64 (rt o bs : Nat)) ∧ ChkO w' b (en o bs) ∧ w.grownBy w' (some b) := by
  cases o with
  | none =>
    obtain ⟨a, cap, sb, so, rfl, -⟩ := hv
    obtain ⟨n0, n1, l, hc⟩ := hc
    have d3 : w.cell? ⟨b, 3, none⟩ = some (.bool true) := by rw [cell_of_row _ _ _ _ _ _ hc]; rfl
    have HC := Sl.mk hc
    clear hc ok hg
    go_enter Tryd.func13, Tryd.ntmps13
    go_wp2
    go_ret
    exact ⟨rfl, ⟨n0, n1, l, HC.out⟩, grown_refl _ _⟩
  | some s =>
    have HV := Sl.mk hv
    obtain ⟨a, cap, sb, so, rfl, h1, h3, h4, h5⟩ := hv
    have HC := Sl.mk hc
    obtain ⟨n0, n1, hc, hn⟩ := hc
    have d3 : w.cell? ⟨b, 3, none⟩ = some (.bool false) := by rw [cell_of_row _ _ _ _ _ _ hc]; rfl
    have OKS := Sl.mk (ok s rfl)
    have HG := Sl.mk hg
    have H3 := Sl.mk h3
    have H4 := Sl.mk h4
    have H5 := Sl.mk h5
    clear hc ok hg h3 h4 h5 hn
    go_enter Tryd.func13, Tryd.ntmps13
    go_wp2
    go_loopw [13] (fun i wr => ∃ k : Nat, k ≤ bs.length ∧ i = .int .i64 k ∧ FR w b s bs k wr) (fun i _ => bs.length - (intOf i).toNat)
    case atStart => exact ⟨0, by omega, rfl, s, rfl, HC.out, grown_refl _ _⟩
    case round =>
      obtain ⟨k, hk, rfl, t, ht, hct, hgr⟩ := hrel
      have HT := Sl.mk ht
      have HCT := Sl.mk hct
      have HGR := Sl.mk hgr
      clear ht hct hgr
      by_cases hlt : k < bs.length
      · obtain rfl := H3.out (by omega)
        obtain ⟨x, hx⟩ : ∃ x, x = bs.getD k 0 := ⟨_, rfl⟩
        have hcell : wr.cell? ⟨sb, so + k, none⟩ = some (.int .u8 (x : Int)) := by
          rw [World.cell?_of_block (w := w) (HGR.out.block sb (block_lt_of_cell (H5.out k hlt)) (fun e => H4.out (by omega) (by injection e))), hx]
          exact H5.out k hlt
        have HX := Sl.mk hx
        clear hx
        have HTK := Sl.mk (take_any b x t false wr (globs_grown HG.out hb HGR.out) HCT.out (ok_le (uend_ok _ OKS.out HT.out)))
        go_wp2_with fail
        refine HTK.out.mono ?_
        intro e w' hto
        cases hto with
        | yes u _ h c g =>
          have H1 : Sl (FR w b s bs (k + 1) w') := ⟨⟨u, by rw [uend_succ s bs k hlt, HT.out, ← HX.out]; exact h, c, grown_trans HGR.out g⟩⟩
          clear h c g
          go_wp2
          go_roundw
          case rel => exact ⟨k + 1, by omega, by go_num, H1.out⟩
          case measure => simp [intOf]; omega
        | no _ h g =>
          obtain ⟨q1, q2⟩ := uright_stop s t bs k hlt HT.out (by rw [← HX.out]; exact h)
          have Q1 := Sl.mk q1
          have Q2 := Sl.mk q2
          obtain ⟨m0, m1, hm, _⟩ := HCT.out
          have HM : Sl (w'.heap[b]? = some (.cells #[.int .u8 m0, .int .u8 m1, .int .i64 t.1, .bool false] 45 (0, 0))) := ⟨by
            rw [g.block _ (Array.getElem?_eq_some_iff.1 hm).1]; exact hm⟩
          have HGG : Sl (w.grownBy w' (some b)) := ⟨grown_trans HGR.out (grown_below g _)⟩
          have d3' : w'.cell? ⟨b, 3, none⟩ = some (.bool false) := by rw [cell_of_row _ _ _ _ _ _ HM.out]; rfl
          have f3 : w'.frozen? ⟨b, 3, none⟩ = false := frozen_of_row _ _ _ _ _ HM.out
          clear h g q1 q2 hm
          go_wp2
          go_ret
          refine ⟨by rw [show rt (some s) bs = k from Q1.out]; rfl, ?_, grown_trans HGG.out (grown_setCell _ _ _ _)⟩
          rw [show en (some s) bs = none from Q2.out]
          refine ⟨m0, m1, t.1, ?_⟩
          show _ = _
          rw [heap_setCell_same _ _ _ _ _ _ HM.out]
          rfl
      · have hge : ¬ (k : Int) < (bs.length : Int) := by omega
        have HE : Sl (uend s bs = some t) := ⟨by have h := HT.out; rw [List.take_of_length_le (by omega)] at h; exact h⟩
        go_wp2
        go_ret
        exact ⟨by rw [show rt (some s) bs = bs.length from uright_all s t bs HE.out]; rfl, by rw [show en (some s) bs = some t from HE.out]; exact HCT.out, HGR.out⟩
end Go.Proofs.YtlkfkglcefhbgaaDoor
