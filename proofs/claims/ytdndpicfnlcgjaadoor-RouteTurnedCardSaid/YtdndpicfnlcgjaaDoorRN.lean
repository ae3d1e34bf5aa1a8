/- Sets of texts, whether texts are few, whether one is there; whether an origin may ask (what names and shake have of it). -/
import Derived.Test.YtdndpicfnlcgjaaDoorStrsOwn
import Derived.Maps.OwnSet
import Derived.Carry
import Derived.WalkMore
import Derived.WalkSmall
set_option maxRecDepth 100000
namespace Go.Proofs.YtdndpicfnlcgjaaDoor.Nam
open Go.RowKit Go.Maps Go.ChangeMaps Go.MapKept

theorem law9 : Keyed Tryd.prog 9 := string_keyed Tryd.underlying9
theorem zero47 (w : World) : (zeroValue 59).run Tryd.prog w = .ok (.agg #[]) w := by kernel_rfl
def lit (s : ByteArray) : Lit := .string s.data.toList
theorem key_str (s : ByteArray) (h : s.size ≤ maxLen) : keyOf Tryd.prog 9 (.string s) = some (lit s) := Go.WideMaps.keyOf_string_mk Tryd.underlying9 h
theorem lit_inj {a b : ByteArray} (h : lit a = lit b) : a = b := by
  unfold lit at h
  injection h with h
  cases a; cases b
  simp at h
  simp [h]
theorem lit_key (s : ByteArray) : WideAt.IsKeyLit (lit s) := trivial
/-- The set of the first k texts. -/
def Sd (l : List ByteArray) : DataW Unit := setOf (.agg []) (l.map lit)
theorem Sd_snoc (l : List ByteArray) (s : ByteArray) : Sd (l ++ [s]) = (Sd l).put (lit s) (.agg []) := by unfold Sd; rw [List.map_append]; exact setOf_snoc _ _ _
theorem bytes_lit (a b : ByteArray) : bytes a = bytes b ↔ lit a = lit b :=
  ⟨fun h => by rw [bytes_inj h], fun h => by rw [lit_inj h]⟩
theorem has_Sd (l : List ByteArray) (s : ByteArray) : Maps.has (Sd l) (lit s) = decide (bytes s ∈ l.map bytes) := by
  unfold Sd
  rw [has_setOf _ _ _ (fun y hy => by obtain ⟨_, _, rfl⟩ := List.mem_map.1 hy; trivial), Bool.eq_iff_iff, List.any_eq_true, decide_eq_true_eq]
  constructor
  · rintro ⟨y, hy, hs⟩
    obtain ⟨x, hx, rfl⟩ := List.mem_map.1 hy
    have := WideAt.sameKey_eq hs
    exact List.mem_map.2 ⟨x, hx, (bytes_lit _ _).2 this⟩
  · intro h
    obtain ⟨x, hx, e⟩ := List.mem_map.1 h
    exact ⟨lit x, List.mem_map.2 ⟨x, hx, rfl⟩, by rw [(bytes_lit _ _).1 e]; exact WideAt.sameKey_self (lit_key s)⟩
theorem make_map (n : Int) (w : World) : (Instr.makeMap 57 (some (.int .i64 n))).run Tryd.prog w = .ok (.map (some w.heap.size)) (w.alloc (.map #[] 0)) := by
  simp [Instr.makeMap, run_underlying Tryd.underlying57, Result.andThen]
  rfl
/-- A set of texts lies in block b. -/
def SetAt (w : World) (b : Nat) (l : List ByteArray) : Prop := w.ownsMap Tryd.prog 9 (unitElem (H := Unit)) b l.length (Sd l)
theorem SetAt.below {w w' : World} {b : Nat} {l : List ByteArray} (h : SetAt w b l) (hb : Below w.heap.size w w') : SetAt w' b l :=
  h.kept (grown_below hb none) (by simp)
theorem take_snoc {l : List ByteArray} {k : Nat} (h : k < l.length) : l.take (k + 1) = l.take k ++ [l.getD k ByteArray.empty] := by
  rw [List.take_succ_eq_append_getElem h, List.getD_eq_getElem?_getD, List.getElem?_eq_getElem h]; rfl
set_option maxRecDepth 100000 in
set_option maxHeartbeats 800000 in
theorem setOf_any (l : List ByteArray) (v : Value) (w : World) (hv : StrA w v l) (hl : l.length ≤ 1000000) (hs : ∀ s ∈ l, s.size ≤ maxLen) :
    Calls Tryd.prog 30 #[v] w fun e w' => e = .returned (.map (some w.heap.size)) ∧ Sl (SetAt w' w.heap.size l) ∧ Sl (Below w.heap.size w w') := by
  obtain ⟨ad, ca, sa, oa, rfl, hca, haa, hcell⟩ := hv
  have HA := Sl.mk hcell
  have HAA := Sl.mk haa
  have HSZ := Sl.mk hs
  clear hcell haa hs hca
  obtain ⟨n, hn⟩ : ∃ n, l.length = n := ⟨_, rfl⟩
  have HN := Sl.mk hn
  rw [hn] at hl
  rw [hn]
  clear hn
  have hmm := make_map
  go_enter Tryd.func30, Tryd.ntmps30
  go_wp2
  go_loopw [11] (fun i wr => ∃ k : Nat, k ≤ n ∧ i = .int .i64 k ∧ Sl (wr.ownsMap Tryd.prog 9 (unitElem (H := Unit)) w.heap.size k (Sd (l.take k))) ∧ Sl (Below w.heap.size w wr)) (fun i _ => n - (intOf i).toNat)
  case atStart => exact ⟨0, Nat.zero_le _, rfl, ⟨World.ownsMap_made _ _ _ _⟩, ⟨(Below.refl _ _).alloc (Nat.le_refl _) _⟩⟩
  case round =>
    obtain ⟨k, hk, rfl, HO, HB⟩ := hrel
    by_cases hlt : k < n
    · obtain rfl := HAA.out (by rw [HN.out]; omega)
      obtain ⟨p, hp⟩ : ∃ p, l.getD k ByteArray.empty = p := ⟨_, rfl⟩
      have HP := Sl.mk hp
      have e0 : wr.cell? ⟨sa, oa + k, none⟩ = some (.string p) := by
        have h1 := HA.out k (by rw [HN.out]; omega)
        rw [HB.out.cell (p := ⟨sa, oa + k, none⟩) (block_lt_of_cell h1), h1, hp]
      have HKEY : Sl (keyOf Tryd.prog 9 (.string p) = some (lit p)) := ⟨key_str p (HSZ.out p (by
        rw [← hp, List.getD_eq_getElem?_getD, List.getElem?_eq_getElem (by rw [HN.out]; omega)]; exact List.getElem_mem _))⟩
      have hk0 : (0 : Int) ≤ (k : Int) := by omega
      have hk1 : (k : Int) < (n : Int) := by omega
      clear hp
      go_wp2_with (first
        | (at_mapUpdate; refine wpList_mapUpdate_own _ rfl _ _ _ 57 rfl 9 59 law9 Tryd.underlying57 (unitElem (H := Unit)) w.heap.size k _ rfl HO.out (by unfold maxLen; omega) _ _ _ rfl rfl HKEY.out _ [] unitElem_mk ?_; intro w1 hown1 hgrow1; have HO1 := Sl.mk hown1; have HG1 := Sl.mk hgrow1; clear hown1 hgrow1)
        | fail)
      refine ⟨⟨k + 1, by omega, by go_num, ⟨?_⟩, ⟨HB.out.grown HG1.out HB.out.size (fun j hj => by cases hj; exact Nat.le_refl _)⟩⟩, by simp [intOf]; omega⟩
      rw [take_snoc (by rw [HN.out]; exact hlt), HP.out, Sd_snoc]
      exact HO1.out
    · have hge : ((k : Int) < (n : Int)) = False := eq_false (by omega)
      go_wp2
      go_ret
      refine ⟨rfl, ⟨?_⟩, HB⟩
      obtain rfl : k = n := by omega
      unfold SetAt
      have := HO.out
      rw [List.take_of_length_le (by rw [HN.out]; exact Nat.le_refl _)] at this
      rw [HN.out]
      exact this
theorem any_hit {l : List ByteArray} {p : ByteArray → Bool} {k : Nat} (hk : k < l.length) (h : p (l.getD k ByteArray.empty) = true) : l.any p = true := by
  rw [List.any_eq_true]
  rw [List.getD_eq_getElem?_getD, List.getElem?_eq_getElem hk] at h
  exact ⟨_, List.getElem_mem hk, h⟩
theorem any_miss {l : List ByteArray} {p : ByteArray → Bool} (h : ∀ j, j < l.length → p (l.getD j ByteArray.empty) = false) : l.any p = false := by
  rw [List.any_eq_false]
  intro x hx
  obtain ⟨j, hj, rfl⟩ := List.mem_iff_getElem.1 hx
  have := h j hj
  rw [List.getD_eq_getElem?_getD, List.getElem?_eq_getElem hj] at this
  simpa using this
/-- Not too many texts, none too long. -/
def fewB (l : List ByteArray) : Bool := (l.all fun s => decide (s.size ≤ 300)) && decide (l.length ≤ 30)
theorem fewB_yes {l : List ByteArray} (h : fewB l = true) : (∀ s ∈ l, s.size ≤ 300) ∧ l.length ≤ 30 := by
  unfold fewB at h
  rw [Bool.and_eq_true, List.all_eq_true, decide_eq_true_eq] at h
  exact ⟨fun s hs => of_decide_eq_true (h.1 s hs), h.2⟩
theorem getD_mem {l : List ByteArray} {k : Nat} (hk : k < l.length) : l.getD k ByteArray.empty ∈ l := by
  rw [List.getD_eq_getElem?_getD, List.getElem?_eq_getElem hk]; exact List.getElem_mem _
set_option maxHeartbeats 800000 in
theorem few_any (l : List ByteArray) (v : Value) (W : World) (hv : StrA W v l) (hl : l.length ≤ maxLen) (hs : ∀ s ∈ l, s.size ≤ maxLen) : Calls Tryd.prog 14 #[v] W fun e w' => e = .returned (.bool (fewB l)) ∧ W = w' := by
  obtain ⟨ad, ca, sa, oa, rfl, hca, haa, hcell⟩ := hv
  unfold maxLen at hl hs
  have HA := Sl.mk hcell
  have HAA := Sl.mk haa
  have HSZ := Sl.mk hs
  clear hcell haa hca hs
  obtain ⟨n, hn⟩ : ∃ n, l.length = n := ⟨_, rfl⟩
  have HN := Sl.mk hn
  rw [hn] at hl ⊢
  clear hn
  go_enter Tryd.func14, Tryd.ntmps14
  go_wp2
  go_loop [3] (fun i => ∃ k : Nat, k ≤ n ∧ i = .int .i64 k ∧ Sl (∀ j, j < k → (l.getD j ByteArray.empty).size ≤ 300)) (fun i => n - (intOf i).toNat)
  case atStart => exact ⟨0, Nat.zero_le _, rfl, ⟨fun j hj => by omega⟩⟩
  case round =>
    obtain ⟨k, hk, rfl, HE⟩ := hrel
    by_cases hlt : k < n
    · obtain rfl := HAA.out (by rw [HN.out]; omega)
      obtain ⟨p, hp⟩ : ∃ p, l.getD k ByteArray.empty = p := ⟨_, rfl⟩
      have HP := Sl.mk hp
      have hps : p.size ≤ 2 ^ 63 - 1 := HSZ.out p (by rw [← hp]; exact getD_mem (by rw [HN.out]; exact hlt))
      have e0 : W.cell? ⟨sa, oa + k, none⟩ = some (.string p) := by rw [HA.out k (by rw [HN.out]; omega), hp]
      have hk0 : (0 : Int) ≤ (k : Int) := by omega
      have hk1 : (k : Int) < (n : Int) := by omega
      clear hp
      by_cases h3 : p.size ≤ 300
      · have h3' : ((300 : Int) < (p.size : Int)) = False := eq_false (by omega)
        go_wp2
        go_round
        case rel =>
          refine ⟨k + 1, by omega, by go_num, ⟨fun j hj => ?_⟩⟩
          by_cases e : j = k
          · subst e; rw [HP.out]; exact h3
          · exact HE.out j (by omega)
        case measure => simp [intOf]; omega
      · have h3' : ((300 : Int) < (p.size : Int)) = True := eq_true (by omega)
        go_wp2
        go_ret
        refine ⟨ret_bool ?_, rfl⟩
        unfold fewB
        rw [show (l.all fun s => decide (s.size ≤ 300)) = false from by
          rw [List.all_eq_false]
          exact ⟨p, by rw [← HP.out]; exact getD_mem (by rw [HN.out]; exact hlt), by simpa using h3⟩]
        rfl
    · have hge : ((k : Int) < (n : Int)) = False := eq_false (by omega)
      have HALL : Sl ((l.all fun s => decide (s.size ≤ 300)) = true) := ⟨by
        rw [List.all_eq_true]
        intro s hs
        obtain ⟨j, hj, rfl⟩ := List.mem_iff_getElem.1 hs
        have := HE.out j (by rw [HN.out] at hj; omega)
        rw [List.getD_eq_getElem?_getD, List.getElem?_eq_getElem hj] at this
        exact decide_eq_true this⟩
      go_wp2
      go_ret
      refine ⟨ret_bool ?_, rfl⟩
      unfold fewB
      rw [HALL.out, Bool.true_and, HN.out, Bool.eq_iff_iff]
      simp
      omega
set_option maxHeartbeats 800000 in
theorem in_any (s : ByteArray) (l : List ByteArray) (v : Value) (W : World) (hv : StrA W v l) (hl : l.length ≤ 1000000) : Calls Tryd.prog 22 #[.string s, v] W fun e w' => e = .returned (.bool (decide (bytes s ∈ l.map bytes))) ∧ W = w' := by
  obtain ⟨ad, ca, sa, oa, rfl, hca, haa, hcell⟩ := hv
  have HA := Sl.mk hcell
  have HAA := Sl.mk haa
  clear hcell haa hca
  obtain ⟨n, hn⟩ : ∃ n, l.length = n := ⟨_, rfl⟩
  have HN := Sl.mk hn
  rw [hn] at hl ⊢
  clear hn
  go_enter Tryd.func22, Tryd.ntmps22
  go_wp2
  go_loop [5] (fun i => ∃ k : Nat, k ≤ n ∧ i = .int .i64 k ∧ Sl (∀ j, j < k → bytes s ≠ bytes (l.getD j ByteArray.empty))) (fun i => n - (intOf i).toNat)
  case atStart => exact ⟨0, Nat.zero_le _, rfl, ⟨fun j hj => by omega⟩⟩
  case round =>
    obtain ⟨k, hk, rfl, HE⟩ := hrel
    by_cases hlt : k < n
    · obtain rfl := HAA.out (by rw [HN.out]; omega)
      obtain ⟨p, hp⟩ : ∃ p, l.getD k ByteArray.empty = p := ⟨_, rfl⟩
      have HP := Sl.mk hp
      have HM : Sl (p ∈ l) := ⟨by rw [← hp]; exact getD_mem (by rw [HN.out]; exact hlt)⟩
      have e0 : W.cell? ⟨sa, oa + k, none⟩ = some (.string p) := by rw [HA.out k (by rw [HN.out]; omega), hp]
      have hk0 : (0 : Int) ≤ (k : Int) := by omega
      have hk1 : (k : Int) < (n : Int) := by omega
      clear hp
      obtain ⟨r, hr⟩ : ∃ r, (p.toList == s.toList) = r := ⟨_, rfl⟩
      have HR : Sl (decide (bytes p = bytes s) = r) := ⟨by rw [← beq_bytes2]; exact hr⟩
      cases r with
      | true =>
        go_wp2
        go_ret
        refine ⟨ret_bool (decide_eq_true ?_).symm, rfl⟩
        have := of_decide_eq_true HR.out
        rw [← this]
        exact ⟨p, HM.out, rfl⟩
      | false =>
        go_wp2
        go_round
        case rel =>
          refine ⟨k + 1, by omega, by go_num, ⟨fun j hj => ?_⟩⟩
          by_cases e : j = k
          · subst e; rw [HP.out]; exact fun e => of_decide_eq_false HR.out e.symm
          · exact HE.out j (by omega)
        case measure => simp [intOf]; omega
    · have hge : ((k : Int) < (n : Int)) = False := eq_false (by omega)
      go_wp2
      go_ret
      refine ⟨ret_bool (decide_eq_false (fun e => ?_)).symm, rfl⟩
      obtain ⟨x, hx, hb⟩ := e
      obtain ⟨j, hj, rfl⟩ := List.mem_iff_getElem.1 hx
      have := HE.out j (by rw [HN.out] at hj; omega)
      rw [List.getD_eq_getElem?_getD, List.getElem?_eq_getElem hj] at this
      exact this hb.symm

end Go.Proofs.YtdndpicfnlcgjaaDoor.Nam
namespace Go.Proofs.YtdndpicfnlcgjaaDoor
open Go.RowKit
/-- What an index is, by whether there is one. -/
def IdxP (b : Bool) (e : Ending) : Prop := ∃ z : Int, e = .returned (.int .i64 z) ∧ decide (0 ≤ z) = b
def inB (l : List ByteArray) (x : ByteArray) : Bool := l.any fun y => x.toList == y.toList
theorem inB_eq (l : List ByteArray) (x : ByteArray) : inB l x = decide (bytes x ∈ l.map bytes) := by
  unfold inB
  rw [Bool.eq_iff_iff, List.any_eq_true, decide_eq_true_iff, List.mem_map]
  constructor
  · rintro ⟨y, hy, h⟩
    rw [beq_bytes2, decide_eq_true_iff] at h
    exact ⟨y, hy, h.symm⟩
  · rintro ⟨y, hy, h⟩
    exact ⟨y, hy, by rw [beq_bytes2, decide_eq_true_iff]; exact h.symm⟩
set_option maxHeartbeats 800000 in
theorem index_str (l : List ByteArray) (v : Value) (x : ByteArray) (W : World) (hv : StrA W v l) (hl : l.length ≤ 1000000) :
    Calls Tryd.prog 55 #[v, .string x] W fun e w' => IdxP (inB l x) e ∧ W = w' := by
  obtain ⟨ad, ca, sa, oa, rfl, hca, haa, hcell⟩ := hv
  have HA := Sl.mk hcell
  have HAA := Sl.mk haa
  clear hcell haa hca
  obtain ⟨n, hn⟩ : ∃ n, l.length = n := ⟨_, rfl⟩
  have HN := Sl.mk hn
  rw [hn] at hl ⊢
  clear hn
  go_enter Tryd.func55, Tryd.ntmps55
  go_wp2
  go_loopw [8] (fun i wr => ∃ k : Nat, k ≤ n ∧ i = .int .i64 k ∧ W = wr ∧ Sl (∀ j, j < k → (x.toList == (l.getD j ByteArray.empty).toList) = false)) (fun i _ => n - (intOf i).toNat)
  case atStart => exact ⟨0, Nat.zero_le _, rfl, rfl, ⟨fun j hj => by omega⟩⟩
  case round =>
    obtain ⟨k, hk, rfl, rfl, HE⟩ := hrel
    by_cases hlt : k < n
    · obtain rfl := HAA.out (by rw [HN.out]; omega)
      obtain ⟨p, hp⟩ : ∃ p, l.getD k ByteArray.empty = p := ⟨_, rfl⟩
      have HP := Sl.mk hp
      have e0 : W.cell? ⟨sa, oa + k, none⟩ = some (.string p) := by rw [HA.out k (by rw [HN.out]; omega), hp]
      have hk0 : (0 : Int) ≤ (k : Int) := by omega
      have hk1 : (k : Int) < (n : Int) := by omega
      clear hp
      cases hr : (x.toList == p.toList) with
      | true =>
        go_wp2
        go_ret
        refine ⟨⟨_, rfl, ?_⟩, rfl⟩
        unfold inB
        rw [Nam.any_hit (k := k) (by rw [HN.out]; exact hlt) (by rw [HP.out]; exact hr)]
        exact decide_eq_true (by omega)
      | false =>
        go_wp2
        refine ⟨⟨k + 1, by omega, by go_num, trivial, ⟨fun j hj => ?_⟩⟩, by simp [intOf]; omega⟩
        by_cases e : j = k
        · subst e; rw [HP.out]; exact hr
        · exact HE.out j (by omega)
    · have hge : ((k : Int) < (n : Int)) = False := eq_false (by omega)
      go_wp2
      go_ret
      refine ⟨⟨_, rfl, ?_⟩, rfl⟩
      unfold inB
      rw [Nam.any_miss (fun j hj => HE.out j (by rw [HN.out] at hj; omega))]
      rfl
theorem contains_str (l : List ByteArray) (v : Value) (x : ByteArray) (W : World) (r : Bool) (hr : inB l x = r) (hv : StrA W v l) (hl : l.length ≤ 1000000) :
    Calls Tryd.prog 45 #[v, .string x] W fun e w' => e = .returned (.bool r) ∧ W = w' := by
  have HI := Sl.mk (index_str l v x W hv hl)
  rw [hr] at HI
  clear hr hv
  go_enter Tryd.func45, Tryd.ntmps45
  go_wp2_with (go_at_call 55; refine HI.out.mono ?_; rintro e w' ⟨⟨z, rfl, hz⟩, rfl⟩; have H3 := Sl.mk hz; clear hz)
  go_ret
  exact ⟨ret_bool H3.out, rfl⟩
/-- Whether an origin may ask. -/
def allowB (o : ByteArray) (l : List ByteArray) : Bool := decide (l.length = 0) || inB l o
theorem allowed_any (o : ByteArray) (l : List ByteArray) (v : Value) (W : World) (r : Bool) (hr : allowB o l = r) (hv : StrA W v l) (hl : l.length ≤ 1000000) :
    Calls Tryd.prog 35 #[.string o, v] W fun e w' => e = .returned (.bool r) ∧ W = w' := by
  have HC := Sl.mk (contains_str l v o W (inB l o) rfl hv hl)
  obtain ⟨ad, ca, sa, oa, rfl, _⟩ := hv
  unfold allowB at hr
  by_cases h0 : l.length = 0
  · rw [decide_eq_true h0] at hr
    have HR := Sl.mk hr
    rw [h0] at HC ⊢
    clear hr h0
    go_enter Tryd.func35, Tryd.ntmps35
    go_wp2
    go_ret
    exact ⟨ret_bool HR.out, rfl⟩
  · rw [decide_eq_false h0, Bool.false_or] at hr
    rw [hr] at HC
    have hne : ((l.length : Int) == 0) = false := by simpa using h0
    clear hr
    go_enter Tryd.func35, Tryd.ntmps35
    go_wp2_with (go_at_call 45; refine HC.out.mono ?_; rintro e w' ⟨rfl, rfl⟩)
    go_ret
    exact ⟨rfl, rfl⟩
end Go.Proofs.YtdndpicfnlcgjaaDoor
