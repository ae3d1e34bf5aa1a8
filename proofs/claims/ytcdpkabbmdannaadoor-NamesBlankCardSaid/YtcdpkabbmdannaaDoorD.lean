/- Sets of texts: setOf, First, Once; One. -/
import Derived.Test.YtcdpkabbmdannaaDoorStrsOwn
import Derived.Maps.OwnSet
import Derived.Carry
namespace Go.Proofs.YtcdpkabbmdannaaDoor
open Go.RowKit Go.Maps Go.ChangeMaps Go.MapKept

theorem law9 : Keyed Tryd.prog 9 := string_keyed Tryd.underlying9
theorem zero47 (w : World) : (zeroValue 47).run Tryd.prog w = .ok (.agg #[]) w := by kernel_rfl
def lit (s : ByteArray) : Lit := .string s.data.toList
theorem key_str (s : ByteArray) (h : s.size ≤ maxLen) : keyOf Tryd.prog 9 (.string s) = some (lit s) := Go.WideMaps.keyOf_string_mk Tryd.underlying9 h
theorem lit_inj {a b : ByteArray} (h : lit a = lit b) : a = b := by
  unfold lit at h
  injection h with h
  cases a; cases b
  simp at h
  simp [h]
theorem lit_key (s : ByteArray) : WideAt.IsKeyLit (lit s) := trivial
/-- The set of the first k texts. -/
def Sd (l : List ByteArray) : DataW Unit := setOf (.agg []) (l.map lit)
theorem Sd_snoc (l : List ByteArray) (s : ByteArray) : Sd (l ++ [s]) = (Sd l).put (lit s) (.agg []) := by unfold Sd; rw [List.map_append]; exact setOf_snoc _ _ _
theorem bytes_lit (a b : ByteArray) : bytes a = bytes b ↔ lit a = lit b :=
  ⟨fun h => by rw [bytes_inj h], fun h => by rw [lit_inj h]⟩
theorem has_Sd (l : List ByteArray) (s : ByteArray) : Maps.has (Sd l) (lit s) = decide (bytes s ∈ l.map bytes) := by
  unfold Sd
  rw [has_setOf _ _ _ (fun y hy => by obtain ⟨_, _, rfl⟩ := List.mem_map.1 hy; trivial), Bool.eq_iff_iff, List.any_eq_true, decide_eq_true_eq]
  constructor
  · rintro ⟨y, hy, hs⟩
    obtain ⟨x, hx, rfl⟩ := List.mem_map.1 hy
    have := WideAt.sameKey_eq hs
    exact List.mem_map.2 ⟨x, hx, (bytes_lit _ _).2 this⟩
  · intro h
    obtain ⟨x, hx, e⟩ := List.mem_map.1 h
    exact ⟨lit x, List.mem_map.2 ⟨x, hx, rfl⟩, by rw [(bytes_lit _ _).1 e]; exact WideAt.sameKey_self (lit_key s)⟩
theorem tidy_Sd (l : List ByteArray) : Tidy (Sd l) := tidy_fold (.agg []) (l.map lit) (.map []) tidy_empty (fun y hy => by obtain ⟨_, _, rfl⟩ := List.mem_map.1 hy; trivial)
theorem size_Sd_snoc (l : List ByteArray) (s : ByteArray) : Maps.size (Sd (l ++ [s])) = if bytes s ∈ l.map bytes then Maps.size (Sd l) else Maps.size (Sd l) + 1 := by
  rw [Sd_snoc, size_put (tidy_Sd l), has_Sd]
  simp
/-- As many keys as texts just if no text is there twice. -/
theorem size_Sd : ∀ (n : Nat) (l : List ByteArray), l.length = n → Maps.size (Sd l) ≤ l.length ∧ (Maps.size (Sd l) = l.length ↔ (l.map bytes).Nodup)
  | 0, l, h => by
    obtain rfl := List.length_eq_zero_iff.1 h
    simp [Sd, setOf, Maps.size]
  | n + 1, l, h => by
    rcases List.eq_nil_or_concat l with rfl | ⟨m, s, rfl⟩
    · cases h
    · rw [List.concat_eq_append] at h ⊢
      have hm : m.length = n := by simpa using h
      obtain ⟨h1, h2⟩ := size_Sd n m hm
      rw [size_Sd_snoc]
      rw [List.map_append, List.map_cons, List.map_nil, List.nodup_append, List.length_append]
      by_cases hi : bytes s ∈ m.map bytes
      · rw [if_pos hi]
        refine ⟨by simp; omega, ⟨fun e => by simp at e; omega, fun e => absurd rfl (e.2.2 _ hi _ (by simp))⟩⟩
      · rw [if_neg hi]
        refine ⟨by simp; omega, ⟨fun e => ⟨h2.1 (by simp at e; omega), by simp, fun a ha b hb => ?_⟩, fun e => by have := h2.2 e.1; simp; omega⟩⟩
        simp at hb
        subst hb
        exact fun e => hi (e ▸ ha)
theorem make_map (n : Int) (w : World) : (Instr.makeMap 45 (some (.int .i64 n))).run Tryd.prog w = .ok (.map (some w.heap.size)) (w.alloc (.map #[] 0)) := by
  simp [Instr.makeMap, run_underlying Tryd.underlying45, Result.andThen]
  rfl
/-- A set of texts lies in block b. -/
def SetAt (w : World) (b : Nat) (l : List ByteArray) : Prop := w.ownsMap Tryd.prog 9 (unitElem (H := Unit)) b l.length (Sd l)
theorem SetAt.below {w w' : World} {b : Nat} {l : List ByteArray} (h : SetAt w b l) (hb : Below w.heap.size w w') : SetAt w' b l :=
  h.kept (grown_below hb none) (by simp)
theorem take_snoc {l : List ByteArray} {k : Nat} (h : k < l.length) : l.take (k + 1) = l.take k ++ [l.getD k ByteArray.empty] := by
  rw [List.take_succ_eq_append_getElem h, List.getD_eq_getElem?_getD, List.getElem?_eq_getElem h]; rfl
set_option maxRecDepth 100000 in
set_option maxHeartbeats 800000 in
theorem setOf_any (l : List ByteArray) (v : Value) (w : World) (hv : StrA w v l) (hl : l.length ≤ 1000000) (hs : ∀ s ∈ l, s.size ≤ maxLen) :
    Calls Tryd.prog 29 #[v] w fun e w' => e = .returned (.map (some w.heap.size)) ∧ Sl (SetAt w' w.heap.size l) ∧ Sl (Below w.heap.size w w') := by
  obtain ⟨ad, ca, sa, oa, rfl, hca, haa, hcell⟩ := hv
  have HA := Sl.mk hcell
  have HAA := Sl.mk haa
  have HSZ := Sl.mk hs
  clear hcell haa hs hca
  obtain ⟨n, hn⟩ : ∃ n, l.length = n := ⟨_, rfl⟩
  have HN := Sl.mk hn
  rw [hn] at hl
  rw [hn]
  clear hn
  have hmm := make_map
  go_enter Tryd.func29, Tryd.ntmps29
  go_wp2
  go_loopw [11] (fun i wr => ∃ k : Nat, k ≤ n ∧ i = .int .i64 k ∧ Sl (wr.ownsMap Tryd.prog 9 (unitElem (H := Unit)) w.heap.size k (Sd (l.take k))) ∧ Sl (Below w.heap.size w wr)) (fun i _ => n - (intOf i).toNat)
  case atStart => exact ⟨0, Nat.zero_le _, rfl, ⟨World.ownsMap_made _ _ _ _⟩, ⟨(Below.refl _ _).alloc (Nat.le_refl _) _⟩⟩
  case round =>
    obtain ⟨k, hk, rfl, HO, HB⟩ := hrel
    by_cases hlt : k < n
    · obtain rfl := HAA.out (by rw [HN.out]; omega)
      obtain ⟨p, hp⟩ : ∃ p, l.getD k ByteArray.empty = p := ⟨_, rfl⟩
      have HP := Sl.mk hp
      have e0 : wr.cell? ⟨sa, oa + k, none⟩ = some (.string p) := by
        have h1 := HA.out k (by rw [HN.out]; omega)
        rw [HB.out.cell (p := ⟨sa, oa + k, none⟩) (block_lt_of_cell h1), h1, hp]
      have HKEY : Sl (keyOf Tryd.prog 9 (.string p) = some (lit p)) := ⟨key_str p (HSZ.out p (by
        rw [← hp, List.getD_eq_getElem?_getD, List.getElem?_eq_getElem (by rw [HN.out]; omega)]; exact List.getElem_mem _))⟩
      have hk0 : (0 : Int) ≤ (k : Int) := by omega
      have hk1 : (k : Int) < (n : Int) := by omega
      clear hp
      go_wp2_with (first
        | (at_mapUpdate; refine wpList_mapUpdate_own _ rfl _ _ _ 45 rfl 9 47 law9 Tryd.underlying45 (unitElem (H := Unit)) w.heap.size k _ rfl HO.out (by unfold maxLen; omega) _ _ _ rfl rfl HKEY.out _ [] unitElem_mk ?_; intro w1 hown1 hgrow1; have HO1 := Sl.mk hown1; have HG1 := Sl.mk hgrow1; clear hown1 hgrow1)
        | fail)
      refine ⟨⟨k + 1, by omega, by go_num, ⟨?_⟩, ⟨HB.out.grown HG1.out HB.out.size (fun j hj => by cases hj; exact Nat.le_refl _)⟩⟩, by simp [intOf]; omega⟩
      rw [take_snoc (by rw [HN.out]; exact hlt), HP.out, Sd_snoc]
      exact HO1.out
    · have hge : ((k : Int) < (n : Int)) = False := eq_false (by omega)
      go_wp2
      go_ret
      refine ⟨rfl, ⟨?_⟩, HB⟩
      obtain rfl : k = n := by omega
      unfold SetAt
      have := HO.out
      rw [List.take_of_length_le (by rw [HN.out]; exact Nat.le_refl _)] at this
      rw [HN.out]
      exact this
end Go.Proofs.YtcdpkabbmdannaaDoor
