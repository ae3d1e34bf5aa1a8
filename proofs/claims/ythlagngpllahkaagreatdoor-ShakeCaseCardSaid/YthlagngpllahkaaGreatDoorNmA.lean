/- Sets of texts: setOf, First, Once; One. -/
import Derived.Test.YthlagngpllahkaaGreatDoorStrsOwn
import Derived.Maps.OwnSet
import Derived.Carry
import Derived.Test.YthlagngpllahkaaGreatDoorHdB
import Derived.Test.YthlagngpllahkaaGreatDoorNamesPlain
import Derived.Test.YthlagngpllahkaaGreatDoorFlow
import Derived.RangeFuncBound
import Derived.Shelf.RegionOpen
import Derived.WalkKit
import Derived.OwnWalkIn
import Derived.TacticsInMore
import Derived.LoopNIn
import Derived.LoopIn
set_option maxRecDepth 100000
namespace Go.Proofs.YthlagngpllahkaaGreatDoor.Nam
open Go.RowKit Go.Maps Go.ChangeMaps Go.MapKept

theorem law9 : Keyed Tryz.prog 9 := string_keyed Tryz.underlying9
theorem zero47 (w : World) : (zeroValue 176).run Tryz.prog w = .ok (.agg #[]) w := by kernel_rfl
def lit (s : ByteArray) : Lit := .string s.data.toList
theorem key_str (s : ByteArray) (h : s.size ≤ maxLen) : keyOf Tryz.prog 9 (.string s) = some (lit s) := Go.WideMaps.keyOf_string_mk Tryz.underlying9 h
theorem lit_inj {a b : ByteArray} (h : lit a = lit b) : a = b := by
  unfold lit at h
  injection h with h
  cases a; cases b
  simp at h
  simp [h]
theorem lit_key (s : ByteArray) : WideAt.IsKeyLit (lit s) := trivial
/-- The set of the first k texts. -/
def Sd (l : List ByteArray) : DataW Unit := setOf (.agg []) (l.map lit)
theorem Sd_snoc (l : List ByteArray) (s : ByteArray) : Sd (l ++ [s]) = (Sd l).put (lit s) (.agg []) := by unfold Sd; rw [List.map_append]; exact setOf_snoc _ _ _
theorem bytes_lit (a b : ByteArray) : bytes a = bytes b ↔ lit a = lit b :=
  ⟨fun h => by rw [bytes_inj h], fun h => by rw [lit_inj h]⟩
theorem has_Sd (l : List ByteArray) (s : ByteArray) : Maps.has (Sd l) (lit s) = decide (bytes s ∈ l.map bytes) := by
  unfold Sd
  rw [has_setOf _ _ _ (fun y hy => by obtain ⟨_, _, rfl⟩ := List.mem_map.1 hy; trivial), Bool.eq_iff_iff, List.any_eq_true, decide_eq_true_eq]
  constructor
  · rintro ⟨y, hy, hs⟩
    obtain ⟨x, hx, rfl⟩ := List.mem_map.1 hy
    have := WideAt.sameKey_eq hs
    exact List.mem_map.2 ⟨x, hx, (bytes_lit _ _).2 this⟩
  · intro h
    obtain ⟨x, hx, e⟩ := List.mem_map.1 h
    exact ⟨lit x, List.mem_map.2 ⟨x, hx, rfl⟩, by rw [(bytes_lit _ _).1 e]; exact WideAt.sameKey_self (lit_key s)⟩
theorem tidy_Sd (l : List ByteArray) : Tidy (Sd l) := tidy_fold (.agg []) (l.map lit) (.map []) tidy_empty (fun y hy => by obtain ⟨_, _, rfl⟩ := List.mem_map.1 hy; trivial)
theorem size_Sd_snoc (l : List ByteArray) (s : ByteArray) : Maps.size (Sd (l ++ [s])) = if bytes s ∈ l.map bytes then Maps.size (Sd l) else Maps.size (Sd l) + 1 := by
  rw [Sd_snoc, size_put (tidy_Sd l), has_Sd]
  simp
/-- As many keys as texts just if no text is there twice. -/
theorem size_Sd : ∀ (n : Nat) (l : List ByteArray), l.length = n → Maps.size (Sd l) ≤ l.length ∧ (Maps.size (Sd l) = l.length ↔ (l.map bytes).Nodup)
  | 0, l, h => by
    obtain rfl := List.length_eq_zero_iff.1 h
    simp [Sd, setOf, Maps.size]
  | n + 1, l, h => by
    rcases List.eq_nil_or_concat l with rfl | ⟨m, s, rfl⟩
    · cases h
    · rw [List.concat_eq_append] at h ⊢
      have hm : m.length = n := by simpa using h
      obtain ⟨h1, h2⟩ := size_Sd n m hm
      rw [size_Sd_snoc]
      rw [List.map_append, List.map_cons, List.map_nil, List.nodup_append, List.length_append]
      by_cases hi : bytes s ∈ m.map bytes
      · rw [if_pos hi]
        refine ⟨by simp; omega, ⟨fun e => by simp at e; omega, fun e => absurd rfl (e.2.2 _ hi _ (by simp))⟩⟩
      · rw [if_neg hi]
        refine ⟨by simp; omega, ⟨fun e => ⟨h2.1 (by simp at e; omega), by simp, fun a ha b hb => ?_⟩, fun e => by have := h2.2 e.1; simp; omega⟩⟩
        simp at hb
        subst hb
        exact fun e => hi (e ▸ ha)
theorem make_map (n : Int) (w : World) : (Instr.makeMap 153 (some (.int .i64 n))).run Tryz.prog w = .ok (.map (some w.heap.size)) (w.alloc (.map #[] 0)) := by
  simp [Instr.makeMap, run_underlying Tryz.underlying153, Result.andThen]
  rfl
/-- A set of texts lies in block b. -/
def SetAt (w : World) (b : Nat) (l : List ByteArray) : Prop := w.ownsMap Tryz.prog 9 (unitElem (H := Unit)) b l.length (Sd l)
theorem SetAt.below {w w' : World} {b : Nat} {l : List ByteArray} (h : SetAt w b l) (hb : Below w.heap.size w w') : SetAt w' b l :=
  h.kept (grown_below hb none) (by simp)
theorem take_snoc {l : List ByteArray} {k : Nat} (h : k < l.length) : l.take (k + 1) = l.take k ++ [l.getD k ByteArray.empty] := by
  rw [List.take_succ_eq_append_getElem h, List.getD_eq_getElem?_getD, List.getElem?_eq_getElem h]; rfl
set_option maxRecDepth 100000 in
set_option maxHeartbeats 800000 in
theorem setOf_any (l : List ByteArray) (v : Value) (w : World) (hv : StrA w v l) (hl : l.length ≤ 1000000) (hs : ∀ s ∈ l, s.size ≤ maxLen) :
    Calls Tryz.prog 128 #[v] w fun e w' => e = .returned (.map (some w.heap.size)) ∧ Sl (SetAt w' w.heap.size l) ∧ Sl (Below w.heap.size w w') := by
  obtain ⟨ad, ca, sa, oa, rfl, hca, haa, hcell⟩ := hv
  have HA := Sl.mk hcell
  have HAA := Sl.mk haa
  have HSZ := Sl.mk hs
  clear hcell haa hs hca
  obtain ⟨n, hn⟩ : ∃ n, l.length = n := ⟨_, rfl⟩
  have HN := Sl.mk hn
  rw [hn] at hl
  rw [hn]
  clear hn
  have hmm := make_map
  go_enter Tryz.func128, Tryz.ntmps128
  go_wp2
  go_loopw [11] (fun i wr => ∃ k : Nat, k ≤ n ∧ i = .int .i64 k ∧ Sl (wr.ownsMap Tryz.prog 9 (unitElem (H := Unit)) w.heap.size k (Sd (l.take k))) ∧ Sl (Below w.heap.size w wr)) (fun i _ => n - (intOf i).toNat)
  case atStart => exact ⟨0, Nat.zero_le _, rfl, ⟨World.ownsMap_made _ _ _ _⟩, ⟨(Below.refl _ _).alloc (Nat.le_refl _) _⟩⟩
  case round =>
    obtain ⟨k, hk, rfl, HO, HB⟩ := hrel
    by_cases hlt : k < n
    · obtain rfl := HAA.out (by rw [HN.out]; omega)
      obtain ⟨p, hp⟩ : ∃ p, l.getD k ByteArray.empty = p := ⟨_, rfl⟩
      have HP := Sl.mk hp
      have e0 : wr.cell? ⟨sa, oa + k, none⟩ = some (.string p) := by
        have h1 := HA.out k (by rw [HN.out]; omega)
        rw [HB.out.cell (p := ⟨sa, oa + k, none⟩) (block_lt_of_cell h1), h1, hp]
      have HKEY : Sl (keyOf Tryz.prog 9 (.string p) = some (lit p)) := ⟨key_str p (HSZ.out p (by
        rw [← hp, List.getD_eq_getElem?_getD, List.getElem?_eq_getElem (by rw [HN.out]; omega)]; exact List.getElem_mem _))⟩
      have hk0 : (0 : Int) ≤ (k : Int) := by omega
      have hk1 : (k : Int) < (n : Int) := by omega
      clear hp
      go_wp2_with (first
        | (at_mapUpdate; refine wpList_mapUpdate_own _ rfl _ _ _ 153 rfl 9 176 law9 Tryz.underlying153 (unitElem (H := Unit)) w.heap.size k _ rfl HO.out (by unfold maxLen; omega) _ _ _ rfl rfl HKEY.out _ [] unitElem_mk ?_; intro w1 hown1 hgrow1; have HO1 := Sl.mk hown1; have HG1 := Sl.mk hgrow1; clear hown1 hgrow1)
        | fail)
      refine ⟨⟨k + 1, by omega, by go_num, ⟨?_⟩, ⟨HB.out.grown HG1.out HB.out.size (fun j hj => by cases hj; exact Nat.le_refl _)⟩⟩, by simp [intOf]; omega⟩
      rw [take_snoc (by rw [HN.out]; exact hlt), HP.out, Sd_snoc]
      exact HO1.out
    · have hge : ((k : Int) < (n : Int)) = False := eq_false (by omega)
      go_wp2
      go_ret
      refine ⟨rfl, ⟨?_⟩, HB⟩
      obtain rfl : k = n := by omega
      unfold SetAt
      have := HO.out
      rw [List.take_of_length_le (by rw [HN.out]; exact Nat.le_refl _)] at this
      rw [HN.out]
      exact this
end Go.Proofs.YthlagngpllahkaaGreatDoor.Nam
/- The first of some that others have; the one; whether each is there once. -/
namespace Go.Proofs.YthlagngpllahkaaGreatDoor.Nam
open Go.RowKit Go.Maps Go.ChangeMaps Go.MapKept

/-- The first of a that b has, by their bytes. -/
def fstIn (a b : List ByteArray) : Option ByteArray := a.find? fun x => decide (bytes x ∈ b.map bytes)
def strV (o : Option ByteArray) : Value := match o with
  | some s => .tuple #[.string s, .bool true]
  | none => .tuple #[.string ByteArray.empty, .bool false]
theorem fst_hit {a b : List ByteArray} {k : Nat} (hk : k < a.length) (h : ∀ j, j < k → bytes (a.getD j ByteArray.empty) ∉ b.map bytes) (h1 : bytes (a.getD k ByteArray.empty) ∈ b.map bytes) : fstIn a b = some (a.getD k ByteArray.empty) := by
  induction a generalizing k with
  | nil => simp at hk
  | cons x a ih =>
    unfold fstIn
    rw [List.find?_cons]
    cases k with
    | zero =>
      have h2 : bytes x ∈ b.map bytes := h1
      rw [decide_eq_true h2]
      rfl
    | succ k =>
      have h0 : bytes x ∉ b.map bytes := h 0 (by omega)
      rw [decide_eq_false h0]
      exact ih (by simpa using hk) (fun j hj => h (j + 1) (by omega)) h1
theorem fst_none {a b : List ByteArray} (h : ∀ j, j < a.length → bytes (a.getD j ByteArray.empty) ∉ b.map bytes) : fstIn a b = none := by
  unfold fstIn
  rw [List.find?_eq_none]
  intro x hx
  obtain ⟨j, hj, rfl⟩ := List.mem_iff_getElem.1 hx
  have := h j hj
  rw [List.getD_eq_getElem?_getD, List.getElem?_eq_getElem hj] at this
  simpa using this
def oneV (l : List ByteArray) : Value := match l with
  | [s] => .tuple #[.string s, .bool true]
  | _ => .tuple #[.string ByteArray.empty, .bool false]
theorem oneV_ne {l : List ByteArray} (h : l.length ≠ 1) : oneV l = .tuple #[.string ByteArray.empty, .bool false] := by
  match l, h with
  | [], _ => rfl
  | [_], h => exact absurd rfl h
  | _ :: _ :: _, _ => rfl
theorem one_any (l : List ByteArray) (v : Value) (w : World) (hv : StrA w v l) (hl : l.length ≤ 1000000) : Calls Tryz.prog 60 #[v] w fun e w' => e = .returned (oneV l) ∧ w' = w := by
  obtain ⟨ad, ca, sa, oa, rfl, hca, haa, hcell⟩ := hv
  have HA := Sl.mk hcell
  have HAA := Sl.mk haa
  clear hcell haa hca
  by_cases h1 : l.length = 1
  · match l, h1 with
    | [s], _ =>
      obtain rfl := HAA.out (by simp)
      have e0 : w.cell? ⟨sa, oa, none⟩ = some (.string s) := HA.out 0 (by simp)
      clear HAA HA hl
      go_enter Tryz.func60, Tryz.ntmps60
      go_wp2
      go_ret2
      exact ⟨rfl, rfl⟩
  · have HV := Sl.mk (oneV_ne h1)
    obtain ⟨n, hn⟩ : ∃ n, l.length = n := ⟨_, rfl⟩
    rw [hn] at h1 hl ⊢
    clear hn HA HAA
    have h2 : ((n : Int) == 1) = false := by simp; omega
    have h3 : ((n : Int) != 1) = true := by simp; omega
    go_enter Tryz.func60, Tryz.ntmps60
    go_wp2
    go_ret2
    exact ⟨by rw [HV.out]; rfl, rfl⟩
set_option maxRecDepth 100000 in
theorem once_any (l : List ByteArray) (v : Value) (w : World) (hv : StrA w v l) (hl : l.length ≤ 1000000) (hs : ∀ s ∈ l, s.size ≤ maxLen) :
    Calls Tryz.prog 100 #[v] w fun e w' => e = .returned (.bool (decide (l.map bytes).Nodup)) ∧ Sl (Below w.heap.size w w') := by
  have HSET : Sl (Calls Tryz.prog 128 #[v] w fun e w' => e = .returned (.map (some w.heap.size)) ∧ Sl (SetAt w' w.heap.size l) ∧ Sl (Below w.heap.size w w')) := ⟨setOf_any l v w hv hl hs⟩
  obtain ⟨ad, ca, sa, oa, rfl, hca, haa, hcell⟩ := hv
  clear hcell haa hca hs
  obtain ⟨h1, h2⟩ := size_Sd _ l rfl
  obtain ⟨m, hm⟩ : ∃ m, Maps.size (Sd l) = m := ⟨_, rfl⟩
  have HM := Sl.mk hm
  rw [hm] at h1 h2
  have HD : Sl ((((m : Int)) == (l.length : Int)) = decide (l.map bytes).Nodup) := ⟨by
    rw [Bool.eq_iff_iff, decide_eq_true_eq, ← h2, beq_iff_eq]
    omega⟩
  clear h2 hm
  obtain ⟨n, hn⟩ : ∃ n, l.length = n := ⟨_, rfl⟩
  have HN := Sl.mk hn
  rw [hn] at hl HD HSET h1 ⊢
  clear hn
  obtain ⟨r, hr⟩ : ∃ r, ((m : Int) == (n : Int)) = r := ⟨_, rfl⟩
  have HR : Sl (r = decide (l.map bytes).Nodup) := ⟨hr.symm.trans HD.out⟩
  clear HD
  go_enter Tryz.func100, Tryz.ntmps100
  go_wp2_with (first
    | (go_at_call 128; refine HSET.out.mono ?_; rintro e w1 ⟨rfl, HSA, HB0⟩)
    | (refine wpList_len_own (o := ⟨some 5, _, _, _, _, _⟩) _ rfl _ 153 rfl 9 176 Tryz.underlying153 (unitElem (H := Unit)) w.heap.size _ (Sd l) rfl HSA.out ?_; rw [HM.out]))
  go_ret
  exact ⟨ret_bool HR.out, HB0⟩
end Go.Proofs.YthlagngpllahkaaGreatDoor.Nam
/- The pieces of a text between its commas, as strings: where the first comma stands; the function that the library ranges over, told piece by piece. -/
namespace Go.Proofs.YthlagngpllahkaaGreatDoor.Nam
open Go.RowKit Go.Shelf HeadPlain Flow

theorem indexByte_pos (c : UInt8) (l : List UInt8) : Lib.indexByte l c = pos (HeadPlain.fst c.toNat (toN l)) := by
  induction l with
  | nil => rfl
  | cons x r ih =>
    unfold Lib.indexByte
    rw [show toN (x :: r) = x.toNat :: toN r from rfl, HeadPlain.fst]
    by_cases h : x = c
    · subst h; simp [pos]
    · have h2 : (x == c) = false := by rw [beq_eq_false_iff_ne]; exact h
      rw [h2, if_neg (by simp), if_neg (fun e => h (UInt8.toNat_inj.1 e)), pos_succ, ih]
theorem fst_lt {c : Nat} {l : List Nat} {i : Nat} (h : HeadPlain.fst c l = some i) : i < l.length := by
  induction l generalizing i with
  | nil => cases h
  | cons x r ih =>
    rw [HeadPlain.fst] at h
    split at h
    · injection h with h; subst h; simp
    · cases hr : HeadPlain.fst c r with
      | none => rw [hr] at h; cases h
      | some j => rw [hr] at h; simp at h; have := ih hr; simp; omega
theorem pieces_none {l : List Nat} (h : HeadPlain.fst 44 l = none) : pieces l = [l] := by
  induction l with
  | nil => rfl
  | cons x r ih =>
    rw [HeadPlain.fst] at h
    split at h
    · cases h
    · rename_i hx
      exact pieces_cons hx (ih (by cases hr : HeadPlain.fst 44 r with | none => rfl | some j => rw [hr] at h; cases h))
theorem pieces_some {l : List Nat} {i : Nat} (h : HeadPlain.fst 44 l = some i) : pieces l = l.take i :: pieces (l.drop (i + 1)) := by
  induction l generalizing i with
  | nil => cases h
  | cons x r ih =>
    rw [HeadPlain.fst] at h
    split at h
    · rename_i hx
      injection h with h; subst h
      rw [pieces, if_pos hx]; rfl
    · rename_i hx
      cases hr : HeadPlain.fst 44 r with
      | none => rw [hr] at h; cases h
      | some j =>
        rw [hr] at h
        injection h with h
        subst h
        exact pieces_cons hx (ih hr)
/-- The pieces as strings. -/
def cuts (s : ByteArray) : List ByteArray := (pieces (bytes s)).map strOf
theorem take_size (s : ByteArray) (i : Nat) : strOf ((bytes s).take i) = s.extract 0 i := bytes_inj (by rw [bytes_strOf _ ((bytes_small s).take i), bytes_extract, List.drop_zero])
theorem cuts_none {s : ByteArray} (h : HeadPlain.fst 44 (bytes s) = none) : cuts s = [s] := by unfold cuts; rw [pieces_none h, List.map_singleton, strOf_bytes]
theorem drop_bytes (s : ByteArray) (i : Nat) : (bytes s).drop i = bytes (s.extract i s.size) := by rw [bytes_extract, List.take_of_length_le (by rw [bytes_length]; exact Nat.le_refl _)]
theorem cuts_some {s : ByteArray} {i : Nat} (h : HeadPlain.fst 44 (bytes s) = some i) : cuts s = s.extract 0 i :: cuts (s.extract (i + 1) s.size) := by
  unfold cuts; rw [pieces_some h, List.map_cons, take_size, drop_bytes]
theorem pieces_small (l : List Nat) (h : Small 256 l) : ∀ p ∈ pieces l, Small 256 p := by
  induction l with
  | nil => intro p hp; simp [pieces] at hp; subst hp; intro x hx; cases hx
  | cons x r ih =>
    have hr : Small 256 r := fun y hy => h y (by simp [hy])
    obtain ⟨p, ps, e⟩ := pieces_ne r
    rw [pieces, e]
    have ih' := ih hr
    rw [e] at ih'
    split
    · intro q hq
      rcases List.mem_cons.1 hq with rfl | hq
      · intro y hy; cases hy
      · exact ih' q hq
    · intro q hq
      rcases List.mem_cons.1 hq with rfl | hq
      · intro y hy
        rcases List.mem_cons.1 hy with rfl | hy
        · exact h y (by simp)
        · exact ih' p (by simp) y hy
      · exact ih' q (by simp [hq])
theorem cuts_bytes (s : ByteArray) : (cuts s).map bytes = pieces (bytes s) := by
  unfold cuts
  rw [List.map_map]
  conv => rhs; rw [← List.map_id (pieces (bytes s))]
  exact List.map_congr_left (fun p hp => bytes_strOf p (pieces_small _ (bytes_small s) p hp))
theorem pieces_le (l : List Nat) : ∀ p ∈ pieces l, p.length ≤ l.length := by
  induction l with
  | nil => intro p hp; simp [pieces] at hp; subst hp; simp
  | cons x r ih =>
    obtain ⟨p, ps, e⟩ := pieces_ne r
    rw [pieces, e]
    rw [e] at ih
    split
    · intro q hq
      rcases List.mem_cons.1 hq with rfl | hq
      · simp
      · have := ih q hq; simp; omega
    · intro q hq
      rcases List.mem_cons.1 hq with rfl | hq
      · have := ih p (by simp); simp; omega
      · have := ih q (by simp [hq]); simp; omega
theorem cuts_le (s : ByteArray) : ∀ p ∈ cuts s, p.size ≤ s.size := fun p hp => by
  have h1 : bytes p ∈ pieces (bytes s) := by rw [← cuts_bytes]; exact List.mem_map.2 ⟨p, hp, rfl⟩
  have := pieces_le _ _ h1
  rwa [bytes_length, bytes_length] at this
end Go.Proofs.YthlagngpllahkaaGreatDoor.Nam
/- What the library's SplitSeq hands back: a function that tells the pieces of a text between commas, one by one; the text that is left lies in a block of its own, that it writes. -/
namespace Go.Proofs.YthlagngpllahkaaGreatDoor.Nam
open Go.RowKit Go.Shelf HeadPlain Flow

attribute [local go_sem] Oper.semAt_some

def comma : ByteArray := ⟨#[44]⟩
/-- The size of the text that a block holds. -/
def leftIn (W : World) (b : Nat) : Nat := match W.cell? ⟨b, 0, none⟩ with
  | some (.string r) => r.size
  | _ => 0
theorem leftIn_eq {W : World} {b : Nat} {r : ByteArray} (h : W.cell? ⟨b, 0, none⟩ = some (.string r)) : leftIn W b = r.size := by unfold leftIn; rw [h]
/-- A variable's block, of the call's own. -/
def Box (W : World) (b : Nat) (t : TypeId) (v : Value) : Prop := W.heap[b]? = some (.cells #[v] t (0, 0))
theorem Box.cell {W : World} {b : Nat} {t : TypeId} {v : Value} (h : Box W b t v) : W.cell? ⟨b, 0, none⟩ = some v := by simp [World.cell?, show W.heap[b]? = _ from h]
theorem Box.frozen {W : World} {b : Nat} {t : TypeId} {v : Value} (h : Box W b t v) : W.frozen? ⟨b, 0, none⟩ = false := by simp [World.frozen?, show W.heap[b]? = _ from h]
theorem Box.lt {W : World} {b : Nat} {t : TypeId} {v : Value} (h : Box W b t v) : b < W.heap.size := lt_of_some h
theorem Box.set {W : World} {b : Nat} {t : TypeId} {v : Value} (u : Value) (h : Box W b t v) : Box (W.setCell ⟨b, 0, none⟩ u) b t u := Boxed.set u h
theorem Box.other {W : World} {b c : Nat} {t : TypeId} {v : Value} (h : Box W b t v) (hne : b ≠ c) (u : Value) : Box (W.setCell ⟨c, 0, none⟩ u) b t v := Boxed.other h hne u
theorem Box.stay {n₀ : Nat} {X : Nat → Prop} {W W' : World} {b : Nat} {t : TypeId} {v : Value} (h : Box W b t v) (hs : Stay n₀ X W W') (hx : X b) : Box W' b t v := (hs.block b h.lt (.inl hx)).trans h
theorem Box.below {W W' : World} {b : Nat} {t : TypeId} {v : Value} (h : Box W b t v) (hb : Below W.heap.size W W') : Box W' b t v := (hb.block b h.lt).trans h
theorem turn_set {n₀ : Nat} {X : Nat → Prop} {W : World} {b : Nat} (u : Value) (hx : X b) (hn : n₀ ≤ b) : Turn n₀ X W (W.setCell ⟨b, 0, none⟩ u) := Turn.of_grown (grownBy_setCell' W b u) hx hn

theorem ext_size (r : ByteArray) (i : Nat) : (r.extract i r.size).size = r.size - i := by
  rw [ByteArray.size_extract]; omega
def own3 (b : Nat) (r : Nat) : Prop := r = b ∨ r = b + 1 ∨ r = b + 2
set_option maxRecDepth 100000 in
set_option maxHeartbeats 2000000 in
theorem split1_seq (n : Nat) (hn : 4 ≤ n) (n₀ b : Nat) (s : ByteArray) (w : World) (hs : s.size ≤ maxLen) (hb : n₀ ≤ b)
    (h0 : Box w b 9 (.string s)) (h1 : Box w (b + 1) 9 (.string comma)) (h2 : Box w (b + 2) 3 (.int .i64 0)) :
    SeqX Fence.wide n Tryz.prog 187 #[.pointer (some ⟨b + 1, 0, none⟩), .pointer (some ⟨b, 0, none⟩), .pointer (some ⟨b + 2, 0, none⟩)] (fun x : ByteArray => #[Value.string x]) n₀ (own3 b) (cuts s) w := by
  intro l J Jx W hW fJ fJx hY hJ
  replace h0 := Box.below h0 hW
  replace h1 := Box.below h1 hW
  replace h2 := Box.below h2 hW
  clear hW
  unfold maxLen at hs
  have HFJ := Sl.mk fJ
  have HFX := Sl.mk fJx
  have HYY := Sl.mk hY
  clear fJ fJx hY
  have hF49 : Fence.wide.fn 165 := trivial
  have hn1 : 1 ≤ n := by omega
  have hcs : (comma.size : Int) = 1 := rfl
  have b1 := h1.cell
  refine callsIn_of_wp Tryz.func187 rfl trivial ?_ rfl
  simp only [Tryz.ntmps187, List.size_toArray, List.length_cons, List.length_nil, Nat.reduceAdd, Nat.reduceSub, Array.replicate_succ, Array.replicate_zero, List.push_toArray, List.append_toArray, List.nil_append, List.cons_append]
  gi_wp2
  gi_loopw [7, 8] (fun _ _ wr => ∃ (pre : List ByteArray) (r : ByteArray), Sl (cuts s = pre ++ cuts r) ∧ Sl (r.size ≤ s.size) ∧ Sl (J (own3 b) pre wr) ∧ Sl (Box wr b 9 (.string r)) ∧ Sl (Box wr (b + 1) 9 (.string comma)) ∧ Sl (Box wr (b + 2) 3 (.int .i64 0)))
    (fun _ _ wr => leftIn wr b)
  case atStart =>
    exact ⟨[], s, ⟨rfl⟩, ⟨Nat.le_refl _⟩, ⟨hJ⟩, ⟨h0⟩, ⟨h1⟩, ⟨h2⟩⟩
  case round =>
    obtain ⟨pre, r, HC, HL, HJ, B0, B1, B2⟩ := hrel
    have c0 := B0.out.cell
    have f0 := B0.out.frozen
    have c1 := B1.out.cell
    have c2 := B2.out.cell
    have hls : ∀ r', own3 b r' → r' < wr.heap.size := by
      rintro r' (rfl | rfl | rfl)
      · exact B0.out.lt
      · exact B1.out.lt
      · exact B2.out.lt
    have HLS := Sl.mk hls
    clear hls
    have hr0 : (r.size : Int) ≤ 9223372036854775807 := by have := HL.out; omega
    obtain ⟨z, hz⟩ : ∃ z, Lib.indexByte r.data.toList 44 = z := ⟨_, rfl⟩
    have HZ : Sl (z = pos (HeadPlain.fst 44 (bytes r))) := ⟨by rw [← hz, indexByte_pos]; rfl⟩
    have HI : Sl (∀ V : World, Calls Tryz.prog 165 #[.string r, .string comma] V fun e w' => e = .returned (.int .i64 z) ∧ V = w') := ⟨fun V => by rw [← hz]; exact (Tryz.strings_Index_one r 44 V).mono fun _ _ ⟨h1, h2⟩ => ⟨h1, h2.symm⟩⟩
    clear hz
    cases hf : HeadPlain.fst 44 (bytes r) with
    | none =>
      have HCU := Sl.mk (cuts_none hf)
      obtain rfl : z = -1 := by rw [HZ.out, hf]; rfl
      clear hf HZ
      obtain ⟨fn, tmps, assign, body, hy, hR⟩ := HYY.out (own3 b) pre r wr (fun _ h => h) HJ.out HLS.out (by rw [HC.out, HCU.out]; exact List.prefix_rfl)
      have HR := Sl.mk hR
      clear hR
      gi_wp2_with (gi_at_call 165; refine (callsIn_wide.2 (HI.out _)).mono ?_; rintro e w' ⟨rfl, rfl⟩)
      refine HR.out.mono ?_
      have HE : Sl (cuts s = pre ++ [r]) := ⟨by rw [HC.out, HCU.out]⟩
      rintro e W3 (⟨rfl, hJ3, _⟩ | ⟨rfl, hJ3, _⟩)
      · have HJ3 := Sl.mk hJ3
        clear hJ3
        gi_wp2
        go_end0
        exact ⟨⟨_, rfl⟩, .inl (by rw [HE.out]; exact HJ3.out)⟩
      · have HJ3 := Sl.mk hJ3
        clear hJ3
        gi_wp2
        go_end0
        exact ⟨⟨_, rfl⟩, .inr ⟨_, by rw [HE.out]; exact List.prefix_rfl, HJ3.out⟩⟩
    | some i =>
      have HCU := Sl.mk (cuts_some hf)
      have hi := fst_lt hf
      rw [bytes_length] at hi
      obtain rfl : z = (i : Int) := by rw [HZ.out, hf]; rfl
      clear hf HZ
      have hi0 : (0 : Int) ≤ (i : Int) := by omega
      have hi1 : (i : Int) < (r.size : Int) := by omega
      have HE : Sl (cuts s = (pre ++ [r.extract 0 i]) ++ cuts (r.extract (i + 1) r.size)) := ⟨by rw [HC.out, HCU.out, List.append_assoc]; rfl⟩
      obtain ⟨fn, tmps, assign, body, hy, hR⟩ := HYY.out (own3 b) pre (r.extract 0 i) wr (fun _ h => h) HJ.out HLS.out (by rw [HE.out]; exact List.prefix_append _ _)
      have HR := Sl.mk hR
      clear hR
      gi_wp2_with (gi_at_call 165; refine (callsIn_wide.2 (HI.out _)).mono ?_; rintro e w' ⟨rfl, rfl⟩)
      refine HR.out.mono ?_
      rintro e W3 (⟨rfl, hJ3, hS3⟩ | ⟨rfl, hJ3, _⟩)
      · have HJ3 := Sl.mk hJ3
        have D0 := Sl.mk (B0.out.stay hS3 (.inl rfl))
        have D1 := Sl.mk (B1.out.stay hS3 (.inr (.inl rfl)))
        have D2 := Sl.mk (B2.out.stay hS3 (.inr (.inr rfl)))
        clear hJ3 hS3 c0 f0 c1 c2
        have c0 := D0.out.cell
        have f0 := D0.out.frozen
        have c1 := D1.out.cell
        have c2 := D2.out.cell
        gi_wp2
        have D0' := D0.out.set (.string (r.extract (i + 1) r.size))
        refine ⟨⟨_, r.extract (i + 1) r.size, HE, ⟨?_⟩, ⟨HFJ.out.kept HJ3.out (turn_set _ (.inl rfl) hb)⟩, ⟨D0'⟩, ⟨D1.out.other (by omega) _⟩, ⟨D2.out.other (by omega) _⟩⟩, ?_⟩
        · rw [ext_size]; have := HL.out; omega
        · rw [leftIn_eq D0'.cell, leftIn_eq B0.out.cell, ext_size]; omega
      · have HJ3 := Sl.mk hJ3
        clear hJ3
        gi_wp2
        refine bodyPost_ret (results_none rfl _ _ _) rfl ?_
        exact ⟨⟨_, rfl⟩, .inr ⟨_, by rw [HE.out]; exact List.prefix_append _ _, HJ3.out⟩⟩
end Go.Proofs.YthlagngpllahkaaGreatDoor.Nam
