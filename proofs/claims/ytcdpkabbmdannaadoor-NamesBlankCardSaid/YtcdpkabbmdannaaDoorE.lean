/- The first of some that others have; the one; whether each is there once. -/
import Derived.Test.YtcdpkabbmdannaaDoorD
namespace Go.Proofs.YtcdpkabbmdannaaDoor
open Go.RowKit Go.Maps Go.ChangeMaps Go.MapKept

/-- The first of a that b has, by their bytes. -/
def fstIn (a b : List ByteArray) : Option ByteArray := a.find? fun x => decide (bytes x ∈ b.map bytes)
def strV (o : Option ByteArray) : Value := match o with
  | some s => .tuple #[.string s, .bool true]
  | none => .tuple #[.string ByteArray.empty, .bool false]
theorem fst_hit {a b : List ByteArray} {k : Nat} (hk : k < a.length) (h : ∀ j, j < k → bytes (a.getD j ByteArray.empty) ∉ b.map bytes) (h1 : bytes (a.getD k ByteArray.empty) ∈ b.map bytes) : fstIn a b = some (a.getD k ByteArray.empty) := by
  induction a generalizing k with
  | nil => simp at hk
  | cons x a ih =>
    unfold fstIn
    rw [List.find?_cons]
    cases k with
    | zero =>
      have h2 : bytes x ∈ b.map bytes := h1
      rw [decide_eq_true h2]
      rfl
    | succ k =>
      have h0 : bytes x ∉ b.map bytes := h 0 (by omega)
      rw [decide_eq_false h0]
      exact ih (by simpa using hk) (fun j hj => h (j + 1) (by omega)) h1
theorem fst_none {a b : List ByteArray} (h : ∀ j, j < a.length → bytes (a.getD j ByteArray.empty) ∉ b.map bytes) : fstIn a b = none := by
  unfold fstIn
  rw [List.find?_eq_none]
  intro x hx
  obtain ⟨j, hj, rfl⟩ := List.mem_iff_getElem.1 hx
  have := h j hj
  rw [List.getD_eq_getElem?_getD, List.getElem?_eq_getElem hj] at this
  simpa using this
set_option maxRecDepth 100000 in
set_option maxHeartbeats 800000 in
theorem first_any (a b : List ByteArray) (x y : Value) (w : World) (ha : StrA w x a) (hb : StrA w y b) (hl : b.length ≤ 1000000) (hL : a.length ≤ 1000000) (hs : ∀ s ∈ b, s.size ≤ maxLen) (hs2 : ∀ s ∈ a, s.size ≤ maxLen) :
    Calls Tryd.prog 16 #[x, y] w fun e w' => e = .returned (strV (fstIn a b)) ∧ Sl (Below w.heap.size w w') := by
  obtain ⟨ad, ca, sa, oa, rfl, hca, haa, hcell⟩ := ha
  have HA := Sl.mk hcell
  have HAA := Sl.mk haa
  have HSZ := Sl.mk hs2
  have HSET : Sl (Calls Tryd.prog 29 #[y] w fun e w' => e = .returned (.map (some w.heap.size)) ∧ Sl (SetAt w' w.heap.size b) ∧ Sl (Below w.heap.size w w')) := ⟨setOf_any b y w hb hl hs⟩
  clear hcell haa hca hb hs hs2
  obtain ⟨n, hn⟩ : ∃ n, a.length = n := ⟨_, rfl⟩
  have HN := Sl.mk hn
  rw [hn] at hL
  rw [hn]
  clear hn
  go_enter Tryd.func16, Tryd.ntmps16
  go_wp2_with (go_at_call 29; refine HSET.out.mono ?_; rintro e w1 ⟨rfl, HSA, HB0⟩)
  go_loopw [15] (fun i wr => ∃ k : Nat, k ≤ n ∧ i = .int .i64 k ∧ Sl (SetAt wr w.heap.size b) ∧ Sl (Below w.heap.size w wr) ∧ Sl (∀ j, j < k → bytes (a.getD j ByteArray.empty) ∉ b.map bytes)) (fun i _ => n - (intOf i).toNat)
  case atStart => exact ⟨0, Nat.zero_le _, rfl, HSA, HB0, ⟨fun j hj => by omega⟩⟩
  case round =>
    obtain ⟨k, hk, rfl, HO, HB, HE⟩ := hrel
    by_cases hlt : k < n
    · obtain rfl := HAA.out (by rw [HN.out]; omega)
      obtain ⟨p, hp⟩ : ∃ p, a.getD k ByteArray.empty = p := ⟨_, rfl⟩
      have HP := Sl.mk hp
      have e0 : wr.cell? ⟨sa, oa + k, none⟩ = some (.string p) := by
        have h1 := HA.out k (by rw [HN.out]; omega)
        rw [HB.out.cell (p := ⟨sa, oa + k, none⟩) (block_lt_of_cell h1), h1, hp]
      have HKEY : Sl (keyOf Tryd.prog 9 (.string p) = some (lit p)) := ⟨key_str p (HSZ.out p (by
        rw [← hp, List.getD_eq_getElem?_getD, List.getElem?_eq_getElem (by rw [HN.out]; omega)]; exact List.getElem_mem _))⟩
      obtain ⟨r, hr⟩ : ∃ r, Maps.has (Sd b) (lit p) = r := ⟨_, rfl⟩
      have HR := Sl.mk hr
      have hk0 : (0 : Int) ≤ (k : Int) := by omega
      have hk1 : (k : Int) < (n : Int) := by omega
      clear hp hr
      cases r with
      | true =>
        go_wp2_with (first
          | (at_lookup; refine wpList_lookup_own_unit _ rfl _ _ 45 rfl 9 47 law9 Tryd.underlying45 (zero47 _) w.heap.size _ _ rfl HO.out _ _ rfl HKEY.out ?_; rw [HR.out])
          | fail)
        go_ret2
        refine ⟨?_, ⟨HB.out.alloc HB.out.size _⟩⟩
        rw [fst_hit (k := k) (by rw [HN.out]; exact hlt) HE.out (by rw [HP.out]; have := HR.out; rw [has_Sd] at this; exact of_decide_eq_true this), HP.out]
        rfl
      | false =>
        go_wp2_with (first
          | (at_lookup; refine wpList_lookup_own_unit _ rfl _ _ 45 rfl 9 47 law9 Tryd.underlying45 (zero47 _) w.heap.size _ _ rfl HO.out _ _ rfl HKEY.out ?_; rw [HR.out])
          | fail)
        refine ⟨⟨k + 1, by omega, by go_num, ⟨HO.out.below ((Below.refl _ _).alloc (Nat.le_refl _) _)⟩, ⟨HB.out.alloc HB.out.size _⟩, ⟨fun j hj => ?_⟩⟩, by simp [intOf]; omega⟩
        by_cases e : j = k
        · subst e
          rw [HP.out]
          have := HR.out
          rw [has_Sd] at this
          exact of_decide_eq_false this
        · exact HE.out j (by omega)
    · have hge : ((k : Int) < (n : Int)) = False := eq_false (by omega)
      go_wp2
      go_ret2
      refine ⟨?_, HB⟩
      rw [fst_none (fun j hj => HE.out j (by rw [HN.out] at hj; omega))]
      rfl
def oneV (l : List ByteArray) : Value := match l with
  | [s] => .tuple #[.string s, .bool true]
  | _ => .tuple #[.string ByteArray.empty, .bool false]
theorem oneV_ne {l : List ByteArray} (h : l.length ≠ 1) : oneV l = .tuple #[.string ByteArray.empty, .bool false] := by
  match l, h with
  | [], _ => rfl
  | [_], h => exact absurd rfl h
  | _ :: _ :: _, _ => rfl
theorem one_any (l : List ByteArray) (v : Value) (w : World) (hv : StrA w v l) (hl : l.length ≤ 1000000) : Calls Tryd.prog 18 #[v] w fun e w' => e = .returned (oneV l) ∧ w' = w := by
  obtain ⟨ad, ca, sa, oa, rfl, hca, haa, hcell⟩ := hv
  have HA := Sl.mk hcell
  have HAA := Sl.mk haa
  clear hcell haa hca
  by_cases h1 : l.length = 1
  · match l, h1 with
    | [s], _ =>
      obtain rfl := HAA.out (by simp)
      have e0 : w.cell? ⟨sa, oa, none⟩ = some (.string s) := HA.out 0 (by simp)
      clear HAA HA hl
      go_enter Tryd.func18, Tryd.ntmps18
      go_wp2
      go_ret2
      exact ⟨rfl, rfl⟩
  · have HV := Sl.mk (oneV_ne h1)
    obtain ⟨n, hn⟩ : ∃ n, l.length = n := ⟨_, rfl⟩
    rw [hn] at h1 hl ⊢
    clear hn HA HAA
    have h2 : ((n : Int) == 1) = false := by simp; omega
    have h3 : ((n : Int) != 1) = true := by simp; omega
    go_enter Tryd.func18, Tryd.ntmps18
    go_wp2
    go_ret2
    exact ⟨by rw [HV.out]; rfl, rfl⟩
set_option maxRecDepth 100000 in
theorem once_any (l : List ByteArray) (v : Value) (w : World) (hv : StrA w v l) (hl : l.length ≤ 1000000) (hs : ∀ s ∈ l, s.size ≤ maxLen) :
    Calls Tryd.prog 19 #[v] w fun e w' => e = .returned (.bool (decide (l.map bytes).Nodup)) ∧ Sl (Below w.heap.size w w') := by
  have HSET : Sl (Calls Tryd.prog 29 #[v] w fun e w' => e = .returned (.map (some w.heap.size)) ∧ Sl (SetAt w' w.heap.size l) ∧ Sl (Below w.heap.size w w')) := ⟨setOf_any l v w hv hl hs⟩
  obtain ⟨ad, ca, sa, oa, rfl, hca, haa, hcell⟩ := hv
  clear hcell haa hca hs
  obtain ⟨h1, h2⟩ := size_Sd _ l rfl
  obtain ⟨m, hm⟩ : ∃ m, Maps.size (Sd l) = m := ⟨_, rfl⟩
  have HM := Sl.mk hm
  rw [hm] at h1 h2
  have HD : Sl ((((m : Int)) == (l.length : Int)) = decide (l.map bytes).Nodup) := ⟨by
    rw [Bool.eq_iff_iff, decide_eq_true_eq, ← h2, beq_iff_eq]
    omega⟩
  clear h2 hm
  obtain ⟨n, hn⟩ : ∃ n, l.length = n := ⟨_, rfl⟩
  have HN := Sl.mk hn
  rw [hn] at hl HD HSET h1 ⊢
  clear hn
  obtain ⟨r, hr⟩ : ∃ r, ((m : Int) == (n : Int)) = r := ⟨_, rfl⟩
  have HR : Sl (r = decide (l.map bytes).Nodup) := ⟨hr.symm.trans HD.out⟩
  clear HD
  go_enter Tryd.func19, Tryd.ntmps19
  go_wp2_with (first
    | (go_at_call 29; refine HSET.out.mono ?_; rintro e w1 ⟨rfl, HSA, HB0⟩)
    | (refine wpList_len_own (o := ⟨some 5, _, _, _, _, _⟩) _ rfl _ 45 rfl 9 47 Tryd.underlying45 (unitElem (H := Unit)) w.heap.size _ (Sd l) rfl HSA.out ?_; rw [HM.out]))
  go_ret
  exact ⟨ret_bool HR.out, HB0⟩
end Go.Proofs.YtcdpkabbmdannaaDoor
