/- shake: whether a row has a text; whether protocols may be offered, whether one may ask; whether an origin may ask. -/
import Derived.Test.YthlagngpllahkaaGreatDoorS1
set_option maxRecDepth 100000
namespace Go.Proofs.YthlagngpllahkaaGreatDoor
open Go.RowKit HeadPlain

/-- What an index is, by whether there is one. -/
def IdxP (b : Bool) (e : Ending) : Prop := ∃ z : Int, e = .returned (.int .i64 z) ∧ decide (0 ≤ z) = b
def inB (l : List ByteArray) (x : ByteArray) : Bool := l.any fun y => x.toList == y.toList
theorem inB_eq (l : List ByteArray) (x : ByteArray) : inB l x = decide (bytes x ∈ l.map bytes) := by
  unfold inB
  rw [Bool.eq_iff_iff, List.any_eq_true, decide_eq_true_iff, List.mem_map]
  constructor
  · rintro ⟨y, hy, h⟩
    rw [beq_bytes2, decide_eq_true_iff] at h
    exact ⟨y, hy, h.symm⟩
  · rintro ⟨y, hy, h⟩
    exact ⟨y, hy, by rw [beq_bytes2, decide_eq_true_iff]; exact h.symm⟩
set_option maxHeartbeats 800000 in
theorem index_str (l : List ByteArray) (v : Value) (x : ByteArray) (W : World) (hv : StrA W v l) (hl : l.length ≤ 1000000) :
    Calls Tryz.prog 95 #[v, .string x] W fun e w' => IdxP (inB l x) e ∧ W = w' := by
  obtain ⟨ad, ca, sa, oa, rfl, hca, haa, hcell⟩ := hv
  have HA := Sl.mk hcell
  have HAA := Sl.mk haa
  clear hcell haa hca
  obtain ⟨n, hn⟩ : ∃ n, l.length = n := ⟨_, rfl⟩
  have HN := Sl.mk hn
  rw [hn] at hl ⊢
  clear hn
  go_enter Tryz.func95, Tryz.ntmps95
  go_wp2
  go_loopw [8] (fun i wr => ∃ k : Nat, k ≤ n ∧ i = .int .i64 k ∧ W = wr ∧ Sl (∀ j, j < k → (x.toList == (l.getD j ByteArray.empty).toList) = false)) (fun i _ => n - (intOf i).toNat)
  case atStart => exact ⟨0, Nat.zero_le _, rfl, rfl, ⟨fun j hj => by omega⟩⟩
  case round =>
    obtain ⟨k, hk, rfl, rfl, HE⟩ := hrel
    by_cases hlt : k < n
    · obtain rfl := HAA.out (by rw [HN.out]; omega)
      obtain ⟨p, hp⟩ : ∃ p, l.getD k ByteArray.empty = p := ⟨_, rfl⟩
      have HP := Sl.mk hp
      have e0 : W.cell? ⟨sa, oa + k, none⟩ = some (.string p) := by rw [HA.out k (by rw [HN.out]; omega), hp]
      have hk0 : (0 : Int) ≤ (k : Int) := by omega
      have hk1 : (k : Int) < (n : Int) := by omega
      clear hp
      cases hr : (x.toList == p.toList) with
      | true =>
        go_wp2
        go_ret
        refine ⟨⟨_, rfl, ?_⟩, rfl⟩
        unfold inB
        rw [Nam.any_hit (k := k) (by rw [HN.out]; exact hlt) (by rw [HP.out]; exact hr)]
        exact decide_eq_true (by omega)
      | false =>
        go_wp2
        refine ⟨⟨k + 1, by omega, by go_num, trivial, ⟨fun j hj => ?_⟩⟩, by simp [intOf]; omega⟩
        by_cases e : j = k
        · subst e; rw [HP.out]; exact hr
        · exact HE.out j (by omega)
    · have hge : ((k : Int) < (n : Int)) = False := eq_false (by omega)
      go_wp2
      go_ret
      refine ⟨⟨_, rfl, ?_⟩, rfl⟩
      unfold inB
      rw [Nam.any_miss (fun j hj => HE.out j (by rw [HN.out] at hj; omega))]
      rfl
theorem contains_str (l : List ByteArray) (v : Value) (x : ByteArray) (W : World) (r : Bool) (hr : inB l x = r) (hv : StrA W v l) (hl : l.length ≤ 1000000) :
    Calls Tryz.prog 51 #[v, .string x] W fun e w' => e = .returned (.bool r) ∧ W = w' := by
  have HI := Sl.mk (index_str l v x W hv hl)
  rw [hr] at HI
  clear hr hv
  go_enter Tryz.func51, Tryz.ntmps51
  go_wp2_with (go_at_call 95; refine HI.out.mono ?_; rintro e w' ⟨⟨z, rfl, hz⟩, rfl⟩; have H3 := Sl.mk hz; clear hz)
  go_ret
  exact ⟨ret_bool H3.out, rfl⟩
/-- Whether an origin may ask. -/
def allowB (o : ByteArray) (l : List ByteArray) : Bool := decide (l.length = 0) || inB l o
theorem allowed_any (o : ByteArray) (l : List ByteArray) (v : Value) (W : World) (r : Bool) (hr : allowB o l = r) (hv : StrA W v l) (hl : l.length ≤ 1000000) :
    Calls Tryz.prog 26 #[.string o, v] W fun e w' => e = .returned (.bool r) ∧ W = w' := by
  have HC := Sl.mk (contains_str l v o W (inB l o) rfl hv hl)
  obtain ⟨ad, ca, sa, oa, rfl, _⟩ := hv
  unfold allowB at hr
  by_cases h0 : l.length = 0
  · rw [decide_eq_true h0] at hr
    have HR := Sl.mk hr
    rw [h0] at HC ⊢
    clear hr h0
    go_enter Tryz.func26, Tryz.ntmps26
    go_wp2
    go_ret
    exact ⟨ret_bool HR.out, rfl⟩
  · rw [decide_eq_false h0, Bool.false_or] at hr
    rw [hr] at HC
    have hne : ((l.length : Int) == 0) = false := by simpa using h0
    clear hr
    go_enter Tryz.func26, Tryz.ntmps26
    go_wp2_with (go_at_call 51; refine HC.out.mono ?_; rintro e w' ⟨rfl, rfl⟩)
    go_ret
    exact ⟨rfl, rfl⟩
theorem notTok_any (s : ByteArray) (W : World) (hg : Globs W) (hs : s.size ≤ maxLen) : Calls Tryz.prog 97 #[.string s] W fun e w' => e = .returned (.bool !(Nam.tokT s)) ∧ Sl (Below W.heap.size W w') := by
  have HC := Sl.mk (token_any s W hg hs)
  have HT : Sl (Nam.tokT s = token (bytes s)) := ⟨rfl⟩
  obtain ⟨r, hr⟩ : ∃ r, token (bytes s) = r := ⟨_, rfl⟩
  rw [hr] at HC HT
  clear hr hs hg
  rw [HT.out]
  go_enter Tryz.func97, Tryz.ntmps97
  go_wp2_with (go_at_call 98; refine HC.out.mono ?_; rintro e w' ⟨rfl, HB⟩)
  go_ret
  exact ⟨rfl, HB⟩
set_option maxHeartbeats 800000 in
theorem indexTok_any (l : List ByteArray) (v : Value) (W : World) (hg : Globs W) (hv : StrA W v l) (hl : l.length ≤ 1000000) (hs : ∀ s ∈ l, s.size ≤ maxLen) :
    Calls Tryz.prog 127 #[v, .func (.func 97) #[] #[]] W fun e w' => IdxP (l.any fun x => !(Nam.tokT x)) e ∧ Sl (Below W.heap.size W w') := by
  obtain ⟨ad, ca, sa, oa, rfl, hca, haa, hcell⟩ := hv
  have HA := Sl.mk hcell
  have HAA := Sl.mk haa
  have HG := Sl.mk hg
  have HS := Sl.mk hs
  clear hcell haa hca hg hs
  obtain ⟨n, hn⟩ : ∃ n, l.length = n := ⟨_, rfl⟩
  have HN := Sl.mk hn
  rw [hn] at hl ⊢
  clear hn
  go_enter Tryz.func127, Tryz.ntmps127
  go_wp2
  go_loopw [8] (fun i wr => ∃ k : Nat, k ≤ n ∧ i = .int .i64 k ∧ Sl (Below W.heap.size W wr) ∧ Sl (∀ j, j < k → (!(Nam.tokT (l.getD j ByteArray.empty))) = false)) (fun i _ => n - (intOf i).toNat)
  case atStart => exact ⟨0, Nat.zero_le _, rfl, ⟨Below.refl _ _⟩, ⟨fun j hj => by omega⟩⟩
  case round =>
    obtain ⟨k, hk, rfl, HB, HE⟩ := hrel
    by_cases hlt : k < n
    · obtain rfl := HAA.out (by rw [HN.out]; omega)
      obtain ⟨p, hp⟩ : ∃ p, l.getD k ByteArray.empty = p := ⟨_, rfl⟩
      have HP := Sl.mk hp
      have e0 : wr.cell? ⟨sa, oa + k, none⟩ = some (.string p) := by
        have h1 := HA.out k (by rw [HN.out]; omega)
        rw [HB.out.cell (p := ⟨sa, oa + k, none⟩) (block_lt_of_cell h1), h1, hp]
      have hk0 : (0 : Int) ≤ (k : Int) := by omega
      have hk1 : (k : Int) < (n : Int) := by omega
      have HC := Sl.mk (notTok_any p wr (HG.out.of HB.out) (HS.out p (by rw [← hp]; exact Nam.getD_mem (by rw [HN.out]; exact hlt))))
      obtain ⟨r, hr⟩ : ∃ r, Nam.tokT p = r := ⟨_, rfl⟩
      have HR := Sl.mk hr
      rw [hr] at HC
      clear hp hr
      cases r with
      | false =>
        go_wp2_with (go_at_call 97; refine HC.out.mono ?_; rintro e w' ⟨rfl, HB2⟩)
        go_ret
        refine ⟨⟨_, rfl, ?_⟩, ⟨below_trans HB.out HB2.out⟩⟩
        rw [Nam.any_hit (k := k) (by rw [HN.out]; exact hlt) (by rw [HP.out, HR.out]; rfl)]
        exact decide_eq_true (by omega)
      | true =>
        go_wp2_with (go_at_call 97; refine HC.out.mono ?_; rintro e w' ⟨rfl, HB2⟩)
        refine ⟨⟨k + 1, by omega, by go_num, ⟨below_trans HB.out HB2.out⟩, ⟨fun j hj => ?_⟩⟩, by simp [intOf]; omega⟩
        by_cases e : j = k
        · subst e; rw [HP.out, HR.out]; rfl
        · exact HE.out j (by omega)
    · have hge : ((k : Int) < (n : Int)) = False := eq_false (by omega)
      go_wp2
      go_ret
      refine ⟨⟨_, rfl, ?_⟩, HB⟩
      rw [Nam.any_miss (fun j hj => HE.out j (by rw [HN.out] at hj; omega))]
      rfl
theorem containsTok_any (l : List ByteArray) (v : Value) (W : World) (r : Bool) (hr : (l.any fun x => !(Nam.tokT x)) = r) (hg : Globs W) (hv : StrA W v l) (hl : l.length ≤ 1000000) (hs : ∀ s ∈ l, s.size ≤ maxLen) :
    Calls Tryz.prog 99 #[v, .func (.func 97) #[] #[]] W fun e w' => e = .returned (.bool r) ∧ Sl (Below W.heap.size W w') := by
  have HI := Sl.mk (indexTok_any l v W hg hv hl hs)
  rw [hr] at HI
  clear hr hv hg hs
  go_enter Tryz.func99, Tryz.ntmps99
  go_wp2_with (go_at_call 127; refine HI.out.mono ?_; rintro e w' ⟨⟨z, rfl, hz⟩, HB⟩; have H3 := Sl.mk hz; clear hz)
  go_ret
  exact ⟨ret_bool H3.out, HB⟩
end Go.Proofs.YthlagngpllahkaaGreatDoor
