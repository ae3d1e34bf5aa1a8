/- The document's answer, bits as lists: the contracts of word and number. -/
import Derived.Test.YthlagngpllahkaaGreatDoorShB
set_option maxRecDepth 100000
namespace Go.Proofs.YthlagngpllahkaaGreatDoor.Sha
open Go.RowKit

def vi (n : Nat) : Value := .int .i64 (n : Int)
def ints (l : List Nat) : List Value := l.map vi
theorem ints_length (l : List Nat) : (ints l).length = l.length := by simp [ints]
theorem ints_get (l : List Nat) (i : Nat) (h : i < l.length) : (ints l)[i]? = some (.int .i64 ((l.getD i 0 : Nat) : Int)) := by simp [ints, vi, List.getElem?_eq_getElem h]
/-- The first k of a number's 32 bits, the highest first. -/
def bitsTo (n : Nat) : Nat → List Nat
  | 0 => []
  | k + 1 => bitsTo n k ++ [n / 2 ^ (31 - k) % 2]
theorem bitsTo_length (n : Nat) : ∀ k, (bitsTo n k).length = k
  | 0 => rfl
  | k + 1 => by simp [bitsTo, bitsTo_length n k]
/-- The slice v holds the 32 bits of n. -/
def Bits (W : World) (v : Value) (n : Nat) : Prop := ∃ g c, v = .slice (some ⟨g, 0, none⟩) 32 c ∧ 32 ≤ c ∧ g < W.heap.size ∧ W.rangeAt g 0 (ints (bitsTo n 32))
theorem Bits.below {W W' : World} {v : Value} {n : Nat} (h : Bits W v n) (hb : Below W.heap.size W W') : Bits W' v n := by
  obtain ⟨g, c, h1, h2, h3, h4⟩ := h
  exact ⟨g, c, h1, h2, Nat.lt_of_lt_of_le h3 hb.size, fun j u hu => by rw [hb.cell (p := ⟨g, 0 + j, none⟩) h3]; exact h4 j u hu⟩
theorem info3 : (Tryz.prog.info? 3).map (fun i => (i.zero, i.size, i.bytes)) = some (some (.int .i64 0), 1, 8) := by kernel_rfl
theorem bits_of_owns {W : World} {v : Value} {base n : Nat} (h : W.ownsRow base 3 1 v 32 (ints (bitsTo n 32))) : Bits W v n := by
  obtain ⟨h1, h2⟩ := h
  rcases h2 with ⟨_, h2⟩ | ⟨g, cap, cur, rfl, hg, hh, hn, hm, hs, ht⟩
  · exact absurd h2 (by decide)
  · refine ⟨g, cap, rfl, hn, (Array.getElem?_eq_some_iff.1 hh).1, fun j u hu => ?_⟩
    rw [Nat.zero_add, cell_of_row _ _ _ _ _ _ hh, ← hu, ← ht]
    have hj : j < 32 := by simpa [ints_length, bitsTo_length] using (List.getElem?_eq_some_iff.1 hu).1
    simp [hj]
theorem below_grown {base : Nat} {w0 W w' : World} {v : Value} {n : Nat} {xs : List Value} (hb : Below base w0 W) (hown : W.ownsRow base 3 1 v n xs) (hg : W.grownBy w' v.ownBlock) (hbase : base ≤ W.heap.size) : Below base w0 w' :=
  hb.grown hg hbase (fun k hk => (hown.lt k hk).1)
theorem owns_empty (w : World) : (w.alloc (.cells #[] 3)).ownsRow w.heap.size 3 1 (.slice (some ⟨w.heap.size, 0, none⟩) 0 0) 0 [] :=
  ⟨rfl, .inr ⟨w.heap.size, 0, #[], rfl, Nat.le_refl _, alloc_new _ _ _ rfl, Nat.le_refl _, Nat.zero_le _, rfl, rfl⟩⟩

set_option maxHeartbeats 400000 in
theorem word_any (n : Nat) (w : World) (hn : n < 4294967296) :
    Calls Tryz.prog 87 #[.int .u64 n] w fun e w' => ∃ v, e = .returned v ∧ Bits w' v n ∧ Below w.heap.size w w' := by
  obtain ⟨i0, hi, hz0, hz1, hz2⟩ := info_parts info3
  have HI := Sl.mk hi
  have HZ0 := Sl.mk hz0
  have HZ1 := Sl.mk hz1
  have HZ2 := Sl.mk hz2
  clear hi hz0 hz1 hz2
  go_enter Tryz.func87, Tryz.ntmps87
  go_wp2
  go_loopw [3, 4] (fun v i wr => ∃ k : Nat, k ≤ 32 ∧ i = .int .i64 (31 - (k : Int)) ∧ wr.ownsRow w.heap.size 3 1 v k (ints (bitsTo n k)) ∧ Below w.heap.size w wr) (fun _ i _ => (intOf i + 1).toNat)
  case atStart => exact ⟨0, by omega, rfl, owns_empty w, (Below.refl _ _).alloc (Nat.le_refl _) _⟩
  case round =>
    obtain ⟨k, hk, rfl, hown, hb⟩ := hrel
    have HO := Sl.mk hown
    have HB := Sl.mk hb
    clear hown hb
    by_cases hlt : k < 32
    · have e0 : (31 - (k : Int)).toNat = 31 - k := by omega
      have p0 : (0 : Int) ≤ 31 - (k : Int) := by omega
      obtain ⟨q, hq⟩ : ∃ q : Nat, q = n / 2 ^ (31 - k) := ⟨_, rfl⟩
      have hq' : (n : Int) / 2 ^ (31 - k) = (q : Int) := by rw [hq]; simp
      have hql : q < 4294967296 := by rw [hq]; exact Nat.lt_of_le_of_lt (Nat.div_le_self _ _) hn
      have HQ := Sl.mk hq
      clear hq
      have cn := World.cell?_alloc_at (w := wr) #[.int .i64 ((q : Int) % 2)] 3 wr.heap.size 0 rfl
      go_wp2_with (at_builtin; refine wpList_append_own _ rfl (.tmp 10) (.tmp 17) 79 rfl w.heap.size 3 i0 (.int .i64 0) 1 8 Tryz.underlying79 HI.out HZ0.out HZ1.out HZ2.out rfl (by decide) _ k _ rfl (HO.out.alloc _) ⟨wr.heap.size, 0, none⟩ 1 1 [.int .i64 ((q : Int) % 2)] rfl rfl ?c1 ?c2 ?c3 ?c4 ?c5 ?_)
      case c1 => intro j u hu; match j, hu with | 0, hu => simpa [Addr.add_mid] using hu
      case c2 => intro u hu; simp at hu; subst hu; rfl
      case c3 => unfold maxLen; omega
      case c4 => omega
      case c5 => rw [alloc_size]; have := HB.out.size; omega
      intro v' w1 hown' hgrow _
      have HO' : Sl (w1.ownsRow w.heap.size 3 1 v' (k + 1) (ints (bitsTo n (k + 1)))) := ⟨by
        have : ints (bitsTo n (k + 1)) = ints (bitsTo n k) ++ [.int .i64 ((q : Int) % 2)] := by simp [ints, bitsTo, vi, HQ.out]
        rw [this]; exact hown'⟩
      have HB' : Sl (Below w.heap.size w w1) := ⟨below_grown (HB.out.alloc HB.out.size _) (HO.out.alloc _) hgrow (by rw [alloc_size]; have := HB.out.size; omega)⟩
      clear hown' hgrow cn HO HB hq'
      go_wp2
      go_roundw
      case rel => exact ⟨k + 1, by omega, by go_num, HO'.out, HB'.out⟩
      case measure => simp [intOf]; omega
    · have hge : 32 ≤ k := by omega
      have HF : Sl (∀ v : Value, wr.ownsRow w.heap.size 3 1 v k (ints (bitsTo n k)) → Bits wr v n) := ⟨fun v h => by
        have e : k = 32 := by omega
        rw [e] at h; exact bits_of_owns h⟩
      go_wp2
      go_ret
      exact ⟨_, rfl, HF.out _ HO.out, HB.out⟩
end Go.Proofs.YthlagngpllahkaaGreatDoor.Sha
/- The document's answer, bits as lists: the contracts of number and plus. -/
namespace Go.Proofs.YthlagngpllahkaaGreatDoor.Sha
open Go.RowKit

theorem bitsTo_get (n : Nat) : ∀ m i, i < m → (bitsTo n m).getD i 0 = n / 2 ^ (31 - i) % 2
  | 0, i, h => by omega
  | m + 1, i, h => by
    by_cases e : i = m
    · subst e
      simp only [bitsTo, List.getD]
      rw [List.getElem?_append_right (by rw [bitsTo_length]; exact Nat.le_refl _), bitsTo_length, Nat.sub_self]
      rfl
    · simp only [bitsTo, List.getD]
      rw [List.getElem?_append_left (by rw [bitsTo_length]; omega)]
      exact bitsTo_get n m i (by omega)
theorem bits_cell {W : World} {g n : Nat} (h : W.rangeAt g 0 (ints (bitsTo n 32))) (k : Nat) (hk : k < 32) : W.cell? ⟨g, k, none⟩ = some (.int .i64 ((n / 2 ^ (31 - k) % 2 : Nat) : Int)) := by
  have := h k _ (ints_get _ k (by rw [bitsTo_length]; exact hk))
  rw [Nat.zero_add, bitsTo_get n 32 k hk] at this
  exact this
theorem half_step (n k : Nat) (hk : k < 32) : 2 * (n / 2 ^ (32 - k)) + n / 2 ^ (31 - k) % 2 = n / 2 ^ (31 - k) := by
  have e : n / 2 ^ (32 - k) = n / 2 ^ (31 - k) / 2 := by
    rw [Nat.div_div_eq_div_mul, ← Nat.pow_succ, show (31 - k).succ = 32 - k by omega]
  rw [e]; omega

set_option maxHeartbeats 400000 in
theorem number_any (v : Value) (n : Nat) (w : World) (hv : Bits w v n) (hn : n < 4294967296) :
    Calls Tryz.prog 92 #[v] w fun e w' => e = .returned (.int .u64 n) ∧ w = w' := by
  obtain ⟨g, c, rfl, hc, hg, hr⟩ := hv
  have HR := Sl.mk hr
  clear hr
  go_enter Tryz.func92, Tryz.ntmps92
  go_wp2
  go_loop [3, 4] (fun x i => ∃ k q : Nat, k ≤ 32 ∧ i = .int .i64 k ∧ x = .int .u64 q ∧ q = n / 2 ^ (32 - k)) (fun _ i => 32 - (intOf i).toNat)
  case atStart => exact ⟨0, 0, by omega, rfl, rfl, (Nat.div_eq_of_lt hn).symm⟩
  case round =>
    obtain ⟨k, q, hk, rfl, rfl, hq⟩ := hrel
    have HQ := Sl.mk hq
    have hql : q < 4294967296 := by rw [hq]; exact Nat.lt_of_le_of_lt (Nat.div_le_self _ _) hn
    clear hq
    by_cases hlt : k < 32
    · have hcell := bits_cell HR.out k hlt
      obtain ⟨b, hb⟩ : ∃ b : Nat, b = n / 2 ^ (31 - k) % 2 := ⟨_, rfl⟩
      rw [← hb] at hcell
      have hb2 : b < 2 := by rw [hb]; exact Nat.mod_lt _ (by decide)
      have HS : Sl (2 * q + b = n / 2 ^ (32 - (k + 1))) := ⟨by rw [HQ.out, hb, half_step n k hlt, show 31 - k = 32 - (k + 1) by omega]⟩
      clear hb
      go_wp2
      go_round
      case rel => exact ⟨k + 1, 2 * q + b, by omega, by go_num, by simp, HS.out⟩
      case measure => simp [intOf]; omega
    · have hge : 32 ≤ k := by omega
      have HE : Sl (q = n) := ⟨by have e : k = 32 := by omega
                                  rw [HQ.out, e]; simp⟩
      go_wp2
      go_ret
      exact ⟨by rw [HE.out]; rfl, rfl⟩

theorem word_ex (n : Nat) (X : Int) (w : World) (hX : X = (n : Int)) (hn : n < 4294967296) :
    Calls Tryz.prog 87 #[.int .u64 X] w fun e w' => ∃ v, e = .returned v ∧ Sl (Bits w' v n) ∧ Sl (Below w.heap.size w w') := by
  subst hX
  exact (word_any n w hn).mono fun _ _ ⟨v, he, h1, h2⟩ => ⟨v, he, ⟨h1⟩, ⟨h2⟩⟩

set_option maxHeartbeats 400000 in
theorem plus_any (v u : Value) (m n : Nat) (w : World) (hv : Bits w v m) (hu : Bits w u n) (hm : m < 4294967296) (hn : n < 4294967296) :
    Calls Tryz.prog 90 #[v, u] w fun e w' => ∃ x, e = .returned x ∧ Sl (Bits w' x ((m + n) % 4294967296)) ∧ Sl (Below w.heap.size w w') := by
  have HV := Sl.mk hv
  have HU := Sl.mk hu
  clear hv hu
  go_enter Tryz.func90, Tryz.ntmps90
  go_wp2_with fail
  refine (number_any v m _ HV.out hm).mono ?_
  rintro e w1 ⟨rfl, rfl⟩
  go_wp2_with fail
  refine (number_any u n _ HU.out hn).mono ?_
  rintro e w2 ⟨rfl, rfl⟩
  go_wp2_with fail
  refine (word_ex ((m + n) % 4294967296) _ _ (by simp) (Nat.mod_lt _ (by decide))).mono ?_
  rintro e w3 ⟨x, rfl, HX, HB⟩
  go_wp2
  go_ret
  exact ⟨x, rfl, HX, HB⟩
end Go.Proofs.YthlagngpllahkaaGreatDoor.Sha
/- The document's answer, bits as lists: the contracts of odd and turn. -/
namespace Go.Proofs.YthlagngpllahkaaGreatDoor.Sha
open Go.RowKit
section
variable {P : Program} {md : Region.Mode} {ops : Array Oper} {Q : Exit → Act → World → Prop} {S : World → Prop}
/-- What an operation is, its type too. -/
def opIsT (ops : Array Oper) (i : Nat) (d : Option Tmp) (op : Op) (g : Option (Nat × Bool)) (ty : TypeId) : Prop := (ops[i]?).map (fun o => (o.dst, o.op, o.guard, o.type)) = some (d, op, g, ty)
theorem op_ofT {i : Nat} {d : Option Tmp} {op : Op} {g : Option (Nat × Bool)} {ty : TypeId} (h : opIsT ops i d op g ty) : ∃ o, ops[i]? = some o ∧ o.dst = d ∧ o.op = op ∧ o.guard = g ∧ o.type = ty := by
  unfold opIsT at h
  cases ho : ops[i]? with
  | none => rw [ho] at h; cases h
  | some o =>
    rw [ho] at h
    simp only [Option.map_some, Option.some.injEq, Prod.mk.injEq] at h
    exact ⟨o, rfl, h.1, h.2.1, h.2.2.1, h.2.2.2⟩
/-- An append that stands alone. -/
theorem heldApp {fuel : Nat} {listed : Array Bool} {a : Act} {w : World} (i d : Nat) (s x : Operand) (t ty : TypeId) (g : Option (Nat × Bool)) (v v' : Value) (ad : Addr) (m c : Nat) (w' : World)
    (hi : opIsT ops i (some d) (.call { callee := .builtin .append, args := #[s, x], argTypes := #[t, t] }) g ty) (hw : lets ops a g = true) (hr : Region.ready md ops listed = [i])
    (hs : a.eval s = v) (hx : a.eval x = .slice (some ad) m c) (hrun : (Builtin.append_ #[t, t] ty #[v, .slice (some ad) m c]).run P w = .ok v' w') (hS : S w')
    (h : wpAnyH P md ops Q S fuel (listed.setIfInBounds i true) (a.put (some d) v') w') : wpAnyH P md ops Q S (fuel + 1) listed a w := by
  obtain ⟨o, ho, hd, hop, hg, hty⟩ := op_ofT hi
  refine wpAnyH_all hr (by simp) (fun k hk => ?_)
  rw [List.mem_singleton] at hk
  subst hk
  refine wpOp_step ho (fun K hK => ?_)
  rw [if_pos (wanted_of hg hw)]
  unfold Oper.wp
  have hy : (execOp a.eval o).run P w = .ok (.value v') w' := by
    rw [← hty] at hrun
    simp [execOp, hop, resolve, invoke, builtin, hs, hx, hrun, Result.andThen]
  rw [hy, Oper.upon_value, hd]
  exact hK _ _ ⟨hS, h⟩
end

/-- append on a row of ints of the call's own. -/
theorem app_ints {W : World} {base : Nat} {v : Value} {n : Nat} {xs : List Value} (hown : W.ownsRow base 3 1 v n xs) (ad : Addr) (m c : Nat) (news : List Value) (hl : news.length = m) (hnews : ∀ j u, news[j]? = some u → W.cell? (ad.add j) = some u)
    (h1 : ∀ u ∈ news, u.oneCell' = true) (hn : n + m ≤ 1000) (hbase : base ≤ W.heap.size) :
    ∃ v' w', (Builtin.append_ #[79, 79] 79 #[v, .slice (some ad) m c]).run Tryz.prog W = .ok v' w' ∧ Sl (w'.ownsRow base 3 1 v' (n + m) (xs ++ news)) ∧ Sl (W.grownBy w' v.ownBlock) := by
  obtain ⟨i0, hi, hz0, hz1, hz2⟩ := info_parts info3
  obtain ⟨v', w', h, h2, h3, _⟩ := run_append_own (P := Tryz.prog) W base 79 79 3 i0 (.int .i64 0) 1 8 Tryz.underlying79 hi hz0 hz1 hz2 rfl (by decide) v n xs hown ad m c news (by simpa using hl) hnews h1 (by unfold maxLen; omega) (by omega) hbase
  exact ⟨v', w', h, ⟨h2⟩, ⟨h3⟩⟩
theorem new_one (W : World) (v : Value) (t : TypeId) : ∀ j u, [v][j]? = some u → (W.alloc (.cells #[v] t)).cell? ((⟨W.heap.size, 0, none⟩ : Addr).add j) = some u := by
  intro j u hu
  rw [Addr.add_mid, Nat.zero_add, cell_of_row _ _ _ _ _ _ (alloc_new _ _ _ rfl)]
  simpa using hu
theorem odd_bit (m n k : Nat) : (m / 2 ^ k % 2 + n / 2 ^ k % 2) % 2 = (m ^^^ n) / 2 ^ k % 2 := by
  rw [← Nat.shiftRight_eq_div_pow, ← Nat.shiftRight_eq_div_pow, ← Nat.shiftRight_eq_div_pow, Nat.shiftRight_xor_distrib]
  generalize m >>> k = a
  generalize n >>> k = b
  have h1 := Nat.mod_two_eq_zero_or_one a
  have h2 := Nat.mod_two_eq_zero_or_one b
  have h3 : (a ^^^ b) % 2 = (a % 2) ^^^ (b % 2) := by
    have := @Nat.xor_mod_two_pow a b 1
    simpa using this
  rw [h3]
  rcases h1 with h1 | h1 <;> rcases h2 with h2 | h2 <;> rw [h1, h2] <;> rfl

set_option maxHeartbeats 1000000 in
theorem odd_any (v u : Value) (m n : Nat) (w : World) (hv : Bits w v m) (hu : Bits w u n) :
    Calls Tryz.prog 89 #[v, u] w fun e w' => ∃ x, e = .returned x ∧ Sl (Bits w' x (m ^^^ n)) ∧ Sl (Below w.heap.size w w') := by
  obtain ⟨g1, c1, rfl, hc1, hg1, hr1⟩ := hv
  obtain ⟨g2, c2, rfl, hc2, hg2, hr2⟩ := hu
  have HR1 := Sl.mk hr1
  have HR2 := Sl.mk hr2
  clear hr1 hr2
  go_enter Tryz.func89, Tryz.ntmps89
  go_wp2
  go_loopw [5, 6] (fun v i wr => ∃ k : Nat, k ≤ 32 ∧ i = .int .i64 (k : Int) ∧ wr.ownsRow w.heap.size 3 1 v k (ints (bitsTo (m ^^^ n) k)) ∧ Below w.heap.size w wr) (fun _ i _ => 32 - (intOf i).toNat)
  case atStart => exact ⟨0, by omega, rfl, owns_empty w, (Below.refl _ _).alloc (Nat.le_refl _) _⟩
  case round =>
    obtain ⟨k, hk, rfl, hown, hb⟩ := hrel
    have HO := Sl.mk hown
    have HB := Sl.mk hb
    clear hown hb
    by_cases hlt : k < 32
    · obtain ⟨x1, hx1⟩ : ∃ b : Nat, b = m / 2 ^ (31 - k) % 2 := ⟨_, rfl⟩
      obtain ⟨x2, hx2⟩ : ∃ b : Nat, b = n / 2 ^ (31 - k) % 2 := ⟨_, rfl⟩
      have HC1 : Sl (∀ W, Below w.heap.size w W → W.cell? ⟨g1, k, none⟩ = some (.int .i64 (x1 : Int))) := ⟨fun W h => by rw [h.cell (p := ⟨g1, k, none⟩) hg1, bits_cell HR1.out k hlt, hx1]⟩
      have HC2 : Sl (∀ W, Below w.heap.size w W → W.cell? ⟨g2, k, none⟩ = some (.int .i64 (x2 : Int))) := ⟨fun W h => by rw [h.cell (p := ⟨g2, k, none⟩) hg2, bits_cell HR2.out k hlt, hx2]⟩
      have l1 : x1 < 2 := by rw [hx1]; exact Nat.mod_lt _ (by decide)
      have l2 : x2 < 2 := by rw [hx2]; exact Nat.mod_lt _ (by decide)
      have HX : Sl ((x1 + x2) % 2 = (m ^^^ n) / 2 ^ (31 - k) % 2) := ⟨by rw [hx1, hx2]; exact odd_bit m n (31 - k)⟩
      clear hx1 hx2
      have p0 : (0 : Int) ≤ (k : Int) := by omega
      have p1 : (k : Int) < 32 := by omega
      go_wp2
      have s1 : IntKind.i64.wrap ((x1 : Int) + (x2 : Int)) = (x1 : Int) + (x2 : Int) := IntWalk.i64_in _ (by omega)
      have s2 : ((x1 : Int) + (x2 : Int)).tmod 2 = ((x1 : Int) + (x2 : Int)) % 2 := Int.tmod_eq_emod_of_nonneg (by omega)
      have s3 : IntKind.i64.wrap (((x1 : Int) + (x2 : Int)) % 2) = ((x1 : Int) + (x2 : Int)) % 2 := IntWalk.i64_in _ (by omega)
      refine wp_region_noPanic ?_
      refine wp_region_held (S := fun W => W.cell? ⟨g1, k, none⟩ = some (.int .i64 (x1 : Int)) ∧ W.cell? ⟨g2, k, none⟩ = some (.int .i64 (x2 : Int))) (by kernel_rfl) ?_
      change wpAnyH _ _ _ _ _ _ _ _ wr.drew
      have HB0 : Below w.heap.size w wr.drew := HB.out.drew
      have HS0 := And.intro (HC1.out _ HB0) (HC2.out _ HB0)
      refine heldTake (d := (some 13)) (op := .move (.tmp 0)) (g := none) 1 (.slice (some ⟨g1, 0, none⟩) 32 c1) rfl (by kernel_rfl) (by kernel_rfl) (by kernel_rfl) (by kernel_rfl) ?y1 HS0 ?_
      case y1 => intro o ho w _; simp only [execOp, ho]; go_simp; try rfl
      refine heldTake (d := (some 14)) (op := .move (.tmp 6)) (g := none) 2 (.int .i64 (k : Int)) rfl (by kernel_rfl) (by kernel_rfl) (by kernel_rfl) (by kernel_rfl) ?y2 HS0 ?_
      case y2 => intro o ho w _; simp only [execOp, ho]; go_simp; try rfl
      refine heldTake (d := (some 15)) (op := .indexAddr 79 (.tmp 13) (.tmp 14)) (g := none) 3 (.pointer (some ⟨g1, k, none⟩)) rfl (by kernel_rfl) (by kernel_rfl) (by kernel_rfl) (by kernel_rfl) ?y3 HS0 ?_
      case y3 => intro o ho w _; simp only [execOp, ho]; go_simp; try rfl
      refine heldTake (d := (some 16)) (op := .load 3 (.tmp 15)) (g := none) 4 (.int .i64 (x1 : Int)) rfl (by kernel_rfl) (by kernel_rfl) (by kernel_rfl) (by kernel_rfl) ?y4 HS0 ?_
      case y4 => intro o ho W hS; obtain ⟨hs1, hs2⟩ := hS; simp only [execOp, ho]; go_simp
      refine heldTake (d := (some 17)) (op := .move (.tmp 1)) (g := none) 5 (.slice (some ⟨g2, 0, none⟩) 32 c2) rfl (by kernel_rfl) (by kernel_rfl) (by kernel_rfl) (by kernel_rfl) ?y5 HS0 ?_
      case y5 => intro o ho w _; simp only [execOp, ho]; go_simp; try rfl
      refine heldTake (d := (some 18)) (op := .move (.tmp 6)) (g := none) 6 (.int .i64 (k : Int)) rfl (by kernel_rfl) (by kernel_rfl) (by kernel_rfl) (by kernel_rfl) ?y6 HS0 ?_
      case y6 => intro o ho w _; simp only [execOp, ho]; go_simp; try rfl
      refine heldTake (d := (some 19)) (op := .indexAddr 79 (.tmp 17) (.tmp 18)) (g := none) 7 (.pointer (some ⟨g2, k, none⟩)) rfl (by kernel_rfl) (by kernel_rfl) (by kernel_rfl) (by kernel_rfl) ?y7 HS0 ?_
      case y7 => intro o ho w _; simp only [execOp, ho]; go_simp; try rfl
      refine heldTake (d := (some 20)) (op := .load 3 (.tmp 19)) (g := none) 8 (.int .i64 (x2 : Int)) rfl (by kernel_rfl) (by kernel_rfl) (by kernel_rfl) (by kernel_rfl) ?y8 HS0 ?_
      case y8 => intro o ho W hS; obtain ⟨hs1, hs2⟩ := hS; simp only [execOp, ho]; go_simp
      refine heldTake (d := (some 21)) (op := .binOp .add 3 (.tmp 16) (.tmp 20) 3) (g := none) 9 (.int .i64 ((x1 : Int) + (x2 : Int))) rfl (by kernel_rfl) (by kernel_rfl) (by kernel_rfl) (by kernel_rfl) ?y9 HS0 ?_
      case y9 => intro o ho w _; simp only [execOp, ho]; go_simp; try rfl
      refine heldTake (d := (some 22)) (op := .binOp .rem 3 (.tmp 21) (.const (.int .i64 2)) 3) (g := none) 10 (.int .i64 (((x1 : Int) + (x2 : Int)) % 2)) rfl (by kernel_rfl) (by kernel_rfl) (by kernel_rfl) (by kernel_rfl) ?y10 HS0 ?_
      case y10 => intro o ho w _; simp only [execOp, ho]; go_simp; try rfl
      refine heldTake (d := (some 12)) (op := .move (.tmp 5)) (g := none) 0 u5 rfl (by kernel_rfl) (by kernel_rfl) (by kernel_rfl) (by kernel_rfl) ?y0 HS0 ?_
      case y0 => intro o ho w _; simp only [execOp, ho]; go_simp; try rfl
      have HB1 : Below w.heap.size w (wr.drew.alloc (.cells #[.int .i64 (((x1 : Int) + (x2 : Int)) % 2)] 3)) := HB0.alloc HB0.size _
      refine heldRun (d := (some 23)) (op := .buildSlice 79 1 #[(0, .tmp 22)]) (g := none) 11 (.slice (some ⟨wr.heap.size, 0, none⟩) 1 1) (wr.drew.alloc (.cells #[.int .i64 (((x1 : Int) + (x2 : Int)) % 2)] 3)) rfl (by kernel_rfl) (by kernel_rfl) ?y11 ⟨HC1.out _ HB1, HC2.out _ HB1⟩ ?_
      case y11 => intro o ho; simp only [execOp, ho]; go_simp
      obtain ⟨v2, w2, happ, HO2, HG2⟩ := app_ints (HO.out.drew.alloc (.cells #[.int .i64 (((x1 : Int) + (x2 : Int)) % 2)] 3)) ⟨wr.heap.size, 0, none⟩ 1 1 [.int .i64 (((x1 : Int) + (x2 : Int)) % 2)] rfl (new_one wr.drew _ 3) (fun u hu => by simp at hu; subst hu; rfl) (by omega) (by rw [alloc_size]; have := HB0.size; omega)
      have HB2 : Below w.heap.size w w2 := below_grown HB1 (HO.out.drew.alloc _) HG2.out (by rw [alloc_size]; have := HB0.size; omega)
      have HS2 := And.intro (HC1.out _ HB2) (HC2.out _ HB2)
      refine heldApp 12 24 (.tmp 12) (.tmp 23) 79 79 none u5 v2 ⟨wr.heap.size, 0, none⟩ 1 1 w2 rfl (by kernel_rfl) (by kernel_rfl) (by kernel_rfl) (by kernel_rfl) happ HS2 ?_
      refine heldTake (d := (some 5)) (op := .assign (.tmp 24)) (g := none) 13 (v2) rfl (by kernel_rfl) (by kernel_rfl) (by kernel_rfl) (by kernel_rfl) ?y13 HS2 ?_
      case y13 => intro o ho w _; simp only [execOp, ho]; go_simp; try rfl
      refine wpAnyH_done (by kernel_rfl) ?_ _
      refine NoPanic.normal ?_
      have HO' : Sl (w2.ownsRow w.heap.size 3 1 v2 (k + 1) (ints (bitsTo (m ^^^ n) (k + 1)))) := ⟨by
        have : ints (bitsTo (m ^^^ n) (k + 1)) = ints (bitsTo (m ^^^ n) k) ++ [.int .i64 (((x1 : Int) + (x2 : Int)) % 2)] := by
          simp [ints, bitsTo, vi, ← HX.out]
        rw [this]; exact HO2.out⟩
      clear happ s1 s2 s3 HB0 HS0 HS2 HB1
      simp only [Act.put, List.setIfInBounds_toArray, List.set_cons_succ, List.set_cons_zero]
      go_wp2
      go_roundw
      case rel => exact ⟨k + 1, by omega, by go_num, HO'.out, HB2⟩
      case measure => simp [intOf]; omega
    · have hge : 32 ≤ k := by omega
      have HF : Sl (∀ v : Value, wr.ownsRow w.heap.size 3 1 v k (ints (bitsTo (m ^^^ n) k)) → Bits wr v (m ^^^ n)) := ⟨fun v h => by
        have e : k = 32 := by omega
        rw [e] at h; exact bits_of_owns h⟩
      go_wp2
      go_ret
      exact ⟨_, rfl, ⟨HF.out _ HO.out⟩, HB⟩
end Go.Proofs.YthlagngpllahkaaGreatDoor.Sha
/- Plain facts on bits: what turning, choosing and the rest do bit by bit. -/
namespace Go.Proofs.YthlagngpllahkaaGreatDoor.Sha
open Go.RowKit

theorem list_ext_getD {l m : List Nat} (hl : l.length = m.length) (h : ∀ i, i < l.length → l.getD i 0 = m.getD i 0) : l = m := by
  apply List.ext_getElem hl
  intro i h1 h2
  have := h i h1
  simpa [List.getD, List.getElem?_eq_getElem h1, List.getElem?_eq_getElem h2] using this
theorem bit_eq (n j : Nat) : n / 2 ^ j % 2 = (n.testBit j).toNat := (Nat.toNat_testBit n j).symm
theorem rot_testBit (n k j : Nat) (hn : n < 4294967296) (hk : k ≤ 31) (hj : j < 32) : (rot n k).testBit j = if k ≤ j then n.testBit (j - k) else n.testBit (j + 32 - k) := by
  unfold rot
  rw [Nat.testBit_or, show (4294967296 : Nat) = 2 ^ 32 from rfl, Nat.testBit_mod_two_pow, Nat.testBit_div_two_pow, Nat.testBit_mul_two_pow]
  by_cases h : k ≤ j
  · have hz : n.testBit (j + (32 - k)) = false := Nat.testBit_lt_two_pow (Nat.lt_of_lt_of_le hn (by
      rw [show (4294967296 : Nat) = 2 ^ 32 from rfl]; exact Nat.pow_le_pow_right (by decide) (by omega)))
    simp [h, hj, hz]
  · simp [h, show j + 32 - k = j + (32 - k) by omega]
theorem turn_list (n k : Nat) (hn : n < 4294967296) (hk : k ≤ 31) : (bitsTo n 32).drop k ++ (bitsTo n 32).take k = bitsTo (rot n k) 32 := by
  refine list_ext_getD (by simp [bitsTo_length]; omega) (fun i hi => ?_)
  have hi32 : i < 32 := by simp [bitsTo_length] at hi; omega
  rw [bitsTo_get _ 32 i hi32, bit_eq, rot_testBit n k _ hn hk (by omega)]
  by_cases h : i + k < 32
  · rw [if_pos (by omega)]
    have e : ((bitsTo n 32).drop k ++ (bitsTo n 32).take k).getD i 0 = (bitsTo n 32).getD (k + i) 0 := by
      simp only [List.getD]
      rw [List.getElem?_append_left (by simp [bitsTo_length]; omega), List.getElem?_drop]
    rw [e, bitsTo_get _ 32 _ (by omega), bit_eq, show 31 - (k + i) = 31 - i - k by omega]
  · rw [if_neg (by omega)]
    have e : ((bitsTo n 32).drop k ++ (bitsTo n 32).take k).getD i 0 = (bitsTo n 32).getD (i + k - 32) 0 := by
      simp only [List.getD]
      rw [List.getElem?_append_right (by simp [bitsTo_length]; omega), List.getElem?_take]
      simp only [List.length_drop, bitsTo_length]
      rw [if_pos (by omega), show i - (32 - k) = i + k - 32 by omega]
    rw [e, bitsTo_get _ 32 _ (by omega), bit_eq, show 31 - (i + k - 32) = 31 - i + 32 - k by omega]

theorem toNat_and (a b : Bool) : (a && b).toNat = if a.toNat = 1 then b.toNat else 0 := by cases a <;> cases b <;> rfl
theorem ones_testBit (j : Nat) (hj : j < 32) : (4294967295 : Nat).testBit j = true := by
  rw [show (4294967295 : Nat) = 2 ^ 32 - 1 from rfl, Nat.testBit_two_pow_sub_one]
  simpa using hj
theorem ch_bit1 (t b c d j : Nat) (ht : t < 20) (hj : j < 32) (h : b / 2 ^ j % 2 = 1) : ch t b c d / 2 ^ j % 2 = c / 2 ^ j % 2 := by
  rw [bit_eq] at h
  rw [bit_eq, bit_eq]
  unfold ch
  rw [if_pos ht, Nat.testBit_or, Nat.testBit_and, Nat.testBit_and, Nat.testBit_xor, ones_testBit j hj]
  cases hb : b.testBit j
  · rw [hb] at h; cases h
  · simp
theorem ch_bit0 (t b c d j : Nat) (ht : t < 20) (hj : j < 32) (h : ¬ b / 2 ^ j % 2 = 1) : ch t b c d / 2 ^ j % 2 = d / 2 ^ j % 2 := by
  rw [bit_eq] at h
  rw [bit_eq, bit_eq]
  unfold ch
  rw [if_pos ht, Nat.testBit_or, Nat.testBit_and, Nat.testBit_and, Nat.testBit_xor, ones_testBit j hj]
  cases hb : b.testBit j
  · simp
  · rw [hb] at h; exact absurd rfl h
theorem ch_maj (t b c d j : Nat) (h1 : 40 ≤ t) (h2 : t < 60) : ch t b c d / 2 ^ j % 2 = if 2 ≤ b / 2 ^ j % 2 + c / 2 ^ j % 2 + d / 2 ^ j % 2 then 1 else 0 := by
  rw [bit_eq, bit_eq, bit_eq, bit_eq]
  unfold ch
  rw [if_neg (by omega), if_neg (by omega), if_pos h2, Nat.testBit_or, Nat.testBit_or, Nat.testBit_and, Nat.testBit_and, Nat.testBit_and]
  cases b.testBit j <;> cases c.testBit j <;> cases d.testBit j <;> rfl
theorem ch_par (t b c d j : Nat) (h1 : ¬ t < 20) (h2 : ¬ (40 ≤ t ∧ t < 60)) : ch t b c d / 2 ^ j % 2 = (b / 2 ^ j % 2 + c / 2 ^ j % 2 + d / 2 ^ j % 2) % 2 := by
  have e : ch t b c d = b ^^^ c ^^^ d := by
    unfold ch
    rw [if_neg h1]
    by_cases h3 : t < 40
    · rw [if_pos h3]
    · rw [if_neg h3, if_neg (by omega)]
  rw [e, bit_eq, bit_eq, bit_eq, bit_eq, Nat.testBit_xor, Nat.testBit_xor]
  cases b.testBit j <;> cases c.testBit j <;> cases d.testBit j <;> rfl
end Go.Proofs.YthlagngpllahkaaGreatDoor.Sha
/- The document's answer, bits as lists: the contract of turn. -/
namespace Go.Proofs.YthlagngpllahkaaGreatDoor.Sha
open Go.RowKit

theorem slice42_l (g k c : Nat) (hk : k ≤ 31) (hc : 32 ≤ c) (w : World) :
    (Instr.slice 79 (.slice (some ⟨g, 0, none⟩) 32 c) (some (.int .i64 (k : Int))) none none).run Tryz.prog w = .ok (.slice (some ⟨g, k, none⟩) (32 - k) (c - k)) w := by
  have hz : (sizeOf (Tryz.prog.elem 79)).run Tryz.prog w = .ok 1 w := by kernel_rfl
  rw [run_slice_l w 79 (some ⟨g, 0, none⟩) 32 c (by kernel_rfl) .i64 (k : Int) (by omega) (by omega), hz]
  simp only [Result.andThen, sliced, Int.toNat_natCast, Nat.mul_one]
  rw [if_neg (by omega)]
  simp [Addr.add_mid]
theorem slice42_h (g k c : Nat) (hk : k ≤ 31) (hc : 32 ≤ c) (w : World) :
    (Instr.slice 79 (.slice (some ⟨g, 0, none⟩) 32 c) none (some (.int .i64 (k : Int))) none).run Tryz.prog w = .ok (.slice (some ⟨g, 0, none⟩) k c) w := by
  have hz : (sizeOf (Tryz.prog.elem 79)).run Tryz.prog w = .ok 1 w := by kernel_rfl
  rw [run_slice_h w 79 (some ⟨g, 0, none⟩) 32 c (by kernel_rfl) .i64 (k : Int) (by omega) (by omega), hz]
  simp only [Result.andThen, sliced, Int.toNat_natCast, Nat.sub_zero]
  rw [if_neg (by omega)]
  simp [Addr.add_mid]
theorem ints_one (l : List Nat) : ∀ u ∈ ints l, u.oneCell' = true := by
  intro u hu; simp [ints, vi] at hu; obtain ⟨n, _, rfl⟩ := hu; rfl
theorem range_part {W : World} {g : Nat} {l : List Nat} (h : W.rangeAt g 0 (ints l)) (k m : Nat) : ∀ j u, (ints ((l.drop k).take m))[j]? = some u → W.cell? ((⟨g, k, none⟩ : Addr).add j) = some u := by
  intro j u hu
  have hj : j < ((l.drop k).take m).length := by simpa [ints_length] using (List.getElem?_eq_some_iff.1 hu).1
  have hj2 : j < m ∧ k + j < l.length := by simp at hj; omega
  rw [Addr.add_mid]
  have := h (k + j) u (by
    rw [← hu]
    simp only [ints, List.getElem?_map, List.getElem?_take, if_pos hj2.1, List.getElem?_drop])
  rw [Nat.zero_add] at this
  exact this

set_option maxHeartbeats 1000000 in
theorem turn_any (v : Value) (n k : Nat) (X : Int) (w : World) (hX : X = (k : Int)) (hv : Bits w v n) (hn : n < 4294967296) (hk : k ≤ 31) :
    Calls Tryz.prog 88 #[v, .int .i64 X] w fun e w' => ∃ x, e = .returned x ∧ Sl (Bits w' x (rot n k)) ∧ Sl (Below w.heap.size w w') := by
  subst hX
  obtain ⟨g, c, rfl, hc, hg, hr⟩ := hv
  have HR := Sl.mk hr
  clear hr
  have e1 := slice42_l g k c hk hc
  have e2 := slice42_h g k c hk hc
  go_enter Tryz.func88, Tryz.ntmps88
  go_wp2
  refine wp_region_noPanic ?_
  refine wp_region_held (S := fun _ => True) (by kernel_rfl) ?_
  change wpAnyH _ _ _ _ _ _ _ _ w.drew
  refine heldTake (d := (some 6)) (op := .move (.tmp 0)) (g := none) 1 (.slice (some ⟨g, 0, none⟩) 32 c) rfl (by kernel_rfl) (by kernel_rfl) (by kernel_rfl) (by kernel_rfl) ?y1 trivial ?_
  case y1 => intro o ho w _; simp only [execOp, ho]; go_simp; try rfl
  refine heldTake (d := (some 7)) (op := .move (.tmp 1)) (g := none) 2 (.int .i64 (k : Int)) rfl (by kernel_rfl) (by kernel_rfl) (by kernel_rfl) (by kernel_rfl) ?y2 trivial ?_
  case y2 => intro o ho w _; simp only [execOp, ho]; go_simp; try rfl
  refine heldTake (d := (some 8)) (op := .slice 79 (.tmp 6) (some (.tmp 7)) none none) (g := none) 3 (.slice (some ⟨g, k, none⟩) (32 - k) (c - k)) rfl (by kernel_rfl) (by kernel_rfl) (by kernel_rfl) (by kernel_rfl) ?y3 trivial ?_
  case y3 => intro o ho w _; simp only [execOp, ho]; go_simp; try rfl
  refine heldTake (d := (some 10)) (op := .move (.tmp 0)) (g := none) 5 (.slice (some ⟨g, 0, none⟩) 32 c) rfl (by kernel_rfl) (by kernel_rfl) (by kernel_rfl) (by kernel_rfl) ?y5 trivial ?_
  case y5 => intro o ho w _; simp only [execOp, ho]; go_simp; try rfl
  refine heldTake (d := (some 11)) (op := .move (.tmp 1)) (g := none) 6 (.int .i64 (k : Int)) rfl (by kernel_rfl) (by kernel_rfl) (by kernel_rfl) (by kernel_rfl) ?y6 trivial ?_
  case y6 => intro o ho w _; simp only [execOp, ho]; go_simp; try rfl
  refine heldTake (d := (some 12)) (op := .slice 79 (.tmp 10) none (some (.tmp 11)) none) (g := none) 7 (.slice (some ⟨g, 0, none⟩) k c) rfl (by kernel_rfl) (by kernel_rfl) (by kernel_rfl) (by kernel_rfl) ?y7 trivial ?_
  case y7 => intro o ho w _; simp only [execOp, ho]; go_simp; try rfl
  refine heldRun (d := (some 5)) (op := .buildSlice 79 0 #[]) (g := none) 0 (.slice (some ⟨w.heap.size, 0, none⟩) 0 0) (w.drew.alloc (.cells #[] 3)) rfl (by kernel_rfl) (by kernel_rfl) ?y0 trivial ?_
  case y0 => intro o ho; simp only [execOp, ho]; go_simp
  have HB1 : Below w.heap.size w (w.drew.alloc (.cells #[] 3)) := ((Below.refl _ _).drew).alloc (Nat.le_refl _) _
  have HO1 : (w.drew.alloc (.cells #[] 3)).ownsRow w.heap.size 3 1 (.slice (some ⟨w.heap.size, 0, none⟩) 0 0) 0 [] := owns_empty w.drew
  have HR1 : (w.drew.alloc (.cells #[] 3)).rangeAt g 0 (ints (bitsTo n 32)) := fun j u hu => by rw [HB1.cell (p := ⟨g, 0 + j, none⟩) hg]; exact HR.out j u hu
  obtain ⟨v2, w2, happ, HO2, HG2⟩ := app_ints HO1 ⟨g, k, none⟩ (32 - k) (c - k) (ints (((bitsTo n 32).drop k).take (32 - k))) (by simp [ints_length, bitsTo_length]) (range_part HR1 k (32 - k)) (ints_one _) (by omega) (by rw [alloc_size]; show _ ≤ w.heap.size + 1; omega)
  have HB2 : Below w.heap.size w w2 := below_grown HB1 HO1 HG2.out (by rw [alloc_size]; show _ ≤ w.heap.size + 1; omega)
  have HR2 : w2.rangeAt g 0 (ints (bitsTo n 32)) := fun j u hu => by rw [HB2.cell (p := ⟨g, 0 + j, none⟩) hg]; exact HR.out j u hu
  refine heldApp 4 9 (.tmp 5) (.tmp 8) 79 79 none (.slice (some ⟨w.heap.size, 0, none⟩) 0 0) v2 ⟨g, k, none⟩ (32 - k) (c - k) w2 rfl (by kernel_rfl) (by kernel_rfl) (by kernel_rfl) (by kernel_rfl) happ trivial ?_
  obtain ⟨v3, w3, happ3, HO3, HG3⟩ := app_ints HO2.out ⟨g, 0, none⟩ k c (ints (((bitsTo n 32).drop 0).take k)) (by simp [ints_length, bitsTo_length]; omega) (range_part HR2 0 k) (ints_one _) (by omega) HB2.size
  have HB3 : Below w.heap.size w w3 := below_grown HB2 HO2.out HG3.out HB2.size
  refine heldApp 8 13 (.tmp 9) (.tmp 12) 79 79 none v2 v3 ⟨g, 0, none⟩ k c w3 rfl (by kernel_rfl) (by kernel_rfl) (by kernel_rfl) (by kernel_rfl) happ3 trivial ?_
  refine heldTake (d := (some 4)) (op := .assign (.tmp 13)) (g := none) 9 (v3) rfl (by kernel_rfl) (by kernel_rfl) (by kernel_rfl) (by kernel_rfl) ?y9 trivial ?_
  case y9 => intro o ho w _; simp only [execOp, ho]; go_simp; try rfl
  have HF : Sl (Bits w3 v3 (rot n k)) := ⟨bits_of_owns (base := w.heap.size) (by
    have h := HO3.out
    rw [show 0 + (32 - k) + k = 32 by omega] at h
    rw [← turn_list n k hn hk]
    have e : [] ++ ints (((bitsTo n 32).drop k).take (32 - k)) ++ ints (((bitsTo n 32).drop 0).take k) = ints ((bitsTo n 32).drop k ++ (bitsTo n 32).take k) := by
      rw [List.take_of_length_le (by simp [bitsTo_length])]
      simp [ints]
    rw [e] at h
    exact h)⟩
  refine wpAnyH_done (by kernel_rfl) ?_ _
  refine NoPanic.normal ?_
  clear happ happ3 e1 e2
  simp only [Act.put, List.setIfInBounds_toArray, List.set_cons_succ, List.set_cons_zero]
  go_wp2
  go_ret
  exact ⟨v3, rfl, HF, ⟨HB3⟩⟩
end Go.Proofs.YthlagngpllahkaaGreatDoor.Sha
/- The document's answer, bits as lists: the contract of f. -/
namespace Go.Proofs.YthlagngpllahkaaGreatDoor.Sha
open Go.RowKit

/-- A bit more on a row of ints of the call's own: what it is. -/
theorem owns_bit {w1 : World} {base k : Nat} {v : Value} {n : Nat} {X : Int} (h : w1.ownsRow base 3 1 v (k + 1) (ints (bitsTo n k) ++ [.int .i64 X])) (hX : X = ((n / 2 ^ (31 - k) % 2 : Nat) : Int)) : w1.ownsRow base 3 1 v (k + 1) (ints (bitsTo n (k + 1))) := by
  have : ints (bitsTo n (k + 1)) = ints (bitsTo n k) ++ [.int .i64 X] := by simp [ints, bitsTo, vi, hX]
  rw [this]; exact h

set_option maxRecDepth 100000 in
set_option maxHeartbeats 2000000 in
theorem f_any (t : Nat) (v1 v2 v3 : Value) (b c d : Nat) (w : World) (ht : t < 80) (hv1 : Bits w v1 b) (hv2 : Bits w v2 c) (hv3 : Bits w v3 d) :
    Calls Tryz.prog 91 #[.int .i64 t, v1, v2, v3] w fun e w' => ∃ x, e = .returned x ∧ Sl (Bits w' x (ch t b c d)) ∧ Sl (Below w.heap.size w w') := by
  obtain ⟨g1, c1, rfl, hc1, hg1, hr1⟩ := hv1
  obtain ⟨g2, c2, rfl, hc2, hg2, hr2⟩ := hv2
  obtain ⟨g3, c3, rfl, hc3, hg3, hr3⟩ := hv3
  have HR1 := Sl.mk hr1
  have HR2 := Sl.mk hr2
  have HR3 := Sl.mk hr3
  obtain ⟨i0, hi, hz0, hz1, hz2⟩ := info_parts info3
  have HI := Sl.mk hi
  have HZ0 := Sl.mk hz0
  have HZ1 := Sl.mk hz1
  have HZ2 := Sl.mk hz2
  clear hi hz0 hz1 hz2 hr1 hr2 hr3
  go_enter Tryz.func91, Tryz.ntmps91
  go_wp2
  go_loopw [9, 10] (fun v i wr => ∃ k : Nat, k ≤ 32 ∧ i = .int .i64 (k : Int) ∧ wr.ownsRow w.heap.size 3 1 v k (ints (bitsTo (ch t b c d) k)) ∧ Below w.heap.size w wr) (fun _ i _ => 32 - (intOf i).toNat)
  case atStart => exact ⟨0, by omega, rfl, owns_empty w, (Below.refl _ _).alloc (Nat.le_refl _) _⟩
  case round =>
    obtain ⟨k, hk, rfl, hown, hb⟩ := hrel
    have HO := Sl.mk hown
    have HB := Sl.mk hb
    clear hown hb
    by_cases hlt : k < 32
    · obtain ⟨x1, hx1⟩ : ∃ q : Nat, q = b / 2 ^ (31 - k) % 2 := ⟨_, rfl⟩
      obtain ⟨x2, hx2⟩ : ∃ q : Nat, q = c / 2 ^ (31 - k) % 2 := ⟨_, rfl⟩
      obtain ⟨x3, hx3⟩ : ∃ q : Nat, q = d / 2 ^ (31 - k) % 2 := ⟨_, rfl⟩
      have cc1 : wr.cell? ⟨g1, k, none⟩ = some (.int .i64 (x1 : Int)) := by rw [HB.out.cell (p := ⟨g1, k, none⟩) hg1, bits_cell HR1.out k hlt, hx1]
      have cc2 : wr.cell? ⟨g2, k, none⟩ = some (.int .i64 (x2 : Int)) := by rw [HB.out.cell (p := ⟨g2, k, none⟩) hg2, bits_cell HR2.out k hlt, hx2]
      have cc3 : wr.cell? ⟨g3, k, none⟩ = some (.int .i64 (x3 : Int)) := by rw [HB.out.cell (p := ⟨g3, k, none⟩) hg3, bits_cell HR3.out k hlt, hx3]
      have l1 : x1 < 2 := by rw [hx1]; exact Nat.mod_lt _ (by decide)
      have l2 : x2 < 2 := by rw [hx2]; exact Nat.mod_lt _ (by decide)
      have l3 : x3 < 2 := by rw [hx3]; exact Nat.mod_lt _ (by decide)
      have HX1 := Sl.mk hx1
      have HX2 := Sl.mk hx2
      have HX3 := Sl.mk hx3
      clear hx1 hx2 hx3
      have p0 : (0 : Int) ≤ (k : Int) := by omega
      have p1 : (k : Int) < 32 := by omega
      go_wp2
      have s1 : IntKind.i64.wrap ((x1 : Int) + (x2 : Int)) = (x1 : Int) + (x2 : Int) := IntWalk.i64_in _ (by omega)
      have s2 : IntKind.i64.wrap ((x1 : Int) + (x2 : Int) + (x3 : Int)) = (x1 : Int) + (x2 : Int) + (x3 : Int) := IntWalk.i64_in _ (by omega)
      go_still (by kernel_rfl)
      change Exit.then _ _ _ _ wr.drew
      clear s1 s2
      have HOd : Sl (wr.drew.ownsRow w.heap.size 3 1 u9 k (ints (bitsTo (ch t b c d) k))) := ⟨HO.out.drew⟩
      have HBd : Sl (Below w.heap.size w wr.drew) := ⟨HB.out.drew⟩
      have cd1 : wr.drew.cell? ⟨g1, k, none⟩ = some (.int .i64 (x1 : Int)) := cc1
      have cd2 : wr.drew.cell? ⟨g2, k, none⟩ = some (.int .i64 (x2 : Int)) := cc2
      have cd3 : wr.drew.cell? ⟨g3, k, none⟩ = some (.int .i64 (x3 : Int)) := cc3
      clear HO HB cc1 cc2 cc3
      generalize wr.drew = wd at *
      clear wr
      by_cases ht1 : t < 20
      · by_cases hb1 : x1 = 1
        · have tb : ((x1 : Int) == 1) = true := by simp; omega
          go_wp2_with (at_builtin; refine wpList_append_own _ rfl (.tmp 46) (.tmp 51) 79 rfl w.heap.size 3 i0 (.int .i64 0) 1 8 Tryz.underlying79 HI.out HZ0.out HZ1.out HZ2.out rfl (by decide) _ k _ rfl (HOd.out.alloc _) ⟨wd.heap.size, 0, none⟩ 1 1 [.int .i64 ((x2 : Int))] rfl rfl (new_one wd _ 3) (fun u hu => by simp at hu; subst hu; rfl) (by unfold maxLen; omega) (by omega) (by rw [alloc_size]; have := HBd.out.size; omega) ?_)
          intro v' w1 hown' hgrow _
          have HO' : Sl (w1.ownsRow w.heap.size 3 1 v' (k + 1) (ints (bitsTo (ch t b c d) (k + 1)))) := ⟨owns_bit hown' (by rw [ch_bit1 t b c d (31 - k) ht1 (by omega) (by rw [← HX1.out]; exact hb1), ← HX2.out])⟩
          have HB' : Sl (Below w.heap.size w w1) := ⟨below_grown (HBd.out.alloc HBd.out.size _) (HOd.out.alloc _) hgrow (by rw [alloc_size]; have := HBd.out.size; omega)⟩
          clear hown' hgrow HOd HBd
          go_wp2
          go_roundw
          case rel => exact ⟨k + 1, by omega, by go_num, HO'.out, HB'.out⟩
          case measure => simp [intOf]; omega
        · have tb : ((x1 : Int) == 1) = false := by simp; omega
          go_wp2_with (at_builtin; refine wpList_append_own _ rfl (.tmp 56) (.tmp 61) 79 rfl w.heap.size 3 i0 (.int .i64 0) 1 8 Tryz.underlying79 HI.out HZ0.out HZ1.out HZ2.out rfl (by decide) _ k _ rfl (HOd.out.alloc _) ⟨wd.heap.size, 0, none⟩ 1 1 [.int .i64 ((x3 : Int))] rfl rfl (new_one wd _ 3) (fun u hu => by simp at hu; subst hu; rfl) (by unfold maxLen; omega) (by omega) (by rw [alloc_size]; have := HBd.out.size; omega) ?_)
          intro v' w1 hown' hgrow _
          have HO' : Sl (w1.ownsRow w.heap.size 3 1 v' (k + 1) (ints (bitsTo (ch t b c d) (k + 1)))) := ⟨owns_bit hown' (by rw [ch_bit0 t b c d (31 - k) ht1 (by omega) (by rw [← HX1.out]; exact hb1), ← HX3.out])⟩
          have HB' : Sl (Below w.heap.size w w1) := ⟨below_grown (HBd.out.alloc HBd.out.size _) (HOd.out.alloc _) hgrow (by rw [alloc_size]; have := HBd.out.size; omega)⟩
          clear hown' hgrow HOd HBd
          go_wp2
          go_roundw
          case rel => exact ⟨k + 1, by omega, by go_num, HO'.out, HB'.out⟩
          case measure => simp [intOf]; omega
      · by_cases ht2 : 40 ≤ t ∧ t < 60
        · obtain ⟨ht3, ht4⟩ := ht2
          by_cases hs2 : 2 ≤ x1 + x2 + x3
          · have ts : (2 : Int) ≤ (x1 : Int) + (x2 : Int) + (x3 : Int) := by omega
            go_wp2_with (at_builtin; refine wpList_append_own _ rfl (.tmp 74) (.tmp 75) 79 rfl w.heap.size 3 i0 (.int .i64 0) 1 8 Tryz.underlying79 HI.out HZ0.out HZ1.out HZ2.out rfl (by decide) _ k _ rfl (HOd.out.alloc _) ⟨wd.heap.size, 0, none⟩ 1 1 [.int .i64 (1)] rfl rfl (new_one wd _ 3) (fun u hu => by simp at hu; subst hu; rfl) (by unfold maxLen; omega) (by omega) (by rw [alloc_size]; have := HBd.out.size; omega) ?_)
            intro v' w1 hown' hgrow _
            have HO' : Sl (w1.ownsRow w.heap.size 3 1 v' (k + 1) (ints (bitsTo (ch t b c d) (k + 1)))) := ⟨owns_bit hown' (by rw [ch_maj t b c d (31 - k) ht3 ht4, ← HX1.out, ← HX2.out, ← HX3.out, if_pos hs2]; rfl)⟩
            have HB' : Sl (Below w.heap.size w w1) := ⟨below_grown (HBd.out.alloc HBd.out.size _) (HOd.out.alloc _) hgrow (by rw [alloc_size]; have := HBd.out.size; omega)⟩
            clear hown' hgrow HOd HBd
            go_wp2
            go_roundw
            case rel => exact ⟨k + 1, by omega, by go_num, HO'.out, HB'.out⟩
            case measure => simp [intOf]; omega
          · have ts : ¬ (2 : Int) ≤ (x1 : Int) + (x2 : Int) + (x3 : Int) := by omega
            go_wp2_with (at_builtin; refine wpList_append_own _ rfl (.tmp 84) (.tmp 85) 79 rfl w.heap.size 3 i0 (.int .i64 0) 1 8 Tryz.underlying79 HI.out HZ0.out HZ1.out HZ2.out rfl (by decide) _ k _ rfl (HOd.out.alloc _) ⟨wd.heap.size, 0, none⟩ 1 1 [.int .i64 (0)] rfl rfl (new_one wd _ 3) (fun u hu => by simp at hu; subst hu; rfl) (by unfold maxLen; omega) (by omega) (by rw [alloc_size]; have := HBd.out.size; omega) ?_)
            intro v' w1 hown' hgrow _
            have HO' : Sl (w1.ownsRow w.heap.size 3 1 v' (k + 1) (ints (bitsTo (ch t b c d) (k + 1)))) := ⟨owns_bit hown' (by rw [ch_maj t b c d (31 - k) ht3 ht4, ← HX1.out, ← HX2.out, ← HX3.out, if_neg hs2]; rfl)⟩
            have HB' : Sl (Below w.heap.size w w1) := ⟨below_grown (HBd.out.alloc HBd.out.size _) (HOd.out.alloc _) hgrow (by rw [alloc_size]; have := HBd.out.size; omega)⟩
            clear hown' hgrow HOd HBd
            go_wp2
            go_roundw
            case rel => exact ⟨k + 1, by omega, by go_num, HO'.out, HB'.out⟩
            case measure => simp [intOf]; omega
        · have hpar := ch_par t b c d (31 - k) ht1 ht2
          have HPAR := Sl.mk hpar
          clear hpar
          by_cases ht40 : t < 40
          · clear ht2
            go_wp2_with (at_builtin; refine wpList_append_own _ rfl (.tmp 31) (.tmp 34) 79 rfl w.heap.size 3 i0 (.int .i64 0) 1 8 Tryz.underlying79 HI.out HZ0.out HZ1.out HZ2.out rfl (by decide) _ k _ rfl (HOd.out.alloc _) ⟨wd.heap.size, 0, none⟩ 1 1 [.int .i64 (((x1 : Int) + (x2 : Int) + (x3 : Int)) % 2)] rfl rfl (new_one wd _ 3) (fun u hu => by simp at hu; subst hu; rfl) (by unfold maxLen; omega) (by omega) (by rw [alloc_size]; have := HBd.out.size; omega) ?_)
            intro v' w1 hown' hgrow _
            have HO' : Sl (w1.ownsRow w.heap.size 3 1 v' (k + 1) (ints (bitsTo (ch t b c d) (k + 1)))) := ⟨owns_bit hown' (by rw [HPAR.out, ← HX1.out, ← HX2.out, ← HX3.out]; simp)⟩
            have HB' : Sl (Below w.heap.size w w1) := ⟨below_grown (HBd.out.alloc HBd.out.size _) (HOd.out.alloc _) hgrow (by rw [alloc_size]; have := HBd.out.size; omega)⟩
            clear hown' hgrow HOd HBd
            go_wp2
            go_roundw
            case rel => exact ⟨k + 1, by omega, by go_num, HO'.out, HB'.out⟩
            case measure => simp [intOf]; omega
          · have ht60 : 60 ≤ t := by omega
            clear ht2
            go_wp2_with (at_builtin; refine wpList_append_own _ rfl (.tmp 31) (.tmp 34) 79 rfl w.heap.size 3 i0 (.int .i64 0) 1 8 Tryz.underlying79 HI.out HZ0.out HZ1.out HZ2.out rfl (by decide) _ k _ rfl (HOd.out.alloc _) ⟨wd.heap.size, 0, none⟩ 1 1 [.int .i64 (((x1 : Int) + (x2 : Int) + (x3 : Int)) % 2)] rfl rfl (new_one wd _ 3) (fun u hu => by simp at hu; subst hu; rfl) (by unfold maxLen; omega) (by omega) (by rw [alloc_size]; have := HBd.out.size; omega) ?_)
            intro v' w1 hown' hgrow _
            have HO' : Sl (w1.ownsRow w.heap.size 3 1 v' (k + 1) (ints (bitsTo (ch t b c d) (k + 1)))) := ⟨owns_bit hown' (by rw [HPAR.out, ← HX1.out, ← HX2.out, ← HX3.out]; simp)⟩
            have HB' : Sl (Below w.heap.size w w1) := ⟨below_grown (HBd.out.alloc HBd.out.size _) (HOd.out.alloc _) hgrow (by rw [alloc_size]; have := HBd.out.size; omega)⟩
            clear hown' hgrow HOd HBd
            go_wp2
            go_roundw
            case rel => exact ⟨k + 1, by omega, by go_num, HO'.out, HB'.out⟩
            case measure => simp [intOf]; omega
    · have hge : 32 ≤ k := by omega
      have HF : Sl (∀ v : Value, wr.ownsRow w.heap.size 3 1 v k (ints (bitsTo (ch t b c d) k)) → Bits wr v (ch t b c d)) := ⟨fun v h => by
        have e : k = 32 := by omega
        rw [e] at h; exact bits_of_owns h⟩
      go_wp2
      go_ret
      exact ⟨_, rfl, ⟨HF.out _ HO.out⟩, HB⟩
end Go.Proofs.YthlagngpllahkaaGreatDoor.Sha
