/- The document's answer, bits as lists: the contracts of odd and turn. -/
import Derived.Test.YtmiemklgekhfeaaDoorS
namespace Go.Proofs.YtmiemklgekhfeaaDoor
open Go.RowKit
section
variable {P : Program} {md : Region.Mode} {ops : Array Oper} {Q : Exit → Act → World → Prop} {S : World → Prop}
/-- What an operation is, its type too. -/
def opIsT (ops : Array Oper) (i : Nat) (d : Option Tmp) (op : Op) (g : Option (Nat × Bool)) (ty : TypeId) : Prop := (ops[i]?).map (fun o => (o.dst, o.op, o.guard, o.type)) = some (d, op, g, ty)
theorem op_ofT {i : Nat} {d : Option Tmp} {op : Op} {g : Option (Nat × Bool)} {ty : TypeId} (h : opIsT ops i d op g ty) : ∃ o, ops[i]? = some o ∧ o.dst = d ∧ o.op = op ∧ o.guard = g ∧ o.type = ty := by
  unfold opIsT at h
  cases ho : ops[i]? with
  | none => rw [ho] at h; cases h
  | some o =>
    rw [ho] at h
    simp only [Option.map_some, Option.some.injEq, Prod.mk.injEq] at h
    exact ⟨o, rfl, h.1, h.2.1, h.2.2.1, h.2.2.2⟩
/-- An append that stands alone. -/
theorem heldApp {fuel : Nat} {listed : Array Bool} {a : Act} {w : World} (i d : Nat) (s x : Operand) (t ty : TypeId) (g : Option (Nat × Bool)) (v v' : Value) (ad : Addr) (m c : Nat) (w' : World)
    (hi : opIsT ops i (some d) (.call { callee := .builtin .append, args := #[s, x], argTypes := #[t, t] }) g ty) (hw : lets ops a g = true) (hr : Region.ready md ops listed = [i])
    (hs : a.eval s = v) (hx : a.eval x = .slice (some ad) m c) (hrun : (Builtin.append_ #[t, t] ty #[v, .slice (some ad) m c]).run P w = .ok v' w') (hS : S w')
    (h : wpAnyH P md ops Q S fuel (listed.setIfInBounds i true) (a.put (some d) v') w') : wpAnyH P md ops Q S (fuel + 1) listed a w := by
  obtain ⟨o, ho, hd, hop, hg, hty⟩ := op_ofT hi
  refine wpAnyH_all hr (by simp) (fun k hk => ?_)
  rw [List.mem_singleton] at hk
  subst hk
  refine wpOp_step ho (fun K hK => ?_)
  rw [if_pos (wanted_of hg hw)]
  unfold Oper.wp
  have hy : (execOp a.eval o).run P w = .ok (.value v') w' := by
    rw [← hty] at hrun
    simp [execOp, hop, resolve, invoke, builtin, hs, hx, hrun, Result.andThen]
  rw [hy, Oper.upon_value, hd]
  exact hK _ _ ⟨hS, h⟩
end

/-- append on a row of ints of the call's own. -/
theorem app_ints {W : World} {base : Nat} {v : Value} {n : Nat} {xs : List Value} (hown : W.ownsRow base 3 1 v n xs) (ad : Addr) (m c : Nat) (news : List Value) (hl : news.length = m) (hnews : ∀ j u, news[j]? = some u → W.cell? (ad.add j) = some u)
    (h1 : ∀ u ∈ news, u.oneCell' = true) (hn : n + m ≤ 1000) (hbase : base ≤ W.heap.size) :
    ∃ v' w', (Builtin.append_ #[42, 42] 42 #[v, .slice (some ad) m c]).run Tryd.prog W = .ok v' w' ∧ Sl (w'.ownsRow base 3 1 v' (n + m) (xs ++ news)) ∧ Sl (W.grownBy w' v.ownBlock) := by
  obtain ⟨i0, hi, hz0, hz1, hz2⟩ := info_parts info3
  obtain ⟨v', w', h, h2, h3, _⟩ := run_append_own (P := Tryd.prog) W base 42 42 3 i0 (.int .i64 0) 1 8 Tryd.underlying42 hi hz0 hz1 hz2 rfl (by decide) v n xs hown ad m c news (by simpa using hl) hnews h1 (by unfold maxLen; omega) (by omega) hbase
  exact ⟨v', w', h, ⟨h2⟩, ⟨h3⟩⟩
theorem new_one (W : World) (v : Value) (t : TypeId) : ∀ j u, [v][j]? = some u → (W.alloc (.cells #[v] t)).cell? ((⟨W.heap.size, 0, none⟩ : Addr).add j) = some u := by
  intro j u hu
  rw [Addr.add_mid, Nat.zero_add, cell_of_row _ _ _ _ _ _ (alloc_new _ _ _ rfl)]
  simpa using hu
theorem odd_bit (m n k : Nat) : (m / 2 ^ k % 2 + n / 2 ^ k % 2) % 2 = (m ^^^ n) / 2 ^ k % 2 := by
  rw [← Nat.shiftRight_eq_div_pow, ← Nat.shiftRight_eq_div_pow, ← Nat.shiftRight_eq_div_pow, Nat.shiftRight_xor_distrib]
  generalize m >>> k = a
  generalize n >>> k = b
  have h1 := Nat.mod_two_eq_zero_or_one a
  have h2 := Nat.mod_two_eq_zero_or_one b
  have h3 : (a ^^^ b) % 2 = (a % 2) ^^^ (b % 2) := by
    have := @Nat.xor_mod_two_pow a b 1
    simpa using this
  rw [h3]
  rcases h1 with h1 | h1 <;> rcases h2 with h2 | h2 <;> rw [h1, h2] <;> rfl

set_option maxHeartbeats 1000000 in
theorem odd_any (v u : Value) (m n : Nat) (w : World) (hv : Bits w v m) (hu : Bits w u n) :
    Calls Tryd.prog 20 #[v, u] w fun e w' => ∃ x, e = .returned x ∧ Sl (Bits w' x (m ^^^ n)) ∧ Sl (Below w.heap.size w w') := by
  obtain ⟨g1, c1, rfl, hc1, hg1, hr1⟩ := hv
  obtain ⟨g2, c2, rfl, hc2, hg2, hr2⟩ := hu
  have HR1 := Sl.mk hr1
  have HR2 := Sl.mk hr2
  clear hr1 hr2
  go_enter Tryd.func20, Tryd.ntmps20
  go_wp2
  go_loopw [5, 6] (fun v i wr => ∃ k : Nat, k ≤ 32 ∧ i = .int .i64 (k : Int) ∧ wr.ownsRow w.heap.size 3 1 v k (ints (bitsTo (m ^^^ n) k)) ∧ Below w.heap.size w wr) (fun _ i _ => 32 - (intOf i).toNat)
  case atStart => exact ⟨0, by omega, rfl, owns_empty w, (Below.refl _ _).alloc (Nat.le_refl _) _⟩
  case round =>
    obtain ⟨k, hk, rfl, hown, hb⟩ := hrel
    have HO := Sl.mk hown
    have HB := Sl.mk hb
    clear hown hb
    by_cases hlt : k < 32
    · obtain ⟨x1, hx1⟩ : ∃ b : Nat, b = m / 2 ^ (31 - k) % 2 := ⟨_, rfl⟩
      obtain ⟨x2, hx2⟩ : ∃ b : Nat, b = n / 2 ^ (31 - k) % 2 := ⟨_, rfl⟩
      have HC1 : Sl (∀ W, Below w.heap.size w W → W.cell? ⟨g1, k, none⟩ = some (.int .i64 (x1 : Int))) := ⟨fun W h => by rw [h.cell (p := ⟨g1, k, none⟩) hg1, bits_cell HR1.out k hlt, hx1]⟩
      have HC2 : Sl (∀ W, Below w.heap.size w W → W.cell? ⟨g2, k, none⟩ = some (.int .i64 (x2 : Int))) := ⟨fun W h => by rw [h.cell (p := ⟨g2, k, none⟩) hg2, bits_cell HR2.out k hlt, hx2]⟩
      have l1 : x1 < 2 := by rw [hx1]; exact Nat.mod_lt _ (by decide)
      have l2 : x2 < 2 := by rw [hx2]; exact Nat.mod_lt _ (by decide)
      have HX : Sl ((x1 + x2) % 2 = (m ^^^ n) / 2 ^ (31 - k) % 2) := ⟨by rw [hx1, hx2]; exact odd_bit m n (31 - k)⟩
      clear hx1 hx2
      have p0 : (0 : Int) ≤ (k : Int) := by omega
      have p1 : (k : Int) < 32 := by omega
      go_wp2
      have s1 : IntKind.i64.wrap ((x1 : Int) + (x2 : Int)) = (x1 : Int) + (x2 : Int) := IntWalk.i64_in _ (by omega)
      have s2 : ((x1 : Int) + (x2 : Int)).tmod 2 = ((x1 : Int) + (x2 : Int)) % 2 := Int.tmod_eq_emod_of_nonneg (by omega)
      have s3 : IntKind.i64.wrap (((x1 : Int) + (x2 : Int)) % 2) = ((x1 : Int) + (x2 : Int)) % 2 := IntWalk.i64_in _ (by omega)
      refine wp_region_noPanic ?_
      refine wp_region_held (S := fun W => W.cell? ⟨g1, k, none⟩ = some (.int .i64 (x1 : Int)) ∧ W.cell? ⟨g2, k, none⟩ = some (.int .i64 (x2 : Int))) (by kernel_rfl) ?_
      change wpAnyH _ _ _ _ _ _ _ _ wr.drew
      have HB0 : Below w.heap.size w wr.drew := HB.out.drew
      have HS0 := And.intro (HC1.out _ HB0) (HC2.out _ HB0)
      refine heldTake (d := (some 13)) (op := .move (.tmp 0)) (g := none) 1 (.slice (some ⟨g1, 0, none⟩) 32 c1) rfl (by kernel_rfl) (by kernel_rfl) (by kernel_rfl) (by kernel_rfl) ?y1 HS0 ?_
      case y1 => intro o ho w _; simp only [execOp, ho]; go_simp; try rfl
      refine heldTake (d := (some 14)) (op := .move (.tmp 6)) (g := none) 2 (.int .i64 (k : Int)) rfl (by kernel_rfl) (by kernel_rfl) (by kernel_rfl) (by kernel_rfl) ?y2 HS0 ?_
      case y2 => intro o ho w _; simp only [execOp, ho]; go_simp; try rfl
      refine heldTake (d := (some 15)) (op := .indexAddr 42 (.tmp 13) (.tmp 14)) (g := none) 3 (.pointer (some ⟨g1, k, none⟩)) rfl (by kernel_rfl) (by kernel_rfl) (by kernel_rfl) (by kernel_rfl) ?y3 HS0 ?_
      case y3 => intro o ho w _; simp only [execOp, ho]; go_simp; try rfl
      refine heldTake (d := (some 16)) (op := .load 3 (.tmp 15)) (g := none) 4 (.int .i64 (x1 : Int)) rfl (by kernel_rfl) (by kernel_rfl) (by kernel_rfl) (by kernel_rfl) ?y4 HS0 ?_
      case y4 => intro o ho W hS; obtain ⟨hs1, hs2⟩ := hS; simp only [execOp, ho]; go_simp
      refine heldTake (d := (some 17)) (op := .move (.tmp 1)) (g := none) 5 (.slice (some ⟨g2, 0, none⟩) 32 c2) rfl (by kernel_rfl) (by kernel_rfl) (by kernel_rfl) (by kernel_rfl) ?y5 HS0 ?_
      case y5 => intro o ho w _; simp only [execOp, ho]; go_simp; try rfl
      refine heldTake (d := (some 18)) (op := .move (.tmp 6)) (g := none) 6 (.int .i64 (k : Int)) rfl (by kernel_rfl) (by kernel_rfl) (by kernel_rfl) (by kernel_rfl) ?y6 HS0 ?_
      case y6 => intro o ho w _; simp only [execOp, ho]; go_simp; try rfl
      refine heldTake (d := (some 19)) (op := .indexAddr 42 (.tmp 17) (.tmp 18)) (g := none) 7 (.pointer (some ⟨g2, k, none⟩)) rfl (by kernel_rfl) (by kernel_rfl) (by kernel_rfl) (by kernel_rfl) ?y7 HS0 ?_
      case y7 => intro o ho w _; simp only [execOp, ho]; go_simp; try rfl
      refine heldTake (d := (some 20)) (op := .load 3 (.tmp 19)) (g := none) 8 (.int .i64 (x2 : Int)) rfl (by kernel_rfl) (by kernel_rfl) (by kernel_rfl) (by kernel_rfl) ?y8 HS0 ?_
      case y8 => intro o ho W hS; obtain ⟨hs1, hs2⟩ := hS; simp only [execOp, ho]; go_simp
      refine heldTake (d := (some 21)) (op := .binOp .add 3 (.tmp 16) (.tmp 20) 3) (g := none) 9 (.int .i64 ((x1 : Int) + (x2 : Int))) rfl (by kernel_rfl) (by kernel_rfl) (by kernel_rfl) (by kernel_rfl) ?y9 HS0 ?_
      case y9 => intro o ho w _; simp only [execOp, ho]; go_simp; try rfl
      refine heldTake (d := (some 22)) (op := .binOp .rem 3 (.tmp 21) (.const (.int .i64 2)) 3) (g := none) 10 (.int .i64 (((x1 : Int) + (x2 : Int)) % 2)) rfl (by kernel_rfl) (by kernel_rfl) (by kernel_rfl) (by kernel_rfl) ?y10 HS0 ?_
      case y10 => intro o ho w _; simp only [execOp, ho]; go_simp; try rfl
      refine heldTake (d := (some 12)) (op := .move (.tmp 5)) (g := none) 0 u5 rfl (by kernel_rfl) (by kernel_rfl) (by kernel_rfl) (by kernel_rfl) ?y0 HS0 ?_
      case y0 => intro o ho w _; simp only [execOp, ho]; go_simp; try rfl
      have HB1 : Below w.heap.size w (wr.drew.alloc (.cells #[.int .i64 (((x1 : Int) + (x2 : Int)) % 2)] 3)) := HB0.alloc HB0.size _
      refine heldRun (d := (some 23)) (op := .buildSlice 42 1 #[(0, .tmp 22)]) (g := none) 11 (.slice (some ⟨wr.heap.size, 0, none⟩) 1 1) (wr.drew.alloc (.cells #[.int .i64 (((x1 : Int) + (x2 : Int)) % 2)] 3)) rfl (by kernel_rfl) (by kernel_rfl) ?y11 ⟨HC1.out _ HB1, HC2.out _ HB1⟩ ?_
      case y11 => intro o ho; simp only [execOp, ho]; go_simp
      obtain ⟨v2, w2, happ, HO2, HG2⟩ := app_ints (HO.out.drew.alloc (.cells #[.int .i64 (((x1 : Int) + (x2 : Int)) % 2)] 3)) ⟨wr.heap.size, 0, none⟩ 1 1 [.int .i64 (((x1 : Int) + (x2 : Int)) % 2)] rfl (new_one wr.drew _ 3) (fun u hu => by simp at hu; subst hu; rfl) (by omega) (by rw [alloc_size]; have := HB0.size; omega)
      have HB2 : Below w.heap.size w w2 := below_grown HB1 (HO.out.drew.alloc _) HG2.out (by rw [alloc_size]; have := HB0.size; omega)
      have HS2 := And.intro (HC1.out _ HB2) (HC2.out _ HB2)
      refine heldApp 12 24 (.tmp 12) (.tmp 23) 42 42 none u5 v2 ⟨wr.heap.size, 0, none⟩ 1 1 w2 rfl (by kernel_rfl) (by kernel_rfl) (by kernel_rfl) (by kernel_rfl) happ HS2 ?_
      refine heldTake (d := (some 5)) (op := .assign (.tmp 24)) (g := none) 13 (v2) rfl (by kernel_rfl) (by kernel_rfl) (by kernel_rfl) (by kernel_rfl) ?y13 HS2 ?_
      case y13 => intro o ho w _; simp only [execOp, ho]; go_simp; try rfl
      refine wpAnyH_done (by kernel_rfl) ?_ _
      refine NoPanic.normal ?_
      have HO' : Sl (w2.ownsRow w.heap.size 3 1 v2 (k + 1) (ints (bitsTo (m ^^^ n) (k + 1)))) := ⟨by
        have : ints (bitsTo (m ^^^ n) (k + 1)) = ints (bitsTo (m ^^^ n) k) ++ [.int .i64 (((x1 : Int) + (x2 : Int)) % 2)] := by
          simp [ints, bitsTo, vi, ← HX.out]
        rw [this]; exact HO2.out⟩
      clear happ s1 s2 s3 HB0 HS0 HS2 HB1
      simp only [Act.put, List.setIfInBounds_toArray, List.set_cons_succ, List.set_cons_zero]
      go_wp2
      go_roundw
      case rel => exact ⟨k + 1, by omega, by go_num, HO'.out, HB2⟩
      case measure => simp [intOf]; omega
    · have hge : 32 ≤ k := by omega
      have HF : Sl (∀ v : Value, wr.ownsRow w.heap.size 3 1 v k (ints (bitsTo (m ^^^ n) k)) → Bits wr v (m ^^^ n)) := ⟨fun v h => by
        have e : k = 32 := by omega
        rw [e] at h; exact bits_of_owns h⟩
      go_wp2
      go_ret
      exact ⟨_, rfl, ⟨HF.out _ HO.out⟩, HB⟩
end Go.Proofs.YtmiemklgekhfeaaDoor
