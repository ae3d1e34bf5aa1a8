/- The texts below, joined. -/
import Derived.Test.YtlahonjmfecikaaGreatDoorZa
import Derived.Deep.DeepCutAuto
import Derived.Stop.BytesEq
import Derived.Laws.StructEq
set_option maxRecDepth 100000
set_option maxRecDepth 100000
namespace Go.Proofs.YtlahonjmfecikaaGreatDoor.Mas
open Go.RowKit MaskPlain
theorem or_join (x y i : Nat) (hx : x % 2 ^ i = 0) (hy : y < 2 ^ i) (hb : x + y < 18446744073709551616) : bits .or .u64 (x : Int) (y : Int) = ((x + y : Nat) : Int) := by
  rw [u64_or_nat x y (by omega) (by omega), nat_join i x y hx hy]
set_option maxHeartbeats 2000000 in
theorem nb_any (N s : Nat) (w : World) (hs : s ≤ 8) :
    Calls Tryz.prog 163 #[.int .u64 N, .int .i64 s] w fun e w' => e = .returned (.slice (some ⟨w.heap.size, 0, none⟩) s s) ∧ Sl (RowB w' w.heap.size (be N s)) ∧ Sl (Below w.heap.size w w') := by
  obtain ⟨g, hg⟩ : ∃ g, w.heap.size = g := ⟨_, rfl⟩
  have hmake := make_u8 s s rfl (by omega) w
  rw [hg] at hmake ⊢
  obtain ⟨w1, hw1⟩ : ∃ w1, w.alloc (.cells (u8s (zs s)).toArray 5) = w1 := ⟨_, rfl⟩
  have HR1 : Sl (RowB w1 g (beTo N s 0)) := ⟨by rw [beTo_zero, ← hw1, ← hg]; exact rowB_new w _⟩
  have HB1 : Sl (Below g w w1) := ⟨by rw [← hw1, ← hg]; exact (Below.refl _ _).alloc (Nat.le_refl _) _⟩
  rw [hw1] at hmake
  clear hw1 hg
  go_enter Tryz.func163, Tryz.ntmps163
  go_wp2
  go_loopw [10] (fun i wr => ∃ k : Nat, k ≤ s ∧ i = .int .i64 k ∧ Sl (RowB wr g (beTo N s k)) ∧ Sl (Below g w wr)) (fun i _ => s - (intOf i).toNat)
  case atStart => exact ⟨0, Nat.zero_le _, rfl, HR1, HB1⟩
  case round =>
    obtain ⟨k, hk, rfl, HR, HB⟩ := hrel
    by_cases hlt : k < s
    · have cw := HR.out.cell k (by rw [beTo_length _ _ _ hk]; exact hlt)
      have fw := HR.out.froz k
      have k0 : (0 : Int) ≤ (k : Int) := by omega
      have k1 : (k : Int) < (s : Int) := by omega
      go_wp2
      rw [show (N : Int) / 2 ^ (8 * (s - 1 - k)) % 256 = ((N / 2 ^ (8 * (s - 1 - k)) % 256 : Nat) : Int) by simp]
      exact ⟨⟨k + 1, by omega, by go_num, ⟨by rw [← beTo_step N s k hlt]; exact HR.out.set k _⟩, ⟨HB.out.setCell (p := ⟨g, k, none⟩) (by have := HB.out.size; have := HR.out.lt; first | omega | exact Nat.le_refl _) _⟩⟩, by simp [intOf]; omega⟩
    · have hge : ((k : Int) < (s : Int)) = False := eq_false (by omega)
      obtain rfl : k = s := by omega
      rw [beTo_all] at HR
      go_wp2
      go_ret
      exact ⟨rfl, HR, HB⟩
set_option maxHeartbeats 2000000 in
theorem number_any (v : Value) (bs : List Nat) (w : World) (hv : SrcAt w v bs) (hsm : Small 256 bs) (hl : bs.length ≤ 8) :
    Calls Tryz.prog 178 #[v] w fun e w' => e = .returned (.int .u64 ((val bs : Nat) : Int)) ∧ w = w' := by
  obtain ⟨a, cap, sb, so, rfl, hcap, ha, hc⟩ := hv
  obtain ⟨n, hn⟩ : ∃ n, bs.length = n := ⟨_, rfl⟩
  have HN := Sl.mk hn
  rw [hn] at hcap ha hl ⊢
  have HC : Sl (∀ i, i < n → w.cell? ⟨sb, so + i, none⟩ = some (.int .u8 ((bs.getD i 0 : Nat) : Int))) := ⟨by rw [← hn]; exact hc⟩
  have HSM := Sl.mk hsm
  clear hc hn hsm
  go_enter Tryz.func178, Tryz.ntmps178
  go_wp2
  go_loopw [3, 7] (fun u i wr => ∃ k : Nat, k ≤ n ∧ u = .int .u64 ((val (bs.take k) : Nat) : Int) ∧ i = .int .i64 k ∧ w = wr) (fun _ i _ => n - (intOf i).toNat)
  case atStart => exact ⟨0, Nat.zero_le _, rfl, rfl, rfl⟩
  case round =>
    obtain ⟨k, hk, rfl, rfl, rfl⟩ := hrel
    by_cases hlt : k < n
    · have cw := HC.out k hlt
      obtain rfl := ha (by omega)
      have hs := HN.out
      have HS : Sl (val (bs.take (k + 1)) = 256 * val (bs.take k) + bs.getD k 0) := ⟨val_take bs k (by omega)⟩
      have hlt1 := val_lt (bs.take k) (HSM.out.take k)
      rw [List.length_take, Nat.min_eq_left (by omega)] at hlt1
      have hp : 256 ^ k ≤ 256 ^ 7 := Nat.pow_le_pow_right (by omega) (by omega)
      have hc256 : bs.getD k 0 < 256 := HSM.out.getD (by omega) k
      obtain ⟨c, hcc⟩ : ∃ c, bs.getD k 0 = c := ⟨_, rfl⟩
      obtain ⟨m, hm⟩ : ∃ m, val (bs.take k) = m := ⟨_, rfl⟩
      rw [hm] at hlt1
      rw [hcc] at cw hc256
      rw [hcc, hm] at HS
      have hm2 : m < 72057594037927936 := by omega
      clear hlt1 hp hs
      have k0 : (0 : Int) ≤ (k : Int) := by omega
      have k1 : (k : Int) < (n : Int) := by omega
      rw [hm]
      clear hm hcc
      go_wp2
      refine ⟨⟨k + 1, by omega, ?_, by go_num, trivial⟩, by simp [intOf]; omega⟩
      rw [show (m : Int) * 256 = ((m * 256 : Nat) : Int) by simp, or_join (m * 256) c 8 (by omega) hc256 (by omega), HS.out, Nat.mul_comm]
    · have hge : ((k : Int) < (n : Int)) = False := eq_false (by omega)
      obtain rfl : k = n := by omega
      have hv : bs.take k = bs := List.take_of_length_le (by rw [HN.out]; exact Nat.le_refl _)
      rw [hv]
      go_wp2
      go_ret
      exact ⟨rfl, rfl⟩
end Go.Proofs.YtlahonjmfecikaaGreatDoor.Mas
set_option maxRecDepth 100000
namespace Go.Proofs.YtlahonjmfecikaaGreatDoor.Mas
open Go.RowKit MaskPlain
structure Row where
  first : Nat
  behind : Nat
  least : Nat
  most : Nat
def row0 : Row := ⟨126, 2, 126, 65535⟩
def row1 : Row := ⟨127, 8, 65536, 9223372036854775807⟩
def Row.cells (r : Row) : List Value := [.int .u8 r.first, .int .i64 r.behind, .int .u64 r.least, .int .u64 r.most]
def table : List Value := row0.cells ++ row1.cells
structure Globs (w : World) : Prop where
  t : w.rangeAt 1 0 table
theorem Globs.cell0 {w : World} (h : Globs w) : w.cell? ⟨1, 0, none⟩ = some (.int .u8 ((126 : Nat) : Int)) := h.t 0 _ rfl
theorem Globs.size {w : World} (h : Globs w) : 2 ≤ w.heap.size := by
  have h1 : 1 < w.heap.size := block_lt_of_cell h.cell0; omega
theorem Globs.below {w w' : World} {B : Nat} (h : Globs w) (hb : Below B w w') (hB : 2 ≤ B) : Globs w' :=
  ⟨fun j v hv => by rw [hb.cell (p := ⟨1, 0 + j, none⟩) (show 1 < B by omega)]; exact h.t j v hv⟩
theorem index_row0 (W : World) : (Instr.index 215 (.agg table.toArray) (.int .i64 0)).run Tryz.prog W = .ok (.agg row0.cells.toArray) W := by show _ = _; kernel_rfl
theorem index_row1 (W : World) : (Instr.index 215 (.agg table.toArray) (.int .i64 1)).run Tryz.prog W = .ok (.agg row1.cells.toArray) W := by show _ = _; kernel_rfl
def res3 (r : Nat × Nat × Nat) : Value := .tuple #[.int .u64 ((r.1 : Nat) : Int), .int .i64 ((r.2.1 : Nat) : Int), .int .i64 ((r.2.2 : Nat) : Int)]
theorem pow_wrap (M : Nat) (h : M ≤ 64) : IntKind.u64.wrap (IntKind.u64.wrap (2 ^ M) - 1) = ((2 ^ M - 1 : Nat) : Int) := by
  have hp : 0 < 2 ^ M := Nat.two_pow_pos M
  have e : ((2 : Int) ^ M) = ((2 ^ M : Nat) : Int) := by simp
  rw [IntKind.wrap_u64, IntKind.wrap_u64, e]
  by_cases h64 : M = 64
  · subst h64; decide
  · have : 2 ^ M ≤ 2 ^ 63 := Nat.pow_le_pow_right (by omega) (by omega)
    omega
theorem shifts (B : Nat) (t : List Nat) (hB : B ≤ 8) (hl : t.length ≤ B) (hs : Small 256 t) : ∃ L H : Nat, L = val t * 2 ^ (8 * (B - t.length)) ∧ H = L + 2 ^ (8 * (B - t.length)) - 1 ∧
    IntKind.u64.wrap ((val t : Int) * 2 ^ (8 * (B - t.length))) = (L : Int) ∧ bits .or .u64 (L : Int) (IntKind.u64.wrap (IntKind.u64.wrap (2 ^ (8 * (B - t.length))) - 1)) = (H : Int) ∧ H < 18446744073709551616 := by
  have h1 := getW_small hB hl hs
  obtain ⟨M, hM⟩ : ∃ M, 8 * (B - t.length) = M := ⟨_, rfl⟩
  rw [hM] at h1 ⊢
  have hp : 0 < 2 ^ M := Nat.two_pow_pos M
  refine ⟨_, _, rfl, rfl, ?_, ?_, by omega⟩
  · rw [IntKind.wrap_u64, show (val t : Int) * 2 ^ M = ((val t * 2 ^ M : Nat) : Int) by simp]
    omega
  · rw [pow_wrap M (by omega), or_join _ _ M (by rw [Nat.mul_mod_left]) (by omega) (by omega)]
    congr 1; omega
set_option maxHeartbeats 2000000 in
theorem wide_any (f B least most : Nat) (v : Value) (bs : List Nat) (w : World) (hB : B ≤ 8) (hB0 : 0 < B) (hv : SrcAt w v bs) (hsm : Small 256 bs) (hl : 0 < bs.length) (hm : bs.length ≤ 1000000) :
    Calls Tryz.prog 169 #[.agg #[.int .u8 f, .int .i64 B, .int .u64 least, .int .u64 most], v] w fun e w' => e = .returned (res3 (getW B least most ((bs.drop 1).take B))) ∧ Sl (Below w.heap.size w w') := by
  obtain ⟨a, cap, sb, so, rfl, hcap, ha, hc⟩ := hv
  obtain rfl := ha hl
  obtain ⟨n, hn⟩ : ∃ n, bs.length = n := ⟨_, rfl⟩
  have HN := Sl.mk hn
  rw [hn] at hcap hl hm ⊢
  have HC : Sl (∀ i, i < n → w.cell? ⟨sb, so + i, none⟩ = some (.int .u8 ((bs.getD i 0 : Nat) : Int))) := ⟨by rw [← hn]; exact hc⟩
  obtain ⟨t, ht⟩ : ∃ t, (bs.drop 1).take B = t := ⟨_, rfl⟩
  rw [ht]
  have hst : Small 256 t := by rw [← ht]; exact (hsm.drop 1).take B
  have hlt : t.length = min B (n - 1) := by rw [← ht, List.length_take, List.length_drop, hn]
  obtain ⟨L, H, hL, hH, f1, f2, hH64⟩ := shifts B t hB (by omega) hst
  have HRES : Sl (getW B least most t = if H < least ∨ most < L then (0, 0, 81) else if t.length < B then (0, 0, 80) else (L, 1 + B, 0)) := ⟨by unfold getW; rw [← hL, ← hH]⟩
  have HT := Sl.mk ht
  have HST := Sl.mk hst
  have HLT := Sl.mk hlt
  have hLH : L ≤ H := by have : 0 < 2 ^ (8 * (B - t.length)) := Nat.two_pow_pos _; omega
  clear hc hn hsm ha ht hL hH hst hlt
  obtain ⟨g, hg⟩ : ∃ g, w.heap.size = g := ⟨_, rfl⟩
  have HG := Sl.mk hg
  obtain ⟨w1, hw1⟩ : ∃ w1, w.alloc (.cells #[.int .u8 f, .int .i64 B, .int .u64 least, .int .u64 most] 214) = w1 := ⟨_, rfl⟩
  have hh : w1.heap[g]? = some (.cells #[.int .u8 f, .int .i64 B, .int .u64 least, .int .u64 most] 214 (0, 0)) := by rw [← hw1, ← hg]; exact alloc_new _ _ _ rfl
  have c1 : w1.cell? ⟨g, 1, none⟩ = some (.int .i64 (B : Int)) := by rw [cell_of_row _ _ _ _ _ _ hh]; rfl
  have c2 : w1.cell? ⟨g, 2, none⟩ = some (.int .u64 (least : Int)) := by rw [cell_of_row _ _ _ _ _ _ hh]; rfl
  have c3 : w1.cell? ⟨g, 3, none⟩ = some (.int .u64 (most : Int)) := by rw [cell_of_row _ _ _ _ _ _ hh]; rfl
  have HB1 : Sl (Below g w w1) := ⟨by rw [← hw1, ← hg]; exact (Below.refl _ _).alloc (Nat.le_refl _) _⟩
  clear hh
  rw [hg]
  have HW1 := Sl.mk hw1
  go_enter Tryz.func169, Tryz.ntmps169
  by_cases hle : n ≤ 1 + B
  · by_cases h1 : 1 < n
    · obtain ⟨k, rfl⟩ : ∃ k, n = k + 1 := ⟨n - 1, by omega⟩
      have hk : t.length = k := by have := HLT.out; omega
      rw [hk] at HRES f1 f2
      obtain ⟨m, hm'⟩ : ∃ m, B - k = m := ⟨_, rfl⟩
      have e1 : (B : Int) - (k : Int) = (m : Int) := by omega
      obtain ⟨M, hM⟩ : ∃ M, 8 * m = M := ⟨_, rfl⟩
      have e2 : 8 * (m : Int) = (M : Int) := by omega
      have hM64 : M ≤ 64 := by omega
      rw [hm', hM] at f1 f2
      have hsrc : SrcAt w1 (.slice (some ⟨sb, so + 1, none⟩) k k) t := by
        have := (SrcAt.one (cap := k) HC.out k (Nat.le_refl _) HN.out (Nat.le_refl _)).below (by rw [HG.out]; exact Nat.le_refl _) HB1.out
        rw [← HT.out]
        rwa [List.take_of_length_le (l := bs.drop 1) (i := k) (by rw [List.length_drop]; have := HN.out; omega), ← List.take_of_length_le (l := bs.drop 1) (i := B) (by rw [List.length_drop]; have := HN.out; omega)] at this
      have hnum := number_any (.slice (some ⟨sb, so + 1, none⟩) k k) t w1 hsrc HST.out (by omega)
      have HM := Sl.mk hM
      have HM' := Sl.mk hm'
      clear hsrc hm' hM hk
      go_wp2_with fail
      refine hnum.mono ?_
      rintro e w2 ⟨rfl, rfl⟩
      by_cases hlow : H < least
      · have HR2 := Sl.mk (HRES.out.trans (if_pos (Or.inl hlow)))
        clear HRES
        go_wp2
        go_ret3
        exact ⟨by rw [HR2.out]; rfl, HB1⟩
      · by_cases hhigh : most < L
        · have HR2 := Sl.mk (HRES.out.trans (if_pos (Or.inr hhigh)))
          clear HRES
          go_wp2
          go_ret3
          exact ⟨by rw [HR2.out]; rfl, HB1⟩
        · have HR1 := Sl.mk (HRES.out.trans (if_neg (fun h => h.elim hlow hhigh)))
          clear HRES
          by_cases hmore : k < B
          · have HR2 := Sl.mk (HR1.out.trans (if_pos hmore))
            have hM0 : 0 < M := by have := HM.out; have := HM'.out; omega
            clear HR1
            go_wp2
            go_ret3
            exact ⟨by rw [HR2.out]; rfl, HB1⟩
          · have HR2 := Sl.mk (HR1.out.trans (if_neg hmore))
            have hM0 : ¬ 0 < M := by have := HM.out; have := HM'.out; omega
            have hkB : k = B := by omega
            clear HR1
            go_wp2
            go_ret3
            exact ⟨by rw [HR2.out]; simp [res3]; omega, HB1⟩
    · obtain rfl : n = 1 := by omega
      have g1 : (1 : Int) ≤ 1 + (B : Int) := by omega
      have hk : t.length = 0 := by have := HLT.out; omega
      rw [hk, Nat.sub_zero] at f1 f2
      rw [hk] at HRES
      have ht0 : t = [] := List.eq_nil_of_length_eq_zero hk
      have hsrc : SrcAt w1 (.slice (some ⟨sb, so, none⟩) 0 0) t := by
        rw [ht0]
        exact ⟨_, _, sb, so, rfl, Nat.le_refl _, fun _ => rfl, fun i hi => absurd hi (Nat.not_lt_zero _)⟩
      have hnum := number_any (.slice (some ⟨sb, so, none⟩) 0 0) t w1 hsrc HST.out (by omega)
      clear hsrc hk ht0
      go_wp2_with fail
      refine hnum.mono ?_
      rintro e w2 ⟨rfl, rfl⟩
      by_cases hlow : H < least
      · have HR2 := Sl.mk (HRES.out.trans (if_pos (Or.inl hlow)))
        clear HRES
        go_wp2
        go_ret3
        exact ⟨by rw [HR2.out]; rfl, HB1⟩
      · by_cases hhigh : most < L
        · have HR2 := Sl.mk (HRES.out.trans (if_pos (Or.inr hhigh)))
          clear HRES
          go_wp2
          go_ret3
          exact ⟨by rw [HR2.out]; rfl, HB1⟩
        · have HR1 := Sl.mk (HRES.out.trans (if_neg (fun h => h.elim hlow hhigh)))
          clear HRES
          have HR2 := Sl.mk (HR1.out.trans (if_pos hB0))
          clear HR1
          go_wp2
          go_ret3
          exact ⟨by rw [HR2.out]; rfl, HB1⟩
  · have h2 : 1 + B < n := by omega
    have g1 : ((n : Int) ≤ 1 + (B : Int)) = False := eq_false (by omega)
    have g2 : (1 + (B : Int) < (n : Int)) := by omega
    have hk : t.length = B := by have := HLT.out; omega
    rw [hk, Nat.sub_self, Nat.mul_zero] at f1 f2
    rw [hk] at HRES
    have f3 : IntKind.u64.wrap ((val t : Nat) : Int) = (L : Int) := by rw [← f1]; simp
    have f4 : bits .or .u64 (L : Int) 0 = (H : Int) := by rw [← f2]; rfl
    have hsrc : SrcAt w1 (.slice (some ⟨sb, so + 1, none⟩) B B) t := by
      have := (SrcAt.one (cap := B) HC.out B (by omega) HN.out (Nat.le_refl _)).below (by rw [HG.out]; exact Nat.le_refl _) HB1.out
      rwa [HT.out] at this
    have hnum := number_any (.slice (some ⟨sb, so + 1, none⟩) B B) t w1 hsrc HST.out (by omega)
    clear hsrc hk f1 f2
    go_wp2_with fail
    refine hnum.mono ?_
    rintro e w2 ⟨rfl, rfl⟩
    by_cases hlow : H < least
    · have HR2 := Sl.mk (HRES.out.trans (if_pos (Or.inl hlow)))
      clear HRES
      go_wp2
      go_ret3
      exact ⟨by rw [HR2.out]; rfl, HB1⟩
    · by_cases hhigh : most < L
      · have HR2 := Sl.mk (HRES.out.trans (if_pos (Or.inr hhigh)))
        clear HRES
        go_wp2
        go_ret3
        exact ⟨by rw [HR2.out]; rfl, HB1⟩
      · have HR1 := Sl.mk (HRES.out.trans (if_neg (fun h => h.elim hlow hhigh)))
        clear HRES
        have HR2 := Sl.mk (HR1.out.trans (if_neg (Nat.lt_irrefl _)))
        clear HR1
        go_wp2
        go_ret3
        exact ⟨by rw [HR2.out]; simp [res3], HB1⟩
theorem andNot_128 (c : Nat) (h : c < 256) : bits .andNot .u8 (c : Int) 128 = ((c % 128 : Nat) : Int) := by
  have : ∀ c : Fin 256, bits BinOp.andNot IntKind.u8 (c.val : Int) 128 = ((c.val % 128 : Nat) : Int) := by decide +kernel
  exact this ⟨c, h⟩
def row (k : Nat) : Row := if k = 0 then row0 else row1
theorem index_row (k : Nat) (hk : k < 2) (W : World) : (Instr.index 215 (.agg table.toArray) (.int .i64 (k : Int))).run Tryz.prog W = .ok (.agg (row k).cells.toArray) W := by
  match k, hk with
  | 0, _ => exact index_row0 W
  | 1, _ => exact index_row1 W
theorem row_get (k : Nat) (hk : k < 2) (x : Nat) (xs : List Nat) (hs : Small 256 xs) (h : x % 128 = (row k).first) : getL (x :: xs) = getW (row k).behind (row k).least (row k).most (xs.take (row k).behind) := by
  match k, hk with
  | 0, _ => exact get_narrow x xs h hs
  | 1, _ => exact get_wide x xs h hs
theorem row_ok (k : Nat) : (row k).behind ≤ 8 ∧ 0 < (row k).behind ∧ (row k).first < 256 := by
  unfold row; split <;> exact ⟨by decide, by decide, by decide⟩
def Past (f k : Nat) : Prop := ∀ j, j < k → f ≠ (row j).first
theorem past_none {f : Nat} (h : Past f 2) (hf : f < 128) : f < 126 := by
  have h0 := h 0 (by decide)
  have h1 := h 1 (by decide)
  simp [row, row0, row1] at h0 h1
  omega
theorem len_nil {w : World} {v : Value} (h : SrcAt w v []) : ∃ a cap, v = .slice a 0 cap := by
  obtain ⟨a, cap, _, _, rfl, _⟩ := h
  exact ⟨a, cap, rfl⟩
set_option maxHeartbeats 2000000 in
theorem get_any (v : Value) (bs : List Nat) (w : World) (hg : Globs w) (hv : SrcAt w v bs) (hsm : Small 256 bs) (hm : bs.length ≤ 1000000) :
    Calls Tryz.prog 159 #[v] w fun e w' => e = .returned (res3 (getL bs)) ∧ Sl (Below w.heap.size w w') := by
  have HI48 : Sl ((Tryz.prog.info? 215).map (·.size) = some table.length) := ⟨by kernel_rfl⟩
  have HG := Sl.mk hg
  have HB0 : Sl (Below w.heap.size w w) := ⟨Below.refl _ _⟩
  clear hg
  cases bs with
  | nil =>
    obtain ⟨a, cap, rfl⟩ := len_nil hv
    clear hv
    go_enter Tryz.func159, Tryz.ntmps159
    go_wp2
    go_ret3
    exact ⟨rfl, HB0⟩
  | cons x xs =>
    have hx256 : x < 256 := hsm x (List.mem_cons_self ..)
    have HXS : Sl (Small 256 xs) := ⟨fun y hy => hsm y (List.mem_cons_of_mem _ hy)⟩
    have HSM := Sl.mk hsm
    have HV := Sl.mk hv
    have hwide := fun f B le mo hB hB0 W hW => wide_any f B le mo v (x :: xs) W hB hB0 hW hsm (by simp) hm
    obtain ⟨a, cap, sb, so, rfl, hcap, ha, hc⟩ := hv
    obtain rfl := ha (by simp)
    have c0 : w.cell? ⟨sb, so, none⟩ = some (.int .u8 (x : Int)) := by have := hc 0 (by simp); simpa using this
    obtain ⟨n, hn⟩ : ∃ n, xs.length = n := ⟨_, rfl⟩
    have hlen : (x :: xs).length = n + 1 := by rw [List.length_cons, hn]
    rw [hlen] at hcap hm hwide HV ⊢
    have f0 := andNot_128 x hx256
    obtain ⟨fb, hfb⟩ : ∃ fb, x % 128 = fb := ⟨_, rfl⟩
    have hfb128 : fb < 128 := by omega
    rw [hfb] at f0
    have HFB := Sl.mk hfb
    clear hc ha hn hlen hsm hfb
    go_enter Tryz.func159, Tryz.ntmps159
    go_wp2_with (first | (refine wpList_load_mid rfl 215 (.global 1) rfl 1 0 rfl table (.array 2 214) HG.out.t Tryz.underlying215 rfl HI48.out ?_))
    go_loopw [16] (fun i wr => ∃ k : Nat, k ≤ 2 ∧ i = .int .i64 k ∧ Sl (Past fb k) ∧ Sl (Below w.heap.size w wr)) (fun i _ => 2 - (intOf i).toNat)
    case atStart => exact ⟨0, Nat.zero_le _, rfl, ⟨fun j hj => absurd hj (Nat.not_lt_zero _)⟩, HB0⟩
    case round =>
      obtain ⟨k, hk, rfl, HP, HB⟩ := hrel
      by_cases hlt : k < 2
      · have hidx := index_row k hlt
        obtain ⟨hr1, hr2, hr3⟩ := row_ok k
        have HRG := Sl.mk (row_get k hlt x xs HXS.out)
        have HRP : Sl (fb ≠ (row k).first → Past fb (k + 1)) := ⟨fun hne j hj => by
          by_cases e : j = k
          · subst e; exact hne
          · exact HP.out j (by omega)⟩
        rw [HFB.out] at HRG
        obtain ⟨r, hr⟩ : ∃ r, r = row k := ⟨_, rfl⟩
        rw [← hr] at hidx hr1 hr2 hr3 HRG HRP
        clear hr
        obtain ⟨f, B, le, mo⟩ := r
        simp only [Row.cells] at hidx
        simp only at hr1 hr2 hr3 HRG HRP
        obtain ⟨g, hgg⟩ : ∃ g, wr.heap.size = g := ⟨_, rfl⟩
        have hgw := HB.out.size
        rw [hgg] at hgw
        have HGW := Sl.mk hgw
        by_cases he : fb = f
        · have HE := Sl.mk (HRG.out he)
          have HB3 : Sl (Below w.heap.size w (wr.alloc (.cells #[.int .u8 f, .int .i64 B, .int .u64 le, .int .u64 mo] 214))) := ⟨HB.out.alloc (by rw [hgg]; exact hgw) _⟩
          have hcall := hwide f B le mo hr1 hr2 _ (HV.out.below (Nat.le_refl _) HB3.out)
          clear HRG HRP hgw
          have he2 : (fb : Int) = (f : Int) := by omega
          go_wp2_with fail
          refine hcall.mono ?_
          rintro e w4 ⟨rfl, HB4⟩
          have HB5 : Sl (Below w.heap.size w w4) := ⟨HB3.out.trans (HB4.out.mono HB3.out.size)⟩
          simp only [res3, List.drop_succ_cons, List.drop_zero]
          go_wp2
          go_ret3
          exact ⟨by rw [HE.out]; rfl, HB5⟩
        · have HP2 := Sl.mk (HRP.out he)
          clear HRG HRP hgw
          have he2 : ((fb : Int) = (f : Int)) = False := eq_false (by omega)
          go_wp2
          exact ⟨⟨k + 1, by omega, by go_num, HP2, ⟨HB.out.alloc (by rw [hgg]; exact HGW.out) _⟩⟩, by simp [intOf]; omega⟩
      · have hge : ((k : Int) < 2) = False := eq_false (by omega)
        obtain rfl : k = 2 := by omega
        have HE := Sl.mk (get_one x xs (by rw [HFB.out]; exact past_none HP.out hfb128))
        rw [HFB.out] at HE
        go_wp2
        go_ret3
        exact ⟨by rw [HE.out]; rfl, HB⟩
end Go.Proofs.YtlahonjmfecikaaGreatDoor.Mas
set_option maxRecDepth 100000
namespace Go.Proofs.YtlahonjmfecikaaGreatDoor.Mas
open Go.RowKit MaskPlain
theorem i64_and3 (n : Int) : bits .and .i64 n 3 = n % 4 := by
  have h3 : (BitVec.ofInt 64 3).toNat = 2 ^ 2 - 1 := by decide
  have key : (BitVec.ofInt 64 n &&& BitVec.ofInt 64 3).toNat = (n % ((2 ^ 64 : Nat) : Int)).toNat % 2 ^ 2 := by
    rw [BitVec.toNat_and, BitVec.toNat_ofInt, h3, Nat.and_two_pow_sub_one_eq_mod]
  show IntKind.i64.wrap ((BitVec.ofInt 64 n &&& BitVec.ofInt 64 3).toNat : Nat) = n % 4
  rw [key, IntKind.wrap_i64]
  omega
def rest4 (at' : Int) : Nat := (at' % 4).toNat
theorem rest4_lt (at' : Int) : rest4 at' < 4 := by unfold rest4; omega
set_option maxHeartbeats 2000000 in
theorem apply_any (key : List Nat) (at' : Int) (v : Value) (bs : List Nat) (w : World) (hk : key.length = 4) (hks : Small 256 key) (hv : SrcAt w v bs) (hsm : Small 256 bs) (hm : bs.length ≤ 100000) :
    Calls Tryz.prog 170 #[.agg (u8s key).toArray, .int .i64 at', v] w fun e w' => ∃ g, e = .returned (.slice (some ⟨g, 0, none⟩) bs.length bs.length) ∧ Sl (w.heap.size ≤ g) ∧ Sl (RowB w' g (turn key (rest4 at') bs)) ∧ Sl (Below w.heap.size w w') := by
  have f0 : bits .and .i64 at' 3 = ((rest4 at' : Nat) : Int) := by rw [i64_and3]; unfold rest4; omega
  have hK4 := rest4_lt at'
  obtain ⟨K, hK⟩ : ∃ K, rest4 at' = K := ⟨_, rfl⟩
  rw [hK] at f0 hK4 ⊢
  clear hK
  obtain ⟨a, cap, sb, so, rfl, hcap, ha, hc⟩ := hv
  obtain ⟨n, hn⟩ : ∃ n, bs.length = n := ⟨_, rfl⟩
  have HN := Sl.mk hn
  rw [hn] at hcap ha hc hm ⊢
  have HSM := Sl.mk hsm
  have HKL := Sl.mk hk
  have HKS := Sl.mk hks
  obtain ⟨g, hg⟩ : ∃ g, w.heap.size = g := ⟨_, rfl⟩
  obtain ⟨w1, hw1⟩ : ∃ w1, w.alloc (.cells (u8s key).toArray 59) = w1 := ⟨_, rfl⟩
  have hs1 : w1.heap.size = g + 1 := by rw [← hw1, alloc_size, hg]
  have hrow : w1.heap[g]? = some (.cells (u8s key).toArray 59 (0, 0)) := by rw [← hw1, ← hg]; exact alloc_new _ _ _ rfl
  have hmake := make_u8 n n rfl (by omega) w1
  rw [hs1] at hmake
  obtain ⟨w2, hw2⟩ : ∃ w2, w1.alloc (.cells (u8s (zs n)).toArray 5) = w2 := ⟨_, rfl⟩
  have HB1 : Sl (Below g w w2) := ⟨by rw [← hw2, ← hw1, ← hg]; exact ((Below.refl _ _).alloc (Nat.le_refl _) _).alloc (by rw [alloc_size]; omega) _⟩
  have HR1 : Sl (RowB w2 (g + 1) (tuTo key K bs 0)) := ⟨by rw [tuTo_zero, HN.out, ← hs1, ← hw2]; exact rowB_new w1 _⟩
  have HKR : Sl (w2.heap[g]? = some (.cells (u8s key).toArray 59 (0, 0))) := ⟨by rw [← hw2, alloc_old _ _ _ (by rw [hs1]; omega)]; exact hrow⟩
  have HC : Sl (∀ i, i < n → w2.cell? ⟨sb, so + i, none⟩ = some (.int .u8 ((bs.getD i 0 : Nat) : Int)) ∧ sb < g) := ⟨fun i hi => by
    have hlt := block_lt_of_cell (hc i hi)
    rw [hg] at hlt
    exact ⟨by rw [HB1.out.cell (p := ⟨sb, so + i, none⟩) hlt]; exact hc i hi, hlt⟩⟩
  rw [hw2] at hmake
  clear hw2 hc hn hsm hk hks hs1 hrow
  rw [hg]
  go_enter Tryz.func170, Tryz.ntmps170
  go_wp2
  go_loopw [17] (fun i wr => ∃ k : Nat, k ≤ n ∧ i = .int .i64 k ∧ Sl (RowB wr (g + 1) (tuTo key K bs k)) ∧ Sl (Below g w wr) ∧ Sl (wr.heap[g]? = some (.cells (u8s key).toArray 59 (0, 0))) ∧ Sl (∀ i, i < n → wr.cell? ⟨sb, so + i, none⟩ = some (.int .u8 ((bs.getD i 0 : Nat) : Int)) ∧ sb < g)) (fun i _ => n - (intOf i).toNat)
  case atStart => exact ⟨0, Nat.zero_le _, rfl, HR1, HB1, HKR, HC⟩
  case round =>
    obtain ⟨k, hk, rfl, HR, HB, HK, HS⟩ := hrel
    by_cases hlt : k < n
    · have cw := HR.out.cell k (by rw [tuTo_length _ _ _ _ (by rw [HN.out]; exact hk), HN.out]; exact hlt)
      have fw := HR.out.froz k
      have cs := (HS.out k hlt).1
      obtain rfl := ha (by omega)
      have k0 : (0 : Int) ≤ (k : Int) := by omega
      have k1 : (k : Int) < (n : Int) := by omega
      obtain ⟨j, hj⟩ : ∃ j, (K + k) % 4 = j := ⟨_, rfl⟩
      have hj4 : j < 4 := by omega
      have q1 : ((K : Int) + (k : Int)) % 4 = (j : Int) := by omega
      have q2 : ((K : Int) + (k : Int)).tmod 4 = (j : Int) := by rw [Int.tmod_eq_emod_of_nonneg (by omega)]; omega
      have q3 : IntKind.i64.wrap ((K : Int) + (k : Int)) = (K : Int) + (k : Int) := by rw [IntKind.wrap_i64]; omega
      have ck : wr.cell? ⟨g, j, none⟩ = some (.int .u8 ((key.getD j 0 : Nat) : Int)) := by rw [cell_of_row _ _ _ _ _ _ HK.out, List.getElem?_toArray]; exact u8s_get key j (by rw [HKL.out]; exact hj4)
      have hx := u8_xor_nat (bs.getD k 0) (key.getD j 0) (HSM.out.getD (by omega) k) (HKS.out.getD (by omega) j)
      have HST : Sl ((tuTo key K bs k).set k (bs.getD k 0 ^^^ key.getD j 0) = tuTo key K bs (k + 1)) := ⟨by rw [← hj]; exact tuTo_step key K bs k (by rw [HN.out]; exact hlt)⟩
      have hne : g ≠ g + 1 := by omega
      have hne2 : sb ≠ g + 1 := by have := (HS.out k hlt).2; omega
      have HNE := Sl.mk hne2
      obtain ⟨x, hxx⟩ : ∃ x, bs.getD k 0 = x := ⟨_, rfl⟩
      obtain ⟨y, hyy⟩ : ∃ y, key.getD j 0 = y := ⟨_, rfl⟩
      rw [hxx] at cs hx HST
      rw [hyy] at ck hx HST
      obtain ⟨z, hzz⟩ : ∃ z, x ^^^ y = z := ⟨_, rfl⟩
      rw [hzz] at hx HST
      clear hxx hyy hzz hj
      go_wp2
      go_region
      have HR3 : Sl (RowB (wr.setCell ⟨g + 1, k, none⟩ (.int .u8 (z : Int))).drew (g + 1) (tuTo key K bs (k + 1))) := ⟨by rw [← HST.out]; exact HR.out.set k z⟩
      have HB3 : Sl (Below g w (wr.setCell ⟨g + 1, k, none⟩ (.int .u8 (z : Int))).drew) := ⟨(HB.out.setCell (p := ⟨g + 1, k, none⟩) (Nat.le_succ _) _).drew⟩
      have HK3 : Sl ((wr.setCell ⟨g + 1, k, none⟩ (.int .u8 (z : Int))).drew.heap[g]? = some (.cells (u8s key).toArray 59 (0, 0))) := ⟨by
        show (wr.setCell ⟨g + 1, k, none⟩ (.int .u8 (z : Int))).heap[g]? = _
        rw [heap_setCell_other _ _ _ _ hne]; exact HK.out⟩
      have HS3 : Sl (∀ i, i < n → (wr.setCell ⟨g + 1, k, none⟩ (.int .u8 (z : Int))).drew.cell? ⟨sb, so + i, none⟩ = some (.int .u8 ((bs.getD i 0 : Nat) : Int)) ∧ sb < g) := ⟨fun i hi => by
        refine ⟨?_, (HS.out i hi).2⟩
        show (wr.setCell ⟨g + 1, k, none⟩ (.int .u8 (z : Int))).cell? ⟨sb, so + i, none⟩ = _
        rw [World.cell?_setCell_other (h := fun e => HNE.out (by injection e with e1; exact e1.symm))]
        exact (HS.out i hi).1⟩
      clear cw fw cs ck hx
      generalize (wr.setCell ⟨g + 1, k, none⟩ (.int .u8 (z : Int))).drew = w3 at *
      go_wp2
      exact ⟨⟨k + 1, by omega, by go_num, HR3, HB3, HK3, HS3⟩, by simp [intOf]; omega⟩
    · have hge : ((k : Int) < (n : Int)) = False := eq_false (by omega)
      obtain rfl : k = n := by omega
      have HT : Sl (tuTo key K bs k = turn key K bs) := ⟨by rw [← HN.out]; exact tuTo_all key K bs⟩
      have HR2 : Sl (RowB wr (g + 1) (turn key K bs)) := ⟨by rw [← HT.out]; exact HR.out⟩
      go_wp2
      go_ret
      exact ⟨_, rfl, ⟨by omega⟩, HR2, HB⟩
end Go.Proofs.YtlahonjmfecikaaGreatDoor.Mas
set_option maxRecDepth 100000
namespace Go.Proofs.YtlahonjmfecikaaGreatDoor.Mas
open Go.RowKit MaskPlain
section
variable {P : Program} {md : Region.Mode} {ops : Array Oper} {Q : Exit → Act → World → Prop} {S : World → Prop}
end
inductive PutR (w : World) (o : Option (List Nat)) : Ending → World → Prop where
  | yes (s : List Nat) (g cap : Nat) (w' : World) (h : o = some s) (hs : Sl (SrcAt w' (.slice (some ⟨g, 0, none⟩) s.length cap) s)) (hg : Sl (w.heap.size ≤ g)) (hb : Sl (Below w.heap.size w w')) :
      PutR w o (.returned (.tuple #[.slice (some ⟨g, 0, none⟩) s.length cap, .int .i64 0])) w'
  | no (w' : World) (h : o = none) (hb : Sl (Below w.heap.size w w')) : PutR w o (.returned (.tuple #[.slice none 0 0, .int .i64 81])) w'
theorem row_put (k : Nat) (hk : k < 2) (n : Nat) (h0 : ¬ n < 126) (hp : ∀ j, j < k → ¬ n ≤ (row j).most) (h : n ≤ (row k).most) : putL n = some ((row k).first :: be n (row k).behind) := by
  unfold putL
  match k, hk with
  | 0, _ =>
    have h1 : n ≤ 65535 := h
    rw [if_neg (by omega), if_neg h0, if_pos h1]; rfl
  | 1, _ =>
    have h1 : n ≤ 9223372036854775807 := h
    have h2 : ¬ n ≤ 65535 := hp 0 (by decide)
    rw [if_neg (by omega), if_neg h0, if_neg h2]; rfl
theorem put_none (n : Nat) (hp : ∀ j, j < 2 → ¬ n ≤ (row j).most) : putL n = none := by
  have h2 : ¬ n ≤ 9223372036854775807 := hp 1 (by decide)
  unfold putL
  rw [if_pos (by omega)]
set_option maxHeartbeats 2000000 in
theorem put_any (n : Nat) (w : World) (hg : Globs w) : Calls Tryz.prog 171 #[.int .u64 n] w (PutR w (putL n)) := by
  have HI48 : Sl ((Tryz.prog.info? 215).map (·.size) = some table.length) := ⟨by kernel_rfl⟩
  have HG := Sl.mk hg
  have HB0 : Sl (Below w.heap.size w w) := ⟨Below.refl _ _⟩
  have c2 : w.cell? ⟨1, 2, none⟩ = some (.int .u64 126) := hg.t 2 _ rfl
  clear hg
  obtain ⟨o, ho⟩ : ∃ o, putL n = o := ⟨_, rfl⟩
  rw [ho]
  have HO := Sl.mk ho
  clear ho
  go_enter Tryz.func171, Tryz.ntmps171
  by_cases h0 : n < 126
  · have f1 : IntKind.u8.wrap (n : Int) = (n : Int) := by rw [IntKind.wrap_u8']; omega
    have HP : Sl (o = some [n]) := ⟨by rw [← HO.out]; unfold putL; rw [if_neg (by omega), if_pos h0]⟩
    have h0' : (n : Int) < 126 := by omega
    go_wp2
    go_ret2
    refine .yes [n] w.heap.size 1 _ HP.out ⟨?_⟩ ⟨Nat.le_refl _⟩ ⟨(Below.refl _ _).alloc (Nat.le_refl _) _⟩
    exact RowB.src (rowB_new w [n])
  · have h0' : ((n : Int) < 126) = False := eq_false (by omega)
    have H0 := Sl.mk h0
    clear h0
    go_wp2_with (first | (refine wpList_load_mid rfl 215 (.global 1) rfl 1 0 rfl table (.array 2 214) HG.out.t Tryz.underlying215 rfl HI48.out ?_))
    go_loopw [15] (fun i wr => ∃ k : Nat, k ≤ 2 ∧ i = .int .i64 k ∧ Sl (∀ j, j < k → ¬ n ≤ (row j).most) ∧ Sl (Below w.heap.size w wr)) (fun i _ => 2 - (intOf i).toNat)
    case atStart => exact ⟨0, Nat.zero_le _, rfl, ⟨fun j hj => absurd hj (Nat.not_lt_zero _)⟩, HB0⟩
    case round =>
      obtain ⟨k, hk, rfl, HP, HB⟩ := hrel
      by_cases hlt : k < 2
      · have hidx := index_row k hlt
        obtain ⟨hr1, hr2, hr3⟩ := row_ok k
        have HRG := Sl.mk (row_put k hlt n H0.out HP.out)
        have HRP : Sl (¬ n ≤ (row k).most → ∀ j, j < k + 1 → ¬ n ≤ (row j).most) := ⟨fun hne j hj => by
          by_cases e : j = k
          · subst e; exact hne
          · exact HP.out j (by omega)⟩
        obtain ⟨r, hr⟩ : ∃ r, r = row k := ⟨_, rfl⟩
        rw [← hr] at hidx hr1 hr2 hr3 HRG HRP
        clear hr
        obtain ⟨f, B, le, mo⟩ := r
        simp only [Row.cells] at hidx
        simp only at hr1 hr2 hr3 HRG HRP
        obtain ⟨g, hgg⟩ : ∃ g, wr.heap.size = g := ⟨_, rfl⟩
        have hgw := HB.out.size
        rw [hgg] at hgw
        have HGW := Sl.mk hgw
        by_cases he : n ≤ mo
        · have HE := Sl.mk (HRG.out he)
          have he2 : (n : Int) ≤ (mo : Int) := by omega
          clear HRG HRP hgw
          go_wp2
          obtain ⟨R, hR⟩ : ∃ R, (wr.alloc (.cells #[.int .u8 (f : Int), .int .i64 (B : Int), .int .u64 (le : Int), .int .u64 (mo : Int)] 214)).drew = R := ⟨_, rfl⟩
          have HS0 : Below w.heap.size w R ∧ R.heap[g]? = some (.cells #[.int .u8 (f : Int), .int .i64 (B : Int), .int .u64 (le : Int), .int .u64 (mo : Int)] 214 (0, 0)) := ⟨by rw [← hR]; exact (HB.out.alloc (by rw [hgg]; exact HGW.out) _).drew, by rw [← hR, ← hgg]; exact alloc_new _ _ _ rfl⟩
          refine wp_region_noPanic ?_
          refine wp_region_held (S := fun V => Below w.heap.size w V ∧ V.heap[g]? = some (.cells #[.int .u8 (f : Int), .int .i64 (B : Int), .int .u64 (le : Int), .int .u64 (mo : Int)] 214 (0, 0))) (by kernel_rfl) ?_
          change wpAnyH _ _ _ _ _ _ _ _ (wr.alloc (.cells #[.int .u8 (f : Int), .int .i64 (B : Int), .int .u64 (le : Int), .int .u64 (mo : Int)] 214)).drew
          rw [hR]
          clear hR
          refine heldTake (d := some 22) (op := .fieldAddr 214 (.tmp 5) 0) (g := none) 0 ?v0 rfl (by kernel_rfl) (by kernel_rfl) (by kernel_rfl) (by kernel_rfl) ?y0 HS0 ?_
          case y0 => intro o' ho W hS; simp only [execOp, ho]; go_simp; try rfl
          simp only [Act.put, List.setIfInBounds_toArray, List.set_cons_zero, List.set_cons_succ]
          refine heldTake (d := some 23) (op := .load 5 (.tmp 22)) (g := none) 1 ?v1 rfl (by kernel_rfl) (by kernel_rfl) (by kernel_rfl) (by kernel_rfl) ?y1 HS0 ?_
          case y1 => intro o' ho W hS; have cF := cell_of_row _ _ 0 _ _ _ hS.2; have cB := cell_of_row _ _ 1 _ _ _ hS.2; simp only [List.getElem?_toArray, List.getElem?_cons_zero, List.getElem?_cons_succ] at cF cB; simp only [execOp, ho]; go_simp; try rfl
          simp only [Act.put, List.setIfInBounds_toArray, List.set_cons_zero, List.set_cons_succ]
          refine heldTake (d := some 25) (op := .move (.tmp 0)) (g := none) 3 ?v3 rfl (by kernel_rfl) (by kernel_rfl) (by kernel_rfl) (by kernel_rfl) ?y3 HS0 ?_
          case y3 => intro o' ho W hS; simp only [execOp, ho]; go_simp; try rfl
          simp only [Act.put, List.setIfInBounds_toArray, List.set_cons_zero, List.set_cons_succ]
          refine heldTake (d := some 26) (op := .fieldAddr 214 (.tmp 5) 1) (g := none) 4 ?v4 rfl (by kernel_rfl) (by kernel_rfl) (by kernel_rfl) (by kernel_rfl) ?y4 HS0 ?_
          case y4 => intro o' ho W hS; simp only [execOp, ho]; go_simp; try rfl
          simp only [Act.put, List.setIfInBounds_toArray, List.set_cons_zero, List.set_cons_succ]
          refine heldTake (d := some 27) (op := .load 3 (.tmp 26)) (g := none) 5 ?v5 rfl (by kernel_rfl) (by kernel_rfl) (by kernel_rfl) (by kernel_rfl) ?y5 HS0 ?_
          case y5 => intro o' ho W hS; have cF := cell_of_row _ _ 0 _ _ _ hS.2; have cB := cell_of_row _ _ 1 _ _ _ hS.2; simp only [List.getElem?_toArray, List.getElem?_cons_zero, List.getElem?_cons_succ] at cF cB; simp only [execOp, ho]; go_simp; try rfl
          simp only [Act.put, List.setIfInBounds_toArray, List.set_cons_zero, List.set_cons_succ]
          obtain ⟨A, hA⟩ : ∃ A, R.alloc (.cells #[.int .u8 (f : Int)] 5) = A := ⟨_, rfl⟩
          have HRA : Sl (RowB A R.heap.size [f]) := ⟨by rw [← hA]; exact rowB_new R [f]⟩
          have BA : Sl (Below R.heap.size R A) := ⟨by rw [← hA]; exact (Below.refl _ _).alloc (Nat.le_refl _) _⟩
          have HSB : ∀ V V' : World, (Below w.heap.size w V ∧ V.heap[g]? = some (.cells #[.int .u8 (f : Int), .int .i64 (B : Int), .int .u64 (le : Int), .int .u64 (mo : Int)] 214 (0, 0))) → Below V.heap.size V V' → (Below w.heap.size w V' ∧ V'.heap[g]? = some (.cells #[.int .u8 (f : Int), .int .i64 (B : Int), .int .u64 (le : Int), .int .u64 (mo : Int)] 214 (0, 0))) := fun V V' h hb => ⟨h.1.trans (hb.mono h.1.size), by rw [hb.block _ (Array.getElem?_eq_some_iff.1 h.2).1]; exact h.2⟩
          have HSA := HSB _ _ HS0 BA.out
          refine heldCA (di := some 24) (opi := .buildSlice 49 1 #[(0, .tmp 23)]) (dj := some 28) (opj := .call { callee := .value (.func 163), args := #[.tmp 25, .tmp 27], argTypes := #[162, 3] }) (ti := 49) (tj := 49) 2 6 (.slice (some ⟨R.heap.size, 0, none⟩) 1 1) A 163 #[.int .u64 (n : Int), .int .i64 (B : Int)] rfl rfl (by kernel_rfl) ?y2 ?y6 HSA ?first ?second
          case y2 => intro o' ho ht; simp only [execOp, ho]; go_simp; first | done | rw [hA] | rfl
          case y6 => intro o' ho ht; simp only [execOp, ho]; go_simp; try rfl
          case first =>
            simp only [Act.put, List.setIfInBounds_toArray, List.set_cons_zero, List.set_cons_succ]
            refine heldCall (d := some 28) (op := .call { callee := .value (.func 163), args := #[.tmp 25, .tmp 27], argTypes := #[162, 3] }) (g := none) 6 163 #[.int .u64 (n : Int), .int .i64 (B : Int)] rfl (by kernel_rfl) (by kernel_rfl) ?y6p ?_
            case y6p => intro o' ho; simp only [execOp, ho]; go_simp; try rfl
            refine (nb_any n B A hr1).mono ?_
            rintro e X ⟨rfl, HRX, HBX⟩
            have HSX0 := HSB _ _ HSA HBX.out
            refine ⟨_, rfl, HSX0, ?_⟩
            simp only [Act.put, List.setIfInBounds_toArray, List.set_cons_zero, List.set_cons_succ]
            have hRle : w.heap.size ≤ R.heap.size := HS0.1.size
            have h1 : RowB X R.heap.size [f] := HRA.out.below HBX.out
            have h2 : RowB X A.heap.size (be n B) := HRX.out
            have hg2 : g < R.heap.size := (Array.getElem?_eq_some_iff.1 HS0.2).1
            obtain ⟨v1, X5, hr6, ho6, hg6⟩ := add_bytes (base := w.heap.size) 49 h1 hRle h2 (by simp [be_length]; omega) HSX0.1.size
            rw [be_length] at hr6
            have HB6 : Below w.heap.size w X5 := HSX0.1.grown hg6 HSX0.1.size (fun k hk => by injection hk with hk; rw [← hk]; exact hRle)
            have HSX : Below w.heap.size w X5 ∧ X5.heap[g]? = some (.cells #[.int .u8 (f : Int), .int .i64 (B : Int), .int .u64 (le : Int), .int .u64 (mo : Int)] 214 (0, 0)) := ⟨HB6, by rw [hg6.block _ (Array.getElem?_eq_some_iff.1 HSX0.2).1 (fun e => by injection e with e; have h9 := (Array.getElem?_eq_some_iff.1 HS0.2).1; omega)]; exact HSX0.2⟩
            obtain ⟨gv, cv, hv, hgv, hsv⟩ := own_src ho6 (by simp)
            subst hv
            refine heldRunT (d := some 29) (op := .call { callee := .builtin .append, args := #[.tmp 24, .tmp 28], argTypes := #[49, 49] }) (g := none) (t := 49) 7 (.slice (some ⟨gv, 0, none⟩) ([f] ++ be n B).length cv) X5 rfl (by kernel_rfl) (by kernel_rfl) ?y7p HSX ?_
            case y7p => intro o' ho ht; simp only [execOp, ho, ht, resolve, invoke, builtin, Sem.run_bind, Sem.run_pure, Result.andThen_ok, List.map_toArray, List.map_cons, List.map_nil]; refine (congrArg (fun r => Result.andThen r _) hr6).trans ?_; rfl
            simp only [Act.put, List.setIfInBounds_toArray, List.set_cons_zero, List.set_cons_succ]
            refine heldTake (d := some 2) (op := .assign (.tmp 29)) (g := none) 8 ?v8p rfl (by kernel_rfl) (by kernel_rfl) (by kernel_rfl) (by kernel_rfl) ?y8p HSX ?_
            case y8p => intro o' ho W hS; simp only [execOp, ho]; go_simp; try rfl
            simp only [Act.put, List.setIfInBounds_toArray, List.set_cons_zero, List.set_cons_succ]
            refine heldTake (d := some 3) (op := .assign (.const (.int .i64 0))) (g := none) 9 ?v9p rfl (by kernel_rfl) (by kernel_rfl) (by kernel_rfl) (by kernel_rfl) ?y9p HSX ?_
            case y9p => intro o' ho W hS; simp only [execOp, ho]; go_simp; try rfl
            simp only [Act.put, List.setIfInBounds_toArray, List.set_cons_zero, List.set_cons_succ]
            refine wpAnyH_done (by kernel_rfl) ?_ _
            refine NoPanic.normal ?_
            go_wp2
            go_ret2
            exact .yes _ gv cv _ (HO.out.symm.trans HE.out) ⟨hsv⟩ ⟨hgv⟩ ⟨HB6⟩
          case second =>
            refine (nb_any n B R hr1).mono ?_
            rintro e X ⟨rfl, HRX, HBX⟩
            have HSX0 := HSB _ _ HS0 HBX.out
            refine ⟨_, rfl, HSX0, ?_⟩
            simp only [Act.put, List.setIfInBounds_toArray, List.set_cons_zero, List.set_cons_succ]
            obtain ⟨Y, hY⟩ : ∃ Y, X.alloc (.cells #[.int .u8 (f : Int)] 5) = Y := ⟨_, rfl⟩
            have BY : Sl (Below X.heap.size X Y) := ⟨by rw [← hY]; exact (Below.refl _ _).alloc (Nat.le_refl _) _⟩
            have HSY := HSB _ _ HSX0 BY.out
            have h1 : RowB Y X.heap.size [f] := by rw [← hY]; exact rowB_new X [f]
            have h2 : RowB Y R.heap.size (be n B) := HRX.out.below BY.out
            have hRle : w.heap.size ≤ X.heap.size := HSX0.1.size
            have hg2 : g < X.heap.size := (Array.getElem?_eq_some_iff.1 HSX0.2).1
            refine heldRunT (d := some 24) (op := .buildSlice 49 1 #[(0, .tmp 23)]) (g := none) (t := 49) 2 (.slice (some ⟨X.heap.size, 0, none⟩) 1 1) Y rfl (by kernel_rfl) (by kernel_rfl) ?y2q HSY ?_
            case y2q => intro o' ho ht; simp only [execOp, ho]; go_simp; first | done | rw [hY] | rfl
            simp only [Act.put, List.setIfInBounds_toArray, List.set_cons_zero, List.set_cons_succ]
            obtain ⟨v1, X5, hr6, ho6, hg6⟩ := add_bytes (base := w.heap.size) 49 h1 hRle h2 (by simp [be_length]; omega) HSY.1.size
            rw [be_length] at hr6
            have HB6 : Below w.heap.size w X5 := HSY.1.grown hg6 HSY.1.size (fun k hk => by injection hk with hk; rw [← hk]; exact hRle)
            have HSX : Below w.heap.size w X5 ∧ X5.heap[g]? = some (.cells #[.int .u8 (f : Int), .int .i64 (B : Int), .int .u64 (le : Int), .int .u64 (mo : Int)] 214 (0, 0)) := ⟨HB6, by rw [hg6.block _ (Array.getElem?_eq_some_iff.1 HSY.2).1 (fun e => by injection e with e; omega)]; exact HSY.2⟩
            obtain ⟨gv, cv, hv, hgv, hsv⟩ := own_src ho6 (by simp)
            subst hv
            refine heldRunT (d := some 29) (op := .call { callee := .builtin .append, args := #[.tmp 24, .tmp 28], argTypes := #[49, 49] }) (g := none) (t := 49) 7 (.slice (some ⟨gv, 0, none⟩) ([f] ++ be n B).length cv) X5 rfl (by kernel_rfl) (by kernel_rfl) ?y7q HSX ?_
            case y7q => intro o' ho ht; simp only [execOp, ho, ht, resolve, invoke, builtin, Sem.run_bind, Sem.run_pure, Result.andThen_ok, List.map_toArray, List.map_cons, List.map_nil]; refine (congrArg (fun r => Result.andThen r _) hr6).trans ?_; rfl
            simp only [Act.put, List.setIfInBounds_toArray, List.set_cons_zero, List.set_cons_succ]
            refine heldTake (d := some 2) (op := .assign (.tmp 29)) (g := none) 8 ?v8q rfl (by kernel_rfl) (by kernel_rfl) (by kernel_rfl) (by kernel_rfl) ?y8q HSX ?_
            case y8q => intro o' ho W hS; simp only [execOp, ho]; go_simp; try rfl
            simp only [Act.put, List.setIfInBounds_toArray, List.set_cons_zero, List.set_cons_succ]
            refine heldTake (d := some 3) (op := .assign (.const (.int .i64 0))) (g := none) 9 ?v9q rfl (by kernel_rfl) (by kernel_rfl) (by kernel_rfl) (by kernel_rfl) ?y9q HSX ?_
            case y9q => intro o' ho W hS; simp only [execOp, ho]; go_simp; try rfl
            simp only [Act.put, List.setIfInBounds_toArray, List.set_cons_zero, List.set_cons_succ]
            refine wpAnyH_done (by kernel_rfl) ?_ _
            refine NoPanic.normal ?_
            go_wp2
            go_ret2
            exact .yes _ gv cv _ (HO.out.symm.trans HE.out) ⟨hsv⟩ ⟨hgv⟩ ⟨HB6⟩
        · have HP2 := Sl.mk (HRP.out he)
          clear HRG HRP hgw
          have he2 : ((n : Int) ≤ (mo : Int)) = False := eq_false (by omega)
          go_wp2
          exact ⟨⟨k + 1, by omega, by go_num, HP2, ⟨HB.out.alloc (by rw [hgg]; exact HGW.out) _⟩⟩, by simp [intOf]; omega⟩
      · have hge : ((k : Int) < 2) = False := eq_false (by omega)
        obtain rfl : k = 2 := by omega
        have HN := Sl.mk (HO.out.symm.trans (put_none n HP.out))
        go_wp2
        go_ret2
        exact .no _ HN.out HB
end Go.Proofs.YtlahonjmfecikaaGreatDoor.Mas
set_option maxRecDepth 100000
namespace Go.Proofs.YtlahonjmfecikaaGreatDoor.Mas
open Go.RowKit MaskPlain
set_option maxHeartbeats 2000000 in
theorem key_any (n : Nat) (w : World) (hn : n < 4294967296) : Calls Tryz.prog 146 #[.int .u32 n] w fun e w' => e = .returned (.agg (u8s (be n 4)).toArray) ∧ Sl (Below w.heap.size w w') := by
  have f1 : IntKind.u64.wrap (n : Int) = (n : Int) := by rw [IntKind.wrap_u64]; omega
  obtain ⟨g, hg⟩ : ∃ g, w.heap.size = g := ⟨_, rfl⟩
  go_enter Tryz.func146, Tryz.ntmps146
  go_upto_region 2 with fail
  obtain ⟨R, hR⟩ : ∃ R, ((w.alloc (.cells (u8s (zs 4)).toArray 59)).alloc (.cells (u8s (zs 4)).toArray 59)).drew = R := ⟨_, rfl⟩
  have H0 : R.heap[g]? = some (.cells (u8s (zs 4)).toArray 59 (0, 0)) := by rw [← hR]; show ((w.alloc (.cells (u8s (zs 4)).toArray 59)).alloc (.cells (u8s (zs 4)).toArray 59)).heap[g]? = _; rw [alloc_old _ _ _ (by rw [alloc_size]; omega)]; exact alloc_new _ _ _ hg.symm
  have HS0 : Below g w R ∧ R.heap[g + 1]? = some (.cells (u8s (zs 4)).toArray 59 (0, 0)) ∧ R.heap[g]? = some (.cells (u8s (zs 4)).toArray 59 (0, 0)) := ⟨by rw [← hR]; exact (((Below.refl _ _).alloc (by omega) _).alloc (by rw [alloc_size]; omega) _).drew, by rw [← hR]; exact alloc_new _ _ _ (by rw [alloc_size, hg]), H0⟩
  clear H0
  refine wp_region_noPanic ?_
  refine wp_region_held (S := fun V => Below g w V) (by kernel_rfl) ?_
  change wpAnyH _ _ _ _ _ _ _ _ ((w.alloc (.cells (u8s (zs 4)).toArray 59)).alloc (.cells (u8s (zs 4)).toArray 59)).drew
  rw [hR]
  clear hR
  refine heldTake (d := some 4) (op := .slice 59 (.tmp 3) none none none) (g := none) 0 ?v0 rfl (by kernel_rfl) (by kernel_rfl) (by kernel_rfl) (by kernel_rfl) ?y0 HS0.1 ?_
  case y0 => intro o' ho W hS; simp only [execOp, ho]; go_simp; try rfl
  simp only [Act.put, List.setIfInBounds_toArray, List.set_cons_zero, List.set_cons_succ]
  refine heldTake (d := some 5) (op := .move (.tmp 0)) (g := none) 1 ?v1 rfl (by kernel_rfl) (by kernel_rfl) (by kernel_rfl) (by kernel_rfl) ?y1 HS0.1 ?_
  case y1 => intro o' ho W hS; simp only [execOp, ho]; go_simp; try rfl
  simp only [Act.put, List.setIfInBounds_toArray, List.set_cons_zero, List.set_cons_succ]
  refine heldTake (d := some 6) (op := .convert 26 162 (.tmp 5)) (g := none) 2 ?v2 rfl (by kernel_rfl) (by kernel_rfl) (by kernel_rfl) (by kernel_rfl) ?y2 HS0.1 ?_
  case y2 => intro o' ho W hS; simp only [execOp, ho]; go_simp; try rfl
  simp only [Act.put, List.setIfInBounds_toArray, List.set_cons_zero, List.set_cons_succ]
  refine heldCall (d := some 7) (op := .call { callee := .value (.func 163), args := #[.tmp 6, .const (.int .i64 4)], argTypes := #[162, 3] }) (g := none) 3 163 #[.int .u64 (n : Int), .int .i64 4] rfl (by kernel_rfl) (by kernel_rfl) ?y3 ?_
  case y3 => intro o' ho; simp only [execOp, ho]; go_simp; try rfl
  refine (nb_any n 4 R (by omega)).mono ?_
  rintro e X ⟨rfl, HRX, HBX⟩
  have hgR : g + 1 < R.heap.size := (Array.getElem?_eq_some_iff.1 HS0.2.1).1
  have hX0 : X.heap[g]? = some (.cells (u8s (zs 4)).toArray 59 (0, 0)) := by rw [HBX.out.block _ (by omega)]; exact HS0.2.2
  have hX1 : X.heap[g + 1]? = some (.cells (u8s (zs 4)).toArray 59 (0, 0)) := by rw [HBX.out.block _ hgR]; exact HS0.2.1
  have hBX : Below g w X := HS0.1.trans (HBX.out.mono (by have := HS0.1.size; omega))
  refine ⟨_, rfl, hBX, ?_⟩
  simp only [Act.put, List.setIfInBounds_toArray, List.set_cons_zero, List.set_cons_succ]
  have hrun := run_copy_row (P := Tryz.prog) X 49 49 3 5 (g + 1) 0 4 4 ⟨R.heap.size, 0, none⟩ 4 4 (u8s (zs 4)).toArray 59 (u8s (be n 4)) Tryz.underlying49 size5 hX1 (by simp [be_length]) (fun j u hu => by
    have hj : j < (be n 4).length := by have := (List.getElem?_eq_some_iff.1 hu).1; simpa using this
    rw [Addr.add_mid, Nat.zero_add, HRX.out.cell j hj, ← hu, u8s_get _ j hj]) (by simp [be_length]) (u8s_one _)
  rw [show ((u8s (zs 4)).toArray.toList.take 0 ++ u8s (be n 4) ++ (u8s (zs 4)).toArray.toList.drop (0 + (u8s (be n 4)).length)) = u8s (be n 4) by simp [be_length], show (u8s (be n 4)).length = 4 by simp [be_length]] at hrun
  obtain ⟨Y, hY⟩ : ∃ Y, X.setRow (g + 1) (u8s (be n 4)).toArray = Y := ⟨_, rfl⟩
  have hY1 : Sl (Y.heap[g + 1]? = some (.cells (u8s (be n 4)).toArray 59 (0, 0))) := ⟨by rw [← hY]; exact setRow_heap _ _ _ _ _ _ hX1⟩
  have hY0 : Sl (Y.heap[g]? = some (.cells (u8s (zs 4)).toArray 59 (0, 0))) := ⟨by rw [← hY, setRow_other _ _ _ _ (by omega)]; exact hX0⟩
  have hBY : Sl (Below g w Y) := ⟨by rw [← hY]; exact below_setRow hBX (by omega) _⟩
  rw [hY] at hrun
  clear hY
  refine heldRunT (d := some 8) (op := .call { callee := .builtin .copy, args := #[.tmp 4, .tmp 7], argTypes := #[49, 49] }) (g := none) (t := 3) 4 (.int .i64 4) Y rfl (by kernel_rfl) (by kernel_rfl) ?y4 hBY.out ?_
  case y4 => intro o' ho ht; simp only [execOp, ho, ht, resolve, invoke, builtin, Sem.run_bind, Sem.run_pure, Result.andThen_ok, List.map_toArray, List.map_cons, List.map_nil]; refine (congrArg (fun r => Result.andThen r _) hrun).trans ?_; rfl
  simp only [Act.put, List.setIfInBounds_toArray, List.set_cons_zero, List.set_cons_succ]
  refine wpAnyH_done (by kernel_rfl) ?_ _
  refine NoPanic.normal ?_
  have HI : Sl ((Tryz.prog.info? 59).map (·.size) = some (u8s (be n 4)).toArray.size) := ⟨by
    have : (Tryz.prog.info? 59).map (·.size) = some 4 := by kernel_rfl
    simpa [be_length] using this⟩
  have HO : Sl ((u8s (zs 4)).toArray.size = (u8s (be n 4)).toArray.size) := ⟨by simp [be_length]⟩
  go_wp2_with (first
    | (refine wpList_load_row rfl 59 (.tmp 3) rfl (g + 1) rfl 59 _ (0, 0) (.array 4 5) hY1.out Tryz.underlying59 rfl HI.out ?_)
    | (refine wpList_store_row rfl 59 (.tmp 2) (.tmp 9) rfl g _ rfl rfl 59 _ hY0.out HI.out HO.out (all_oneCell_toArray (u8s_one _)) ?_))
  refine bodyPost_ret (v := .agg (u8s (be n 4)).toArray) ?_ rfl ⟨rfl, ⟨below_setRow (by rw [hg]; exact hBY.out) (by omega) _⟩⟩
  exact results_cell_row Tryz.results146 _ _ g 59 _ (0, 0) (.array 4 5) rfl (setRow_heap _ _ _ _ _ _ hY0.out) Tryz.underlying59 rfl HI.out
end Go.Proofs.YtlahonjmfecikaaGreatDoor.Mas
set_option maxRecDepth 100000
namespace Go.Proofs.YtlahonjmfecikaaGreatDoor.Mas
open Go.RowKit MaskPlain
theorem put_yes (n : Nat) (s : List Nat) (w : World) (hg : Globs w) (h : putL n = some s) :
    Calls Tryz.prog 171 #[.int .u64 n] w fun e w' => ∃ g cap, e = .returned (.tuple #[.slice (some ⟨g, 0, none⟩) s.length cap, .int .i64 0]) ∧ Sl (SrcAt w' (.slice (some ⟨g, 0, none⟩) s.length cap) s) ∧ Sl (Below w.heap.size w w') :=
  (put_any n w hg).mono fun _ _ hr => by
    cases hr with
    | yes s' g cap w' h' hs hg hb =>
      rw [h] at h'
      injection h' with h'
      subst h'
      exact ⟨g, cap, rfl, hs, hb⟩
    | no w' h' hb => rw [h] at h'; cases h'
theorem get_ex (v : Value) (bs : List Nat) (n k e : Nat) (w : World) (hg : Globs w) (hv : SrcAt w v bs) (hsm : Small 256 bs) (hm : bs.length ≤ 1000000) (h : getL bs = (n, k, e)) :
    Calls Tryz.prog 159 #[v] w fun x w' => x = .returned (.tuple #[.int .u64 (n : Int), .int .i64 (k : Int), .int .i64 (e : Int)]) ∧ Sl (Below w.heap.size w w') :=
  (get_any v bs w hg hv hsm hm).mono fun _ _ ⟨hx, hb⟩ => ⟨by rw [hx, h]; rfl, hb⟩
theorem key_ex (n : Nat) (l : List Nat) (w : World) (hn : n < 4294967296) (h : be n 4 = l) : Calls Tryz.prog 146 #[.int .u32 n] w fun e w' => e = .returned (.agg (u8s l).toArray) ∧ Sl (Below w.heap.size w w') :=
  (key_any n w hn).mono fun _ _ ⟨hx, hb⟩ => ⟨by rw [hx, h], hb⟩
end Go.Proofs.YtlahonjmfecikaaGreatDoor.Mas
set_option maxRecDepth 100000
namespace Go.Proofs.YtlahonjmfecikaaGreatDoor.Mas
open Go.RowKit MaskPlain
end Go.Proofs.YtlahonjmfecikaaGreatDoor.Mas
set_option maxRecDepth 100000
namespace Go.Proofs.YtlahonjmfecikaaGreatDoor.Mas
open Go.RowKit MaskPlain
structure GI (x : Nat) (xs : List Nat) (S k : Nat) : Prop where
  len : k ≤ xs.length
  high : S = 8 → 0 < k → xs.getD 0 0 < 128
  zero : S = 8 → 6 ≤ k → val (xs.take 6) ≠ 0
  two : S = 2 → 2 ≤ k → ¬ val (xs.take 2) < 126
  siz : (S = 2 ∧ x % 128 = 126) ∨ (S = 8 ∧ x % 128 = 127)
theorem GI.fin {x : Nat} {xs : List Nat} {S : Nat} (h : GI x xs S S) : getL (x :: xs) = (val (xs.take S), 1 + S, 0) := by
  rcases h.siz with ⟨rfl, hx⟩ | ⟨rfl, hx⟩
  · have := h.len
    rw [getL, if_neg (by omega), if_pos hx, if_neg (by omega), if_neg (h.two rfl (by omega))]
  · exact get_whole x xs hx h.len (h.high rfl (by omega)) (h.zero rfl (by omega))
theorem GI.more {x : Nat} {xs : List Nat} {S k : Nat} (h : GI x xs S k) (hk : k < S) (hl : xs.length = k) : getL (x :: xs) = (0, 0, 80) := by
  rcases h.siz with ⟨rfl, hx⟩ | ⟨rfl, hx⟩
  · rw [getL, if_neg (by omega), if_pos hx, if_pos (by omega)]
  · exact get_end x xs hx (by omega) (fun h1 => h.high rfl (by omega)) (fun h1 => h.zero rfl (by omega))
theorem GI.one {x : Nat} {xs : List Nat} (h : GI x xs 2 1) (hl : 1 < xs.length) (hc : val (xs.take 2) < 126) : getL (x :: xs) = (0, 0, 81) := by
  rcases h.siz with ⟨_, hx⟩ | ⟨h8, _⟩
  · rw [getL, if_neg (by omega), if_pos hx, if_neg (by omega), if_pos hc]
  · omega
theorem GI.next {x : Nat} {xs : List Nat} {S k : Nat} (h : GI x xs S k) (hl : k < xs.length) (h1 : S = 8 → k = 0 → xs.getD 0 0 < 128) (h2 : S = 8 → k = 5 → val (xs.take 6) ≠ 0) (h3 : S = 2 → k = 1 → ¬ val (xs.take 2) < 126) : GI x xs S (k + 1) :=
  ⟨hl, fun e _ => by
    by_cases hk : k = 0
    · exact h1 e hk
    · exact h.high e (by omega), fun e _ => by
    by_cases hk : k = 5
    · exact h2 e hk
    · exact h.zero e (by omega), fun e _ => by
    by_cases hk : k = 1
    · exact h3 e hk
    · exact h.two e (by omega), h.siz⟩
end Go.Proofs.YtlahonjmfecikaaGreatDoor.Mas
set_option maxRecDepth 100000
namespace Go.Proofs.YtlahonjmfecikaaGreatDoor.Mas
open Go.RowKit MaskPlain
def DG (n size : Nat) (m i : Nat) (s : ByteArray) : Prop := be n size = be m (size - i) ++ bytes s
theorem DG.next {n size m i : Nat} {s : ByteArray} (h : DG n size m i s) (hi : i < size) : DG n size (m / 256) (i + 1) (strOf [m % 256] ++ s) := by
  unfold DG at *
  rw [h, show size - i = (size - (i + 1)) + 1 by omega, be, bytes_append, strOf_one _ (Nat.mod_lt _ (by decide)), List.append_assoc]
theorem DG.size {n size m i : Nat} {s : ByteArray} (h : DG n size m i s) (hi : i ≤ size) : s.size = i := by
  unfold DG at h
  have h2 := congrArg List.length h
  rw [be_length, List.length_append, be_length, bytes_length] at h2
  omega
theorem DG.fin {n size m : Nat} {s : ByteArray} (h : DG n size m size s) : s = strOf (be n size) := by
  unfold DG at h
  rw [Nat.sub_self] at h
  rw [h]
  exact (strOf_bytes s).symm
end Go.Proofs.YtlahonjmfecikaaGreatDoor.Mas
set_option maxRecDepth 100000
namespace Go.Proofs.YtlahonjmfecikaaGreatDoor.Mas
open Go.RowKit MaskPlain
end Go.Proofs.YtlahonjmfecikaaGreatDoor.Mas
set_option maxRecDepth 100000
namespace Go.Proofs.YtlahonjmfecikaaGreatDoor.Mas
open Go.RowKit MaskPlain
theorem apply_len (key : List Nat) (at' : Int) (v : Value) (bs : List Nat) (n : Nat) (w : World) (hk : key.length = 4) (hks : Small 256 key) (hv : SrcAt w v bs) (hsm : Small 256 bs) (hm : n ≤ 100000) (hn : bs.length = n) :
    Calls Tryz.prog 170 #[.agg (u8s key).toArray, .int .i64 at', v] w fun e w' => ∃ g, e = .returned (.slice (some ⟨g, 0, none⟩) n n) ∧ Sl (RowB w' g (turn key (rest4 at') bs)) ∧ Sl (Below w.heap.size w w') := by
  subst hn
  exact (apply_any key at' v bs w hk hks hv hsm hm).mono fun _ _ ⟨g, he, _, hr, hb⟩ => ⟨g, he, hr, hb⟩
end Go.Proofs.YtlahonjmfecikaaGreatDoor.Mas
set_option maxRecDepth 100000
namespace Go.Proofs.YtlahonjmfecikaaGreatDoor.Mas
open Go.RowKit MaskPlain
end Go.Proofs.YtlahonjmfecikaaGreatDoor.Mas
set_option maxRecDepth 100000
namespace Go.Proofs.YtlahonjmfecikaaGreatDoor.Fra
open Go.RowKit MaskPlain FramePlain Mas
theorem bx_new (w : World) (cs : Array Value) : (w.alloc (.cells cs 61)).heap[w.heap.size]? = some (.cells cs 61 (0, 0)) := alloc_new _ _ _ rfl
theorem bx_below (w : World) (o : Obj) : Sl (Below w.heap.size w (w.alloc o)) := ⟨(Below.refl _ _).alloc (Nat.le_refl _) _⟩
def opn (fin : Bool) (op : Int) : Bool := if ctl op then fin else decide (0 ≤ op) && decide (op ≤ 2)
theorem control_any (op : Int) (w : World) : Calls Tryz.prog 138 #[.int .i64 op] w fun e w' => e = .returned (.bool (ctl op)) ∧ w = w' := by
  by_cases h8 : op = 8
  · subst h8
    go_enter Tryz.func138, Tryz.ntmps138
    go_wp2
    go_ret
    exact ⟨rfl, rfl⟩
  by_cases h9 : op = 9
  · subst h9
    go_enter Tryz.func138, Tryz.ntmps138
    go_wp2
    go_ret
    exact ⟨rfl, rfl⟩
  by_cases h10 : op = 10
  · subst h10
    go_enter Tryz.func138, Tryz.ntmps138
    go_wp2
    go_ret
    exact ⟨rfl, rfl⟩
  · have e8 : (op == 8) = false := beq_eq_false_iff_ne.2 h8
    have e9 : (op == 9) = false := beq_eq_false_iff_ne.2 h9
    have e10 : (op == 10) = false := beq_eq_false_iff_ne.2 h10
    have hr : ctl op = false := by unfold ctl; rw [Bool.and_eq_false_iff, decide_eq_false_iff_not, decide_eq_false_iff_not]; omega
    rw [hr]
    clear hr h8 h9 h10
    go_enter Tryz.func138, Tryz.ntmps138
    go_wp2
    go_ret
    exact ⟨rfl, rfl⟩
theorem opens_any (fin : Bool) (op : Int) (w : World) : Calls Tryz.prog 135 #[.bool fin, .int .i64 op] w fun e w' => e = .returned (.bool (opn fin op)) ∧ w = w' := by
  obtain ⟨c, hc⟩ : ∃ c, ctl op = c := ⟨_, rfl⟩
  have C1 : ∀ W, Calls Tryz.prog 138 #[.int .i64 op] W fun e w' => e = .returned (.bool c) ∧ W = w' := fun W => by rw [← hc]; exact control_any op W
  unfold opn
  rw [hc]
  clear hc
  cases c with
  | true =>
    rw [if_pos rfl]
    go_enter Tryz.func135, Tryz.ntmps135
    go_wp2_with fail
    refine (C1 _).mono ?_
    rintro e w1 ⟨rfl, rfl⟩
    go_wp2
    go_ret
    exact ⟨rfl, rfl⟩
  | false =>
    rw [if_neg (by decide)]
    obtain ⟨r, hr⟩ : ∃ r, (decide (0 ≤ op) && decide (op ≤ 2)) = r := ⟨_, rfl⟩
    rw [hr]
    by_cases h0 : op = 0
    · subst h0
      subst hr
      go_enter Tryz.func135, Tryz.ntmps135
      go_wp2_with fail
      refine (C1 _).mono ?_
      rintro e w1 ⟨rfl, rfl⟩
      go_wp2
      go_ret
      exact ⟨rfl, rfl⟩
    by_cases h1 : op = 1
    · subst h1
      subst hr
      go_enter Tryz.func135, Tryz.ntmps135
      go_wp2_with fail
      refine (C1 _).mono ?_
      rintro e w1 ⟨rfl, rfl⟩
      go_wp2
      go_ret
      exact ⟨rfl, rfl⟩
    by_cases h2 : op = 2
    · subst h2
      subst hr
      go_enter Tryz.func135, Tryz.ntmps135
      go_wp2_with fail
      refine (C1 _).mono ?_
      rintro e w1 ⟨rfl, rfl⟩
      go_wp2
      go_ret
      exact ⟨rfl, rfl⟩
    have e0 : (op == 0) = false := beq_eq_false_iff_ne.2 h0
    have e1 : (op == 1) = false := beq_eq_false_iff_ne.2 h1
    have e2 : (op == 2) = false := beq_eq_false_iff_ne.2 h2
    obtain rfl : r = false := by rw [← hr, Bool.and_eq_false_iff, decide_eq_false_iff_not, decide_eq_false_iff_not]; omega
    clear hr h0 h1 h2
    go_enter Tryz.func135, Tryz.ntmps135
    go_wp2_with fail
    refine (C1 _).mono ?_
    rintro e w1 ⟨rfl, rfl⟩
    go_wp2
    go_ret
    exact ⟨rfl, rfl⟩
def ksz (m : Bool) : Nat := if m then 4 else 0
theorem keysize_any (fin : Bool) (op : Int) (m : Bool) (a b c d : Nat) (s : ByteArray) (w : World) :
    Calls Tryz.prog 160 #[(.agg #[.bool fin, .int .i64 op, .bool m, .int .u8 ((a : Nat) : Int), .int .u8 ((b : Nat) : Int), .int .u8 ((c : Nat) : Int), .int .u8 ((d : Nat) : Int), .string s])] w fun e w' => e = .returned (.int .i64 ((ksz m : Nat) : Int)) ∧ Sl (Below w.heap.size w w') := by
  have HB := bx_below w (.cells #[.bool fin, .int .i64 op, .bool m, .int .u8 ((a : Nat) : Int), .int .u8 ((b : Nat) : Int), .int .u8 ((c : Nat) : Int), .int .u8 ((d : Nat) : Int), .string s] 61)
  cases m with
  | true =>
    go_enter Tryz.func160, Tryz.ntmps160
    go_wp2
    go_ret
    exact ⟨rfl, HB⟩
  | false =>
    go_enter Tryz.func160, Tryz.ntmps160
    go_wp2
    go_ret
    exact ⟨rfl, HB⟩
end Go.Proofs.YtlahonjmfecikaaGreatDoor.Fra
set_option maxRecDepth 100000
namespace Go.Proofs.YtlahonjmfecikaaGreatDoor.Fra
open Go.RowKit MaskPlain FramePlain Mas
theorem form_opn (f : Fr) : form f = (opn f.fin f.op && (!(ctl f.op) || decide (f.data.length ≤ 125)) && (f.masked || decide (f.key = zero4))) := by
  unfold form opn
  cases h : ctl f.op with
  | true =>
    have : (decide (0 ≤ f.op) && decide (f.op ≤ 2)) = false := by
      unfold ctl at h
      rw [Bool.and_eq_true, decide_eq_true_eq, decide_eq_true_eq] at h
      rw [Bool.and_eq_false_iff, decide_eq_false_iff_not, decide_eq_false_iff_not]; omega
    rw [this]; simp
  | false => simp
theorem chk_form {f : Fr} (h : form f = false) : chk f = 91 := by unfold chk; rw [if_pos h]
theorem chk_long {f : Fr} (h : form f = true) (hl : 65536 < f.data.length) : chk f = 92 := by unfold chk; rw [if_neg (by rw [h]; decide), if_pos hl]
theorem chk_yes {f : Fr} (h : form f = true) (hl : ¬ 65536 < f.data.length) : chk f = 0 := by unfold chk; rw [if_neg (by rw [h]; decide), if_neg hl]
theorem eq_zero4 (a b c d : Nat) (hk : Small 256 [a, b, c, d]) (W : World) : (Op.equalIn 10000 59 (.agg #[.int .u8 ((a : Nat) : Int), .int .u8 ((b : Nat) : Int), .int .u8 ((c : Nat) : Int), .int .u8 ((d : Nat) : Int)]) (.agg #[.int .u8 0, .int .u8 0, .int .u8 0, .int .u8 0])).run Tryz.prog W = .ok (decide ([a, b, c, d] = zero4)) W :=
  eq_keys [a, b, c, d] [0, 0, 0, 0] rfl rfl hk (fun x hx => by simp at hx; omega) W
set_option maxHeartbeats 4000000 in
theorem check_any (fin : Bool) (op : Int) (m : Bool) (a b c d : Nat) (s : ByteArray) (w : World) (hk : Small 256 [a, b, c, d]) :
    Calls Tryz.prog 110 #[(.agg #[.bool fin, .int .i64 op, .bool m, .int .u8 ((a : Nat) : Int), .int .u8 ((b : Nat) : Int), .int .u8 ((c : Nat) : Int), .int .u8 ((d : Nat) : Int), .string s])] w fun e w' => e = .returned (.int .i64 ((chk (⟨fin, op, m, [a, b, c, d], bytes s⟩ : Fr) : Nat) : Int)) ∧ Sl (Below w.heap.size w w') := by
  have HB := bx_below w (.cells #[.bool fin, .int .i64 op, .bool m, .int .u8 ((a : Nat) : Int), .int .u8 ((b : Nat) : Int), .int .u8 ((c : Nat) : Int), .int .u8 ((d : Nat) : Int), .string s] 61)
  have hF := form_opn (⟨fin, op, m, [a, b, c, d], bytes s⟩ : Fr)
  simp only [bytes_length] at hF
  obtain ⟨o, ho⟩ : ∃ o, opn fin op = o := ⟨_, rfl⟩
  obtain ⟨g, hg⟩ : ∃ g, ctl op = g := ⟨_, rfl⟩
  have C1 : ∀ W, Calls Tryz.prog 135 #[.bool fin, .int .i64 op] W fun e w' => e = .returned (.bool o) ∧ W = w' := fun W => by rw [← ho]; exact opens_any fin op W
  have C2 : ∀ W, Calls Tryz.prog 138 #[.int .i64 op] W fun e w' => e = .returned (.bool g) ∧ W = w' := fun W => by rw [← hg]; exact control_any op W
  have hEq := eq_zero4 a b c d hk
  rw [ho, hg] at hF
  obtain ⟨z, hz⟩ : ∃ z, decide ([a, b, c, d] = zero4) = z := ⟨_, rfl⟩
  rw [hz] at hF hEq
  obtain ⟨l, hl⟩ : ∃ l, decide (s.size ≤ 125) = l := ⟨_, rfl⟩
  rw [hl] at hF
  have hlq : ((s.size : Int) > 125) = (!l = true) := by
    rw [← hl]
    by_cases h : s.size ≤ 125
    · rw [decide_eq_true h]; exact propext ⟨fun h' => by omega, fun h' => by simp at h'⟩
    · rw [decide_eq_false h]; exact propext ⟨fun h' => rfl, fun h' => by omega⟩
  clear ho hg hz hl hk
  obtain ⟨k, hk⟩ : ∃ k, chk (⟨fin, op, m, [a, b, c, d], bytes s⟩ : Fr) = k := ⟨_, rfl⟩
  rw [hk]
  cases o with
  | false =>
    obtain rfl : k = 91 := hk.symm.trans (chk_form (by rw [hF]; simp))
    clear hF hk hlq
    go_enter Tryz.func110, Tryz.ntmps110
    go_wp2_with fail
    refine (C1 _).mono ?_
    rintro e w1 ⟨rfl, rfl⟩
    go_wp2
    go_ret
    exact ⟨rfl, HB⟩
  | true =>
    cases g with
    | true =>
      cases l with
      | false =>
        obtain rfl : k = 91 := hk.symm.trans (chk_form (by rw [hF]; simp))
        clear hF hk
        have hlq : ((s.size : Int) > 125) = True := hlq.trans (by simp)
        go_enter Tryz.func110, Tryz.ntmps110
        go_wp2_with fail
        refine (C1 _).mono ?_
        rintro e w1 ⟨rfl, rfl⟩
        go_wp2_with fail
        refine (C2 _).mono ?_
        rintro e w2 ⟨rfl, rfl⟩
        go_wp2
        go_ret
        exact ⟨rfl, HB⟩
      | true =>
        have hlq : ((s.size : Int) > 125) = False := hlq.trans (by simp)
        cases m with
        | true =>
          by_cases h6 : 65536 < s.size
          · have h6' : ((s.size : Int) > 65536) = True := eq_true (by omega)
            obtain rfl : k = 92 := hk.symm.trans (chk_long (by rw [hF]; simp) (by rw [bytes_length]; exact h6))
            clear hF hk h6
            go_enter Tryz.func110, Tryz.ntmps110
            go_wp2_with fail
            refine (C1 _).mono ?_
            rintro e w1 ⟨rfl, rfl⟩
            go_wp2_with fail
            refine (C2 _).mono ?_
            rintro e w2 ⟨rfl, rfl⟩
            go_wp2
            go_ret
            exact ⟨rfl, HB⟩
          · have h6' : ((s.size : Int) > 65536) = False := eq_false (by omega)
            obtain rfl : k = 0 := hk.symm.trans (chk_yes (by rw [hF]; simp) (by rw [bytes_length]; exact h6))
            clear hF hk h6
            go_enter Tryz.func110, Tryz.ntmps110
            go_wp2_with fail
            refine (C1 _).mono ?_
            rintro e w1 ⟨rfl, rfl⟩
            go_wp2_with fail
            refine (C2 _).mono ?_
            rintro e w2 ⟨rfl, rfl⟩
            go_wp2
            go_ret
            exact ⟨rfl, HB⟩
        | false =>
          cases z with
          | false =>
            obtain rfl : k = 91 := hk.symm.trans (chk_form (by rw [hF]; simp))
            clear hF hk
            go_enter Tryz.func110, Tryz.ntmps110
            go_wp2_with fail
            refine (C1 _).mono ?_
            rintro e w1 ⟨rfl, rfl⟩
            go_wp2_with fail
            refine (C2 _).mono ?_
            rintro e w2 ⟨rfl, rfl⟩
            go_wp2
            go_ret
            exact ⟨rfl, HB⟩
          | true =>
            by_cases h6 : 65536 < s.size
            · have h6' : ((s.size : Int) > 65536) = True := eq_true (by omega)
              obtain rfl : k = 92 := hk.symm.trans (chk_long (by rw [hF]; simp) (by rw [bytes_length]; exact h6))
              clear hF hk h6
              go_enter Tryz.func110, Tryz.ntmps110
              go_wp2_with fail
              refine (C1 _).mono ?_
              rintro e w1 ⟨rfl, rfl⟩
              go_wp2_with fail
              refine (C2 _).mono ?_
              rintro e w2 ⟨rfl, rfl⟩
              go_wp2
              go_ret
              exact ⟨rfl, HB⟩
            · have h6' : ((s.size : Int) > 65536) = False := eq_false (by omega)
              obtain rfl : k = 0 := hk.symm.trans (chk_yes (by rw [hF]; simp) (by rw [bytes_length]; exact h6))
              clear hF hk h6
              go_enter Tryz.func110, Tryz.ntmps110
              go_wp2_with fail
              refine (C1 _).mono ?_
              rintro e w1 ⟨rfl, rfl⟩
              go_wp2_with fail
              refine (C2 _).mono ?_
              rintro e w2 ⟨rfl, rfl⟩
              go_wp2
              go_ret
              exact ⟨rfl, HB⟩
    | false =>
      clear hlq
      cases m with
      | true =>
        by_cases h6 : 65536 < s.size
        · have h6' : ((s.size : Int) > 65536) = True := eq_true (by omega)
          obtain rfl : k = 92 := hk.symm.trans (chk_long (by rw [hF]; simp) (by rw [bytes_length]; exact h6))
          clear hF hk h6
          go_enter Tryz.func110, Tryz.ntmps110
          go_wp2_with fail
          refine (C1 _).mono ?_
          rintro e w1 ⟨rfl, rfl⟩
          go_wp2_with fail
          refine (C2 _).mono ?_
          rintro e w2 ⟨rfl, rfl⟩
          go_wp2
          go_ret
          exact ⟨rfl, HB⟩
        · have h6' : ((s.size : Int) > 65536) = False := eq_false (by omega)
          obtain rfl : k = 0 := hk.symm.trans (chk_yes (by rw [hF]; simp) (by rw [bytes_length]; exact h6))
          clear hF hk h6
          go_enter Tryz.func110, Tryz.ntmps110
          go_wp2_with fail
          refine (C1 _).mono ?_
          rintro e w1 ⟨rfl, rfl⟩
          go_wp2_with fail
          refine (C2 _).mono ?_
          rintro e w2 ⟨rfl, rfl⟩
          go_wp2
          go_ret
          exact ⟨rfl, HB⟩
      | false =>
        cases z with
        | false =>
          obtain rfl : k = 91 := hk.symm.trans (chk_form (by rw [hF]; simp))
          clear hF hk
          go_enter Tryz.func110, Tryz.ntmps110
          go_wp2_with fail
          refine (C1 _).mono ?_
          rintro e w1 ⟨rfl, rfl⟩
          go_wp2_with fail
          refine (C2 _).mono ?_
          rintro e w2 ⟨rfl, rfl⟩
          go_wp2
          go_ret
          exact ⟨rfl, HB⟩
        | true =>
          by_cases h6 : 65536 < s.size
          · have h6' : ((s.size : Int) > 65536) = True := eq_true (by omega)
            obtain rfl : k = 92 := hk.symm.trans (chk_long (by rw [hF]; simp) (by rw [bytes_length]; exact h6))
            clear hF hk h6
            go_enter Tryz.func110, Tryz.ntmps110
            go_wp2_with fail
            refine (C1 _).mono ?_
            rintro e w1 ⟨rfl, rfl⟩
            go_wp2_with fail
            refine (C2 _).mono ?_
            rintro e w2 ⟨rfl, rfl⟩
            go_wp2
            go_ret
            exact ⟨rfl, HB⟩
          · have h6' : ((s.size : Int) > 65536) = False := eq_false (by omega)
            obtain rfl : k = 0 := hk.symm.trans (chk_yes (by rw [hF]; simp) (by rw [bytes_length]; exact h6))
            clear hF hk h6
            go_enter Tryz.func110, Tryz.ntmps110
            go_wp2_with fail
            refine (C1 _).mono ?_
            rintro e w1 ⟨rfl, rfl⟩
            go_wp2_with fail
            refine (C2 _).mono ?_
            rintro e w2 ⟨rfl, rfl⟩
            go_wp2
            go_ret
            exact ⟨rfl, HB⟩
end Go.Proofs.YtlahonjmfecikaaGreatDoor.Fra
set_option maxRecDepth 100000
namespace Go.Proofs.YtlahonjmfecikaaGreatDoor.Fra
open Go.RowKit MaskPlain FramePlain Mas
theorem bx_cells {W : World} {g : Nat} {fin : Bool} {op : Int} {m : Bool} {a b c d : Nat} {s : ByteArray} (h : W.heap[g]? = some (.cells #[.bool fin, .int .i64 op, .bool m, .int .u8 ((a : Nat) : Int), .int .u8 ((b : Nat) : Int), .int .u8 ((c : Nat) : Int), .int .u8 ((d : Nat) : Int), .string s] 61 (0, 0))) :
    W.cell? ⟨g, 0, none⟩ = some (.bool fin) ∧ W.cell? ⟨g, 1, none⟩ = some (.int .i64 op) ∧ W.cell? ⟨g, 2, none⟩ = some (.bool m) ∧ W.cell? ⟨g, 3, none⟩ = some (.int .u8 (a : Int)) ∧ W.cell? ⟨g, 4, none⟩ = some (.int .u8 (b : Int)) ∧ W.cell? ⟨g, 5, none⟩ = some (.int .u8 (c : Int)) ∧ W.cell? ⟨g, 6, none⟩ = some (.int .u8 (d : Int)) ∧ W.cell? ⟨g, 7, none⟩ = some (.string s) := by
  refine ⟨?_, ?_, ?_, ?_, ?_, ?_, ?_, ?_⟩ <;> (rw [cell_of_row _ _ _ _ _ _ h]; rfl)
theorem box_size (fin : Bool) (op : Int) (m : Bool) (a b c d : Nat) (s : ByteArray) : (Tryz.prog.info? 61).map (·.size) = some (#[.bool fin, .int .i64 op, .bool m, .int .u8 ((a : Nat) : Int), .int .u8 ((b : Nat) : Int), .int .u8 ((c : Nat) : Int), .int .u8 ((d : Nat) : Int), .string s] : Array Value).size := by kernel_rfl
theorem loadbox {W : World} {ev : Operand → Value} {o : Oper} {x : Operand} {g : Nat} {fin : Bool} {op : Int} {m : Bool} {a b c d : Nat} {s : ByteArray} (ho : o.op = .load 61 x) (hx : ev x = .pointer (some ⟨g, 0, none⟩)) (h : W.heap[g]? = some (.cells #[.bool fin, .int .i64 op, .bool m, .int .u8 ((a : Nat) : Int), .int .u8 ((b : Nat) : Int), .int .u8 ((c : Nat) : Int), .int .u8 ((d : Nat) : Int), .string s] 61 (0, 0))) :
    (execOp ev o).run Tryz.prog W = .ok (.value (.agg #[.bool fin, .int .i64 op, .bool m, .int .u8 ((a : Nat) : Int), .int .u8 ((b : Nat) : Int), .int .u8 ((c : Nat) : Int), .int .u8 ((d : Nat) : Int), .string s])) W := by
  unfold execOp
  simp only [ho, hx, Instr.loadAt, Instr.sureAddr, Sem.run_bind, Sem.run_pure, Result.andThen_ok, run_loadVar_row W g 61 61 _ (0, 0) _ h Tryz.underlying61 rfl (box_size fin op m a b c d s)]
theorem lenbytes_any (fin : Bool) (op : Int) (m : Bool) (a b c d : Nat) (s : ByteArray) (n : Nat) (w : World) (hg : Globs w) (hs : s.size ≤ 1000000) (hn : (lenB s.size).length = n) :
    Calls Tryz.prog 165 #[(.agg #[.bool fin, .int .i64 op, .bool m, .int .u8 ((a : Nat) : Int), .int .u8 ((b : Nat) : Int), .int .u8 ((c : Nat) : Int), .int .u8 ((d : Nat) : Int), .string s])] w fun e w' => ∃ g cap, e = .returned (.slice (some ⟨g, 0, none⟩) n cap) ∧ Sl (SrcAt w' (.slice (some ⟨g, 0, none⟩) n cap) (lenB s.size)) ∧ Sl (Below w.heap.size w w') := by
  have HB := bx_below w (.cells #[.bool fin, .int .i64 op, .bool m, .int .u8 ((a : Nat) : Int), .int .u8 ((b : Nat) : Int), .int .u8 ((c : Nat) : Int), .int .u8 ((d : Nat) : Int), .string s] 61)
  have HG := Sl.mk hg
  have hsome : putL s.size = some (lenB s.size) := lenB_some (by omega)
  have C1 := fun W hW => put_yes s.size (lenB s.size) W hW hsome
  rw [hn] at C1
  obtain ⟨L, hL⟩ : ∃ L, lenB s.size = L := ⟨_, rfl⟩
  rw [hL] at C1 ⊢
  have hwr : IntKind.u64.wrap (s.size : Int) = (s.size : Int) := by rw [IntKind.wrap_u64]; omega
  clear hg hn hsome hL
  go_enter Tryz.func165, Tryz.ntmps165
  go_wp2_with fail
  refine (C1 _ (HG.out.below HB.out HG.out.size)).mono ?_
  rintro e w1 ⟨g, cap, rfl, HS, HX⟩
  have HB1 : Sl (Below w.heap.size w w1) := ⟨HB.out.trans (HX.out.mono HB.out.size)⟩
  clear HX
  go_wp2
  go_ret
  exact ⟨g, cap, rfl, HS, HB1⟩
theorem keysize_n (fin : Bool) (op : Int) (m : Bool) (a b c d : Nat) (s : ByteArray) (k : Nat) (w : World) (hk : ksz m = k) :
    Calls Tryz.prog 160 #[(.agg #[.bool fin, .int .i64 op, .bool m, .int .u8 ((a : Nat) : Int), .int .u8 ((b : Nat) : Int), .int .u8 ((c : Nat) : Int), .int .u8 ((d : Nat) : Int), .string s])] w fun e w' => e = .returned (.int .i64 (k : Int)) ∧ Sl (Below w.heap.size w w') := by
  subst hk; exact keysize_any fin op m a b c d s w
theorem size_parts (fin : Bool) (op : Int) (m : Bool) (a b c d : Nat) (s : ByteArray) (h : s.size ≤ 1000000) : size (⟨fin, op, m, [a, b, c, d], bytes s⟩ : Fr) = 1 + (lenB s.size).length + ksz m + s.size := by
  unfold size ksz
  rw [lenB_length (by omega)]
  simp only [bytes_length]
  cases m <;> simp only [if_true, Bool.false_eq_true, if_false] <;> split <;> (try split) <;> omega
theorem lenB_le (n : Nat) (h : n ≤ 1000000) : (lenB n).length ≤ 9 := by
  rw [lenB_length (by omega)]; split
  · omega
  · split <;> omega
set_option maxHeartbeats 2000000 in
theorem size_any (fin : Bool) (op : Int) (m : Bool) (a b c d : Nat) (s : ByteArray) (w : World) (hg : Globs w) (hs : s.size ≤ 1000000) :
    Calls Tryz.prog 164 #[(.agg #[.bool fin, .int .i64 op, .bool m, .int .u8 ((a : Nat) : Int), .int .u8 ((b : Nat) : Int), .int .u8 ((c : Nat) : Int), .int .u8 ((d : Nat) : Int), .string s])] w fun e w' => e = .returned (.int .i64 ((size (⟨fin, op, m, [a, b, c, d], bytes s⟩ : Fr) : Nat) : Int)) ∧ Sl (Below w.heap.size w w') := by
  have HG := Sl.mk hg
  have HSZ := Sl.mk hs
  have hF := size_parts fin op m a b c d s hs
  have hle := lenB_le s.size hs
  obtain ⟨n, hn⟩ : ∃ n, (lenB s.size).length = n := ⟨_, rfl⟩
  have HN := Sl.mk hn
  obtain ⟨k, hk⟩ : ∃ k, ksz m = k := ⟨_, rfl⟩
  have HK := Sl.mk hk
  have hk4 : k ≤ 4 := by rw [← hk]; unfold ksz; split <;> omega
  rw [hn, hk] at hF
  rw [hn] at hle
  have HF : Sl (((size (⟨fin, op, m, [a, b, c, d], bytes s⟩ : Fr) : Nat) : Int) = 1 + (n : Int) + (k : Int) + (s.size : Int)) := ⟨by rw [hF]; omega⟩
  have z1 : IntKind.i64.wrap (1 + (n : Int)) = 1 + (n : Int) := by rw [IntKind.wrap_i64]; omega
  have z2 : IntKind.i64.wrap (1 + (n : Int) + (k : Int)) = 1 + (n : Int) + (k : Int) := by rw [IntKind.wrap_i64]; omega
  have z3 : IntKind.i64.wrap (1 + (n : Int) + (k : Int) + (s.size : Int)) = 1 + (n : Int) + (k : Int) + (s.size : Int) := by rw [IntKind.wrap_i64]; omega
  clear hg hs hF hn hk
  obtain ⟨w1, hw1⟩ : ∃ w1, w.alloc (.cells #[.bool fin, .int .i64 op, .bool m, .int .u8 ((a : Nat) : Int), .int .u8 ((b : Nat) : Int), .int .u8 ((c : Nat) : Int), .int .u8 ((d : Nat) : Int), .string s] 61) = w1 := ⟨_, rfl⟩
  have HB1 : Sl (Below w.heap.size w w1) := ⟨by rw [← hw1]; exact (bx_below w _).out⟩
  have HY1 : Sl (w1.heap[w.heap.size]? = some (.cells #[.bool fin, .int .i64 op, .bool m, .int .u8 ((a : Nat) : Int), .int .u8 ((b : Nat) : Int), .int .u8 ((c : Nat) : Int), .int .u8 ((d : Nat) : Int), .string s] 61 (0, 0))) := ⟨by rw [← hw1]; exact bx_new _ _⟩
  go_enter Tryz.func164, Tryz.ntmps164
  go_upto_region 1 with fail
  obtain ⟨R, hR⟩ : ∃ R, w1.drew = R := ⟨_, rfl⟩
  have HS0 : Below w.heap.size w R ∧ R.heap[w.heap.size]? = some (.cells #[.bool fin, .int .i64 op, .bool m, .int .u8 ((a : Nat) : Int), .int .u8 ((b : Nat) : Int), .int .u8 ((c : Nat) : Int), .int .u8 ((d : Nat) : Int), .string s] 61 (0, 0)) := ⟨by rw [← hR]; exact HB1.out.drew, by rw [← hR]; exact HY1.out⟩
  refine wp_region_noPanic ?_
  refine wp_region_held (S := fun W => Below w.heap.size w W ∧ W.heap[w.heap.size]? = some (.cells #[.bool fin, .int .i64 op, .bool m, .int .u8 ((a : Nat) : Int), .int .u8 ((b : Nat) : Int), .int .u8 ((c : Nat) : Int), .int .u8 ((d : Nat) : Int), .string s] 61 (0, 0))) (by kernel_rfl) ?_
  change wpAnyH _ _ _ _ _ _ _ _ w1.drew
  rw [hR]
  clear hR hw1
  refine heldTake (d := some 3) (op := .load 61 (Operand.tmp 1)) (g := none) 0 ((.agg #[.bool fin, .int .i64 op, .bool m, .int .u8 ((a : Nat) : Int), .int .u8 ((b : Nat) : Int), .int .u8 ((c : Nat) : Int), .int .u8 ((d : Nat) : Int), .string s])) rfl (by kernel_rfl) (by kernel_rfl) (by kernel_rfl) (by kernel_rfl) ?y0 HS0 ?_
  case y0 => intro o' ho W hS; exact loadbox ho (by rfl) hS.2
  simp only [Act.put, List.setIfInBounds_toArray, List.set_cons_zero, List.set_cons_succ]
  refine heldTake (d := some 7) (op := .load 61 (Operand.tmp 1)) (g := none) 4 ((.agg #[.bool fin, .int .i64 op, .bool m, .int .u8 ((a : Nat) : Int), .int .u8 ((b : Nat) : Int), .int .u8 ((c : Nat) : Int), .int .u8 ((d : Nat) : Int), .string s])) rfl (by kernel_rfl) (by kernel_rfl) (by kernel_rfl) (by kernel_rfl) ?y4 HS0 ?_
  case y4 => intro o' ho W hS; exact loadbox ho (by rfl) hS.2
  simp only [Act.put, List.setIfInBounds_toArray, List.set_cons_zero, List.set_cons_succ]
  refine heldTake (d := some 10) (op := .fieldAddr 61 (Operand.tmp 1) 4) (g := none) 7 ?v7 rfl (by kernel_rfl) (by kernel_rfl) (by kernel_rfl) (by kernel_rfl) ?y7 HS0 ?_
  case y7 => intro o' ho W hS; simp only [execOp, ho]; go_simp; try rfl
  simp only [Act.put, List.setIfInBounds_toArray, List.set_cons_zero, List.set_cons_succ]
  refine heldTake (d := some 11) (op := .load 9 (Operand.tmp 10)) (g := none) 8 ?v8 rfl (by kernel_rfl) (by kernel_rfl) (by kernel_rfl) (by kernel_rfl) ?y8 HS0 ?_
  case y8 => intro o' ho W hS; obtain ⟨c0, c1, c2, c3, c4, c5, c6, c7⟩ := bx_cells hS.2; simp only [execOp, ho]; go_simp; try rfl
  simp only [Act.put, List.setIfInBounds_toArray, List.set_cons_zero, List.set_cons_succ]
  refine heldTake (d := some 12) (op := .call { callee := Callee.builtin Builtin.len, args := #[Operand.tmp 11], argTypes := #[9] }) (g := none) 9 ?v9 rfl (by kernel_rfl) (by kernel_rfl) (by kernel_rfl) (by kernel_rfl) ?y9 HS0 ?_
  case y9 => intro o' ho W hS; simp only [execOp, ho]; go_simp; try rfl
  simp only [Act.put, List.setIfInBounds_toArray, List.set_cons_zero, List.set_cons_succ]
  refine heldCall (d := some 4) (op := .call { callee := Callee.value (Operand.func 165), args := #[Operand.tmp 3], argTypes := #[61] }) (g := none) 1 165 #[(.agg #[.bool fin, .int .i64 op, .bool m, .int .u8 ((a : Nat) : Int), .int .u8 ((b : Nat) : Int), .int .u8 ((c : Nat) : Int), .int .u8 ((d : Nat) : Int), .string s])] rfl (by kernel_rfl) (by kernel_rfl) ?y1 ?_
  case y1 => intro o' ho; simp only [execOp, ho]; go_simp; try rfl
  refine (lenbytes_any fin op m a b c d s n R (HG.out.below HS0.1 HG.out.size) HSZ.out HN.out).mono ?_
  rintro e R1 ⟨g, cap, rfl, HSL, HX1⟩
  have HS1 : Below w.heap.size w R1 ∧ R1.heap[w.heap.size]? = some (.cells #[.bool fin, .int .i64 op, .bool m, .int .u8 ((a : Nat) : Int), .int .u8 ((b : Nat) : Int), .int .u8 ((c : Nat) : Int), .int .u8 ((d : Nat) : Int), .string s] 61 (0, 0)) := ⟨HS0.1.trans (HX1.out.mono HS0.1.size), by rw [HX1.out.block _ (Array.getElem?_eq_some_iff.1 HS0.2).1]; exact HS0.2⟩
  refine ⟨_, rfl, HS1, ?_⟩
  simp only [Act.put, List.setIfInBounds_toArray, List.set_cons_zero, List.set_cons_succ]
  refine heldTake (d := some 5) (op := .call { callee := Callee.builtin Builtin.len, args := #[Operand.tmp 4], argTypes := #[49] }) (g := none) 2 ?v2 rfl (by kernel_rfl) (by kernel_rfl) (by kernel_rfl) (by kernel_rfl) ?y2 HS1 ?_
  case y2 => intro o' ho W hS; simp only [execOp, ho]; go_simp; try rfl
  simp only [Act.put, List.setIfInBounds_toArray, List.set_cons_zero, List.set_cons_succ]
  refine heldTake (d := some 6) (op := .binOp BinOp.add 3 (Operand.const (Value.int IntKind.i64 1)) (Operand.tmp 5) 3) (g := none) 3 ?v3 rfl (by kernel_rfl) (by kernel_rfl) (by kernel_rfl) (by kernel_rfl) ?y3 HS1 ?_
  case y3 => intro o' ho W hS; simp only [execOp, ho]; go_simp; try rfl
  simp only [Act.put, List.setIfInBounds_toArray, List.set_cons_zero, List.set_cons_succ]
  refine heldCall (d := some 8) (op := .call { callee := Callee.value (Operand.func 160), args := #[Operand.tmp 7], argTypes := #[61] }) (g := none) 5 160 #[(.agg #[.bool fin, .int .i64 op, .bool m, .int .u8 ((a : Nat) : Int), .int .u8 ((b : Nat) : Int), .int .u8 ((c : Nat) : Int), .int .u8 ((d : Nat) : Int), .string s])] rfl (by kernel_rfl) (by kernel_rfl) ?y5 ?_
  case y5 => intro o' ho; simp only [execOp, ho]; go_simp; try rfl
  refine (keysize_n fin op m a b c d s k R1 HK.out).mono ?_
  rintro e R2 ⟨rfl, HX2⟩
  have HS2 : Below w.heap.size w R2 ∧ R2.heap[w.heap.size]? = some (.cells #[.bool fin, .int .i64 op, .bool m, .int .u8 ((a : Nat) : Int), .int .u8 ((b : Nat) : Int), .int .u8 ((c : Nat) : Int), .int .u8 ((d : Nat) : Int), .string s] 61 (0, 0)) := ⟨HS1.1.trans (HX2.out.mono HS1.1.size), by rw [HX2.out.block _ (Array.getElem?_eq_some_iff.1 HS1.2).1]; exact HS1.2⟩
  refine ⟨_, rfl, HS2, ?_⟩
  simp only [Act.put, List.setIfInBounds_toArray, List.set_cons_zero, List.set_cons_succ]
  refine heldTake (d := some 9) (op := .binOp BinOp.add 3 (Operand.tmp 6) (Operand.tmp 8) 3) (g := none) 6 ?v6 rfl (by kernel_rfl) (by kernel_rfl) (by kernel_rfl) (by kernel_rfl) ?y6 HS2 ?_
  case y6 => intro o' ho W hS; simp only [execOp, ho]; go_simp; try rfl
  simp only [Act.put, List.setIfInBounds_toArray, List.set_cons_zero, List.set_cons_succ]
  refine heldTake (d := some 13) (op := .binOp BinOp.add 3 (Operand.tmp 9) (Operand.tmp 12) 3) (g := none) 10 ?v10 rfl (by kernel_rfl) (by kernel_rfl) (by kernel_rfl) (by kernel_rfl) ?y10 HS2 ?_
  case y10 => intro o' ho W hS; simp only [execOp, ho]; go_simp; try rfl
  simp only [Act.put, List.setIfInBounds_toArray, List.set_cons_zero, List.set_cons_succ]
  refine heldTake (d := some 2) (op := .assign (Operand.tmp 13)) (g := none) 11 ?v11 rfl (by kernel_rfl) (by kernel_rfl) (by kernel_rfl) (by kernel_rfl) ?y11 HS2 ?_
  case y11 => intro o' ho W hS; simp only [execOp, ho]; go_simp; try rfl
  simp only [Act.put, List.setIfInBounds_toArray, List.set_cons_zero, List.set_cons_succ]
  refine wpAnyH_done (by kernel_rfl) ?_ _
  refine NoPanic.normal ?_
  go_wp2
  go_ret
  exact ⟨by rw [HF.out]; rfl, ⟨HS2.1⟩⟩
end Go.Proofs.YtlahonjmfecikaaGreatDoor.Fra
set_option maxRecDepth 100000
namespace Go.Proofs.YtlahonjmfecikaaGreatDoor.Fra
open Go.RowKit MaskPlain FramePlain Mas
theorem add_src {Z : World} {base : Nat} {v u : Value} {m l : List Nat} (h : Z.ownsRow base 5 1 v m.length (u8s m)) (hs : SrcAt Z u l) (hl : m.length + l.length ≤ 1000000) (hbase : base ≤ Z.heap.size) (hp : 0 < (m ++ l).length) :
    ∃ g cap w1, (Builtin.append_ #[49, 49] 49 #[v, u]).run Tryz.prog Z = .ok (.slice (some ⟨g, 0, none⟩) (m ++ l).length cap) w1 ∧
      w1.ownsRow base 5 1 (.slice (some ⟨g, 0, none⟩) (m ++ l).length cap) (m ++ l).length (u8s (m ++ l)) ∧ Z.grownBy w1 v.ownBlock := by
  obtain ⟨i0, hi0, hz0, hz1, hz2⟩ := info5'
  obtain ⟨a, cap, sb, so, rfl, hc, ha, hcell⟩ := hs
  cases a with
  | none =>
    have h0 : l = [] := by
      cases l with
      | nil => rfl
      | cons x xs => exact absurd (ha (by simp)) (by simp)
    subst h0
    have hcap : cap = 0 ∨ cap ≠ 0 := by omega
    have hr : (Builtin.append_ #[49, 49] 49 #[v, .slice none 0 cap]).run Tryz.prog Z = .ok v Z := by
      rcases h.2 with ⟨rfl, hm⟩ | ⟨g, cap', cur, rfl, _, _, hnc, _⟩
      · simp [hm] at hp
      · simp [Builtin.append_, run_underlying Tryz.underlying49, sizeOf, typeInfo, hi0, Builtin.lenOf, Builtin.firstCells, hnc, storeCells]
    rw [List.append_nil] at hp ⊢
    obtain ⟨g, c, rfl, _, _⟩ := own_src h hp
    exact ⟨g, c, Z, hr, h, grown_refl _ _⟩
  | some ad =>
    obtain ⟨v', w', hrun, hown, hgr, _⟩ := run_append_own (P := Tryz.prog) Z base 49 49 5 i0 _ 1 1 Tryz.underlying49 hi0 hz0 hz1 hz2 rfl (by decide) v m.length (u8s m) h ad l.length cap (u8s l) (by simp) (fun j u hu => by
      have hj : j < l.length := by have := (List.getElem?_eq_some_iff.1 hu).1; simpa using this
      have had := ha (by omega)
      injection had with had
      subst had
      rw [Addr.add_mid, hcell j hj, ← hu, u8s_get l j hj]) (u8s_one l) (by unfold maxLen; omega) (by omega) hbase
    rw [← List.length_append, ← u8s_append] at hown
    obtain ⟨g, c, rfl, _, _⟩ := own_src hown hp
    exact ⟨g, c, w', hrun, hown, hgr⟩
theorem make_cap (X : Int) (n : Nat) (hX : X = (n : Int)) (hn : n ≤ 2000000) (w : World) :
    (Instr.makeSlice 49 (.int .i64 0) (.int .i64 X)).run Tryz.prog w = .ok (.slice (some ⟨w.heap.size, 0, none⟩) 0 n) (w.alloc (.cells (u8s (zs n)).toArray 5)) := by
  subst hX
  obtain ⟨i, hi, hz, h1, h2⟩ := info5'
  have := run_make (P := Tryz.prog) w 49 5 i (.int .u8 0) Tryz.underlying49 hi hz .i64 .i64 (0 : Int) (n : Int) (by omega) (by omega) (by rw [h2]; omega) (by omega)
  rw [h1] at this
  rw [show ((n : Int).toNat) = n from by omega, made_u8] at this
  exact this
theorem cap_own (w : World) (base n : Nat) (hb : base ≤ w.heap.size) (hn : n ≤ 2000000) : (w.alloc (.cells (u8s (zs n)).toArray 5)).ownsRow base 5 1 (.slice (some ⟨w.heap.size, 0, none⟩) 0 n) ([] : List Nat).length (u8s []) :=
  World.ownsRow_made w (u8s (zs n)).toArray n hb (by unfold maxLen; omega) (by simp [zs])
theorem or_128 (x : Nat) (h : x < 128) : bits .or .u8 (x : Int) 128 = ((x + 128 : Nat) : Int) := by
  have : ∀ c : Fin 128, bits BinOp.or IntKind.u8 (c.val : Int) 128 = ((c.val + 128 : Nat) : Int) := by decide +kernel
  exact this ⟨x, h⟩
theorem and_128 (x : Nat) (h : x < 256) : bits .and .u8 (x : Int) 128 = (((if 128 ≤ x then 128 else 0 : Nat)) : Int) := by
  have : ∀ c : Fin 256, bits BinOp.and IntKind.u8 (c.val : Int) 128 = (((if 128 ≤ c.val then 128 else 0 : Nat)) : Int) := by decide +kernel
  exact this ⟨x, h⟩
def tb (m : Bool) (key bs : List Nat) : List Nat := if m then turn key 0 bs else bs
theorem tb_length (m : Bool) (key bs : List Nat) : (tb m key bs).length = bs.length := by unfold tb; split <;> simp [turn_length]
theorem tb_small {m : Bool} {key bs : List Nat} (hk : Small 256 key) (h : Small 256 bs) : Small 256 (tb m key bs) := by
  unfold tb; split
  · exact turn_lt key 0 bs h (fun i => hk.getD (by omega) i)
  · exact h
set_option maxHeartbeats 1000000 in
theorem turned_any (fin : Bool) (op : Int) (m : Bool) (a b c d : Nat) (s : ByteArray) (g o n cap : Nat) (bs : List Nat) (w : World) (hk : Small 256 [a, b, c, d]) (hv : SrcAt w (.slice (some ⟨g, o, none⟩) n cap) bs) (hsm : Small 256 bs) (hn : bs.length = n) (hm : n ≤ 100000) :
    Calls Tryz.prog 161 #[(.agg #[.bool fin, .int .i64 op, .bool m, .int .u8 ((a : Nat) : Int), .int .u8 ((b : Nat) : Int), .int .u8 ((c : Nat) : Int), .int .u8 ((d : Nat) : Int), .string s]), .slice (some ⟨g, o, none⟩) n cap] w fun e w' => ∃ g' o' cap', e = .returned (.slice (some ⟨g', o', none⟩) n cap') ∧ Sl (SrcAt w' (.slice (some ⟨g', o', none⟩) n cap') (tb m [a, b, c, d] bs)) ∧ Sl (Below w.heap.size w w') := by
  have HV := Sl.mk hv
  obtain ⟨w1, hw1⟩ : ∃ w1, w.alloc (.cells #[.bool fin, .int .i64 op, .bool m, .int .u8 ((a : Nat) : Int), .int .u8 ((b : Nat) : Int), .int .u8 ((c : Nat) : Int), .int .u8 ((d : Nat) : Int), .string s] 61) = w1 := ⟨_, rfl⟩
  have HB1 : Sl (Below w.heap.size w w1) := ⟨by rw [← hw1]; exact (bx_below w _).out⟩
  have HY1 : Sl (w1.heap[w.heap.size]? = some (.cells #[.bool fin, .int .i64 op, .bool m, .int .u8 ((a : Nat) : Int), .int .u8 ((b : Nat) : Int), .int .u8 ((c : Nat) : Int), .int .u8 ((d : Nat) : Int), .string s] 61 (0, 0))) := ⟨by rw [← hw1]; exact bx_new _ _⟩
  have HV1 : Sl (SrcAt w1 (.slice (some ⟨g, o, none⟩) n cap) bs) := ⟨HV.out.below (Nat.le_refl _) HB1.out⟩
  obtain ⟨c0, c1, c2, c3, c4, c5, c6, c7⟩ := bx_cells HY1.out
  cases m with
  | true =>
    have C1 : Calls Tryz.prog 170 #[.agg #[.int .u8 (a : Int), .int .u8 (b : Int), .int .u8 (c : Int), .int .u8 (d : Int)], .int .i64 0, .slice (some ⟨g, o, none⟩) n cap] w1 fun e w' => ∃ g, e = .returned (.slice (some ⟨g, 0, none⟩) n n) ∧ Sl (RowB w' g (turn [a, b, c, d] (rest4 0) bs)) ∧ Sl (Below w1.heap.size w1 w') :=
      apply_len [a, b, c, d] 0 _ bs n w1 rfl hk HV1.out hsm hm hn
    have HN := Sl.mk hn
    clear hk hv hsm hn hm
    go_enter Tryz.func161, Tryz.ntmps161
    go_wp2_with fail
    refine C1.mono ?_
    rintro e w2 ⟨g2, rfl, HR, HX⟩
    have HB2 : Sl (Below w.heap.size w w2) := ⟨HB1.out.trans (HX.out.mono HB1.out.size)⟩
    have HRS : Sl (SrcAt w2 (.slice (some ⟨g2, 0, none⟩) n n) (tb true [a, b, c, d] bs)) := ⟨src_len HR.out.src (by rw [tb_length]; exact HN.out)⟩
    clear HX HR C1
    go_wp2
    go_ret
    exact ⟨g2, 0, n, rfl, HRS, HB2⟩
  | false =>
    clear hk hv hsm hn hm
    go_enter Tryz.func161, Tryz.ntmps161
    go_wp2
    go_ret
    exact ⟨g, o, cap, rfl, HV1, HB1⟩
end Go.Proofs.YtlahonjmfecikaaGreatDoor.Fra
