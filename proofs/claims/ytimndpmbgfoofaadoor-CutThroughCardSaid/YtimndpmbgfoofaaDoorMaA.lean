/- mask: numberBytes and number. -/
import Derived.Test.YtimndpmbgfoofaaDoorMore
import Derived.Test.YtimndpmbgfoofaaDoorMaskPlain
set_option maxRecDepth 100000
namespace Go.Proofs.YtimndpmbgfoofaaDoor.Mas
open Go.RowKit MaskPlain

/-- Bits that lie apart. -/
theorem or_join (x y i : Nat) (hx : x % 2 ^ i = 0) (hy : y < 2 ^ i) (hb : x + y < 18446744073709551616) : bits .or .u64 (x : Int) (y : Int) = ((x + y : Nat) : Int) := by
  rw [u64_or_nat x y (by omega) (by omega), nat_join i x y hx hy]

set_option maxHeartbeats 2000000 in
theorem nb_any (N s : Nat) (w : World) (hs : s ≤ 8) :
    Calls Tryd.prog 51 #[.int .u64 N, .int .i64 s] w fun e w' => e = .returned (.slice (some ⟨w.heap.size, 0, none⟩) s s) ∧ Sl (RowB w' w.heap.size (be N s)) ∧ Sl (Below w.heap.size w w') := by
  obtain ⟨g, hg⟩ : ∃ g, w.heap.size = g := ⟨_, rfl⟩
  have hmake := make_u8 s s rfl (by omega) w
  rw [hg] at hmake ⊢
  obtain ⟨w1, hw1⟩ : ∃ w1, w.alloc (.cells (u8s (zs s)).toArray 5) = w1 := ⟨_, rfl⟩
  have HR1 : Sl (RowB w1 g (beTo N s 0)) := ⟨by rw [beTo_zero, ← hw1, ← hg]; exact rowB_new w _⟩
  have HB1 : Sl (Below g w w1) := ⟨by rw [← hw1, ← hg]; exact (Below.refl _ _).alloc (Nat.le_refl _) _⟩
  rw [hw1] at hmake
  clear hw1 hg
  go_enter Tryd.func51, Tryd.ntmps51
  go_wp2
  go_loopw [10] (fun i wr => ∃ k : Nat, k ≤ s ∧ i = .int .i64 k ∧ Sl (RowB wr g (beTo N s k)) ∧ Sl (Below g w wr)) (fun i _ => s - (intOf i).toNat)
  case atStart => exact ⟨0, Nat.zero_le _, rfl, HR1, HB1⟩
  case round =>
    obtain ⟨k, hk, rfl, HR, HB⟩ := hrel
    by_cases hlt : k < s
    · have cw := HR.out.cell k (by rw [beTo_length _ _ _ hk]; exact hlt)
      have fw := HR.out.froz k
      have k0 : (0 : Int) ≤ (k : Int) := by omega
      have k1 : (k : Int) < (s : Int) := by omega
      go_wp2
      rw [show (N : Int) / 2 ^ (8 * (s - 1 - k)) % 256 = ((N / 2 ^ (8 * (s - 1 - k)) % 256 : Nat) : Int) by simp]
      exact ⟨⟨k + 1, by omega, by go_num, ⟨by rw [← beTo_step N s k hlt]; exact HR.out.set k _⟩, ⟨HB.out.setCell (p := ⟨g, k, none⟩) (by have := HB.out.size; have := HR.out.lt; first | omega | exact Nat.le_refl _) _⟩⟩, by simp [intOf]; omega⟩
    · have hge : ((k : Int) < (s : Int)) = False := eq_false (by omega)
      obtain rfl : k = s := by omega
      rw [beTo_all] at HR
      go_wp2
      go_ret
      exact ⟨rfl, HR, HB⟩

set_option maxHeartbeats 2000000 in
theorem number_any (v : Value) (bs : List Nat) (w : World) (hv : SrcAt w v bs) (hsm : Small 256 bs) (hl : bs.length ≤ 8) :
    Calls Tryd.prog 78 #[v] w fun e w' => e = .returned (.int .u64 ((val bs : Nat) : Int)) ∧ w = w' := by
  obtain ⟨a, cap, sb, so, rfl, hcap, ha, hc⟩ := hv
  obtain ⟨n, hn⟩ : ∃ n, bs.length = n := ⟨_, rfl⟩
  have HN := Sl.mk hn
  rw [hn] at hcap ha hl ⊢
  have HC : Sl (∀ i, i < n → w.cell? ⟨sb, so + i, none⟩ = some (.int .u8 ((bs.getD i 0 : Nat) : Int))) := ⟨by rw [← hn]; exact hc⟩
  have HSM := Sl.mk hsm
  clear hc hn hsm
  go_enter Tryd.func78, Tryd.ntmps78
  go_wp2
  go_loopw [3, 7] (fun u i wr => ∃ k : Nat, k ≤ n ∧ u = .int .u64 ((val (bs.take k) : Nat) : Int) ∧ i = .int .i64 k ∧ w = wr) (fun _ i _ => n - (intOf i).toNat)
  case atStart => exact ⟨0, Nat.zero_le _, rfl, rfl, rfl⟩
  case round =>
    obtain ⟨k, hk, rfl, rfl, rfl⟩ := hrel
    by_cases hlt : k < n
    · have cw := HC.out k hlt
      obtain rfl := ha (by omega)
      have hs := HN.out
      have HS : Sl (val (bs.take (k + 1)) = 256 * val (bs.take k) + bs.getD k 0) := ⟨val_take bs k (by omega)⟩
      have hlt1 := val_lt (bs.take k) (HSM.out.take k)
      rw [List.length_take, Nat.min_eq_left (by omega)] at hlt1
      have hp : 256 ^ k ≤ 256 ^ 7 := Nat.pow_le_pow_right (by omega) (by omega)
      have hc256 : bs.getD k 0 < 256 := HSM.out.getD (by omega) k
      obtain ⟨c, hcc⟩ : ∃ c, bs.getD k 0 = c := ⟨_, rfl⟩
      obtain ⟨m, hm⟩ : ∃ m, val (bs.take k) = m := ⟨_, rfl⟩
      rw [hm] at hlt1
      rw [hcc] at cw hc256
      rw [hcc, hm] at HS
      have hm2 : m < 72057594037927936 := by omega
      clear hlt1 hp hs
      have k0 : (0 : Int) ≤ (k : Int) := by omega
      have k1 : (k : Int) < (n : Int) := by omega
      rw [hm]
      clear hm hcc
      go_wp2
      refine ⟨⟨k + 1, by omega, ?_, by go_num, trivial⟩, by simp [intOf]; omega⟩
      rw [show (m : Int) * 256 = ((m * 256 : Nat) : Int) by simp, or_join (m * 256) c 8 (by omega) hc256 (by omega), HS.out, Nat.mul_comm]
    · have hge : ((k : Int) < (n : Int)) = False := eq_false (by omega)
      obtain rfl : k = n := by omega
      have hv : bs.take k = bs := List.take_of_length_le (by rw [HN.out]; exact Nat.le_refl _)
      rw [hv]
      go_wp2
      go_ret
      exact ⟨rfl, rfl⟩
end Go.Proofs.YtimndpmbgfoofaaDoor.Mas
/- mask: the table; a wide length read; Get. -/
set_option maxRecDepth 100000
namespace Go.Proofs.YtimndpmbgfoofaaDoor.Mas
open Go.RowKit MaskPlain

/-- A row of the table: the first byte, how many follow, the bounds. -/
structure Row where
  first : Nat
  behind : Nat
  least : Nat
  most : Nat
def row0 : Row := ⟨126, 2, 126, 65535⟩
def row1 : Row := ⟨127, 8, 65536, 9223372036854775807⟩
def Row.cells (r : Row) : List Value := [.int .u8 r.first, .int .i64 r.behind, .int .u64 r.least, .int .u64 r.most]
def table : List Value := row0.cells ++ row1.cells
/-- The table lies in memory as the program's text lays it. -/
structure Globs (w : World) : Prop where
  t : w.rangeAt 0 0 table
theorem Globs.cell0 {w : World} (h : Globs w) : w.cell? ⟨0, 0, none⟩ = some (.int .u8 ((126 : Nat) : Int)) := h.t 0 _ rfl
theorem Globs.size {w : World} (h : Globs w) : 1 ≤ w.heap.size := by
  have := block_lt_of_cell h.cell0; omega
theorem Globs.below {w w' : World} {B : Nat} (h : Globs w) (hb : Below B w w') (hB : 1 ≤ B) : Globs w' :=
  ⟨fun j v hv => by rw [hb.cell (p := ⟨0, 0 + j, none⟩) (show 0 < B by omega)]; exact h.t j v hv⟩
theorem index_row0 (W : World) : (Instr.index 118 (.agg table.toArray) (.int .i64 0)).run Tryd.prog W = .ok (.agg row0.cells.toArray) W := by show _ = _; kernel_rfl
theorem index_row1 (W : World) : (Instr.index 118 (.agg table.toArray) (.int .i64 1)).run Tryd.prog W = .ok (.agg row1.cells.toArray) W := by show _ = _; kernel_rfl

/-- What is answered, as values. -/
def res3 (r : Nat × Nat × Nat) : Value := .tuple #[.int .u64 ((r.1 : Nat) : Int), .int .i64 ((r.2.1 : Nat) : Int), .int .i64 ((r.2.2 : Nat) : Int)]

theorem pow_wrap (M : Nat) (h : M ≤ 64) : IntKind.u64.wrap (IntKind.u64.wrap (2 ^ M) - 1) = ((2 ^ M - 1 : Nat) : Int) := by
  have hp : 0 < 2 ^ M := Nat.two_pow_pos M
  have e : ((2 : Int) ^ M) = ((2 ^ M : Nat) : Int) := by simp
  rw [IntKind.wrap_u64, IntKind.wrap_u64, e]
  by_cases h64 : M = 64
  · subst h64; decide
  · have : 2 ^ M ≤ 2 ^ 63 := Nat.pow_le_pow_right (by omega) (by omega)
    omega
/-- What the shifts give. -/
theorem shifts (B : Nat) (t : List Nat) (hB : B ≤ 8) (hl : t.length ≤ B) (hs : Small 256 t) : ∃ L H : Nat, L = val t * 2 ^ (8 * (B - t.length)) ∧ H = L + 2 ^ (8 * (B - t.length)) - 1 ∧
    IntKind.u64.wrap ((val t : Int) * 2 ^ (8 * (B - t.length))) = (L : Int) ∧ bits .or .u64 (L : Int) (IntKind.u64.wrap (IntKind.u64.wrap (2 ^ (8 * (B - t.length))) - 1)) = (H : Int) ∧ H < 18446744073709551616 := by
  have h1 := getW_small hB hl hs
  obtain ⟨M, hM⟩ : ∃ M, 8 * (B - t.length) = M := ⟨_, rfl⟩
  rw [hM] at h1 ⊢
  have hp : 0 < 2 ^ M := Nat.two_pow_pos M
  refine ⟨_, _, rfl, rfl, ?_, ?_, by omega⟩
  · rw [IntKind.wrap_u64, show (val t : Int) * 2 ^ M = ((val t * 2 ^ M : Nat) : Int) by simp]
    omega
  · rw [pow_wrap M (by omega), or_join _ _ M (by rw [Nat.mul_mod_left]) (by omega) (by omega)]
    congr 1; omega
set_option maxHeartbeats 2000000 in
theorem wide_any (f B least most : Nat) (v : Value) (bs : List Nat) (w : World) (hB : B ≤ 8) (hB0 : 0 < B) (hv : SrcAt w v bs) (hsm : Small 256 bs) (hl : 0 < bs.length) (hm : bs.length ≤ 1000000) :
    Calls Tryd.prog 74 #[.agg #[.int .u8 f, .int .i64 B, .int .u64 least, .int .u64 most], v] w fun e w' => e = .returned (res3 (getW B least most ((bs.drop 1).take B))) ∧ Sl (Below w.heap.size w w') := by
  obtain ⟨a, cap, sb, so, rfl, hcap, ha, hc⟩ := hv
  obtain rfl := ha hl
  obtain ⟨n, hn⟩ : ∃ n, bs.length = n := ⟨_, rfl⟩
  have HN := Sl.mk hn
  rw [hn] at hcap hl hm ⊢
  have HC : Sl (∀ i, i < n → w.cell? ⟨sb, so + i, none⟩ = some (.int .u8 ((bs.getD i 0 : Nat) : Int))) := ⟨by rw [← hn]; exact hc⟩
  obtain ⟨t, ht⟩ : ∃ t, (bs.drop 1).take B = t := ⟨_, rfl⟩
  rw [ht]
  have hst : Small 256 t := by rw [← ht]; exact (hsm.drop 1).take B
  have hlt : t.length = min B (n - 1) := by rw [← ht, List.length_take, List.length_drop, hn]
  obtain ⟨L, H, hL, hH, f1, f2, hH64⟩ := shifts B t hB (by omega) hst
  have HRES : Sl (getW B least most t = if H < least ∨ most < L then (0, 0, 81) else if t.length < B then (0, 0, 80) else (L, 1 + B, 0)) := ⟨by unfold getW; rw [← hL, ← hH]⟩
  have HT := Sl.mk ht
  have HST := Sl.mk hst
  have HLT := Sl.mk hlt
  have hLH : L ≤ H := by have : 0 < 2 ^ (8 * (B - t.length)) := Nat.two_pow_pos _; omega
  clear hc hn hsm ha ht hL hH hst hlt
  obtain ⟨g, hg⟩ : ∃ g, w.heap.size = g := ⟨_, rfl⟩
  have HG := Sl.mk hg
  obtain ⟨w1, hw1⟩ : ∃ w1, w.alloc (.cells #[.int .u8 f, .int .i64 B, .int .u64 least, .int .u64 most] 117) = w1 := ⟨_, rfl⟩
  have hh : w1.heap[g]? = some (.cells #[.int .u8 f, .int .i64 B, .int .u64 least, .int .u64 most] 117 (0, 0)) := by rw [← hw1, ← hg]; exact alloc_new _ _ _ rfl
  have c1 : w1.cell? ⟨g, 1, none⟩ = some (.int .i64 (B : Int)) := by rw [cell_of_row _ _ _ _ _ _ hh]; rfl
  have c2 : w1.cell? ⟨g, 2, none⟩ = some (.int .u64 (least : Int)) := by rw [cell_of_row _ _ _ _ _ _ hh]; rfl
  have c3 : w1.cell? ⟨g, 3, none⟩ = some (.int .u64 (most : Int)) := by rw [cell_of_row _ _ _ _ _ _ hh]; rfl
  have HB1 : Sl (Below g w w1) := ⟨by rw [← hw1, ← hg]; exact (Below.refl _ _).alloc (Nat.le_refl _) _⟩
  clear hh
  rw [hg]
  have HW1 := Sl.mk hw1
  go_enter Tryd.func74, Tryd.ntmps74
  by_cases hle : n ≤ 1 + B
  · by_cases h1 : 1 < n
    · obtain ⟨k, rfl⟩ : ∃ k, n = k + 1 := ⟨n - 1, by omega⟩
      have hk : t.length = k := by have := HLT.out; omega
      rw [hk] at HRES f1 f2
      obtain ⟨m, hm'⟩ : ∃ m, B - k = m := ⟨_, rfl⟩
      have e1 : (B : Int) - (k : Int) = (m : Int) := by omega
      obtain ⟨M, hM⟩ : ∃ M, 8 * m = M := ⟨_, rfl⟩
      have e2 : 8 * (m : Int) = (M : Int) := by omega
      have hM64 : M ≤ 64 := by omega
      rw [hm', hM] at f1 f2
      have hsrc : SrcAt w1 (.slice (some ⟨sb, so + 1, none⟩) k k) t := by
        have := (SrcAt.one (cap := k) HC.out k (Nat.le_refl _) HN.out (Nat.le_refl _)).below (by rw [HG.out]; exact Nat.le_refl _) HB1.out
        rw [← HT.out]
        rwa [List.take_of_length_le (l := bs.drop 1) (i := k) (by rw [List.length_drop]; have := HN.out; omega), ← List.take_of_length_le (l := bs.drop 1) (i := B) (by rw [List.length_drop]; have := HN.out; omega)] at this
      have hnum := number_any (.slice (some ⟨sb, so + 1, none⟩) k k) t w1 hsrc HST.out (by omega)
      have HM := Sl.mk hM
      have HM' := Sl.mk hm'
      clear hsrc hm' hM hk
      go_wp2_with fail
      refine hnum.mono ?_
      rintro e w2 ⟨rfl, rfl⟩
      by_cases hlow : H < least
      · have HR2 := Sl.mk (HRES.out.trans (if_pos (Or.inl hlow)))
        clear HRES
        go_wp2
        go_ret3
        exact ⟨by rw [HR2.out]; rfl, HB1⟩
      · by_cases hhigh : most < L
        · have HR2 := Sl.mk (HRES.out.trans (if_pos (Or.inr hhigh)))
          clear HRES
          go_wp2
          go_ret3
          exact ⟨by rw [HR2.out]; rfl, HB1⟩
        · have HR1 := Sl.mk (HRES.out.trans (if_neg (fun h => h.elim hlow hhigh)))
          clear HRES
          by_cases hmore : k < B
          · have HR2 := Sl.mk (HR1.out.trans (if_pos hmore))
            have hM0 : 0 < M := by have := HM.out; have := HM'.out; omega
            clear HR1
            go_wp2
            go_ret3
            exact ⟨by rw [HR2.out]; rfl, HB1⟩
          · have HR2 := Sl.mk (HR1.out.trans (if_neg hmore))
            have hM0 : ¬ 0 < M := by have := HM.out; have := HM'.out; omega
            have hkB : k = B := by omega
            clear HR1
            go_wp2
            go_ret3
            exact ⟨by rw [HR2.out]; simp [res3]; omega, HB1⟩
    · obtain rfl : n = 1 := by omega
      have g1 : (1 : Int) ≤ 1 + (B : Int) := by omega
      have hk : t.length = 0 := by have := HLT.out; omega
      rw [hk, Nat.sub_zero] at f1 f2
      rw [hk] at HRES
      have ht0 : t = [] := List.eq_nil_of_length_eq_zero hk
      have hsrc : SrcAt w1 (.slice (some ⟨sb, so, none⟩) 0 0) t := by
        rw [ht0]
        exact ⟨_, _, sb, so, rfl, Nat.le_refl _, fun _ => rfl, fun i hi => absurd hi (Nat.not_lt_zero _)⟩
      have hnum := number_any (.slice (some ⟨sb, so, none⟩) 0 0) t w1 hsrc HST.out (by omega)
      clear hsrc hk ht0
      go_wp2_with fail
      refine hnum.mono ?_
      rintro e w2 ⟨rfl, rfl⟩
      by_cases hlow : H < least
      · have HR2 := Sl.mk (HRES.out.trans (if_pos (Or.inl hlow)))
        clear HRES
        go_wp2
        go_ret3
        exact ⟨by rw [HR2.out]; rfl, HB1⟩
      · by_cases hhigh : most < L
        · have HR2 := Sl.mk (HRES.out.trans (if_pos (Or.inr hhigh)))
          clear HRES
          go_wp2
          go_ret3
          exact ⟨by rw [HR2.out]; rfl, HB1⟩
        · have HR1 := Sl.mk (HRES.out.trans (if_neg (fun h => h.elim hlow hhigh)))
          clear HRES
          have HR2 := Sl.mk (HR1.out.trans (if_pos hB0))
          clear HR1
          go_wp2
          go_ret3
          exact ⟨by rw [HR2.out]; rfl, HB1⟩
  · have h2 : 1 + B < n := by omega
    have g1 : ((n : Int) ≤ 1 + (B : Int)) = False := eq_false (by omega)
    have g2 : (1 + (B : Int) < (n : Int)) := by omega
    have hk : t.length = B := by have := HLT.out; omega
    rw [hk, Nat.sub_self, Nat.mul_zero] at f1 f2
    rw [hk] at HRES
    have f3 : IntKind.u64.wrap ((val t : Nat) : Int) = (L : Int) := by rw [← f1]; simp
    have f4 : bits .or .u64 (L : Int) 0 = (H : Int) := by rw [← f2]; rfl
    have hsrc : SrcAt w1 (.slice (some ⟨sb, so + 1, none⟩) B B) t := by
      have := (SrcAt.one (cap := B) HC.out B (by omega) HN.out (Nat.le_refl _)).below (by rw [HG.out]; exact Nat.le_refl _) HB1.out
      rwa [HT.out] at this
    have hnum := number_any (.slice (some ⟨sb, so + 1, none⟩) B B) t w1 hsrc HST.out (by omega)
    clear hsrc hk f1 f2
    go_wp2_with fail
    refine hnum.mono ?_
    rintro e w2 ⟨rfl, rfl⟩
    by_cases hlow : H < least
    · have HR2 := Sl.mk (HRES.out.trans (if_pos (Or.inl hlow)))
      clear HRES
      go_wp2
      go_ret3
      exact ⟨by rw [HR2.out]; rfl, HB1⟩
    · by_cases hhigh : most < L
      · have HR2 := Sl.mk (HRES.out.trans (if_pos (Or.inr hhigh)))
        clear HRES
        go_wp2
        go_ret3
        exact ⟨by rw [HR2.out]; rfl, HB1⟩
      · have HR1 := Sl.mk (HRES.out.trans (if_neg (fun h => h.elim hlow hhigh)))
        clear HRES
        have HR2 := Sl.mk (HR1.out.trans (if_neg (Nat.lt_irrefl _)))
        clear HR1
        go_wp2
        go_ret3
        exact ⟨by rw [HR2.out]; simp [res3], HB1⟩

theorem andNot_128 (c : Nat) (h : c < 256) : bits .andNot .u8 (c : Int) 128 = ((c % 128 : Nat) : Int) := by
  have : ∀ c : Fin 256, bits BinOp.andNot IntKind.u8 (c.val : Int) 128 = ((c.val % 128 : Nat) : Int) := by decide +kernel
  exact this ⟨c, h⟩
def row (k : Nat) : Row := if k = 0 then row0 else row1
theorem index_row (k : Nat) (hk : k < 2) (W : World) : (Instr.index 118 (.agg table.toArray) (.int .i64 (k : Int))).run Tryd.prog W = .ok (.agg (row k).cells.toArray) W := by
  match k, hk with
  | 0, _ => exact index_row0 W
  | 1, _ => exact index_row1 W
theorem row_get (k : Nat) (hk : k < 2) (x : Nat) (xs : List Nat) (hs : Small 256 xs) (h : x % 128 = (row k).first) : getL (x :: xs) = getW (row k).behind (row k).least (row k).most (xs.take (row k).behind) := by
  match k, hk with
  | 0, _ => exact get_narrow x xs h hs
  | 1, _ => exact get_wide x xs h hs
theorem row_ok (k : Nat) : (row k).behind ≤ 8 ∧ 0 < (row k).behind ∧ (row k).first < 256 := by
  unfold row; split <;> exact ⟨by decide, by decide, by decide⟩
/-- No row ahead of the k-th has this first byte. -/
def Past (f k : Nat) : Prop := ∀ j, j < k → f ≠ (row j).first
theorem past_none {f : Nat} (h : Past f 2) (hf : f < 128) : f < 126 := by
  have h0 := h 0 (by decide)
  have h1 := h 1 (by decide)
  simp [row, row0, row1] at h0 h1
  omega
theorem len_nil {w : World} {v : Value} (h : SrcAt w v []) : ∃ a cap, v = .slice a 0 cap := by
  obtain ⟨a, cap, _, _, rfl, _⟩ := h
  exact ⟨a, cap, rfl⟩

set_option maxHeartbeats 2000000 in
theorem get_any (v : Value) (bs : List Nat) (w : World) (hg : Globs w) (hv : SrcAt w v bs) (hsm : Small 256 bs) (hm : bs.length ≤ 1000000) :
    Calls Tryd.prog 69 #[v] w fun e w' => e = .returned (res3 (getL bs)) ∧ Sl (Below w.heap.size w w') := by
  have HI48 : Sl ((Tryd.prog.info? 118).map (·.size) = some table.length) := ⟨by kernel_rfl⟩
  have HG := Sl.mk hg
  have HB0 : Sl (Below w.heap.size w w) := ⟨Below.refl _ _⟩
  clear hg
  cases bs with
  | nil =>
    obtain ⟨a, cap, rfl⟩ := len_nil hv
    clear hv
    go_enter Tryd.func69, Tryd.ntmps69
    go_wp2
    go_ret3
    exact ⟨rfl, HB0⟩
  | cons x xs =>
    have hx256 : x < 256 := hsm x (List.mem_cons_self ..)
    have HXS : Sl (Small 256 xs) := ⟨fun y hy => hsm y (List.mem_cons_of_mem _ hy)⟩
    have HSM := Sl.mk hsm
    have HV := Sl.mk hv
    have hwide := fun f B le mo hB hB0 W hW => wide_any f B le mo v (x :: xs) W hB hB0 hW hsm (by simp) hm
    obtain ⟨a, cap, sb, so, rfl, hcap, ha, hc⟩ := hv
    obtain rfl := ha (by simp)
    have c0 : w.cell? ⟨sb, so, none⟩ = some (.int .u8 (x : Int)) := by have := hc 0 (by simp); simpa using this
    obtain ⟨n, hn⟩ : ∃ n, xs.length = n := ⟨_, rfl⟩
    have hlen : (x :: xs).length = n + 1 := by rw [List.length_cons, hn]
    rw [hlen] at hcap hm hwide HV ⊢
    have f0 := andNot_128 x hx256
    obtain ⟨fb, hfb⟩ : ∃ fb, x % 128 = fb := ⟨_, rfl⟩
    have hfb128 : fb < 128 := by omega
    rw [hfb] at f0
    have HFB := Sl.mk hfb
    clear hc ha hn hlen hsm hfb
    go_enter Tryd.func69, Tryd.ntmps69
    go_wp2_with (first | (refine wpList_load_mid rfl 118 (.global 0) rfl 0 0 rfl table (.array 2 117) HG.out.t Tryd.underlying118 rfl HI48.out ?_))
    go_loopw [16] (fun i wr => ∃ k : Nat, k ≤ 2 ∧ i = .int .i64 k ∧ Sl (Past fb k) ∧ Sl (Below w.heap.size w wr)) (fun i _ => 2 - (intOf i).toNat)
    case atStart => exact ⟨0, Nat.zero_le _, rfl, ⟨fun j hj => absurd hj (Nat.not_lt_zero _)⟩, HB0⟩
    case round =>
      obtain ⟨k, hk, rfl, HP, HB⟩ := hrel
      by_cases hlt : k < 2
      · have hidx := index_row k hlt
        obtain ⟨hr1, hr2, hr3⟩ := row_ok k
        have HRG := Sl.mk (row_get k hlt x xs HXS.out)
        have HRP : Sl (fb ≠ (row k).first → Past fb (k + 1)) := ⟨fun hne j hj => by
          by_cases e : j = k
          · subst e; exact hne
          · exact HP.out j (by omega)⟩
        rw [HFB.out] at HRG
        obtain ⟨r, hr⟩ : ∃ r, r = row k := ⟨_, rfl⟩
        rw [← hr] at hidx hr1 hr2 hr3 HRG HRP
        clear hr
        obtain ⟨f, B, le, mo⟩ := r
        simp only [Row.cells] at hidx
        simp only at hr1 hr2 hr3 HRG HRP
        obtain ⟨g, hgg⟩ : ∃ g, wr.heap.size = g := ⟨_, rfl⟩
        have hgw := HB.out.size
        rw [hgg] at hgw
        have HGW := Sl.mk hgw
        by_cases he : fb = f
        · have HE := Sl.mk (HRG.out he)
          have HB3 : Sl (Below w.heap.size w (wr.alloc (.cells #[.int .u8 f, .int .i64 B, .int .u64 le, .int .u64 mo] 117))) := ⟨HB.out.alloc (by rw [hgg]; exact hgw) _⟩
          have hcall := hwide f B le mo hr1 hr2 _ (HV.out.below (Nat.le_refl _) HB3.out)
          clear HRG HRP hgw
          have he2 : (fb : Int) = (f : Int) := by omega
          go_wp2_with fail
          refine hcall.mono ?_
          rintro e w4 ⟨rfl, HB4⟩
          have HB5 : Sl (Below w.heap.size w w4) := ⟨HB3.out.trans (HB4.out.mono HB3.out.size)⟩
          simp only [res3, List.drop_succ_cons, List.drop_zero]
          go_wp2
          go_ret3
          exact ⟨by rw [HE.out]; rfl, HB5⟩
        · have HP2 := Sl.mk (HRP.out he)
          clear HRG HRP hgw
          have he2 : ((fb : Int) = (f : Int)) = False := eq_false (by omega)
          go_wp2
          exact ⟨⟨k + 1, by omega, by go_num, HP2, ⟨HB.out.alloc (by rw [hgg]; exact HGW.out) _⟩⟩, by simp [intOf]; omega⟩
      · have hge : ((k : Int) < 2) = False := eq_false (by omega)
        obtain rfl : k = 2 := by omega
        have HE := Sl.mk (get_one x xs (by rw [HFB.out]; exact past_none HP.out hfb128))
        rw [HFB.out] at HE
        go_wp2
        go_ret3
        exact ⟨by rw [HE.out]; rfl, HB⟩
end Go.Proofs.YtimndpmbgfoofaaDoor.Mas
/- mask: Apply. -/
set_option maxRecDepth 100000
namespace Go.Proofs.YtimndpmbgfoofaaDoor.Mas
open Go.RowKit MaskPlain

theorem i64_and3 (n : Int) : bits .and .i64 n 3 = n % 4 := by
  have h3 : (BitVec.ofInt 64 3).toNat = 2 ^ 2 - 1 := by decide
  have key : (BitVec.ofInt 64 n &&& BitVec.ofInt 64 3).toNat = (n % ((2 ^ 64 : Nat) : Int)).toNat % 2 ^ 2 := by
    rw [BitVec.toNat_and, BitVec.toNat_ofInt, h3, Nat.and_two_pow_sub_one_eq_mod]
  show IntKind.i64.wrap ((BitVec.ofInt 64 n &&& BitVec.ofInt 64 3).toNat : Nat) = n % 4
  rw [key, IntKind.wrap_i64]
  omega
/-- The place's rest. -/
def rest4 (at' : Int) : Nat := (at' % 4).toNat
theorem rest4_lt (at' : Int) : rest4 at' < 4 := by unfold rest4; omega

set_option maxHeartbeats 2000000 in
theorem apply_any (key : List Nat) (at' : Int) (v : Value) (bs : List Nat) (w : World) (hk : key.length = 4) (hks : Small 256 key) (hv : SrcAt w v bs) (hsm : Small 256 bs) (hm : bs.length ≤ 100000) :
    Calls Tryd.prog 59 #[.agg (u8s key).toArray, .int .i64 at', v] w fun e w' => ∃ g, e = .returned (.slice (some ⟨g, 0, none⟩) bs.length bs.length) ∧ Sl (w.heap.size ≤ g) ∧ Sl (RowB w' g (turn key (rest4 at') bs)) ∧ Sl (Below w.heap.size w w') := by
  have f0 : bits .and .i64 at' 3 = ((rest4 at' : Nat) : Int) := by rw [i64_and3]; unfold rest4; omega
  have hK4 := rest4_lt at'
  obtain ⟨K, hK⟩ : ∃ K, rest4 at' = K := ⟨_, rfl⟩
  rw [hK] at f0 hK4 ⊢
  clear hK
  obtain ⟨a, cap, sb, so, rfl, hcap, ha, hc⟩ := hv
  obtain ⟨n, hn⟩ : ∃ n, bs.length = n := ⟨_, rfl⟩
  have HN := Sl.mk hn
  rw [hn] at hcap ha hc hm ⊢
  have HSM := Sl.mk hsm
  have HKL := Sl.mk hk
  have HKS := Sl.mk hks
  obtain ⟨g, hg⟩ : ∃ g, w.heap.size = g := ⟨_, rfl⟩
  obtain ⟨w1, hw1⟩ : ∃ w1, w.alloc (.cells (u8s key).toArray 42) = w1 := ⟨_, rfl⟩
  have hs1 : w1.heap.size = g + 1 := by rw [← hw1, alloc_size, hg]
  have hrow : w1.heap[g]? = some (.cells (u8s key).toArray 42 (0, 0)) := by rw [← hw1, ← hg]; exact alloc_new _ _ _ rfl
  have hmake := make_u8 n n rfl (by omega) w1
  rw [hs1] at hmake
  obtain ⟨w2, hw2⟩ : ∃ w2, w1.alloc (.cells (u8s (zs n)).toArray 5) = w2 := ⟨_, rfl⟩
  have HB1 : Sl (Below g w w2) := ⟨by rw [← hw2, ← hw1, ← hg]; exact ((Below.refl _ _).alloc (Nat.le_refl _) _).alloc (by rw [alloc_size]; omega) _⟩
  have HR1 : Sl (RowB w2 (g + 1) (tuTo key K bs 0)) := ⟨by rw [tuTo_zero, HN.out, ← hs1, ← hw2]; exact rowB_new w1 _⟩
  have HKR : Sl (w2.heap[g]? = some (.cells (u8s key).toArray 42 (0, 0))) := ⟨by rw [← hw2, alloc_old _ _ _ (by rw [hs1]; omega)]; exact hrow⟩
  have HC : Sl (∀ i, i < n → w2.cell? ⟨sb, so + i, none⟩ = some (.int .u8 ((bs.getD i 0 : Nat) : Int)) ∧ sb < g) := ⟨fun i hi => by
    have hlt := block_lt_of_cell (hc i hi)
    rw [hg] at hlt
    exact ⟨by rw [HB1.out.cell (p := ⟨sb, so + i, none⟩) hlt]; exact hc i hi, hlt⟩⟩
  rw [hw2] at hmake
  clear hw2 hc hn hsm hk hks hs1 hrow
  rw [hg]
  go_enter Tryd.func59, Tryd.ntmps59
  go_wp2
  go_loopw [17] (fun i wr => ∃ k : Nat, k ≤ n ∧ i = .int .i64 k ∧ Sl (RowB wr (g + 1) (tuTo key K bs k)) ∧ Sl (Below g w wr) ∧ Sl (wr.heap[g]? = some (.cells (u8s key).toArray 42 (0, 0))) ∧ Sl (∀ i, i < n → wr.cell? ⟨sb, so + i, none⟩ = some (.int .u8 ((bs.getD i 0 : Nat) : Int)) ∧ sb < g)) (fun i _ => n - (intOf i).toNat)
  case atStart => exact ⟨0, Nat.zero_le _, rfl, HR1, HB1, HKR, HC⟩
  case round =>
    obtain ⟨k, hk, rfl, HR, HB, HK, HS⟩ := hrel
    by_cases hlt : k < n
    · have cw := HR.out.cell k (by rw [tuTo_length _ _ _ _ (by rw [HN.out]; exact hk), HN.out]; exact hlt)
      have fw := HR.out.froz k
      have cs := (HS.out k hlt).1
      obtain rfl := ha (by omega)
      have k0 : (0 : Int) ≤ (k : Int) := by omega
      have k1 : (k : Int) < (n : Int) := by omega
      obtain ⟨j, hj⟩ : ∃ j, (K + k) % 4 = j := ⟨_, rfl⟩
      have hj4 : j < 4 := by omega
      have q1 : ((K : Int) + (k : Int)) % 4 = (j : Int) := by omega
      have q2 : ((K : Int) + (k : Int)).tmod 4 = (j : Int) := by rw [Int.tmod_eq_emod_of_nonneg (by omega)]; omega
      have q3 : IntKind.i64.wrap ((K : Int) + (k : Int)) = (K : Int) + (k : Int) := by rw [IntKind.wrap_i64]; omega
      have ck : wr.cell? ⟨g, j, none⟩ = some (.int .u8 ((key.getD j 0 : Nat) : Int)) := by rw [cell_of_row _ _ _ _ _ _ HK.out, List.getElem?_toArray]; exact u8s_get key j (by rw [HKL.out]; exact hj4)
      have hx := u8_xor_nat (bs.getD k 0) (key.getD j 0) (HSM.out.getD (by omega) k) (HKS.out.getD (by omega) j)
      have HST : Sl ((tuTo key K bs k).set k (bs.getD k 0 ^^^ key.getD j 0) = tuTo key K bs (k + 1)) := ⟨by rw [← hj]; exact tuTo_step key K bs k (by rw [HN.out]; exact hlt)⟩
      have hne : g ≠ g + 1 := by omega
      have hne2 : sb ≠ g + 1 := by have := (HS.out k hlt).2; omega
      have HNE := Sl.mk hne2
      obtain ⟨x, hxx⟩ : ∃ x, bs.getD k 0 = x := ⟨_, rfl⟩
      obtain ⟨y, hyy⟩ : ∃ y, key.getD j 0 = y := ⟨_, rfl⟩
      rw [hxx] at cs hx HST
      rw [hyy] at ck hx HST
      obtain ⟨z, hzz⟩ : ∃ z, x ^^^ y = z := ⟨_, rfl⟩
      rw [hzz] at hx HST
      clear hxx hyy hzz hj
      go_wp2
      go_region
      have HR3 : Sl (RowB (wr.setCell ⟨g + 1, k, none⟩ (.int .u8 (z : Int))).drew (g + 1) (tuTo key K bs (k + 1))) := ⟨by rw [← HST.out]; exact HR.out.set k z⟩
      have HB3 : Sl (Below g w (wr.setCell ⟨g + 1, k, none⟩ (.int .u8 (z : Int))).drew) := ⟨(HB.out.setCell (p := ⟨g + 1, k, none⟩) (Nat.le_succ _) _).drew⟩
      have HK3 : Sl ((wr.setCell ⟨g + 1, k, none⟩ (.int .u8 (z : Int))).drew.heap[g]? = some (.cells (u8s key).toArray 42 (0, 0))) := ⟨by
        show (wr.setCell ⟨g + 1, k, none⟩ (.int .u8 (z : Int))).heap[g]? = _
        rw [heap_setCell_other _ _ _ _ hne]; exact HK.out⟩
      have HS3 : Sl (∀ i, i < n → (wr.setCell ⟨g + 1, k, none⟩ (.int .u8 (z : Int))).drew.cell? ⟨sb, so + i, none⟩ = some (.int .u8 ((bs.getD i 0 : Nat) : Int)) ∧ sb < g) := ⟨fun i hi => by
        refine ⟨?_, (HS.out i hi).2⟩
        show (wr.setCell ⟨g + 1, k, none⟩ (.int .u8 (z : Int))).cell? ⟨sb, so + i, none⟩ = _
        rw [World.cell?_setCell_other (h := fun e => HNE.out (by injection e with e1; exact e1.symm))]
        exact (HS.out i hi).1⟩
      clear cw fw cs ck hx
      generalize (wr.setCell ⟨g + 1, k, none⟩ (.int .u8 (z : Int))).drew = w3 at *
      go_wp2
      exact ⟨⟨k + 1, by omega, by go_num, HR3, HB3, HK3, HS3⟩, by simp [intOf]; omega⟩
    · have hge : ((k : Int) < (n : Int)) = False := eq_false (by omega)
      obtain rfl : k = n := by omega
      have HT : Sl (tuTo key K bs k = turn key K bs) := ⟨by rw [← HN.out]; exact tuTo_all key K bs⟩
      have HR2 : Sl (RowB wr (g + 1) (turn key K bs)) := ⟨by rw [← HT.out]; exact HR.out⟩
      go_wp2
      go_ret
      exact ⟨_, rfl, ⟨by omega⟩, HR2, HB⟩
end Go.Proofs.YtimndpmbgfoofaaDoor.Mas
