/- mask: the table; a wide length read; Get. -/
import Derived.Test.YtleekkjaoccjlaaDoorA
set_option maxRecDepth 100000
namespace Go.Proofs.YtleekkjaoccjlaaDoor
open Go.RowKit MaskPlain

/-- A row of the table: the first byte, how many follow, the bounds. -/
structure Row where
  first : Nat
  behind : Nat
  least : Nat
  most : Nat
def row0 : Row := ⟨126, 2, 126, 65535⟩
def row1 : Row := ⟨127, 8, 65536, 9223372036854775807⟩
def Row.cells (r : Row) : List Value := [.int .u8 r.first, .int .i64 r.behind, .int .u64 r.least, .int .u64 r.most]
def table : List Value := row0.cells ++ row1.cells
/-- The table lies in memory as the program's text lays it. -/
structure Globs (w : World) : Prop where
  t : w.rangeAt 0 0 table
theorem Globs.cell0 {w : World} (h : Globs w) : w.cell? ⟨0, 0, none⟩ = some (.int .u8 ((126 : Nat) : Int)) := h.t 0 _ rfl
theorem Globs.size {w : World} (h : Globs w) : 1 ≤ w.heap.size := by
  have := block_lt_of_cell h.cell0; omega
theorem Globs.below {w w' : World} {B : Nat} (h : Globs w) (hb : Below B w w') (hB : 1 ≤ B) : Globs w' :=
  ⟨fun j v hv => by rw [hb.cell (p := ⟨0, 0 + j, none⟩) (show 0 < B by omega)]; exact h.t j v hv⟩
theorem index_row0 (W : World) : (Instr.index 48 (.agg table.toArray) (.int .i64 0)).run Tryd.prog W = .ok (.agg row0.cells.toArray) W := by show _ = _; kernel_rfl
theorem index_row1 (W : World) : (Instr.index 48 (.agg table.toArray) (.int .i64 1)).run Tryd.prog W = .ok (.agg row1.cells.toArray) W := by show _ = _; kernel_rfl

/-- What is answered, as values. -/
def res3 (r : Nat × Nat × Nat) : Value := .tuple #[.int .u64 ((r.1 : Nat) : Int), .int .i64 ((r.2.1 : Nat) : Int), .int .i64 ((r.2.2 : Nat) : Int)]

theorem pow_wrap (M : Nat) (h : M ≤ 64) : IntKind.u64.wrap (IntKind.u64.wrap (2 ^ M) - 1) = ((2 ^ M - 1 : Nat) : Int) := by
  have hp : 0 < 2 ^ M := Nat.two_pow_pos M
  have e : ((2 : Int) ^ M) = ((2 ^ M : Nat) : Int) := by simp
  rw [IntKind.wrap_u64, IntKind.wrap_u64, e]
  by_cases h64 : M = 64
  · subst h64; decide
  · have : 2 ^ M ≤ 2 ^ 63 := Nat.pow_le_pow_right (by omega) (by omega)
    omega
/-- What the shifts give. -/
theorem shifts (B : Nat) (t : List Nat) (hB : B ≤ 8) (hl : t.length ≤ B) (hs : Small 256 t) : ∃ L H : Nat, L = val t * 2 ^ (8 * (B - t.length)) ∧ H = L + 2 ^ (8 * (B - t.length)) - 1 ∧
    IntKind.u64.wrap ((val t : Int) * 2 ^ (8 * (B - t.length))) = (L : Int) ∧ bits .or .u64 (L : Int) (IntKind.u64.wrap (IntKind.u64.wrap (2 ^ (8 * (B - t.length))) - 1)) = (H : Int) ∧ H < 18446744073709551616 := by
  have h1 := getW_small hB hl hs
  obtain ⟨M, hM⟩ : ∃ M, 8 * (B - t.length) = M := ⟨_, rfl⟩
  rw [hM] at h1 ⊢
  have hp : 0 < 2 ^ M := Nat.two_pow_pos M
  refine ⟨_, _, rfl, rfl, ?_, ?_, by omega⟩
  · rw [IntKind.wrap_u64, show (val t : Int) * 2 ^ M = ((val t * 2 ^ M : Nat) : Int) by simp]
    omega
  · rw [pow_wrap M (by omega), or_join _ _ M (by rw [Nat.mul_mod_left]) (by omega) (by omega)]
    congr 1; omega
theorem SrcAt.below {w w' : World} {v : Value} {bs : List Nat} (h : SrcAt w v bs) {B : Nat} (hB : w.heap.size ≤ B) (k : Below B w w') : SrcAt w' v bs := by
  obtain ⟨a, cap, sb, so, h0, h1, h3, h5⟩ := h
  refine ⟨a, cap, sb, so, h0, h1, h3, fun i hi => ?_⟩
  have hlt := block_lt_of_cell (h5 i hi)
  rw [k.cell (p := ⟨sb, so + i, none⟩) (Nat.lt_of_lt_of_le hlt hB)]
  exact h5 i hi
theorem SrcAt.one {w : World} {sb so n cap : Nat} {bs : List Nat} (h : ∀ i, i < n → w.cell? ⟨sb, so + i, none⟩ = some (.int .u8 ((bs.getD i 0 : Nat) : Int))) (k : Nat) (hk : k + 1 ≤ n) (hn : bs.length = n) (hc : k ≤ cap) : SrcAt w (.slice (some ⟨sb, so + 1, none⟩) k cap) ((bs.drop 1).take k) := by
  have hl : ((bs.drop 1).take k).length = k := by rw [List.length_take, List.length_drop]; omega
  refine ⟨_, cap, sb, so + 1, by rw [hl], by rw [hl]; exact hc, fun _ => rfl, fun i hi => ?_⟩
  rw [hl] at hi
  rw [Nat.add_assoc, h (1 + i) (by omega)]
  simp only [List.getD_eq_getElem?_getD]
  rw [List.getElem?_take_of_lt hi, List.getElem?_drop]

set_option maxHeartbeats 2000000 in
theorem wide_any (f B least most : Nat) (v : Value) (bs : List Nat) (w : World) (hB : B ≤ 8) (hB0 : 0 < B) (hv : SrcAt w v bs) (hsm : Small 256 bs) (hl : 0 < bs.length) (hm : bs.length ≤ 1000000) :
    Calls Tryd.prog 20 #[.agg #[.int .u8 f, .int .i64 B, .int .u64 least, .int .u64 most], v] w fun e w' => e = .returned (res3 (getW B least most ((bs.drop 1).take B))) ∧ Sl (Below w.heap.size w w') := by
  obtain ⟨a, cap, sb, so, rfl, hcap, ha, hc⟩ := hv
  obtain rfl := ha hl
  obtain ⟨n, hn⟩ : ∃ n, bs.length = n := ⟨_, rfl⟩
  have HN := Sl.mk hn
  rw [hn] at hcap hl hm ⊢
  have HC : Sl (∀ i, i < n → w.cell? ⟨sb, so + i, none⟩ = some (.int .u8 ((bs.getD i 0 : Nat) : Int))) := ⟨by rw [← hn]; exact hc⟩
  obtain ⟨t, ht⟩ : ∃ t, (bs.drop 1).take B = t := ⟨_, rfl⟩
  rw [ht]
  have hst : Small 256 t := by rw [← ht]; exact (hsm.drop 1).take B
  have hlt : t.length = min B (n - 1) := by rw [← ht, List.length_take, List.length_drop, hn]
  obtain ⟨L, H, hL, hH, f1, f2, hH64⟩ := shifts B t hB (by omega) hst
  have HRES : Sl (getW B least most t = if H < least ∨ most < L then (0, 0, 81) else if t.length < B then (0, 0, 80) else (L, 1 + B, 0)) := ⟨by unfold getW; rw [← hL, ← hH]⟩
  have HT := Sl.mk ht
  have HST := Sl.mk hst
  have HLT := Sl.mk hlt
  have hLH : L ≤ H := by have : 0 < 2 ^ (8 * (B - t.length)) := Nat.two_pow_pos _; omega
  clear hc hn hsm ha ht hL hH hst hlt
  obtain ⟨g, hg⟩ : ∃ g, w.heap.size = g := ⟨_, rfl⟩
  have HG := Sl.mk hg
  obtain ⟨w1, hw1⟩ : ∃ w1, w.alloc (.cells #[.int .u8 f, .int .i64 B, .int .u64 least, .int .u64 most] 47) = w1 := ⟨_, rfl⟩
  have hh : w1.heap[g]? = some (.cells #[.int .u8 f, .int .i64 B, .int .u64 least, .int .u64 most] 47 (0, 0)) := by rw [← hw1, ← hg]; exact alloc_new _ _ _ rfl
  have c1 : w1.cell? ⟨g, 1, none⟩ = some (.int .i64 (B : Int)) := by rw [cell_of_row _ _ _ _ _ _ hh]; rfl
  have c2 : w1.cell? ⟨g, 2, none⟩ = some (.int .u64 (least : Int)) := by rw [cell_of_row _ _ _ _ _ _ hh]; rfl
  have c3 : w1.cell? ⟨g, 3, none⟩ = some (.int .u64 (most : Int)) := by rw [cell_of_row _ _ _ _ _ _ hh]; rfl
  have HB1 : Sl (Below g w w1) := ⟨by rw [← hw1, ← hg]; exact (Below.refl _ _).alloc (Nat.le_refl _) _⟩
  clear hh
  rw [hg]
  have HW1 := Sl.mk hw1
  go_enter Tryd.func20, Tryd.ntmps20
  by_cases hle : n ≤ 1 + B
  · by_cases h1 : 1 < n
    · obtain ⟨k, rfl⟩ : ∃ k, n = k + 1 := ⟨n - 1, by omega⟩
      have hk : t.length = k := by have := HLT.out; omega
      rw [hk] at HRES f1 f2
      obtain ⟨m, hm'⟩ : ∃ m, B - k = m := ⟨_, rfl⟩
      have e1 : (B : Int) - (k : Int) = (m : Int) := by omega
      obtain ⟨M, hM⟩ : ∃ M, 8 * m = M := ⟨_, rfl⟩
      have e2 : 8 * (m : Int) = (M : Int) := by omega
      have hM64 : M ≤ 64 := by omega
      rw [hm', hM] at f1 f2
      have hsrc : SrcAt w1 (.slice (some ⟨sb, so + 1, none⟩) k k) t := by
        have := (SrcAt.one (cap := k) HC.out k (Nat.le_refl _) HN.out (Nat.le_refl _)).below (by rw [HG.out]; exact Nat.le_refl _) HB1.out
        rw [← HT.out]
        rwa [List.take_of_length_le (l := bs.drop 1) (i := k) (by rw [List.length_drop]; have := HN.out; omega), ← List.take_of_length_le (l := bs.drop 1) (i := B) (by rw [List.length_drop]; have := HN.out; omega)] at this
      have hnum := number_any (.slice (some ⟨sb, so + 1, none⟩) k k) t w1 hsrc HST.out (by omega)
      have HM := Sl.mk hM
      have HM' := Sl.mk hm'
      clear hsrc hm' hM hk
      go_wp2_with fail
      refine hnum.mono ?_
      rintro e w2 ⟨rfl, rfl⟩
      by_cases hlow : H < least
      · have HR2 := Sl.mk (HRES.out.trans (if_pos (Or.inl hlow)))
        clear HRES
        go_wp2
        go_ret3
        exact ⟨by rw [HR2.out]; rfl, HB1⟩
      · by_cases hhigh : most < L
        · have HR2 := Sl.mk (HRES.out.trans (if_pos (Or.inr hhigh)))
          clear HRES
          go_wp2
          go_ret3
          exact ⟨by rw [HR2.out]; rfl, HB1⟩
        · have HR1 := Sl.mk (HRES.out.trans (if_neg (fun h => h.elim hlow hhigh)))
          clear HRES
          by_cases hmore : k < B
          · have HR2 := Sl.mk (HR1.out.trans (if_pos hmore))
            have hM0 : 0 < M := by have := HM.out; have := HM'.out; omega
            clear HR1
            go_wp2
            go_ret3
            exact ⟨by rw [HR2.out]; rfl, HB1⟩
          · have HR2 := Sl.mk (HR1.out.trans (if_neg hmore))
            have hM0 : ¬ 0 < M := by have := HM.out; have := HM'.out; omega
            have hkB : k = B := by omega
            clear HR1
            go_wp2
            go_ret3
            exact ⟨by rw [HR2.out]; simp [res3]; omega, HB1⟩
    · obtain rfl : n = 1 := by omega
      have g1 : (1 : Int) ≤ 1 + (B : Int) := by omega
      have hk : t.length = 0 := by have := HLT.out; omega
      rw [hk, Nat.sub_zero] at f1 f2
      rw [hk] at HRES
      have ht0 : t = [] := List.eq_nil_of_length_eq_zero hk
      have hsrc : SrcAt w1 (.slice (some ⟨sb, so, none⟩) 0 0) t := by
        rw [ht0]
        exact ⟨_, _, sb, so, rfl, Nat.le_refl _, fun _ => rfl, fun i hi => absurd hi (Nat.not_lt_zero _)⟩
      have hnum := number_any (.slice (some ⟨sb, so, none⟩) 0 0) t w1 hsrc HST.out (by omega)
      clear hsrc hk ht0
      go_wp2_with fail
      refine hnum.mono ?_
      rintro e w2 ⟨rfl, rfl⟩
      by_cases hlow : H < least
      · have HR2 := Sl.mk (HRES.out.trans (if_pos (Or.inl hlow)))
        clear HRES
        go_wp2
        go_ret3
        exact ⟨by rw [HR2.out]; rfl, HB1⟩
      · by_cases hhigh : most < L
        · have HR2 := Sl.mk (HRES.out.trans (if_pos (Or.inr hhigh)))
          clear HRES
          go_wp2
          go_ret3
          exact ⟨by rw [HR2.out]; rfl, HB1⟩
        · have HR1 := Sl.mk (HRES.out.trans (if_neg (fun h => h.elim hlow hhigh)))
          clear HRES
          have HR2 := Sl.mk (HR1.out.trans (if_pos hB0))
          clear HR1
          go_wp2
          go_ret3
          exact ⟨by rw [HR2.out]; rfl, HB1⟩
  · have h2 : 1 + B < n := by omega
    have g1 : ((n : Int) ≤ 1 + (B : Int)) = False := eq_false (by omega)
    have g2 : (1 + (B : Int) < (n : Int)) := by omega
    have hk : t.length = B := by have := HLT.out; omega
    rw [hk, Nat.sub_self, Nat.mul_zero] at f1 f2
    rw [hk] at HRES
    have f3 : IntKind.u64.wrap ((val t : Nat) : Int) = (L : Int) := by rw [← f1]; simp
    have f4 : bits .or .u64 (L : Int) 0 = (H : Int) := by rw [← f2]; rfl
    have hsrc : SrcAt w1 (.slice (some ⟨sb, so + 1, none⟩) B B) t := by
      have := (SrcAt.one (cap := B) HC.out B (by omega) HN.out (Nat.le_refl _)).below (by rw [HG.out]; exact Nat.le_refl _) HB1.out
      rwa [HT.out] at this
    have hnum := number_any (.slice (some ⟨sb, so + 1, none⟩) B B) t w1 hsrc HST.out (by omega)
    clear hsrc hk f1 f2
    go_wp2_with fail
    refine hnum.mono ?_
    rintro e w2 ⟨rfl, rfl⟩
    by_cases hlow : H < least
    · have HR2 := Sl.mk (HRES.out.trans (if_pos (Or.inl hlow)))
      clear HRES
      go_wp2
      go_ret3
      exact ⟨by rw [HR2.out]; rfl, HB1⟩
    · by_cases hhigh : most < L
      · have HR2 := Sl.mk (HRES.out.trans (if_pos (Or.inr hhigh)))
        clear HRES
        go_wp2
        go_ret3
        exact ⟨by rw [HR2.out]; rfl, HB1⟩
      · have HR1 := Sl.mk (HRES.out.trans (if_neg (fun h => h.elim hlow hhigh)))
        clear HRES
        have HR2 := Sl.mk (HR1.out.trans (if_neg (Nat.lt_irrefl _)))
        clear HR1
        go_wp2
        go_ret3
        exact ⟨by rw [HR2.out]; simp [res3], HB1⟩

theorem andNot_128 (c : Nat) (h : c < 256) : bits .andNot .u8 (c : Int) 128 = ((c % 128 : Nat) : Int) := by
  have : ∀ c : Fin 256, bits BinOp.andNot IntKind.u8 (c.val : Int) 128 = ((c.val % 128 : Nat) : Int) := by decide +kernel
  exact this ⟨c, h⟩
def row (k : Nat) : Row := if k = 0 then row0 else row1
theorem index_row (k : Nat) (hk : k < 2) (W : World) : (Instr.index 48 (.agg table.toArray) (.int .i64 (k : Int))).run Tryd.prog W = .ok (.agg (row k).cells.toArray) W := by
  match k, hk with
  | 0, _ => exact index_row0 W
  | 1, _ => exact index_row1 W
theorem row_get (k : Nat) (hk : k < 2) (x : Nat) (xs : List Nat) (hs : Small 256 xs) (h : x % 128 = (row k).first) : getL (x :: xs) = getW (row k).behind (row k).least (row k).most (xs.take (row k).behind) := by
  match k, hk with
  | 0, _ => exact get_narrow x xs h hs
  | 1, _ => exact get_wide x xs h hs
theorem row_ok (k : Nat) : (row k).behind ≤ 8 ∧ 0 < (row k).behind ∧ (row k).first < 256 := by
  unfold row; split <;> exact ⟨by decide, by decide, by decide⟩
/-- No row ahead of the k-th has this first byte. -/
def Past (f k : Nat) : Prop := ∀ j, j < k → f ≠ (row j).first
theorem past_none {f : Nat} (h : Past f 2) (hf : f < 128) : f < 126 := by
  have h0 := h 0 (by decide)
  have h1 := h 1 (by decide)
  simp [row, row0, row1] at h0 h1
  omega
theorem len_nil {w : World} {v : Value} (h : SrcAt w v []) : ∃ a cap, v = .slice a 0 cap := by
  obtain ⟨a, cap, _, _, rfl, _⟩ := h
  exact ⟨a, cap, rfl⟩

set_option maxHeartbeats 2000000 in
theorem get_any (v : Value) (bs : List Nat) (w : World) (hg : Globs w) (hv : SrcAt w v bs) (hsm : Small 256 bs) (hm : bs.length ≤ 1000000) :
    Calls Tryd.prog 15 #[v] w fun e w' => e = .returned (res3 (getL bs)) ∧ Sl (Below w.heap.size w w') := by
  have HI48 : Sl ((Tryd.prog.info? 48).map (·.size) = some table.length) := ⟨by kernel_rfl⟩
  have HG := Sl.mk hg
  have HB0 : Sl (Below w.heap.size w w) := ⟨Below.refl _ _⟩
  clear hg
  cases bs with
  | nil =>
    obtain ⟨a, cap, rfl⟩ := len_nil hv
    clear hv
    go_enter Tryd.func15, Tryd.ntmps15
    go_wp2
    go_ret3
    exact ⟨rfl, HB0⟩
  | cons x xs =>
    have hx256 : x < 256 := hsm x (List.mem_cons_self ..)
    have HXS : Sl (Small 256 xs) := ⟨fun y hy => hsm y (List.mem_cons_of_mem _ hy)⟩
    have HSM := Sl.mk hsm
    have HV := Sl.mk hv
    have hwide := fun f B le mo hB hB0 W hW => wide_any f B le mo v (x :: xs) W hB hB0 hW hsm (by simp) hm
    obtain ⟨a, cap, sb, so, rfl, hcap, ha, hc⟩ := hv
    obtain rfl := ha (by simp)
    have c0 : w.cell? ⟨sb, so, none⟩ = some (.int .u8 (x : Int)) := by have := hc 0 (by simp); simpa using this
    obtain ⟨n, hn⟩ : ∃ n, xs.length = n := ⟨_, rfl⟩
    have hlen : (x :: xs).length = n + 1 := by rw [List.length_cons, hn]
    rw [hlen] at hcap hm hwide HV ⊢
    have f0 := andNot_128 x hx256
    obtain ⟨fb, hfb⟩ : ∃ fb, x % 128 = fb := ⟨_, rfl⟩
    have hfb128 : fb < 128 := by omega
    rw [hfb] at f0
    have HFB := Sl.mk hfb
    clear hc ha hn hlen hsm hfb
    go_enter Tryd.func15, Tryd.ntmps15
    go_wp2_with (first | (refine wpList_load_mid rfl 48 (.global 0) rfl 0 0 rfl table (.array 2 47) HG.out.t Tryd.underlying48 rfl HI48.out ?_))
    go_loopw [16] (fun i wr => ∃ k : Nat, k ≤ 2 ∧ i = .int .i64 k ∧ Sl (Past fb k) ∧ Sl (Below w.heap.size w wr)) (fun i _ => 2 - (intOf i).toNat)
    case atStart => exact ⟨0, Nat.zero_le _, rfl, ⟨fun j hj => absurd hj (Nat.not_lt_zero _)⟩, HB0⟩
    case round =>
      obtain ⟨k, hk, rfl, HP, HB⟩ := hrel
      by_cases hlt : k < 2
      · have hidx := index_row k hlt
        obtain ⟨hr1, hr2, hr3⟩ := row_ok k
        have HRG := Sl.mk (row_get k hlt x xs HXS.out)
        have HRP : Sl (fb ≠ (row k).first → Past fb (k + 1)) := ⟨fun hne j hj => by
          by_cases e : j = k
          · subst e; exact hne
          · exact HP.out j (by omega)⟩
        rw [HFB.out] at HRG
        obtain ⟨r, hr⟩ : ∃ r, r = row k := ⟨_, rfl⟩
        rw [← hr] at hidx hr1 hr2 hr3 HRG HRP
        clear hr
        obtain ⟨f, B, le, mo⟩ := r
        simp only [Row.cells] at hidx
        simp only at hr1 hr2 hr3 HRG HRP
        obtain ⟨g, hgg⟩ : ∃ g, wr.heap.size = g := ⟨_, rfl⟩
        have hgw := HB.out.size
        rw [hgg] at hgw
        have HGW := Sl.mk hgw
        by_cases he : fb = f
        · have HE := Sl.mk (HRG.out he)
          have HB3 : Sl (Below w.heap.size w (wr.alloc (.cells #[.int .u8 f, .int .i64 B, .int .u64 le, .int .u64 mo] 47))) := ⟨HB.out.alloc (by rw [hgg]; exact hgw) _⟩
          have hcall := hwide f B le mo hr1 hr2 _ (HV.out.below (Nat.le_refl _) HB3.out)
          clear HRG HRP hgw
          have he2 : (fb : Int) = (f : Int) := by omega
          go_wp2_with fail
          refine hcall.mono ?_
          rintro e w4 ⟨rfl, HB4⟩
          have HB5 : Sl (Below w.heap.size w w4) := ⟨HB3.out.trans (HB4.out.mono HB3.out.size)⟩
          simp only [res3, List.drop_succ_cons, List.drop_zero]
          go_wp2
          go_ret3
          exact ⟨by rw [HE.out]; rfl, HB5⟩
        · have HP2 := Sl.mk (HRP.out he)
          clear HRG HRP hgw
          have he2 : ((fb : Int) = (f : Int)) = False := eq_false (by omega)
          go_wp2
          exact ⟨⟨k + 1, by omega, by go_num, HP2, ⟨HB.out.alloc (by rw [hgg]; exact HGW.out) _⟩⟩, by simp [intOf]; omega⟩
      · have hge : ((k : Int) < 2) = False := eq_false (by omega)
        obtain rfl : k = 2 := by omega
        have HE := Sl.mk (get_one x xs (by rw [HFB.out]; exact past_none HP.out hfb128))
        rw [HFB.out] at HE
        go_wp2
        go_ret3
        exact ⟨by rw [HE.out]; rfl, HB⟩
end Go.Proofs.YtleekkjaoccjlaaDoor
