/- Contracts of turned, chosen and blockWords of package sha: each computes the plain function of its name; nothing that was in memory changes. Conditions: the arguments are numbers of their kinds (below 2^32, below 256), round numbers below 80, blocks of 64 bytes. -/
import Derived.Test.YtmiemklgekhfeaaDoorRows
import Derived.Test.YtmiemklgekhfeaaDoorPlain
import Derived.WalkKit
import Derived.WalkSpells
import Derived.WalkLawsBesides
import Derived.Deep.WholeRow
import Derived.Deep.MidRow
import Derived.Deep.QuietTactic
import Derived.BigQuiet
import Derived.BigRegion
import Derived.Lib.Hide
import Derived.StillTailTactics
import Derived.Laws.BitsAllLaws
import Derived.IntWalk
import Derived.Laws.CopyOwn
namespace Go.Proofs.YtmiemklgekhfeaaDoor
open Go.RowKit

theorem ret_u32 {a : Int} {b : Nat} (h : a = (b : Int)) : Ending.returned (.int .u32 a) = .returned (.int .u32 (b : Int)) := by rw [h]

theorem rot_int (x n : Nat) (hx : x < 4294967296) : bits BinOp.or IntKind.u32 ((x : Int) * 2 ^ n % 4294967296) ((x : Int) / 2 ^ (32 - n)) = ((rot x n : Nat) : Int) := by
  have e1 : ((x : Int) * 2 ^ n % 4294967296) = ((x * 2 ^ n % 4294967296 : Nat) : Int) := by simp
  have e2 : ((x : Int) / 2 ^ (32 - n)) = ((x / 2 ^ (32 - n) : Nat) : Int) := by simp
  rw [e1, e2, u32_or_nat _ _ (Nat.mod_lt _ (by decide)) (div_lt' hx)]
  rfl

set_option maxHeartbeats 400000 in
theorem turned_any (x n : Nat) (w : World) (hx : x < 4294967296) (h1 : 1 ≤ n) (hn : n ≤ 31) :
    Calls Tryd.prog 28 #[.int .u32 x, .int .u64 n] w fun e w' => e = .returned (.int .u32 (rot x n : Nat)) ∧ w = w' := by
  go_enter Tryd.func28, Tryd.ntmps28
  go_wp2
  go_ret
  exact ⟨ret_u32 (rot_int x n hx), rfl⟩

set_option maxHeartbeats 400000 in
theorem chosen_any (t : Nat) (b c d : Nat) (w : World) (ht : t < 80) (hb : b < 4294967296) (hc : c < 4294967296) (hd : d < 4294967296) :
    Calls Tryd.prog 29 #[.int .i64 t, .int .u32 b, .int .u32 c, .int .u32 d] w fun e w' => e = .returned (.int .u32 (ch t b c d : Nat)) ∧ w = w' := by
  have hs : IntKind.u32.signed = false := rfl
  by_cases h1 : t < 20
  · go_enter Tryd.func29, Tryd.ntmps29
    go_wp2
    go_ret
    refine ⟨ret_u32 ?_, rfl⟩
    have em : IntKind.u32.max = ((4294967295 : Nat) : Int) := by decide
    rw [em, u32_and_nat _ _ hb hc, u32_xor_nat _ _ (by decide) hb, u32_and_nat _ _ (xor_lt (by decide) hb) hd, u32_or_nat _ _ (and_lt hc) (and_lt hd)]
    simp [ch, h1]
  · by_cases h2 : 40 ≤ t
    · by_cases h3 : t < 60
      · go_enter Tryd.func29, Tryd.ntmps29
        go_wp2
        go_ret
        refine ⟨ret_u32 ?_, rfl⟩
        rw [u32_and_nat _ _ hb hc, u32_and_nat _ _ hb hd, u32_and_nat _ _ hc hd, u32_or_nat _ _ (and_lt hc) (and_lt hd), u32_or_nat _ _ (or_lt (and_lt hc) (and_lt hd)) (and_lt hd)]
        simp [ch, h1, h3, show ¬ t < 40 by omega]
      · go_enter Tryd.func29, Tryd.ntmps29
        go_wp2
        go_ret
        refine ⟨ret_u32 ?_, rfl⟩
        rw [u32_xor_nat _ _ hb hc, u32_xor_nat _ _ (xor_lt hb hc) hd]
        simp [ch, h1, h3, show ¬ t < 40 by omega]
    · go_enter Tryd.func29, Tryd.ntmps29
      go_wp2
      go_ret
      refine ⟨ret_u32 ?_, rfl⟩
      rw [u32_xor_nat _ _ hb hc, u32_xor_nat _ _ (xor_lt hb hc) hd]
      simp [ch, h1, show t < 40 by omega]

def z80 : List Nat := List.replicate 80 0
theorem z80_len : z80.length = 80 := rfl
theorem info58 : (Tryd.prog.info? 58).map (fun i => (i.zero, i.size)) = some (some (.agg (u32s z80).toArray), 80) := by kernel_rfl
theorem zero58 : ∀ w, (zeroValue 58).run Tryd.prog w = .ok (.agg (u32s z80).toArray) w := (zero_of_info info58).1

theorem row_cell {w : World} {b t : Nat} {l : List Value} (h : w.heap[b]? = some (.cells l.toArray t (0, 0))) (i : Nat) (v : Value) (hv : l[i]? = some v) : w.cell? ⟨b, i, none⟩ = some v := by
  rw [cell_of_row w b i _ t _ h]; simpa using hv

/-- What the loop of blockWords holds to. -/
def BW (w : World) (bl : List Nat) (k : Nat) (wr : World) : Prop :=
  ∃ ws : List Nat, ws.length = 80 ∧ Small 4294967296 ws ∧ ws.take k = words bl k ∧
    wr.heap.size = w.heap.size + 3 ∧ wr.heap[w.heap.size]? = some (.cells (u8s bl).toArray 51 (0, 0)) ∧ wr.heap[w.heap.size + 1]? = some (.cells (u32s z80).toArray 58 (0, 0)) ∧
    wr.heap[w.heap.size + 1 + 1]? = some (.cells (u32s ws).toArray 58 (0, 0)) ∧ Below w.heap.size w wr


theorem u32s_set (ws : List Nat) (k x : Nat) : (u32s ws).toArray.setIfInBounds k (.int .u32 (x : Int)) = (u32s (ws.set k x)).toArray := by
  simp [u32s, v32, List.map_set]
theorem take_set_succ (ws : List Nat) (k x : Nat) (hk : k < ws.length) : (ws.set k x).take (k + 1) = ws.take k ++ [x] := by
  rw [List.take_succ_eq_append_getElem (by simpa using hk), List.take_set, List.set_eq_of_length_le (by simp; omega)]
  simp
theorem alloc_size (w : World) (o : Obj) : (w.alloc o).heap.size = w.heap.size + 1 := by show (w.heap.push o).size = _; simp
theorem alloc_new (w : World) (o : Obj) (k : Nat) (h : k = w.heap.size) : (w.alloc o).heap[k]? = some o := by subst h; show (w.heap.push o)[_]? = _; simp
theorem alloc_old (w : World) (o : Obj) (k : Nat) (h : k < w.heap.size) : (w.alloc o).heap[k]? = w.heap[k]? := Below.heap_alloc w o k h
theorem alloc3 (w : World) (A B C : Obj) : (((w.alloc A).alloc B).alloc C).heap.size = w.heap.size + 3 ∧ (((w.alloc A).alloc B).alloc C).heap[w.heap.size]? = some A ∧ (((w.alloc A).alloc B).alloc C).heap[w.heap.size + 1]? = some B ∧
    (((w.alloc A).alloc B).alloc C).heap[w.heap.size + 1 + 1]? = some C ∧ Below w.heap.size w (((w.alloc A).alloc B).alloc C) := by
  have s1 := alloc_size w A
  have s2 := alloc_size (w.alloc A) B
  have s3 := alloc_size ((w.alloc A).alloc B) C
  refine ⟨by omega, ?_, ?_, ?_, ?_⟩
  · rw [alloc_old _ _ _ (by omega), alloc_old _ _ _ (by omega), alloc_new _ _ _ rfl]
  · rw [alloc_old _ _ _ (by omega), alloc_new _ _ _ (by omega)]
  · rw [alloc_new _ _ _ (by omega)]
  · exact (((Below.refl _ _).alloc (by omega) _).alloc (by omega) _).alloc (by omega) _
theorem Small.set {b : Nat} {l : List Nat} (h : Small b l) (k x : Nat) (hb : 0 < b) (hx : x < b) : Small b (l.set k x) :=
  Small.of_mem hb (fun y hy => by rcases List.mem_or_eq_of_mem_set hy with hy | rfl; exact h.mem y hy; exact hx)

theorem BW.next {w wr : World} {bl : List Nat} {k : Nat} (h : BW w bl k wr) (hk : k < 80) (x : Nat) (hx : x < 4294967296) (hw : words bl (k + 1) = words bl k ++ [x]) :
    BW w bl (k + 1) (wr.setCell ⟨w.heap.size + 1 + 1, k, none⟩ (.int .u32 (x : Int))).drew := by
  obtain ⟨ws, h1, h2, h3, h4, h5, h6, h7, h8⟩ := h
  refine ⟨ws.set k x, by simpa using h1, h2.set k x (by decide) hx, by rw [take_set_succ _ _ _ (by omega), h3, hw], ?_, ?_, ?_, ?_, ?_⟩
  · simpa [World.setCell] using h4
  · show (wr.setCell _ _).heap[_]? = _
    rw [heap_setCell_other _ _ _ _ (by simp; omega), h5]
  · show (wr.setCell _ _).heap[_]? = _
    rw [heap_setCell_other _ _ _ _ (by simp), h6]
  · show (wr.setCell _ _).heap[_]? = _
    rw [heap_setCell_same _ _ _ _ _ _ h7, u32s_set]
  · exact (h8.setCell (by simp; omega) _).drew

theorem wrapu32 (n : Nat) : IntKind.u32.wrap (n : Int) = ((n % 4294967296 : Nat) : Int) := by rw [IntKind.wrap_u32]; simp
theorem word0_int (bl : List Nat) (k : Nat) (hs : Small 256 bl) :
    bits BinOp.or IntKind.u32 (bits BinOp.or IntKind.u32 (bits BinOp.or IntKind.u32 (IntKind.u32.wrap (IntKind.u32.wrap ↑(bl[4 * k]?.getD 0) * 16777216)) (IntKind.u32.wrap (IntKind.u32.wrap ↑(bl[4 * k + 1]?.getD 0) * 65536)))
      (IntKind.u32.wrap (IntKind.u32.wrap ↑(bl[4 * k + 2]?.getD 0) * 256))) (IntKind.u32.wrap ↑(bl[4 * k + 3]?.getD 0)) = ((word0 bl k : Nat) : Int) := by
  have g : ∀ i, (bl[i]?.getD 0 : Nat) % 4294967296 = bl.getD i 0 := fun i => by
    have := hs i
    simp only [List.getD] at this ⊢
    omega
  have m : ∀ a b : Nat, IntKind.u32.wrap ((a : Int) * (b : Int)) = ((a * b % 4294967296 : Nat) : Int) := fun a b => by rw [← Int.natCast_mul, wrapu32]
  have L : ∀ a, a % 4294967296 < 4294967296 := fun a => Nat.mod_lt _ (by decide)
  have s3 : bl.getD (4 * k + 3) 0 < 4294967296 := Nat.lt_trans (hs _) (by decide)
  simp only [wrapu32, g]
  rw [show (16777216 : Int) = ((2 ^ 24 : Nat) : Int) from rfl, show (65536 : Int) = ((2 ^ 16 : Nat) : Int) from rfl, show (256 : Int) = ((2 ^ 8 : Nat) : Int) from rfl, m, m, m,
    u32_or_nat _ _ (L _) (L _), u32_or_nat _ _ (or_lt (L _) (L _)) (L _), u32_or_nat _ _ (or_lt (or_lt (L _) (L _)) (L _)) s3]
  rfl

theorem turned_still (X : Int) (x n : Nat) (w : World) (h : X = (x : Int)) (hx : x < 4294967296) (h1 : 1 ≤ n) (hn : n ≤ 31) :
    Calls Tryd.prog 28 #[.int .u32 X, .int .u64 n] w fun e w' => e = .returned (.int .u32 (rot x n : Nat)) ∧ w' = w := by
  subst h
  exact (turned_any x n w hx h1 hn).mono fun e w' ⟨he, hw⟩ => ⟨he, hw.symm⟩
theorem turned_still1 (X : Int) (x : Nat) (w : World) (h : X = (x : Int)) (hx : x < 4294967296) :
    Calls Tryd.prog 28 #[.int .u32 X, .int .u64 1] w fun e w' => e = .returned (.int .u32 (rot x 1 : Nat)) ∧ w' = w := turned_still X x 1 w h hx (by omega) (by omega)
theorem xor4_int (a b c d : Nat) (ha : a < 4294967296) (hb : b < 4294967296) (hc : c < 4294967296) (hd : d < 4294967296) :
    bits BinOp.xor IntKind.u32 (bits BinOp.xor IntKind.u32 (bits BinOp.xor IntKind.u32 (a : Int) (b : Int)) (c : Int)) (d : Int) = ((a ^^^ b ^^^ c ^^^ d : Nat) : Int) := by
  rw [u32_xor_nat _ _ ha hb, u32_xor_nat _ _ (xor_lt ha hb) hc, u32_xor_nat _ _ (xor_lt (xor_lt ha hb) hc) hd]
theorem word1_take (bl ws : List Nat) (k : Nat) (hk : k < 64) (h : ws.take (16 + k) = words bl (16 + k)) :
    words bl (16 + k + 1) = words bl (16 + k) ++ [rot (ws.getD (13 + k) 0 ^^^ ws.getD (8 + k) 0 ^^^ ws.getD (2 + k) 0 ^^^ ws.getD k 0) 1] := by
  have g : ∀ j, j < 16 + k → (words bl (16 + k)).getD j 0 = ws.getD j 0 := fun j hj => by
    rw [← h]; simp only [List.getD, List.getElem?_take, if_pos hj]
  simp only [words, if_neg (show ¬ 16 + k < 16 by omega), word1]
  rw [g _ (by omega), g _ (by omega), g _ (by omega), g _ (by omega), show 16 + k - 3 = 13 + k by omega, show 16 + k - 8 = 8 + k by omega, show 16 + k - 14 = 2 + k by omega, show 16 + k - 16 = k by omega]

set_option maxHeartbeats 1000000 in
theorem words_any (bl : List Nat) (w : World) (hl : bl.length = 64) (hs : Small 256 bl) :
    Calls Tryd.prog 27 #[.agg (u8s bl).toArray] w fun e w' => e = .returned (.agg (u32s (words bl 80)).toArray) ∧ Below w.heap.size w w' := by
  have HL := Lib.hid hl
  have HS := Lib.hid hs
  have hz := zero58
  clear hl hs
  go_enter Tryd.func27, Tryd.ntmps27
  go_wp2
  clear hz
  go_loopw [7] (fun i wr => ∃ k : Nat, k ≤ 16 ∧ i = .int .i64 k ∧ BW w bl k wr) (fun i _ => 16 - (intOf i).toNat)
  case atStart =>
    have h := alloc3 w (.cells (u8s bl).toArray 51) (.cells (u32s z80).toArray 58) (.cells (u32s z80).toArray 58)
    exact ⟨0, by omega, rfl, z80, rfl, Small.of_mem (by decide) (by decide), rfl, h.1, h.2.1, h.2.2.1, h.2.2.2.1, h.2.2.2.2⟩
  case round =>
    obtain ⟨k, hk, rfl, hrel⟩ := hrel
    by_cases hlt : k < 16
    · have HR := Lib.hid hrel
      obtain ⟨ws, h1, h2, h3, h4, h5, h6, h7, h8⟩ := hrel
      have c0 := row_cell h5 (4 * k) _ (u8s_get bl (4 * k) (by have := HL.out; omega))
      have c1 := row_cell h5 (4 * k + 1) _ (u8s_get bl (4 * k + 1) (by have := HL.out; omega))
      have c2 := row_cell h5 (4 * k + 2) _ (u8s_get bl (4 * k + 2) (by have := HL.out; omega))
      have c3 := row_cell h5 (4 * k + 3) _ (u8s_get bl (4 * k + 3) (by have := HL.out; omega))
      have cw := row_cell h7 k _ (u32s_get ws k (by omega))
      have fw := frozen_of_row _ _ k _ _ h7
      clear h1 h2 h3 h4 h5 h6 h7 h8
      go_wp2
      have e0 : IntKind.i64.wrap (4 * (k : Int)) = 4 * (k : Int) := IntWalk.i64_in _ (by omega)
      have e1 : IntKind.i64.wrap (4 * (k : Int) + 1) = 4 * (k : Int) + 1 := IntWalk.i64_in _ (by omega)
      have e2 : IntKind.i64.wrap (4 * (k : Int) + 2) = 4 * (k : Int) + 2 := IntWalk.i64_in _ (by omega)
      have e3 : IntKind.i64.wrap (4 * (k : Int) + 3) = 4 * (k : Int) + 3 := IntWalk.i64_in _ (by omega)
      have p0 : (0 : Int) ≤ 4 * (k : Int) := by omega
      have p1 : (0 : Int) ≤ 4 * (k : Int) + 1 := by omega
      have p2 : (0 : Int) ≤ 4 * (k : Int) + 2 := by omega
      have p3 : (0 : Int) ≤ 4 * (k : Int) + 3 := by omega
      have l0 : 4 * (k : Int) < 64 := by omega
      have l1 : 4 * (k : Int) + 1 < 64 := by omega
      have l2 : 4 * (k : Int) + 2 < 64 := by omega
      have l3 : 4 * (k : Int) + 3 < 64 := by omega
      have l4 : (k : Int) < 80 := by omega
      have t0 : (4 * (k : Int)).toNat = 4 * k := by omega
      have t1 : (4 * (k : Int) + 1).toNat = 4 * k + 1 := by omega
      have t2 : (4 * (k : Int) + 2).toNat = 4 * k + 2 := by omega
      have t3 : (4 * (k : Int) + 3).toNat = 4 * k + 3 := by omega
      go_still_tail 31, (by kernel_rfl)
      change wpList _ _ _ _ _ wr.drew
      rw [word0_int bl k HS.out]
      clear e0 e1 e2 e3 p0 p1 p2 p3 l0 l1 l2 l3 t0 t1 t2 t3 c0 c1 c2 c3
      go_wp2
      go_roundw
      case rel => exact ⟨k + 1, by omega, by go_num, HR.out.next (by omega) _ (word0_lt HS.out k) (by simp [words, hlt])⟩
      case measure => simp [intOf]; omega
    · have hr16 : Hid (BW w bl 16 wr) := by
        have e : k = 16 := by omega
        rw [e] at hrel
        exact hrel
      clear hrel
      have hk16 : 16 ≤ k := by omega
      clear hlt hk
      obtain ⟨wo, rfl⟩ : ∃ wo : World, wo = wr := ⟨_, rfl⟩
      go_wp2
      go_loopw [42] (fun i wr => ∃ k : Nat, k ≤ 64 ∧ i = .int .i64 k ∧ BW w bl (16 + k) wr) (fun i _ => 64 - (intOf i).toNat)
      case atStart => exact ⟨0, by omega, rfl, hr16.out⟩
      case round =>
        clear hr16
        obtain ⟨k, hk, rfl, hrel⟩ := hrel
        by_cases hlt : k < 64
        · have HR := Lib.hid hrel
          obtain ⟨ws, h1, h2, h3, h4, h5, h6, h7, h8⟩ := hrel
          have c0 := row_cell h7 (13 + k) _ (u32s_get ws (13 + k) (by omega))
          have c1 := row_cell h7 (8 + k) _ (u32s_get ws (8 + k) (by omega))
          have c2 := row_cell h7 (2 + k) _ (u32s_get ws (2 + k) (by omega))
          have c3 := row_cell h7 k _ (u32s_get ws k (by omega))
          have cw := row_cell h7 (16 + k) _ (u32s_get ws (16 + k) (by omega))
          have fw := frozen_of_row _ _ (16 + k) _ _ h7
          have H1 := Lib.hid h1
          have H2 := Lib.hid h2
          have H3 := Lib.hid h3
          clear h1 h2 h3 h4 h5 h6 h7 h8
          go_wp2
          have e0 : IntKind.i64.wrap (16 + (k : Int) - 3) = 13 + (k : Int) := by rw [IntWalk.i64_in _ (by omega)]; omega
          have e1 : IntKind.i64.wrap (16 + (k : Int) - 8) = 8 + (k : Int) := by rw [IntWalk.i64_in _ (by omega)]; omega
          have e2 : IntKind.i64.wrap (16 + (k : Int) - 14) = 2 + (k : Int) := by rw [IntWalk.i64_in _ (by omega)]; omega
          have e3 : IntKind.i64.wrap (16 + (k : Int) - 16) = (k : Int) := by rw [IntWalk.i64_in _ (by omega)]; omega
          have p0 : (0 : Int) ≤ 13 + (k : Int) := by omega
          have p1 : (0 : Int) ≤ 8 + (k : Int) := by omega
          have p2 : (0 : Int) ≤ 2 + (k : Int) := by omega
          have p3 : (0 : Int) ≤ 16 + (k : Int) := by omega
          have l0 : 13 + (k : Int) < 80 := by omega
          have l1 : 8 + (k : Int) < 80 := by omega
          have l2 : 2 + (k : Int) < 80 := by omega
          have l3 : (k : Int) < 80 := by omega
          have l4 : 16 + (k : Int) < 80 := by omega
          have t0 : (13 + (k : Int)).toNat = 13 + k := by omega
          have t1 : (8 + (k : Int)).toNat = 8 + k := by omega
          have t2 : (2 + (k : Int)).toNat = 2 + k := by omega
          have t3 : (16 + (k : Int)).toNat = 16 + k := by omega
          have x0 := H2.out (13 + k)
          have x1 := H2.out (8 + k)
          have x2 := H2.out (2 + k)
          have x3 := H2.out k
          have X0 := Lib.hid x0
          have X1 := Lib.hid x1
          have X2 := Lib.hid x2
          have X3 := Lib.hid x3
          clear x0 x1 x2 x3
          go_still_tail 22, (by kernel_rfl)
          still_call (turned_still1 _ _ _ (xor4_int _ _ _ _ X0.out X1.out X2.out X3.out) (xor_lt (xor_lt (xor_lt X0.out X1.out) X2.out) X3.out))
          repeat still_step
          refine wpStill_nil ?_
          change wpList _ _ _ _ _ wr.drew
          clear e0 e1 e2 e3 p0 p1 p2 p3 l0 l1 l2 l3 t0 t1 t2 c0 c1 c2 c3
          go_wp2
          go_roundw
          case rel => exact ⟨k + 1, by omega, by go_num, HR.out.next (by omega) _ (rot_lt (xor_lt (xor_lt (xor_lt X0.out X1.out) X2.out) X3.out)) (word1_take bl ws k hlt H3.out)⟩
          case measure => simp [intOf]; omega
        · have e : k = 64 := by omega
          have hge : 64 ≤ k := by omega
          obtain ⟨ws, h1, h2, h3, h4, h5, h6, h7, h8⟩ := hrel
          have hws : ws = words bl 80 := by rw [e] at h3; rw [← h3]; exact (List.take_of_length_le (by omega)).symm
          have HW := Lib.hid hws
          have H6 := Lib.hid h6
          have H7 := Lib.hid h7
          have H8 := Lib.hid h8
          have HI : Hid ((Tryd.prog.info? 58).map (·.size) = some (u32s ws).toArray.size) := by
            have := (zero_of_info info58).2
            simpa [Hid, h1] using this
          have HO : Hid ((u32s z80).toArray.size = (u32s ws).toArray.size) := by simp [Hid, h1, z80]
          clear e h1 h2 h3 h4 h5 h6 h7 h8 hws
          go_wp2_with (first
            | (refine wpList_load_row rfl 58 (.tmp 3) rfl (w.heap.size + 1 + 1) rfl 58 _ (0, 0) (.array 80 49) H7.out Tryd.underlying58 rfl HI.out ?_)
            | (refine wpList_store_row rfl 58 (.tmp 2) (.tmp 70) rfl (w.heap.size + 1) _ rfl rfl 58 _ H6.out HI.out HO.out (all_oneCell_toArray (u32s_one ws)) ?_))
          refine bodyPost_ret (v := .agg (u32s ws).toArray) ?_ rfl ⟨by rw [HW.out], below_setRow H8.out (by omega) _⟩
          exact results_cell_row Tryd.results27 _ _ (w.heap.size + 1) 58 _ (0, 0) (.array 80 49) rfl (setRow_heap _ _ _ _ _ _ H6.out) Tryd.underlying58 rfl HI.out
end Go.Proofs.YtmiemklgekhfeaaDoor
