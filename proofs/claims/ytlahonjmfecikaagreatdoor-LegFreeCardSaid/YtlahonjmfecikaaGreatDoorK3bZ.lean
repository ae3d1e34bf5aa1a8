/- leg: LegFree's walk. -/
import Derived.Test.YtlahonjmfecikaaGreatDoorK0Z
set_option maxRecDepth 100000
set_option linter.unusedVariables false
set_option linter.unusedSimpArgs false
namespace Go.Proofs.YtlahonjmfecikaaGreatDoor.Leg
open Go.RowKit Stm
open FramePlain (Fr Fr0)
open LegPlain (Cf Lg)
open Msg (Kept MacS Mine)
open LegPlain (Inv Few CfOk Good came evs errs react bound feed fail L0 takeN pend wts)
open MsgPlain (Ev Ms M0)
open Evt

set_option maxHeartbeats 16000000 in
theorem free_walk (a b o : Nat) (va : Value) (xs : List ByteArray) (vt : Value) (bt : List Nat) (w : World) (hg : G3 w) (ha : a < 256) (hb : b < 256) (ho : o < 256) (hva : StrsAt w va xs) (hvt : SrcAt w vt bt) (hsm : Small 256 bt) (hlt : bt.length ≤ maxLen) : Calls Tryz.prog 10 #[.agg #[.int .u8 (a : Int), .int .u8 (b : Int), .int .u8 (o : Int)], va, vt] w fun e w' => e = .returned (.bool true) ∧ Below w.heap.size w w' := by
  obtain ⟨i1, h1⟩ : ∃ i : Int, ((1 + a : Nat) : Int) = i := ⟨_, rfl⟩
  obtain ⟨i2, h2⟩ : ∃ i : Int, ((1 + b : Nat) : Int) = i := ⟨_, rfl⟩
  obtain ⟨i3, h3⟩ : ∃ i : Int, ((1 + o : Nat) : Int) = i := ⟨_, rfl⟩
  obtain ⟨x1, e1⟩ : ∃ i : Int, (a : Int) = i := ⟨_, rfl⟩
  obtain ⟨x2, e2⟩ : ∃ i : Int, (b : Int) = i := ⟨_, rfl⟩
  obtain ⟨x3, e3⟩ : ∃ i : Int, (o : Int) = i := ⟨_, rfl⟩
  rw [e1, e2, e3]
  have CF : Sl (∀ V, Calls Tryz.prog 19 #[.int .u8 x1, .int .u8 x2, .int .u8 x3] V fun e w' => ∃ g, e = .returned (.agg #[.slice (some ⟨g, 0, none⟩) 1 1, .slice none 0 0, .int .i64 4, .int .i64 i1, .int .i64 i2, .int .i64 3, .int .i64 300, .int .i64 i3, .int .i64 5, .int .i64 9, .int .i64 3, .int .i64 4]) ∧ Sl (w'.heap[g]? = some (.cells #[.string { data := #[47] }, .string { data := #[] }, .string { data := #[120] }] 72 (0, 0)) ∧ V.heap.size ≤ g) ∧ Sl (Below V.heap.size V w')) := ⟨fun V => cfg_L ha hb ho h1 h2 h3 e1 e2 e3 V⟩
  have NW : Sl (∀ V g, Below w.heap.size w V → Rou.RtsAt V (.slice (some ⟨g, 0, none⟩) 1 1) [rb1] → Calls Tryz.prog 13 #[.agg #[.slice (some ⟨g, 0, none⟩) 1 1, .slice none 0 0, .int .i64 4, .int .i64 i1, .int .i64 i2, .int .i64 3, .int .i64 300, .int .i64 i3, .int .i64 5, .int .i64 9, .int .i64 3, .int .i64 4], .bool true, .int .u32 0] V fun e w' => ∃ L S, e = .returned (.tuple #[.pointer (some ⟨L, 0, none⟩), .int .i64 0]) ∧ Sl (LegH w w' L S (cfL a b o true) (L0 0) 0) ∧ Sl (Below V.heap.size V w') ∧ Sl (∀ j, S j → V.heap.size ≤ j)) := ⟨fun V g hV hv => new_L ha hb ho h1 h2 h3 true 0 (by omega) rfl hg hV hv⟩
  have HI1 : Sl (((1 + a : Nat) : Int) = i1) := ⟨h1⟩
  have HG := Sl.mk hg
  have HSM := Sl.mk hsm
  obtain ⟨ad, cap, sb, so, rfl, _, had, hcell, _⟩ := hva
  obtain ⟨adt, capt, tb, tq, rfl, _, hadt, hct0⟩ := hvt
  obtain ⟨n, hn⟩ : ∃ n, xs.length = n := ⟨_, rfl⟩
  obtain ⟨nt, hnt⟩ : ∃ n, bt.length = n := ⟨_, rfl⟩
  have HN := Sl.mk hn
  have HNT := Sl.mk hnt
  rw [hn] at had ⊢
  rw [hnt] at hadt hlt ⊢
  clear hg h1 h2 h3 e1 e2 e3 hsm hn hnt
  by_cases hn20 : 20 < n
  · have hq1 : ((n : Int) > 20) = True := eq_true (by omega)
    go_enter Tryz.func10, Tryz.ntmps10
    go_upto_region 1 with fail
    obtain ⟨w0, hw0⟩ : ∃ V, w.alloc (.cells #[.int .u8 x1, .int .u8 x2, .int .u8 x3] 45) = V := ⟨_, rfl⟩
    have HB0 : Sl (Below w.heap.size w w0) := ⟨by rw [← hw0]; exact (Below.refl _ _).alloc (Nat.le_refl _) _⟩
    have HZ0 : w0.heap[w.heap.size]? = some (.cells #[.int .u8 x1, .int .u8 x2, .int .u8 x3] 45 (0, 0)) := by rw [← hw0]; exact alloc_new _ _ _ rfl
    (try rw [hw0])
    have z0 := Rou.cell_at HZ0 0 _ rfl
    have z1 := Rou.cell_at HZ0 1 _ rfl
    have z2 := Rou.cell_at HZ0 2 _ rfl
    clear hw0 HZ0
    have CF0 := CF.out w0
    go_wp2_with fail
    refine CF0.mono ?_
    rintro e w1 ⟨g, rfl, HV, HB1⟩
    clear CF0 z0 z1 z2
    obtain ⟨X1, hX1⟩ : ∃ V, w1.alloc (.cells #[.slice (some ⟨g, 0, none⟩) 1 1, .slice none 0 0, .int .i64 4, .int .i64 i1, .int .i64 i2, .int .i64 3, .int .i64 300, .int .i64 i3, .int .i64 5, .int .i64 9, .int .i64 3, .int .i64 4] 25) = V := ⟨_, rfl⟩
    have hXB : Below w1.heap.size w1 X1 := by rw [← hX1]; exact (Below.refl _ _).alloc (Nat.le_refl _) _
    have hXC : X1.heap[w1.heap.size]? = some (.cells #[.slice (some ⟨g, 0, none⟩) 1 1, .slice none 0 0, .int .i64 4, .int .i64 i1, .int .i64 i2, .int .i64 3, .int .i64 300, .int .i64 i3, .int .i64 5, .int .i64 9, .int .i64 3, .int .i64 4] 25 (0, 0)) := by rw [← hX1]; exact alloc_new _ _ _ rfl
    obtain ⟨cb, hcb⟩ : ∃ b, w1.heap.size = b := ⟨_, rfl⟩
    have HRT : Sl (Rou.RtsAt X1 (.slice (some ⟨g, 0, none⟩) 1 1) [rb1]) := ⟨rts_one (below_key HV.out.1 hXB)⟩
    have HB01 : Sl (Below w.heap.size w w1) := ⟨HB0.out.trans (HB1.out.mono HB0.out.size)⟩
    have HB2 : Sl (Below w.heap.size w X1) := ⟨HB01.out.trans (hXB.mono HB01.out.size)⟩
    have HGE : Sl (w.heap.size ≤ cb) := ⟨by rw [← hcb]; exact HB01.out.size⟩
    have HXC := Sl.mk hXC
    clear CF HV HB1 HB0 HB01 hXB
    rw [hcb] at HXC hXC
    have k0 := Rou.cell_at hXC 0 _ rfl
    have k1 := Rou.cell_at hXC 1 _ rfl
    have k2 := Rou.cell_at hXC 2 _ rfl
    have k3 := Rou.cell_at hXC 3 _ rfl
    have k4 := Rou.cell_at hXC 4 _ rfl
    have k5 := Rou.cell_at hXC 5 _ rfl
    have k6 := Rou.cell_at hXC 6 _ rfl
    have k7 := Rou.cell_at hXC 7 _ rfl
    have k8 := Rou.cell_at hXC 8 _ rfl
    have k9 := Rou.cell_at hXC 9 _ rfl
    have k10 := Rou.cell_at hXC 10 _ rfl
    have k11 := Rou.cell_at hXC 11 _ rfl
    go_upto_region 2 with fail
    (try rw [hX1])
    (try rw [hcb])
    clear hX1 hcb hXC
    have NW1 := NW.out X1 g HB2.out HRT.out
    go_wp2_with fail
    refine NW1.mono ?_
    rintro e w2 ⟨L, S, rfl, HL2, HB3, HS⟩
    clear NW1
    clear k0 k1 k2 k3 k4 k5 k6 k7 k8 k9 k10 k11
    have HCB2 : Sl (w2.heap[cb]? = some (.cells #[.slice (some ⟨g, 0, none⟩) 1 1, .slice none 0 0, .int .i64 4, .int .i64 i1, .int .i64 i2, .int .i64 3, .int .i64 300, .int .i64 i3, .int .i64 5, .int .i64 9, .int .i64 3, .int .i64 4] 25 (0, 0)) ∧ ∀ j, S j → j ≠ cb) := ⟨below_key HXC.out HB3.out, fun j e e2 => by have := HS.out j e; have := (Array.getElem?_eq_some_iff.1 HXC.out).1; omega⟩
    clear HB2 HB3 HRT NW HXC HS
    have AW1 := awake_any w2 HG.out HL2.out.low
    go_wp2_with fail
    refine AW1.mono ?_
    rintro e w3 ⟨rfl, HB6⟩
    clear AW1
    have HL3 := Sl.mk (HL2.out.below HB6.out)
    have HCB3 : Sl (w3.heap[cb]? = some (.cells #[.slice (some ⟨g, 0, none⟩) 1 1, .slice none 0 0, .int .i64 4, .int .i64 i1, .int .i64 i2, .int .i64 3, .int .i64 300, .int .i64 i3, .int .i64 5, .int .i64 9, .int .i64 3, .int .i64 4] 25 (0, 0)) ∧ ∀ j, S j → j ≠ cb) := ⟨below_key HCB2.out.1 HB6.out, HCB2.out.2⟩
    clear HL2 HCB2 HB6
    have AW1 := awake_any w3 HG.out HL3.out.low
    go_wp2_with fail
    refine AW1.mono ?_
    rintro e w4 ⟨rfl, HX4⟩
    go_wp2
    go_ret
    exact ⟨rfl, (HL3.out.below HX4.out).low⟩
  · have hq1 : ((n : Int) > 20) = False := eq_false (by omega)
    go_enter Tryz.func10, Tryz.ntmps10
    go_upto_region 1 with fail
    obtain ⟨w0, hw0⟩ : ∃ V, w.alloc (.cells #[.int .u8 x1, .int .u8 x2, .int .u8 x3] 45) = V := ⟨_, rfl⟩
    have HB0 : Sl (Below w.heap.size w w0) := ⟨by rw [← hw0]; exact (Below.refl _ _).alloc (Nat.le_refl _) _⟩
    have HZ0 : w0.heap[w.heap.size]? = some (.cells #[.int .u8 x1, .int .u8 x2, .int .u8 x3] 45 (0, 0)) := by rw [← hw0]; exact alloc_new _ _ _ rfl
    (try rw [hw0])
    have z0 := Rou.cell_at HZ0 0 _ rfl
    have z1 := Rou.cell_at HZ0 1 _ rfl
    have z2 := Rou.cell_at HZ0 2 _ rfl
    clear hw0 HZ0
    have CF0 := CF.out w0
    go_wp2_with fail
    refine CF0.mono ?_
    rintro e w1 ⟨g, rfl, HV, HB1⟩
    clear CF0 z0 z1 z2
    obtain ⟨X1, hX1⟩ : ∃ V, w1.alloc (.cells #[.slice (some ⟨g, 0, none⟩) 1 1, .slice none 0 0, .int .i64 4, .int .i64 i1, .int .i64 i2, .int .i64 3, .int .i64 300, .int .i64 i3, .int .i64 5, .int .i64 9, .int .i64 3, .int .i64 4] 25) = V := ⟨_, rfl⟩
    have hXB : Below w1.heap.size w1 X1 := by rw [← hX1]; exact (Below.refl _ _).alloc (Nat.le_refl _) _
    have hXC : X1.heap[w1.heap.size]? = some (.cells #[.slice (some ⟨g, 0, none⟩) 1 1, .slice none 0 0, .int .i64 4, .int .i64 i1, .int .i64 i2, .int .i64 3, .int .i64 300, .int .i64 i3, .int .i64 5, .int .i64 9, .int .i64 3, .int .i64 4] 25 (0, 0)) := by rw [← hX1]; exact alloc_new _ _ _ rfl
    obtain ⟨cb, hcb⟩ : ∃ b, w1.heap.size = b := ⟨_, rfl⟩
    have HRT : Sl (Rou.RtsAt X1 (.slice (some ⟨g, 0, none⟩) 1 1) [rb1]) := ⟨rts_one (below_key HV.out.1 hXB)⟩
    have HB01 : Sl (Below w.heap.size w w1) := ⟨HB0.out.trans (HB1.out.mono HB0.out.size)⟩
    have HB2 : Sl (Below w.heap.size w X1) := ⟨HB01.out.trans (hXB.mono HB01.out.size)⟩
    have HGE : Sl (w.heap.size ≤ cb) := ⟨by rw [← hcb]; exact HB01.out.size⟩
    have HXC := Sl.mk hXC
    clear CF HV HB1 HB0 HB01 hXB
    rw [hcb] at HXC hXC
    have k0 := Rou.cell_at hXC 0 _ rfl
    have k1 := Rou.cell_at hXC 1 _ rfl
    have k2 := Rou.cell_at hXC 2 _ rfl
    have k3 := Rou.cell_at hXC 3 _ rfl
    have k4 := Rou.cell_at hXC 4 _ rfl
    have k5 := Rou.cell_at hXC 5 _ rfl
    have k6 := Rou.cell_at hXC 6 _ rfl
    have k7 := Rou.cell_at hXC 7 _ rfl
    have k8 := Rou.cell_at hXC 8 _ rfl
    have k9 := Rou.cell_at hXC 9 _ rfl
    have k10 := Rou.cell_at hXC 10 _ rfl
    have k11 := Rou.cell_at hXC 11 _ rfl
    go_upto_region 2 with fail
    (try rw [hX1])
    (try rw [hcb])
    clear hX1 hcb hXC
    have NW1 := NW.out X1 g HB2.out HRT.out
    go_wp2_with fail
    refine NW1.mono ?_
    rintro e w2 ⟨L, S, rfl, HL2, HB3, HS⟩
    clear NW1
    clear k0 k1 k2 k3 k4 k5 k6 k7 k8 k9 k10 k11
    have HCB2 : Sl (w2.heap[cb]? = some (.cells #[.slice (some ⟨g, 0, none⟩) 1 1, .slice none 0 0, .int .i64 4, .int .i64 i1, .int .i64 i2, .int .i64 3, .int .i64 300, .int .i64 i3, .int .i64 5, .int .i64 9, .int .i64 3, .int .i64 4] 25 (0, 0)) ∧ ∀ j, S j → j ≠ cb) := ⟨below_key HXC.out HB3.out, fun j e e2 => by have := HS.out j e; have := (Array.getElem?_eq_some_iff.1 HXC.out).1; omega⟩
    clear HB2 HB3 HRT NW HXC HS
    have AW1 := awake_any w2 HG.out HL2.out.low
    go_wp2_with fail
    refine AW1.mono ?_
    rintro e w3 ⟨rfl, HB6⟩
    clear AW1
    have HL3 := Sl.mk (HL2.out.below HB6.out)
    have HCB3 : Sl (w3.heap[cb]? = some (.cells #[.slice (some ⟨g, 0, none⟩) 1 1, .slice none 0 0, .int .i64 4, .int .i64 i1, .int .i64 i2, .int .i64 3, .int .i64 300, .int .i64 i3, .int .i64 5, .int .i64 9, .int .i64 3, .int .i64 4] 25 (0, 0)) ∧ ∀ j, S j → j ≠ cb) := ⟨below_key HCB2.out.1 HB6.out, HCB2.out.2⟩
    clear HL2 HCB2 HB6
    go_wp2
    go_loopw [10, 11] (fun u10 u11 wr => ∃ (k : Nat) (m : Lg) (S1 : Nat → Prop), u10 = .int .i64 (k : Int) ∧ k ≤ n ∧ m.sent = false ∧ Sl (LegH w wr L S1 (cfL a b o true) m 0) ∧ Sl (wr.heap[cb]? = some (.cells #[.slice (some ⟨g, 0, none⟩) 1 1, .slice none 0 0, .int .i64 4, .int .i64 i1, .int .i64 i2, .int .i64 3, .int .i64 300, .int .i64 i3, .int .i64 5, .int .i64 9, .int .i64 3, .int .i64 4] 25 (0, 0)) ∧ ∀ j, S1 j → j ≠ cb)) (fun u10 _ _ => n - (intOf u10).toNat)
    case atStart => exact ⟨0, L0 0, S, rfl, Nat.zero_le _, rfl, HL3, HCB3⟩
    case round =>
      obtain ⟨k, m, S1, rfl, hk, hms, HL, HCB⟩ := hrel
      clear HL3 HCB3
      by_cases hkn : k < n
      · have hlt : ((k : Int) < (n : Int)) = True := eq_true (by omega)
        have hltn : (k : Int) < (n : Int) := by omega
        obtain rfl := had (by omega)
        obtain ⟨s, hs⟩ : ∃ s, xs.getD k ByteArray.empty = s := ⟨_, rfl⟩
        have hcl0 := hcell k (by rw [HN.out]; exact hkn)
        rw [hs] at hcl0
        have hcl : wr.cell? ⟨sb, so + k, none⟩ = some (.string s) := (HL.out.low.cell (p := ⟨sb, so + k, none⟩) (block_lt_of_cell hcl0)).trans hcl0
        have hc3 := Rou.cell_at HCB.out.1 3 _ rfl
        clear hs
        by_cases hbig : 300 < s.size
        · have hb1 : ((s.size : Int) > 300) = True := eq_true (by omega)
          go_wp2
          go_ret
          exact ⟨rfl, HL.out.low⟩
        · have hb1 : ((s.size : Int) > 300) = False := eq_false (by omega)
          obtain ⟨fr, hfr⟩ : ∃ r, LegPlain.free m = r := ⟨_, rfl⟩
          have FT := free_ex HL.out fr hfr
          go_wp2_with fail
          refine FT.mono ?_
          rintro e w4 ⟨rfl, rfl⟩
          clear FT
          cases fr with
          | false =>
            obtain ⟨mm, hmm⟩ : ∃ x, (LegPlain.send (cfL a b o true) m 1 (bytes s)).1 = x := ⟨_, rfl⟩
            have HSE : Sl (LegPlain.send (cfL a b o true) m 1 (bytes s) = (mm, false)) := ⟨Prod.ext hmm (by rw [free_send, hfr, bytes_length]; rfl)⟩
            have HSN : Sl (mm.sent = false) := ⟨by rw [← hmm, LegPlain.send_sent]; exact hms⟩
            have SN := fun V (hV : Below wr.heap.size wr V) => send_ex (HL.out.below hV) 1 0 s mm false HSE.out
            clear hmm hms
            go_upto_region 11 with fail
            obtain ⟨Rw, hRw⟩ : ∃ R, wr.drew = R := ⟨_, rfl⟩
            have HBR : Below wr.heap.size wr Rw := by rw [← hRw]; exact (Below.refl _ _).drew
            refine wp_region_noPanic ?_
            refine wp_region_held (S := fun V => V.cell? ⟨sb, so + k, none⟩ = some (.string s) ∧ V.cell? ⟨cb, 3, none⟩ = some (.int .i64 i1)) (by kernel_rfl) ?_
            change wpAnyH _ _ _ _ _ _ _ _ wr.drew
            rw [hRw]
            clear hRw
            have HS0 : Rw.cell? ⟨sb, so + k, none⟩ = some (.string s) ∧ Rw.cell? ⟨cb, 3, none⟩ = some (.int .i64 i1) := ⟨(HBR.cell (p := ⟨sb, so + k, none⟩) (block_lt_of_cell hcl)).trans hcl, (HBR.cell (p := ⟨cb, 3, none⟩) (block_lt_of_cell hc3)).trans hc3⟩
            refine heldTake (d := some 55) (op := .move (Operand.tmp 8)) (g := none) 0 ?v0 rfl (by kernel_rfl) (by kernel_rfl) (by kernel_rfl) (by kernel_rfl) ?y0 HS0 ?_
            case y0 => intro o' ho W hS; simp only [execOp, ho]; go_simp; try rfl
            simp only [Act.put, List.setIfInBounds_toArray, List.set_cons_zero, List.set_cons_succ]
            refine heldTake (d := some 56) (op := .move (Operand.tmp 1)) (g := none) 1 ?v1 rfl (by kernel_rfl) (by kernel_rfl) (by kernel_rfl) (by kernel_rfl) ?y1 HS0 ?_
            case y1 => intro o' ho W hS; simp only [execOp, ho]; go_simp; try rfl
            simp only [Act.put, List.setIfInBounds_toArray, List.set_cons_zero, List.set_cons_succ]
            refine heldTake (d := some 57) (op := .move (Operand.tmp 10)) (g := none) 2 ?v2 rfl (by kernel_rfl) (by kernel_rfl) (by kernel_rfl) (by kernel_rfl) ?y2 HS0 ?_
            case y2 => intro o' ho W hS; simp only [execOp, ho]; go_simp; try rfl
            simp only [Act.put, List.setIfInBounds_toArray, List.set_cons_zero, List.set_cons_succ]
            refine heldTake (d := some 58) (op := .indexAddr 23 (Operand.tmp 56) (Operand.tmp 57)) (g := none) 3 ?v3 rfl (by kernel_rfl) (by kernel_rfl) (by kernel_rfl) (by kernel_rfl) ?y3 HS0 ?_
            case y3 => intro o' ho W hS; simp only [execOp, ho]; go_simp; try rfl
            simp only [Act.put, List.setIfInBounds_toArray, List.set_cons_zero, List.set_cons_succ]
            refine heldTake (d := some 59) (op := .load 9 (Operand.tmp 58)) (g := none) 4 ?v4 rfl (by kernel_rfl) (by kernel_rfl) (by kernel_rfl) (by kernel_rfl) ?y4 HS0 ?_
            case y4 => intro o' ho W hS; have d1 := hS.1; simp only [execOp, ho]; go_simp; try rfl
            simp only [Act.put, List.setIfInBounds_toArray, List.set_cons_zero, List.set_cons_succ]
            refine heldTake (d := some 60) (op := .build 52 #[(0, Operand.const (Value.int IntKind.i64 1)), (2, Operand.tmp 59)]) (g := none) 5 ?v5 rfl (by kernel_rfl) (by kernel_rfl) (by kernel_rfl) (by kernel_rfl) ?y5 HS0 ?_
            case y5 => intro o' ho W hS; simp only [execOp, ho]; go_simp; try rfl
            simp only [Act.put, List.setIfInBounds_toArray, List.set_cons_zero, List.set_cons_succ]
            refine heldTake (d := some 62) (op := .move (Operand.tmp 11)) (g := none) 7 (.bool false) rfl (by kernel_rfl) (by kernel_rfl) (by kernel_rfl) (by kernel_rfl) ?y7 HS0 ?_
            case y7 => intro o' ho W hS; exact (by simp only [execOp, ho]; go_simp; try rfl)
            simp only [Act.put, List.setIfInBounds_toArray, List.set_cons_zero, List.set_cons_succ]
            refine heldCall (d := some 61) (op := .call { callee := Callee.value (Operand.func 21), args := #[Operand.tmp 55, Operand.tmp 60], argTypes := #[30, 52] }) (g := none) 6 21 #[.pointer (some ⟨L, 0, none⟩), .agg #[.int .i64 1, .int .i64 0, .string s]] rfl (by kernel_rfl) (by kernel_rfl) ?y6 ?_
            case y6 => intro o' ho; simp only [execOp, ho]; go_simp; try rfl
            refine (SN Rw HBR).mono ?_
            rintro e w5 ⟨S5, rfl, HL5, HG5⟩
            have HC5 : Sl (w5.heap[cb]? = some (.cells #[.slice (some ⟨g, 0, none⟩) 1 1, .slice none 0 0, .int .i64 4, .int .i64 i1, .int .i64 i2, .int .i64 3, .int .i64 300, .int .i64 i3, .int .i64 5, .int .i64 9, .int .i64 3, .int .i64 4] 25 (0, 0)) ∧ (∀ j, S5 j → j ≠ cb)) := keep_cb HL.out HCB.out HGE.out HBR HL5.out HG5.out
            have hc3b := Rou.cell_at HC5.out.1 3 _ rfl
            have hclb : w5.cell? ⟨sb, so + k, none⟩ = some (.string s) := (HL5.out.low.cell (p := ⟨sb, so + k, none⟩) (block_lt_of_cell hcl0)).trans hcl0
            have HS5 : w5.cell? ⟨sb, so + k, none⟩ = some (.string s) ∧ w5.cell? ⟨cb, 3, none⟩ = some (.int .i64 i1) := ⟨hclb, hc3b⟩
            refine ⟨_, rfl, HS5, ?_⟩
            simp only [Act.put, List.setIfInBounds_toArray, List.set_cons_zero, List.set_cons_succ]
            refine heldTake (d := some 63) (op := .move (Operand.tmp 62)) (g := none) 8 (.bool false) rfl (by kernel_rfl) (by kernel_rfl) (by kernel_rfl) (by kernel_rfl) ?y8 HS5 ?_
            case y8 => intro o' ho W hS; exact (by simp only [execOp, ho]; go_simp; try rfl)
            simp only [Act.put, List.setIfInBounds_toArray, List.set_cons_zero, List.set_cons_succ]
            refine heldSkip (d := some 64) (op := .move (Operand.tmp 1)) (g := some (8, true)) 9 rfl (by kernel_rfl) (by kernel_rfl) (by kernel_rfl) (by kernel_rfl) HS5 ?_
            simp only [Act.put, List.setIfInBounds_toArray, List.set_cons_zero, List.set_cons_succ]
            refine heldSkip (d := some 65) (op := .move (Operand.tmp 10)) (g := some (8, true)) 10 rfl (by kernel_rfl) (by kernel_rfl) (by kernel_rfl) (by kernel_rfl) HS5 ?_
            simp only [Act.put, List.setIfInBounds_toArray, List.set_cons_zero, List.set_cons_succ]
            refine heldSkip (d := some 66) (op := .indexAddr 23 (Operand.tmp 64) (Operand.tmp 65)) (g := some (8, true)) 11 rfl (by kernel_rfl) (by kernel_rfl) (by kernel_rfl) (by kernel_rfl) HS5 ?_
            simp only [Act.put, List.setIfInBounds_toArray, List.set_cons_zero, List.set_cons_succ]
            refine heldSkip (d := some 67) (op := .load 9 (Operand.tmp 66)) (g := some (8, true)) 12 rfl (by kernel_rfl) (by kernel_rfl) (by kernel_rfl) (by kernel_rfl) HS5 ?_
            simp only [Act.put, List.setIfInBounds_toArray, List.set_cons_zero, List.set_cons_succ]
            refine heldSkip (d := some 68) (op := .call { callee := Callee.builtin Builtin.len, args := #[Operand.tmp 67], argTypes := #[9] }) (g := some (8, true)) 13 rfl (by kernel_rfl) (by kernel_rfl) (by kernel_rfl) (by kernel_rfl) HS5 ?_
            simp only [Act.put, List.setIfInBounds_toArray, List.set_cons_zero, List.set_cons_succ]
            refine heldSkip (d := some 69) (op := .fieldAddr 25 (Operand.tmp 7) 3) (g := some (8, true)) 14 rfl (by kernel_rfl) (by kernel_rfl) (by kernel_rfl) (by kernel_rfl) HS5 ?_
            simp only [Act.put, List.setIfInBounds_toArray, List.set_cons_zero, List.set_cons_succ]
            refine heldSkip (d := some 70) (op := .load 3 (Operand.tmp 69)) (g := some (8, true)) 15 rfl (by kernel_rfl) (by kernel_rfl) (by kernel_rfl) (by kernel_rfl) HS5 ?_
            simp only [Act.put, List.setIfInBounds_toArray, List.set_cons_zero, List.set_cons_succ]
            refine heldSkip (d := some 71) (op := .binOp BinOp.leq 3 (Operand.tmp 68) (Operand.tmp 70) 3) (g := some (8, true)) 16 rfl (by kernel_rfl) (by kernel_rfl) (by kernel_rfl) (by kernel_rfl) HS5 ?_
            simp only [Act.put, List.setIfInBounds_toArray, List.set_cons_zero, List.set_cons_succ]
            refine heldTake (d := some 72) (op := .pick (Operand.tmp 63) (Operand.tmp 71) (Operand.const (Value.bool false))) (g := none) 17 (.bool false) rfl (by kernel_rfl) (by kernel_rfl) (by kernel_rfl) (by kernel_rfl) ?y17 HS5 ?_
            case y17 => intro o' ho W hS; exact (by simp only [execOp, ho]; go_simp; try rfl)
            simp only [Act.put, List.setIfInBounds_toArray, List.set_cons_zero, List.set_cons_succ]
            refine heldTake (d := some 73) (op := .binOp BinOp.neq 4 (Operand.tmp 61) (Operand.tmp 72) 4) (g := none) 18 (.bool false) rfl (by kernel_rfl) (by kernel_rfl) (by kernel_rfl) (by kernel_rfl) ?y18 HS5 ?_
            case y18 => intro o' ho W hS; exact (by simp only [execOp, ho]; go_simp; try rfl)
            simp only [Act.put, List.setIfInBounds_toArray, List.set_cons_zero, List.set_cons_succ]
            refine wpAnyH_done (by kernel_rfl) ?_ _
            refine NoPanic.normal ?_
            clear SN HSE HL HCB hcl hc3 hc3b hclb HS5 HS0 HBR
            (try go_frame)
            by_cases hkt : k < nt
            · obtain rfl := hadt (by omega)
              have hlt2 : ((k : Int) < (nt : Int)) = True := eq_true (by omega)
              obtain ⟨y, hy⟩ : ∃ y, bt.getD k 0 = y := ⟨_, rfl⟩
              have hy256 : y < 256 := by rw [← hy]; exact getD_small8 HSM.out k
              have hct : w5.cell? ⟨tb, tq + k, none⟩ = some (.int .u8 (y : Int)) := by
                rw [HL5.out.low.cell (p := ⟨tb, tq + k, none⟩) (block_lt_of_cell (hct0 k (by rw [HNT.out]; exact hkt))), hct0 k (by rw [HNT.out]; exact hkt), hy]
              obtain ⟨tl, htl⟩ : ∃ t, mm.ring.take (y : Int).toNat = t := ⟨_, rfl⟩
              obtain ⟨q, hq⟩ : ∃ q, tl.length = q := ⟨_, rfl⟩
              have TK := take_ex HL5.out (y : Int) tl htl q hq _ rfl
              have HSN2 : Sl ((takeN (cfL a b o true) mm (y : Int)).1.sent = false) := ⟨by rw [LegPlain.take_sent]; exact HSN.out⟩
              clear hy htl hq
              go_wp2_with fail
              refine TK.mono ?_
              rintro e w6 ⟨S6, rfl, -, HL6, HG6⟩
              clear TK
              have HC6 : Sl (w6.heap[cb]? = some (.cells #[.slice (some ⟨g, 0, none⟩) 1 1, .slice none 0 0, .int .i64 4, .int .i64 i1, .int .i64 i2, .int .i64 3, .int .i64 300, .int .i64 i3, .int .i64 5, .int .i64 9, .int .i64 3, .int .i64 4] 25 (0, 0)) ∧ ∀ j, S6 j → j ≠ cb) := keep_cb HL5.out HC5.out HGE.out (Below.refl _ _) HL6.out HG6.out
              go_wp2
              exact ⟨⟨k + 1, _, S6, by go_num, by omega, HSN2.out, HL6, HC6⟩, by simp [intOf]; omega⟩
            · have hlt2 : ((k : Int) < (nt : Int)) = False := eq_false (by omega)
              go_wp2
              exact ⟨⟨k + 1, mm, S5, by go_num, by omega, HSN.out, HL5, HC5⟩, by simp [intOf]; omega⟩
          | true =>
            by_cases hle : s.size ≤ 1 + a
            · have hle2 : decide ((s.size : Int) ≤ i1) = true := decide_eq_true (by have := HI1.out; omega)
              obtain ⟨mm, hmm⟩ : ∃ x, (LegPlain.send (cfL a b o true) m 1 (bytes s)).1 = x := ⟨_, rfl⟩
              have HSE : Sl (LegPlain.send (cfL a b o true) m 1 (bytes s) = (mm, true)) := ⟨Prod.ext hmm (by rw [free_send, hfr, bytes_length]; exact decide_eq_true (show s.size ≤ 1 + a from hle))⟩
              have HSN : Sl (mm.sent = false) := ⟨by rw [← hmm, LegPlain.send_sent]; exact hms⟩
              have SN := fun V (hV : Below wr.heap.size wr V) => send_ex (HL.out.below hV) 1 0 s mm true HSE.out
              clear hmm hms
              go_upto_region 11 with fail
              obtain ⟨Rw, hRw⟩ : ∃ R, wr.drew = R := ⟨_, rfl⟩
              have HBR : Below wr.heap.size wr Rw := by rw [← hRw]; exact (Below.refl _ _).drew
              refine wp_region_noPanic ?_
              refine wp_region_held (S := fun V => V.cell? ⟨sb, so + k, none⟩ = some (.string s) ∧ V.cell? ⟨cb, 3, none⟩ = some (.int .i64 i1)) (by kernel_rfl) ?_
              change wpAnyH _ _ _ _ _ _ _ _ wr.drew
              rw [hRw]
              clear hRw
              have HS0 : Rw.cell? ⟨sb, so + k, none⟩ = some (.string s) ∧ Rw.cell? ⟨cb, 3, none⟩ = some (.int .i64 i1) := ⟨(HBR.cell (p := ⟨sb, so + k, none⟩) (block_lt_of_cell hcl)).trans hcl, (HBR.cell (p := ⟨cb, 3, none⟩) (block_lt_of_cell hc3)).trans hc3⟩
              refine heldTake (d := some 55) (op := .move (Operand.tmp 8)) (g := none) 0 ?v0 rfl (by kernel_rfl) (by kernel_rfl) (by kernel_rfl) (by kernel_rfl) ?y0 HS0 ?_
              case y0 => intro o' ho W hS; simp only [execOp, ho]; go_simp; try rfl
              simp only [Act.put, List.setIfInBounds_toArray, List.set_cons_zero, List.set_cons_succ]
              refine heldTake (d := some 56) (op := .move (Operand.tmp 1)) (g := none) 1 ?v1 rfl (by kernel_rfl) (by kernel_rfl) (by kernel_rfl) (by kernel_rfl) ?y1 HS0 ?_
              case y1 => intro o' ho W hS; simp only [execOp, ho]; go_simp; try rfl
              simp only [Act.put, List.setIfInBounds_toArray, List.set_cons_zero, List.set_cons_succ]
              refine heldTake (d := some 57) (op := .move (Operand.tmp 10)) (g := none) 2 ?v2 rfl (by kernel_rfl) (by kernel_rfl) (by kernel_rfl) (by kernel_rfl) ?y2 HS0 ?_
              case y2 => intro o' ho W hS; simp only [execOp, ho]; go_simp; try rfl
              simp only [Act.put, List.setIfInBounds_toArray, List.set_cons_zero, List.set_cons_succ]
              refine heldTake (d := some 58) (op := .indexAddr 23 (Operand.tmp 56) (Operand.tmp 57)) (g := none) 3 ?v3 rfl (by kernel_rfl) (by kernel_rfl) (by kernel_rfl) (by kernel_rfl) ?y3 HS0 ?_
              case y3 => intro o' ho W hS; simp only [execOp, ho]; go_simp; try rfl
              simp only [Act.put, List.setIfInBounds_toArray, List.set_cons_zero, List.set_cons_succ]
              refine heldTake (d := some 59) (op := .load 9 (Operand.tmp 58)) (g := none) 4 ?v4 rfl (by kernel_rfl) (by kernel_rfl) (by kernel_rfl) (by kernel_rfl) ?y4 HS0 ?_
              case y4 => intro o' ho W hS; have d1 := hS.1; simp only [execOp, ho]; go_simp; try rfl
              simp only [Act.put, List.setIfInBounds_toArray, List.set_cons_zero, List.set_cons_succ]
              refine heldTake (d := some 60) (op := .build 52 #[(0, Operand.const (Value.int IntKind.i64 1)), (2, Operand.tmp 59)]) (g := none) 5 ?v5 rfl (by kernel_rfl) (by kernel_rfl) (by kernel_rfl) (by kernel_rfl) ?y5 HS0 ?_
              case y5 => intro o' ho W hS; simp only [execOp, ho]; go_simp; try rfl
              simp only [Act.put, List.setIfInBounds_toArray, List.set_cons_zero, List.set_cons_succ]
              refine heldTake (d := some 62) (op := .move (Operand.tmp 11)) (g := none) 7 (.bool true) rfl (by kernel_rfl) (by kernel_rfl) (by kernel_rfl) (by kernel_rfl) ?y7 HS0 ?_
              case y7 => intro o' ho W hS; exact (by simp only [execOp, ho]; go_simp; try rfl)
              simp only [Act.put, List.setIfInBounds_toArray, List.set_cons_zero, List.set_cons_succ]
              refine heldCall (d := some 61) (op := .call { callee := Callee.value (Operand.func 21), args := #[Operand.tmp 55, Operand.tmp 60], argTypes := #[30, 52] }) (g := none) 6 21 #[.pointer (some ⟨L, 0, none⟩), .agg #[.int .i64 1, .int .i64 0, .string s]] rfl (by kernel_rfl) (by kernel_rfl) ?y6 ?_
              case y6 => intro o' ho; simp only [execOp, ho]; go_simp; try rfl
              refine (SN Rw HBR).mono ?_
              rintro e w5 ⟨S5, rfl, HL5, HG5⟩
              have HC5 : Sl (w5.heap[cb]? = some (.cells #[.slice (some ⟨g, 0, none⟩) 1 1, .slice none 0 0, .int .i64 4, .int .i64 i1, .int .i64 i2, .int .i64 3, .int .i64 300, .int .i64 i3, .int .i64 5, .int .i64 9, .int .i64 3, .int .i64 4] 25 (0, 0)) ∧ (∀ j, S5 j → j ≠ cb)) := keep_cb HL.out HCB.out HGE.out HBR HL5.out HG5.out
              have hc3b := Rou.cell_at HC5.out.1 3 _ rfl
              have hclb : w5.cell? ⟨sb, so + k, none⟩ = some (.string s) := (HL5.out.low.cell (p := ⟨sb, so + k, none⟩) (block_lt_of_cell hcl0)).trans hcl0
              have HS5 : w5.cell? ⟨sb, so + k, none⟩ = some (.string s) ∧ w5.cell? ⟨cb, 3, none⟩ = some (.int .i64 i1) := ⟨hclb, hc3b⟩
              refine ⟨_, rfl, HS5, ?_⟩
              simp only [Act.put, List.setIfInBounds_toArray, List.set_cons_zero, List.set_cons_succ]
              refine heldTake (d := some 63) (op := .move (Operand.tmp 62)) (g := none) 8 (.bool true) rfl (by kernel_rfl) (by kernel_rfl) (by kernel_rfl) (by kernel_rfl) ?y8 HS5 ?_
              case y8 => intro o' ho W hS; exact (by simp only [execOp, ho]; go_simp; try rfl)
              simp only [Act.put, List.setIfInBounds_toArray, List.set_cons_zero, List.set_cons_succ]
              refine heldTake (d := some 64) (op := .move (Operand.tmp 1)) (g := some (8, true)) 9 ?v9 rfl (by kernel_rfl) (by kernel_rfl) (by kernel_rfl) (by kernel_rfl) ?y9 HS5 ?_
              case y9 => intro o' ho W hS; simp only [execOp, ho]; go_simp; try rfl
              simp only [Act.put, List.setIfInBounds_toArray, List.set_cons_zero, List.set_cons_succ]
              refine heldTake (d := some 65) (op := .move (Operand.tmp 10)) (g := some (8, true)) 10 ?v10 rfl (by kernel_rfl) (by kernel_rfl) (by kernel_rfl) (by kernel_rfl) ?y10 HS5 ?_
              case y10 => intro o' ho W hS; simp only [execOp, ho]; go_simp; try rfl
              simp only [Act.put, List.setIfInBounds_toArray, List.set_cons_zero, List.set_cons_succ]
              refine heldTake (d := some 66) (op := .indexAddr 23 (Operand.tmp 64) (Operand.tmp 65)) (g := some (8, true)) 11 ?v11 rfl (by kernel_rfl) (by kernel_rfl) (by kernel_rfl) (by kernel_rfl) ?y11 HS5 ?_
              case y11 => intro o' ho W hS; simp only [execOp, ho]; go_simp; try rfl
              simp only [Act.put, List.setIfInBounds_toArray, List.set_cons_zero, List.set_cons_succ]
              refine heldTake (d := some 67) (op := .load 9 (Operand.tmp 66)) (g := some (8, true)) 12 ?v12 rfl (by kernel_rfl) (by kernel_rfl) (by kernel_rfl) (by kernel_rfl) ?y12 HS5 ?_
              case y12 => intro o' ho W hS; have d1 := hS.1; simp only [execOp, ho]; go_simp; try rfl
              simp only [Act.put, List.setIfInBounds_toArray, List.set_cons_zero, List.set_cons_succ]
              refine heldTake (d := some 68) (op := .call { callee := Callee.builtin Builtin.len, args := #[Operand.tmp 67], argTypes := #[9] }) (g := some (8, true)) 13 ?v13 rfl (by kernel_rfl) (by kernel_rfl) (by kernel_rfl) (by kernel_rfl) ?y13 HS5 ?_
              case y13 => intro o' ho W hS; simp only [execOp, ho]; go_simp; try rfl
              simp only [Act.put, List.setIfInBounds_toArray, List.set_cons_zero, List.set_cons_succ]
              refine heldTake (d := some 69) (op := .fieldAddr 25 (Operand.tmp 7) 3) (g := some (8, true)) 14 ?v14 rfl (by kernel_rfl) (by kernel_rfl) (by kernel_rfl) (by kernel_rfl) ?y14 HS5 ?_
              case y14 => intro o' ho W hS; simp only [execOp, ho]; go_simp; try rfl
              simp only [Act.put, List.setIfInBounds_toArray, List.set_cons_zero, List.set_cons_succ]
              refine heldTake (d := some 70) (op := .load 3 (Operand.tmp 69)) (g := some (8, true)) 15 ?v15 rfl (by kernel_rfl) (by kernel_rfl) (by kernel_rfl) (by kernel_rfl) ?y15 HS5 ?_
              case y15 => intro o' ho W hS; have d2 := hS.2; simp only [execOp, ho]; go_simp; try rfl
              simp only [Act.put, List.setIfInBounds_toArray, List.set_cons_zero, List.set_cons_succ]
              refine heldTake (d := some 71) (op := .binOp BinOp.leq 3 (Operand.tmp 68) (Operand.tmp 70) 3) (g := some (8, true)) 16 (.bool true) rfl (by kernel_rfl) (by kernel_rfl) (by kernel_rfl) (by kernel_rfl) ?y16 HS5 ?_
              case y16 => intro o' ho W hS; exact (by simp only [execOp, ho]; go_simp; first | done | exact of_decide_eq_true hle2 | exact of_decide_eq_false hle2 | (rw [hle2]) | (simpa using hle2))
              simp only [Act.put, List.setIfInBounds_toArray, List.set_cons_zero, List.set_cons_succ]
              refine heldTake (d := some 72) (op := .pick (Operand.tmp 63) (Operand.tmp 71) (Operand.const (Value.bool false))) (g := none) 17 (.bool true) rfl (by kernel_rfl) (by kernel_rfl) (by kernel_rfl) (by kernel_rfl) ?y17 HS5 ?_
              case y17 => intro o' ho W hS; exact (by simp only [execOp, ho]; go_simp; try rfl)
              simp only [Act.put, List.setIfInBounds_toArray, List.set_cons_zero, List.set_cons_succ]
              refine heldTake (d := some 73) (op := .binOp BinOp.neq 4 (Operand.tmp 61) (Operand.tmp 72) 4) (g := none) 18 (.bool false) rfl (by kernel_rfl) (by kernel_rfl) (by kernel_rfl) (by kernel_rfl) ?y18 HS5 ?_
              case y18 => intro o' ho W hS; exact (by simp only [execOp, ho]; go_simp; try rfl)
              simp only [Act.put, List.setIfInBounds_toArray, List.set_cons_zero, List.set_cons_succ]
              refine wpAnyH_done (by kernel_rfl) ?_ _
              refine NoPanic.normal ?_
              clear SN HSE HL HCB hcl hc3 hc3b hclb HS5 HS0 HBR
              (try go_frame)
              by_cases hkt : k < nt
              · obtain rfl := hadt (by omega)
                have hlt2 : ((k : Int) < (nt : Int)) = True := eq_true (by omega)
                obtain ⟨y, hy⟩ : ∃ y, bt.getD k 0 = y := ⟨_, rfl⟩
                have hy256 : y < 256 := by rw [← hy]; exact getD_small8 HSM.out k
                have hct : w5.cell? ⟨tb, tq + k, none⟩ = some (.int .u8 (y : Int)) := by
                  rw [HL5.out.low.cell (p := ⟨tb, tq + k, none⟩) (block_lt_of_cell (hct0 k (by rw [HNT.out]; exact hkt))), hct0 k (by rw [HNT.out]; exact hkt), hy]
                obtain ⟨tl, htl⟩ : ∃ t, mm.ring.take (y : Int).toNat = t := ⟨_, rfl⟩
                obtain ⟨q, hq⟩ : ∃ q, tl.length = q := ⟨_, rfl⟩
                have TK := take_ex HL5.out (y : Int) tl htl q hq _ rfl
                have HSN2 : Sl ((takeN (cfL a b o true) mm (y : Int)).1.sent = false) := ⟨by rw [LegPlain.take_sent]; exact HSN.out⟩
                clear hy htl hq
                go_wp2_with fail
                refine TK.mono ?_
                rintro e w6 ⟨S6, rfl, -, HL6, HG6⟩
                clear TK
                have HC6 : Sl (w6.heap[cb]? = some (.cells #[.slice (some ⟨g, 0, none⟩) 1 1, .slice none 0 0, .int .i64 4, .int .i64 i1, .int .i64 i2, .int .i64 3, .int .i64 300, .int .i64 i3, .int .i64 5, .int .i64 9, .int .i64 3, .int .i64 4] 25 (0, 0)) ∧ ∀ j, S6 j → j ≠ cb) := keep_cb HL5.out HC5.out HGE.out (Below.refl _ _) HL6.out HG6.out
                go_wp2
                exact ⟨⟨k + 1, _, S6, by go_num, by omega, HSN2.out, HL6, HC6⟩, by simp [intOf]; omega⟩
              · have hlt2 : ((k : Int) < (nt : Int)) = False := eq_false (by omega)
                go_wp2
                exact ⟨⟨k + 1, mm, S5, by go_num, by omega, HSN.out, HL5, HC5⟩, by simp [intOf]; omega⟩
            · have hle2 : decide ((s.size : Int) ≤ i1) = false := decide_eq_false (by have := HI1.out; omega)
              obtain ⟨mm, hmm⟩ : ∃ x, (LegPlain.send (cfL a b o true) m 1 (bytes s)).1 = x := ⟨_, rfl⟩
              have HSE : Sl (LegPlain.send (cfL a b o true) m 1 (bytes s) = (mm, false)) := ⟨Prod.ext hmm (by rw [free_send, hfr, bytes_length]; exact decide_eq_false (fun e => hle e))⟩
              have HSN : Sl (mm.sent = false) := ⟨by rw [← hmm, LegPlain.send_sent]; exact hms⟩
              have SN := fun V (hV : Below wr.heap.size wr V) => send_ex (HL.out.below hV) 1 0 s mm false HSE.out
              clear hmm hms
              go_upto_region 11 with fail
              obtain ⟨Rw, hRw⟩ : ∃ R, wr.drew = R := ⟨_, rfl⟩
              have HBR : Below wr.heap.size wr Rw := by rw [← hRw]; exact (Below.refl _ _).drew
              refine wp_region_noPanic ?_
              refine wp_region_held (S := fun V => V.cell? ⟨sb, so + k, none⟩ = some (.string s) ∧ V.cell? ⟨cb, 3, none⟩ = some (.int .i64 i1)) (by kernel_rfl) ?_
              change wpAnyH _ _ _ _ _ _ _ _ wr.drew
              rw [hRw]
              clear hRw
              have HS0 : Rw.cell? ⟨sb, so + k, none⟩ = some (.string s) ∧ Rw.cell? ⟨cb, 3, none⟩ = some (.int .i64 i1) := ⟨(HBR.cell (p := ⟨sb, so + k, none⟩) (block_lt_of_cell hcl)).trans hcl, (HBR.cell (p := ⟨cb, 3, none⟩) (block_lt_of_cell hc3)).trans hc3⟩
              refine heldTake (d := some 55) (op := .move (Operand.tmp 8)) (g := none) 0 ?v0 rfl (by kernel_rfl) (by kernel_rfl) (by kernel_rfl) (by kernel_rfl) ?y0 HS0 ?_
              case y0 => intro o' ho W hS; simp only [execOp, ho]; go_simp; try rfl
              simp only [Act.put, List.setIfInBounds_toArray, List.set_cons_zero, List.set_cons_succ]
              refine heldTake (d := some 56) (op := .move (Operand.tmp 1)) (g := none) 1 ?v1 rfl (by kernel_rfl) (by kernel_rfl) (by kernel_rfl) (by kernel_rfl) ?y1 HS0 ?_
              case y1 => intro o' ho W hS; simp only [execOp, ho]; go_simp; try rfl
              simp only [Act.put, List.setIfInBounds_toArray, List.set_cons_zero, List.set_cons_succ]
              refine heldTake (d := some 57) (op := .move (Operand.tmp 10)) (g := none) 2 ?v2 rfl (by kernel_rfl) (by kernel_rfl) (by kernel_rfl) (by kernel_rfl) ?y2 HS0 ?_
              case y2 => intro o' ho W hS; simp only [execOp, ho]; go_simp; try rfl
              simp only [Act.put, List.setIfInBounds_toArray, List.set_cons_zero, List.set_cons_succ]
              refine heldTake (d := some 58) (op := .indexAddr 23 (Operand.tmp 56) (Operand.tmp 57)) (g := none) 3 ?v3 rfl (by kernel_rfl) (by kernel_rfl) (by kernel_rfl) (by kernel_rfl) ?y3 HS0 ?_
              case y3 => intro o' ho W hS; simp only [execOp, ho]; go_simp; try rfl
              simp only [Act.put, List.setIfInBounds_toArray, List.set_cons_zero, List.set_cons_succ]
              refine heldTake (d := some 59) (op := .load 9 (Operand.tmp 58)) (g := none) 4 ?v4 rfl (by kernel_rfl) (by kernel_rfl) (by kernel_rfl) (by kernel_rfl) ?y4 HS0 ?_
              case y4 => intro o' ho W hS; have d1 := hS.1; simp only [execOp, ho]; go_simp; try rfl
              simp only [Act.put, List.setIfInBounds_toArray, List.set_cons_zero, List.set_cons_succ]
              refine heldTake (d := some 60) (op := .build 52 #[(0, Operand.const (Value.int IntKind.i64 1)), (2, Operand.tmp 59)]) (g := none) 5 ?v5 rfl (by kernel_rfl) (by kernel_rfl) (by kernel_rfl) (by kernel_rfl) ?y5 HS0 ?_
              case y5 => intro o' ho W hS; simp only [execOp, ho]; go_simp; try rfl
              simp only [Act.put, List.setIfInBounds_toArray, List.set_cons_zero, List.set_cons_succ]
              refine heldTake (d := some 62) (op := .move (Operand.tmp 11)) (g := none) 7 (.bool true) rfl (by kernel_rfl) (by kernel_rfl) (by kernel_rfl) (by kernel_rfl) ?y7 HS0 ?_
              case y7 => intro o' ho W hS; exact (by simp only [execOp, ho]; go_simp; try rfl)
              simp only [Act.put, List.setIfInBounds_toArray, List.set_cons_zero, List.set_cons_succ]
              refine heldCall (d := some 61) (op := .call { callee := Callee.value (Operand.func 21), args := #[Operand.tmp 55, Operand.tmp 60], argTypes := #[30, 52] }) (g := none) 6 21 #[.pointer (some ⟨L, 0, none⟩), .agg #[.int .i64 1, .int .i64 0, .string s]] rfl (by kernel_rfl) (by kernel_rfl) ?y6 ?_
              case y6 => intro o' ho; simp only [execOp, ho]; go_simp; try rfl
              refine (SN Rw HBR).mono ?_
              rintro e w5 ⟨S5, rfl, HL5, HG5⟩
              have HC5 : Sl (w5.heap[cb]? = some (.cells #[.slice (some ⟨g, 0, none⟩) 1 1, .slice none 0 0, .int .i64 4, .int .i64 i1, .int .i64 i2, .int .i64 3, .int .i64 300, .int .i64 i3, .int .i64 5, .int .i64 9, .int .i64 3, .int .i64 4] 25 (0, 0)) ∧ (∀ j, S5 j → j ≠ cb)) := keep_cb HL.out HCB.out HGE.out HBR HL5.out HG5.out
              have hc3b := Rou.cell_at HC5.out.1 3 _ rfl
              have hclb : w5.cell? ⟨sb, so + k, none⟩ = some (.string s) := (HL5.out.low.cell (p := ⟨sb, so + k, none⟩) (block_lt_of_cell hcl0)).trans hcl0
              have HS5 : w5.cell? ⟨sb, so + k, none⟩ = some (.string s) ∧ w5.cell? ⟨cb, 3, none⟩ = some (.int .i64 i1) := ⟨hclb, hc3b⟩
              refine ⟨_, rfl, HS5, ?_⟩
              simp only [Act.put, List.setIfInBounds_toArray, List.set_cons_zero, List.set_cons_succ]
              refine heldTake (d := some 63) (op := .move (Operand.tmp 62)) (g := none) 8 (.bool true) rfl (by kernel_rfl) (by kernel_rfl) (by kernel_rfl) (by kernel_rfl) ?y8 HS5 ?_
              case y8 => intro o' ho W hS; exact (by simp only [execOp, ho]; go_simp; try rfl)
              simp only [Act.put, List.setIfInBounds_toArray, List.set_cons_zero, List.set_cons_succ]
              refine heldTake (d := some 64) (op := .move (Operand.tmp 1)) (g := some (8, true)) 9 ?v9 rfl (by kernel_rfl) (by kernel_rfl) (by kernel_rfl) (by kernel_rfl) ?y9 HS5 ?_
              case y9 => intro o' ho W hS; simp only [execOp, ho]; go_simp; try rfl
              simp only [Act.put, List.setIfInBounds_toArray, List.set_cons_zero, List.set_cons_succ]
              refine heldTake (d := some 65) (op := .move (Operand.tmp 10)) (g := some (8, true)) 10 ?v10 rfl (by kernel_rfl) (by kernel_rfl) (by kernel_rfl) (by kernel_rfl) ?y10 HS5 ?_
              case y10 => intro o' ho W hS; simp only [execOp, ho]; go_simp; try rfl
              simp only [Act.put, List.setIfInBounds_toArray, List.set_cons_zero, List.set_cons_succ]
              refine heldTake (d := some 66) (op := .indexAddr 23 (Operand.tmp 64) (Operand.tmp 65)) (g := some (8, true)) 11 ?v11 rfl (by kernel_rfl) (by kernel_rfl) (by kernel_rfl) (by kernel_rfl) ?y11 HS5 ?_
              case y11 => intro o' ho W hS; simp only [execOp, ho]; go_simp; try rfl
              simp only [Act.put, List.setIfInBounds_toArray, List.set_cons_zero, List.set_cons_succ]
              refine heldTake (d := some 67) (op := .load 9 (Operand.tmp 66)) (g := some (8, true)) 12 ?v12 rfl (by kernel_rfl) (by kernel_rfl) (by kernel_rfl) (by kernel_rfl) ?y12 HS5 ?_
              case y12 => intro o' ho W hS; have d1 := hS.1; simp only [execOp, ho]; go_simp; try rfl
              simp only [Act.put, List.setIfInBounds_toArray, List.set_cons_zero, List.set_cons_succ]
              refine heldTake (d := some 68) (op := .call { callee := Callee.builtin Builtin.len, args := #[Operand.tmp 67], argTypes := #[9] }) (g := some (8, true)) 13 ?v13 rfl (by kernel_rfl) (by kernel_rfl) (by kernel_rfl) (by kernel_rfl) ?y13 HS5 ?_
              case y13 => intro o' ho W hS; simp only [execOp, ho]; go_simp; try rfl
              simp only [Act.put, List.setIfInBounds_toArray, List.set_cons_zero, List.set_cons_succ]
              refine heldTake (d := some 69) (op := .fieldAddr 25 (Operand.tmp 7) 3) (g := some (8, true)) 14 ?v14 rfl (by kernel_rfl) (by kernel_rfl) (by kernel_rfl) (by kernel_rfl) ?y14 HS5 ?_
              case y14 => intro o' ho W hS; simp only [execOp, ho]; go_simp; try rfl
              simp only [Act.put, List.setIfInBounds_toArray, List.set_cons_zero, List.set_cons_succ]
              refine heldTake (d := some 70) (op := .load 3 (Operand.tmp 69)) (g := some (8, true)) 15 ?v15 rfl (by kernel_rfl) (by kernel_rfl) (by kernel_rfl) (by kernel_rfl) ?y15 HS5 ?_
              case y15 => intro o' ho W hS; have d2 := hS.2; simp only [execOp, ho]; go_simp; try rfl
              simp only [Act.put, List.setIfInBounds_toArray, List.set_cons_zero, List.set_cons_succ]
              refine heldTake (d := some 71) (op := .binOp BinOp.leq 3 (Operand.tmp 68) (Operand.tmp 70) 3) (g := some (8, true)) 16 (.bool false) rfl (by kernel_rfl) (by kernel_rfl) (by kernel_rfl) (by kernel_rfl) ?y16 HS5 ?_
              case y16 => intro o' ho W hS; exact (by simp only [execOp, ho]; go_simp; first | done | exact of_decide_eq_true hle2 | exact of_decide_eq_false hle2 | (rw [hle2]) | (simpa using hle2))
              simp only [Act.put, List.setIfInBounds_toArray, List.set_cons_zero, List.set_cons_succ]
              refine heldTake (d := some 72) (op := .pick (Operand.tmp 63) (Operand.tmp 71) (Operand.const (Value.bool false))) (g := none) 17 (.bool false) rfl (by kernel_rfl) (by kernel_rfl) (by kernel_rfl) (by kernel_rfl) ?y17 HS5 ?_
              case y17 => intro o' ho W hS; exact (by simp only [execOp, ho]; go_simp; try rfl)
              simp only [Act.put, List.setIfInBounds_toArray, List.set_cons_zero, List.set_cons_succ]
              refine heldTake (d := some 73) (op := .binOp BinOp.neq 4 (Operand.tmp 61) (Operand.tmp 72) 4) (g := none) 18 (.bool false) rfl (by kernel_rfl) (by kernel_rfl) (by kernel_rfl) (by kernel_rfl) ?y18 HS5 ?_
              case y18 => intro o' ho W hS; exact (by simp only [execOp, ho]; go_simp; try rfl)
              simp only [Act.put, List.setIfInBounds_toArray, List.set_cons_zero, List.set_cons_succ]
              refine wpAnyH_done (by kernel_rfl) ?_ _
              refine NoPanic.normal ?_
              clear SN HSE HL HCB hcl hc3 hc3b hclb HS5 HS0 HBR
              (try go_frame)
              by_cases hkt : k < nt
              · obtain rfl := hadt (by omega)
                have hlt2 : ((k : Int) < (nt : Int)) = True := eq_true (by omega)
                obtain ⟨y, hy⟩ : ∃ y, bt.getD k 0 = y := ⟨_, rfl⟩
                have hy256 : y < 256 := by rw [← hy]; exact getD_small8 HSM.out k
                have hct : w5.cell? ⟨tb, tq + k, none⟩ = some (.int .u8 (y : Int)) := by
                  rw [HL5.out.low.cell (p := ⟨tb, tq + k, none⟩) (block_lt_of_cell (hct0 k (by rw [HNT.out]; exact hkt))), hct0 k (by rw [HNT.out]; exact hkt), hy]
                obtain ⟨tl, htl⟩ : ∃ t, mm.ring.take (y : Int).toNat = t := ⟨_, rfl⟩
                obtain ⟨q, hq⟩ : ∃ q, tl.length = q := ⟨_, rfl⟩
                have TK := take_ex HL5.out (y : Int) tl htl q hq _ rfl
                have HSN2 : Sl ((takeN (cfL a b o true) mm (y : Int)).1.sent = false) := ⟨by rw [LegPlain.take_sent]; exact HSN.out⟩
                clear hy htl hq
                go_wp2_with fail
                refine TK.mono ?_
                rintro e w6 ⟨S6, rfl, -, HL6, HG6⟩
                clear TK
                have HC6 : Sl (w6.heap[cb]? = some (.cells #[.slice (some ⟨g, 0, none⟩) 1 1, .slice none 0 0, .int .i64 4, .int .i64 i1, .int .i64 i2, .int .i64 3, .int .i64 300, .int .i64 i3, .int .i64 5, .int .i64 9, .int .i64 3, .int .i64 4] 25 (0, 0)) ∧ ∀ j, S6 j → j ≠ cb) := keep_cb HL5.out HC5.out HGE.out (Below.refl _ _) HL6.out HG6.out
                go_wp2
                exact ⟨⟨k + 1, _, S6, by go_num, by omega, HSN2.out, HL6, HC6⟩, by simp [intOf]; omega⟩
              · have hlt2 : ((k : Int) < (nt : Int)) = False := eq_false (by omega)
                go_wp2
                exact ⟨⟨k + 1, mm, S5, by go_num, by omega, HSN.out, HL5, HC5⟩, by simp [intOf]; omega⟩
      · obtain rfl : k = n := by omega
        have hlt : ((k : Int) < (k : Int)) = False := eq_false (by omega)
        obtain ⟨m1, hm1⟩ : ∃ x, (LegPlain.close (cfL a b o true) m 1000 []).1 = x := ⟨_, rfl⟩
        have hcl1 : LegPlain.close (cfL a b o true) m 1000 (bytes ({ data := #[] } : ByteArray)) = (m1, true) := Prod.ext hm1 (close_yes hms)
        have hs1 : m1.sent = true := by rw [← hm1]; exact (LegPlain.close_sent _ m 1000 (.inr (by decide))).1
        have HPD : Sl (pend m1 ≤ 1000) := ⟨by rw [← hm1]; exact close_pend HL.out.good hms HL.out.cf (by show 1 + o ≤ 256; omega) (by show 1 + b ≤ 256; omega)⟩
        have HGT : Sl (m1.got = false) := ⟨by rw [← hm1, (LegPlain.close_keep _ m 1000 []).got]; exact (HL.out.good.op hms).1⟩
        have HS1 := Sl.mk hs1
        have C1 := close_ex HL.out 1000 { data := #[] } m1 true hcl1
        clear hm1 hcl1 hms HCB
        go_wp2_with fail
        refine C1.mono ?_
        rintro e w5 ⟨S5, rfl, HL5, HG5⟩
        clear C1
        have C2 := free_ex HL5.out false (shut_free hs1)
        go_wp2_with fail
        refine C2.mono ?_
        rintro e w6 ⟨rfl, rfl⟩
        clear C2
        have C3 := send_ex HL5.out 1 0 { data := #[] } m1 false (shut_send hs1 _ _)
        go_wp2_with fail
        refine C3.mono ?_
        rintro e w6 ⟨S6, rfl, HL6, -⟩
        clear C3
        have C4 := ping_ex HL6.out { data := #[] } (by decide) (by decide) m1 false (shut_ping hs1 _)
        go_wp2_with fail
        refine C4.mono ?_
        rintro e w7 ⟨S7, rfl, HL7, -⟩
        clear C4
        have C5 := close_ex HL7.out 1000 { data := #[] } m1 false (shut_close hs1 _ _)
        go_wp2_with fail
        refine C5.mono ?_
        rintro e w8 ⟨S8, rfl, HL8, -⟩
        clear C5
        have C6 := send_ex HL8.out 9 0 { data := #[] } m1 false (shut_send hs1 _ _)
        go_wp2_with fail
        refine C6.mono ?_
        rintro e w9 ⟨S9, rfl, HL9, -⟩
        clear C6 HL HL5 HL6 HL7 HL8 hs1 HG5
        obtain ⟨M, hM⟩ : ∃ M, (1000 : Nat) = M := ⟨_, rfl⟩
        have HM := Sl.mk hM
        clear hM
        go_wp2
        go_loopw [12] (fun u12 wq => ∃ (j : Nat) (x : Lg) (S1 : Nat → Prop), u12 = .int .i64 (j : Int) ∧ j ≤ M ∧ Sl (j + pend x ≤ M ∧ x.sent = true ∧ x.got = false) ∧ Sl (LegH w wq L S1 (cfL a b o true) x 1)) (fun u12 _ => M - (intOf u12).toNat)
        case atStart => exact ⟨0, m1, S9, rfl, by omega, ⟨by have := HPD.out; have := HM.out; omega, HS1.out, HGT.out⟩, HL9⟩
        case round =>
          obtain ⟨j, x, S10, rfl, hj, HX, HL10⟩ := hrel
          clear HL9
          by_cases hjm : j < M
          · have hq : decide ((j : Int) < 1000) = true := decide_eq_true (by have := HM.out; omega)
            have hj2 : (j : Int) < 1000 := by have := HM.out; omega
            by_cases hr : x.ring = []
            · have Q1 := quiet_ex HL10.out true (decide_eq_true hr)
              have Q2 := Q1
              have Q3 := sent_ex HL10.out true HX.out.2.1
              have Q4 := got_ex HL10.out false HX.out.2.2
              clear hr
              go_wp2_with fail
              refine Q1.mono ?_
              rintro e w11 ⟨rfl, rfl⟩
              clear Q1
              go_wp2_with fail
              refine Q2.mono ?_
              rintro e w11 ⟨rfl, rfl⟩
              clear Q2
              go_wp2_with fail
              refine Q3.mono ?_
              rintro e w11 ⟨rfl, rfl⟩
              clear Q3
              go_wp2_with fail
              refine Q4.mono ?_
              rintro e w11 ⟨rfl, rfl⟩
              clear Q4
              go_wp2
              go_ret
              exact ⟨rfl, HL10.out.low⟩
            · have Q1 := quiet_ex HL10.out false (decide_eq_false hr)
              obtain ⟨tl, htl⟩ : ∃ t, x.ring.take (100 : Int).toNat = t := ⟨_, rfl⟩
              obtain ⟨q, hqq⟩ : ∃ q, tl.length = q := ⟨_, rfl⟩
              have TK := take_ex HL10.out 100 tl htl q hqq _ rfl
              have HX2 : Sl (j + 1 + pend (takeN (cfL a b o true) x 100).1 ≤ M ∧ (takeN (cfL a b o true) x 100).1.sent = true ∧ (takeN (cfL a b o true) x 100).1.got = false) := ⟨by
                have := (LegPlain.take_pend HL10.out.cf.f2 HL10.out.good.few.low (n := 100) (by decide)).1 hr
                have := HX.out.1
                omega, by rw [LegPlain.take_sent]; exact HX.out.2.1, by rw [(LegPlain.take_keep _ x 100).got]; exact HX.out.2.2⟩
              clear hr htl hqq
              go_wp2_with fail
              refine Q1.mono ?_
              rintro e w11 ⟨rfl, rfl⟩
              clear Q1
              go_wp2_with fail
              refine TK.mono ?_
              rintro e w12 ⟨S12, rfl, -, HL12, -⟩
              clear TK
              go_wp2
              exact ⟨⟨j + 1, _, S12, by go_num, by omega, HX2, HL12⟩, by simp [intOf]; omega⟩
          · have hq : decide ((j : Int) < 1000) = false := decide_eq_false (by have := HM.out; omega)
            have hr : x.ring = [] := (LegPlain.quiet_pend (by have := HX.out.1; omega)).1
            have Q2 := quiet_ex HL10.out true (decide_eq_true hr)
            have Q3 := sent_ex HL10.out true HX.out.2.1
            have Q4 := got_ex HL10.out false HX.out.2.2
            clear hr
            go_wp2_with fail
            refine Q2.mono ?_
            rintro e w11 ⟨rfl, rfl⟩
            clear Q2
            go_wp2_with fail
            refine Q3.mono ?_
            rintro e w11 ⟨rfl, rfl⟩
            clear Q3
            go_wp2_with fail
            refine Q4.mono ?_
            rintro e w11 ⟨rfl, rfl⟩
            clear Q4
            go_wp2
            go_ret
            exact ⟨rfl, HL10.out.low⟩
end Go.Proofs.YtlahonjmfecikaaGreatDoor.Leg
