/- The contract of mixed of package sha: it returns what the five parts become by a block; nothing that was in memory changes. Conditions: five parts below 2^32, a block of 64 bytes, the two tables of package sha as its text lays them. -/
import Derived.Test.YtmiemklgekhfeaaDoorA
namespace Go.Proofs.YtmiemklgekhfeaaDoor
open Go.RowKit

def start : List Nat := [1732584193, 4023233417, 2562383102, 271733878, 3285377520]
def ks : List Nat := [1518500249, 1859775393, 2400959708, 3395469782]
/-- The two tables hold what the text lays. -/
def Globs (w : World) : Prop := w.rangeAt 0 0 (u32s start) ∧ w.rangeAt 1 0 (u32s ks)
theorem Globs.cellK {w : World} (h : Globs w) (i : Nat) (hi : i < 4) : w.cell? ⟨1, i, none⟩ = some (.int .u32 ((ks.getD i 0 : Nat) : Int)) := by
  have := h.2 i _ (u32s_get ks i hi)
  simpa using this
theorem Globs.size {w : World} (h : Globs w) : 2 ≤ w.heap.size := block_lt_of_cell (h.cellK 0 (by decide))
theorem Globs.below {w w' : World} {B : Nat} (h : Globs w) (hb : Below B w w') (hB : 2 ≤ B) : Globs w' :=
  ⟨fun j v hv => by rw [hb.cell (p := ⟨0, 0 + j, none⟩) (show 0 < B by omega)]; exact h.1 j v hv,
   fun j v hv => by rw [hb.cell (p := ⟨1, 0 + j, none⟩) (show 1 < B by omega)]; exact h.2 j v hv⟩

def z5 : List Nat := [0, 0, 0, 0, 0]
/-- What the loop of mixed holds to. -/
def MX (w : World) (B5 : Nat) (p ws : List Nat) (wr : World) : Prop :=
  wr.heap[w.heap.size]? = some (.cells (u32s p).toArray 50 (0, 0)) ∧ wr.heap[w.heap.size + 1 + 1]? = some (.cells (u32s z5).toArray 50 (0, 0)) ∧
    wr.heap[B5]? = some (.cells (u32s ws).toArray 58 (0, 0)) ∧ Globs wr ∧ Below w.heap.size w wr

theorem mx_start (w w1 : World) (p bl ws : List Nat) (hg : Globs w) (hb : Below (w.heap.size + 1 + 1 + 1) (((w.alloc (.cells (u32s p).toArray 50)).alloc (.cells (u8s bl).toArray 51)).alloc (.cells (u32s z5).toArray 50)) w1) :
    MX w w1.heap.size p ws ((w1.alloc (.cells (u32s z80).toArray 58)).setRow w1.heap.size (u32s ws).toArray) := by
  have h := alloc3 w (.cells (u32s p).toArray 50) (.cells (u8s bl).toArray 51) (.cells (u32s z5).toArray 50)
  have hsz := hb.size
  rw [h.1] at hsz
  have hB : Below w.heap.size w ((w1.alloc (.cells (u32s z80).toArray 58)).setRow w1.heap.size (u32s ws).toArray) :=
    below_setRow (((h.2.2.2.2).trans (hb.mono (by omega))).alloc (by omega) _) (by omega) _
  refine ⟨?_, ?_, ?_, hg.below hB hg.size, hB⟩
  · rw [setRow_other _ _ _ _ (by omega), alloc_old _ _ _ (by omega), hb.block _ (by omega), h.2.1]
  · rw [setRow_other _ _ _ _ (by omega), alloc_old _ _ _ (by omega), hb.block _ (by omega), h.2.2.2.1]
  · exact setRow_heap _ _ _ _ _ _ (alloc_new _ _ _ rfl)
theorem MX.drew {w wr : World} {B5 : Nat} {p ws : List Nat} (h : MX w B5 p ws wr) : MX w B5 p ws wr.drew :=
  ⟨h.1, h.2.1, h.2.2.1, h.2.2.2.1.below (Below.refl 2 wr).drew (Nat.le_refl _), h.2.2.2.2.drew⟩

theorem chosen_still (t : Nat) (b c d : Nat) (w : World) (ht : t < 80) (hb : b < 4294967296) (hc : c < 4294967296) (hd : d < 4294967296) :
    Calls Tryd.prog 29 #[.int .i64 t, .int .u32 b, .int .u32 c, .int .u32 d] w fun e w' => e = .returned (.int .u32 (ch t b c d : Nat)) ∧ w' = w :=
  (chosen_any t b c d w ht hb hc hd).mono fun _ _ ⟨he, hw⟩ => ⟨he, hw.symm⟩
theorem ks_kt (k : Nat) (h : k < 80) : ks.getD (k / 20) 0 = kt k := by
  unfold kt
  have h4 : k / 20 < 4 := by omega
  by_cases h1 : k < 20
  · rw [if_pos h1, show k / 20 = 0 by omega]; rfl
  · rw [if_neg h1]
    by_cases h2 : k < 40
    · rw [if_pos h2, show k / 20 = 1 by omega]; rfl
    · rw [if_neg h2]
      by_cases h3 : k < 60
      · rw [if_pos h3, show k / 20 = 2 by omega]; rfl
      · rw [if_neg h3, show k / 20 = 3 by omega]; rfl
theorem add_int (a b : Nat) : IntKind.u32.wrap ((a : Int) + (b : Int)) = (((a + b) % 4294967296 : Nat) : Int) := by rw [← Int.natCast_add, wrapu32]

set_option maxHeartbeats 400000 in
theorem mixed_any (p bl : List Nat) (w : World) (hp : p.length = 5) (hps : Small 4294967296 p) (hl : bl.length = 64) (hs : Small 256 bl) (hg : Globs w) :
    Calls Tryd.prog 24 #[.agg (u32s p).toArray, .agg (u8s bl).toArray] w fun e w' => e = .returned (.agg (u32s (mix p bl)).toArray) ∧ Below w.heap.size w w' := by
  have HP := Lib.hid hp
  have HPS := Lib.hid hps
  have HL := Lib.hid hl
  have HS := Lib.hid hs
  have HG := Lib.hid hg
  have HI51 : Hid ((Tryd.prog.info? 51).map (·.size) = some (u8s bl).toArray.size) := by
    have : (Tryd.prog.info? 51).map (·.size) = some 64 := by kernel_rfl
    simpa [Hid, hl] using this
  have hz := zero58
  clear hp hps hl hs hg
  go_enter Tryd.func24, Tryd.ntmps24
  go_wp2_with (first
    | (refine wpList_load_row rfl 51 (.tmp 3) rfl (w.heap.size + 1) rfl 51 _ (0, 0) (.array 64 5) (by rw [alloc_old _ _ _ (by simp)]; exact alloc_new _ _ _ (by simp)) Tryd.underlying51 rfl HI51.out ?_))
  refine (words_any bl _ HL.out HS.out).mono ?_
  rintro e w1 ⟨rfl, hb⟩
  have HB := Lib.hid hb
  have HI58 : Hid ((Tryd.prog.info? 58).map (·.size) = some (u32s (words bl 80)).toArray.size) := by
    have := (zero_of_info info58).2
    simpa [Hid, words_length] using this
  have HO : Hid ((u32s z80).toArray.size = (u32s (words bl 80)).toArray.size) := by simp [Hid, words_length, z80]
  have HWS : Hid (Small 4294967296 (words bl 80)) := words_small HS.out 80
  have HWL : Hid ((words bl 80).length = 80) := words_length bl 80
  clear hb
  go_wp2_with (refine wpList_store_row rfl 58 (.tmp 5) (.tmp 14) rfl w1.heap.size _ rfl rfl 58 _ (alloc_new _ _ _ rfl) HI58.out HO.out (all_oneCell_toArray (u32s_one _)) ?_)
  have hM := mx_start w w1 p bl (words bl 80) HG.out (by simpa [z5, u32s, v32] using HB.out)
  clear HB HI58 HO hz HI51
  generalize hws : words bl 80 = ws at *
  have HWE := Sl.mk hws
  clear hws
  generalize World.setRow _ _ _ = w2 at *
  generalize w1.heap.size = B5 at *
  clear w1
  have c0 := row_cell hM.1 0 _ (u32s_get p 0 (by have := HP.out; omega))
  have c1 := row_cell hM.1 1 _ (u32s_get p 1 (by have := HP.out; omega))
  have c2 := row_cell hM.1 2 _ (u32s_get p 2 (by have := HP.out; omega))
  have c3 := row_cell hM.1 3 _ (u32s_get p 3 (by have := HP.out; omega))
  have c4 := row_cell hM.1 4 _ (u32s_get p 4 (by have := HP.out; omega))
  have HM := Sl.mk hM
  clear hM
  go_still (by kernel_rfl)
  change Exit.then _ _ _ _ w2.drew
  replace HM : Sl (MX w B5 p ws w2.drew) := ⟨HM.out.drew⟩
  clear c0 c1 c2 c3 c4
  generalize w2.drew = w3 at *
  clear w2
  go_wp2
  go_loopw [6, 7, 8, 9, 10, 25] (fun a b c d e i wr => ∃ k x0 x1 x2 x3 x4 : Nat, k ≤ 80 ∧ rounds ws (five p) k = (x0, x1, x2, x3, x4) ∧ i = .int .i64 k ∧ a = .int .u32 x0 ∧ b = .int .u32 x1 ∧
      c = .int .u32 x2 ∧ d = .int .u32 x3 ∧ e = .int .u32 x4 ∧ MX w B5 p ws wr)
      (fun _ _ _ _ _ i _ => 80 - (intOf i).toNat)
  case atStart => exact ⟨0, _, _, _, _, _, by omega, rfl, rfl, rfl, rfl, rfl, rfl, rfl, HM.out⟩
  case round =>
    clear HM
    obtain ⟨k, x0, x1, x2, x3, x4, hk, hR, rfl, rfl, rfl, rfl, rfl, rfl, hM⟩ := hrel
    have HM := Sl.mk hM
    have hsm : SmallS (rounds ws (five p) k) := rounds_small ⟨HPS.out 0, HPS.out 1, HPS.out 2, HPS.out 3, HPS.out 4⟩ k
    rw [hR] at hsm
    obtain ⟨ha, hb, hc, hd, he⟩ := hsm
    have HR := Sl.mk hR
    have HA : Hid (x0 < 4294967296) := ha
    have HB : Hid (x1 < 4294967296) := hb
    have HC : Hid (x2 < 4294967296) := hc
    have HD : Hid (x3 < 4294967296) := hd
    have HE : Hid (x4 < 4294967296) := he
    clear ha hb hc hd he hR
    by_cases hlt : k < 80
    · have cw := row_cell hM.2.2.1 k _ (u32s_get ws k (by have := HWL.out; omega))
      have ck := hM.2.2.2.1.cellK (k / 20) (by omega)
      rw [ks_kt k hlt] at ck
      clear hM
      go_wp2
      have q0 : IntKind.i64.wrap ((k : Int) / 20) = (k : Int) / 20 := IntWalk.i64_in _ (by omega)
      have q1 : (0 : Int) ≤ (k : Int) / 20 := by omega
      have q2 : (k : Int) / 20 < 4 := by omega
      have q3 : (k : Int) < 80 := by omega
      have q4 : ((k : Int) / 20).toNat = k / 20 := by omega
      refine wp_region_still_lit (by kernel_rfl) (by kernel_rfl) ?_
      repeat still_step
      still_call (turned_still _ x0 5 _ rfl HA.out (by omega) (by omega))
      repeat still_step
      still_call (chosen_still k x1 x2 x3 _ hlt HB.out HC.out HD.out)
      repeat still_step
      refine wpStill_nil ?_
      simp only [add_int]
      obtain ⟨nv, hnv⟩ : ∃ nv, nv = ((((rot x0 5 + ch k x1 x2 x3) % 4294967296 + x4) % 4294967296 + ws[k]?.getD 0) % 4294967296 + kt k) % 4294967296 := ⟨_, rfl⟩
      rw [← hnv]
      have HNV := Sl.mk hnv
      clear hnv
      change Exit.then _ _ _ _ wr.drew
      clear q0 q1 q2 q4 cw ck
      go_wp2_with (go_at_call 28; refine (turned_any x1 30 _ HB.out (by omega) (by omega)).mono ?_; rintro e w' ⟨rfl, rfl⟩)
      go_roundw
      case rel => exact ⟨k + 1, _, _, _, _, _, by omega, by rw [rounds, HR.out, HNV.out]; rfl, by go_num, rfl, rfl, rfl, rfl, rfl, HM.out.drew⟩
      case measure => simp [intOf]; omega
    · have e : k = 80 := by omega
      have hge : 80 ≤ k := by omega
      have c0 := row_cell hM.1 0 _ (u32s_get p 0 (by have := HP.out; omega))
      have c1 := row_cell hM.1 1 _ (u32s_get p 1 (by have := HP.out; omega))
      have c2 := row_cell hM.1 2 _ (u32s_get p 2 (by have := HP.out; omega))
      have c3 := row_cell hM.1 3 _ (u32s_get p 3 (by have := HP.out; omega))
      have c4 := row_cell hM.1 4 _ (u32s_get p 4 (by have := HP.out; omega))
      have hbp : wr.heap[w.heap.size + 1 + 1]? = _ := hM.2.1
      have HRES : Sl (mix p bl = [(p.getD 0 0 + x0) % 4294967296, (p.getD 1 0 + x1) % 4294967296, (p.getD 2 0 + x2) % 4294967296, (p.getD 3 0 + x3) % 4294967296, (p.getD 4 0 + x4) % 4294967296]) := by
        refine ⟨?_⟩
        have hR := HR.out
        rw [e] at hR
        unfold mix
        rw [HWE.out, hR]
      have HBP := Sl.mk hbp
      clear hM hbp e hk hlt HR
      have HI50 : Sl ((Tryd.prog.info? 50).map (·.size) = some (u32s (mix p bl)).toArray.size) := ⟨by
        have : (Tryd.prog.info? 50).map (·.size) = some 5 := by kernel_rfl
        simpa [mix_length] using this⟩
      have HV : Sl ((Value.agg #[.int .u32 (((p[0]?.getD 0 : Nat) + x0 : Int) % 4294967296), .int .u32 (((p[1]?.getD 0 : Nat) + x1 : Int) % 4294967296), .int .u32 (((p[2]?.getD 0 : Nat) + x2 : Int) % 4294967296),
          .int .u32 (((p[3]?.getD 0 : Nat) + x3 : Int) % 4294967296), .int .u32 (((p[4]?.getD 0 : Nat) + x4 : Int) % 4294967296)]) = .agg (u32s (mix p bl)).toArray) := ⟨by
        rw [HRES.out]
        simp [u32s, v32]⟩
      have HO5 : Sl ((u32s z5).toArray.size = (u32s (mix p bl)).toArray.size) := ⟨by simp [mix_length, z5]⟩
      go_wp2_with (refine wpList_store_row rfl 50 (.tmp 4) (.tmp 74) rfl (w.heap.size + 1 + 1) (u32s (mix p bl)).toArray rfl HV.out 50 _ HBP.out HI50.out HO5.out (all_oneCell_toArray (u32s_one _)) ?_)
      refine bodyPost_ret (v := .agg (u32s (mix p bl)).toArray) ?_ rfl ⟨rfl, below_setRow HM.out.2.2.2.2 (by omega) _⟩
      exact results_cell_row Tryd.results24 _ _ (w.heap.size + 1 + 1) 50 _ (0, 0) (.array 5 49) rfl (setRow_heap _ _ _ _ _ _ HBP.out) Tryd.underlying50 rfl HI50.out
end Go.Proofs.YtmiemklgekhfeaaDoor
