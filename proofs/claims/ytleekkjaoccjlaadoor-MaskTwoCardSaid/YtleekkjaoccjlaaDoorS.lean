/- mask: MaskTwo's walk. -/
import Derived.Test.YtleekkjaoccjlaaDoorR
set_option maxRecDepth 100000
namespace Go.Proofs.YtleekkjaoccjlaaDoor
open Go.RowKit MaskPlain

theorem four {l : List Nat} (h : l.length = 4) : ∃ a b c d, l = [a, b, c, d] := by
  match l, h with
  | [a, b, c, d], _ => exact ⟨a, b, c, d, rfl⟩

set_option maxHeartbeats 4000000 in
theorem two_walk (ka kb : List Nat) (n : Nat) (s : ByteArray) (w : World) (hg : Globs w) (hka : ka.length = 4) (hsa : Small 256 ka) (hkb : kb.length = 4) (hsb : Small 256 kb) (hn : n < 65536) :
    Calls Tryd.prog 8 #[.agg (u8s ka).toArray, .agg (u8s kb).toArray, .int .u16 n, .string s] w fun e w' => e = .returned (.bool true) ∧ Below w.heap.size w w' := by
  have HG := Sl.mk hg
  have HLA := Sl.mk hka
  have HSA := Sl.mk hsa
  have HLB := Sl.mk hkb
  have HSB := Sl.mk hsb
  have HIA := Sl.mk (key_info hka)
  have HIB := Sl.mk (key_info hkb)
  have f1 : IntKind.i64.wrap (n : Int) = (n : Int) := by rw [IntKind.wrap_i64]; omega
  obtain ⟨kc, hkc⟩ : ∃ kc : List Nat, kc = [ka.getD 0 0 ^^^ kb.getD 0 0, ka.getD 1 0 ^^^ kb.getD 1 0, ka.getD 2 0 ^^^ kb.getD 2 0, ka.getD 3 0 ^^^ kb.getD 3 0] := ⟨_, rfl⟩
  have hx : ∀ i, ka.getD i 0 ^^^ kb.getD i 0 < 256 := fun i => Nat.xor_lt_two_pow (n := 8) (hsa.getD (by omega) i) (hsb.getD (by omega) i)
  have HLC : Sl (kc.length = 4) := ⟨by rw [hkc]; rfl⟩
  have HSC : Sl (Small 256 kc) := ⟨by
    rw [hkc]
    intro x hx'
    simp only [List.mem_cons, List.not_mem_nil, or_false] at hx'
    rcases hx' with rfl | rfl | rfl | rfl <;> exact hx _⟩
  have HIC := Sl.mk (key_info HLC.out)
  have H2 : Sl (∀ (k : Nat) (l : List Nat), turn kb k (turn ka k l) = turn kc k l) := ⟨fun k l => turn_two (fun i hi => by
    rw [hkc]
    match i, hi with
    | 0, _ => rfl
    | 1, _ => rfl
    | 2, _ => rfl
    | 3, _ => rfl) k l⟩
  obtain ⟨w1, hw1⟩ : ∃ w1, w.alloc (.cells (u8s ka).toArray 22) = w1 := ⟨_, rfl⟩
  have HB1 : Sl (Below w.heap.size w w1) := ⟨by rw [← hw1]; exact (Below.refl _ _).alloc (Nat.le_refl _) _⟩
  have HYA1 : Sl (w1.heap[w.heap.size]? = some (.cells (u8s ka).toArray 22 (0, 0))) := ⟨by rw [← hw1]; exact alloc_new _ _ _ rfl⟩
  have HZ1 : Sl (w1.heap.size = w.heap.size + 1) := ⟨by rw [← hw1, alloc_size]⟩
  have hw1s := HZ1.out
  obtain ⟨w2, hw2⟩ : ∃ w2, w1.alloc (.cells (u8s kb).toArray 22) = w2 := ⟨_, rfl⟩
  have HB2 : Sl (Below w.heap.size w w2) := ⟨by rw [← hw2]; exact HB1.out.alloc (by rw [HZ1.out]; omega) _⟩
  have HYA2 : Sl (w2.heap[w.heap.size]? = some (.cells (u8s ka).toArray 22 (0, 0))) := ⟨by rw [← hw2, alloc_old _ _ _ (by rw [HZ1.out]; omega)]; exact HYA1.out⟩
  have HYB2 : Sl (w2.heap[w.heap.size + 1]? = some (.cells (u8s kb).toArray 22 (0, 0))) := ⟨by rw [← hw2]; exact alloc_new _ _ _ HZ1.out.symm⟩
  obtain ⟨a0, a1, a2, a3, hka4⟩ := four hka
  obtain ⟨b0, b1, b2, b3, hkb4⟩ := four hkb
  rw [hka4, hkb4] at hkc
  simp only [List.getD_cons_zero, List.getD_cons_succ] at hkc
  have x0 := u8_xor_nat a0 b0 (hsa a0 (by rw [hka4]; simp)) (hsb b0 (by rw [hkb4]; simp))
  have x1 := u8_xor_nat a1 b1 (hsa a1 (by rw [hka4]; simp)) (hsb b1 (by rw [hkb4]; simp))
  have x2 := u8_xor_nat a2 b2 (hsa a2 (by rw [hka4]; simp)) (hsb b2 (by rw [hkb4]; simp))
  have x3 := u8_xor_nat a3 b3 (hsa a3 (by rw [hka4]; simp)) (hsb b3 (by rw [hkb4]; simp))
  obtain ⟨c0, hc0⟩ : ∃ c, a0 ^^^ b0 = c := ⟨_, rfl⟩
  obtain ⟨c1, hc1⟩ : ∃ c, a1 ^^^ b1 = c := ⟨_, rfl⟩
  obtain ⟨c2, hc2⟩ : ∃ c, a2 ^^^ b2 = c := ⟨_, rfl⟩
  obtain ⟨c3, hc3⟩ : ∃ c, a3 ^^^ b3 = c := ⟨_, rfl⟩
  rw [hc0] at x0 hkc
  rw [hc1] at x1 hkc
  rw [hc2] at x2 hkc
  rw [hc3] at x3 hkc
  have HKA := Sl.mk hka4
  have HKB := Sl.mk hkb4
  have HKC := Sl.mk hkc
  clear hg hka hsa hkb hsb hx hkc hka4 hkb4 hc0 hc1 hc2 hc3
  go_enter Tryd.func8, Tryd.ntmps8
  go_wp2_with fail
  refine (awake_any w2 (HG.out.below HB2.out HG.out.size)).mono ?_
  rintro e w3 ⟨rfl, HX3⟩
  have HB3 : Sl (Below w.heap.size w w3) := ⟨HB2.out.trans (HX3.out.mono HB2.out.size)⟩
  have HYA3 := Sl.mk (below_key HYA2.out HX3.out)
  have HYB3 := Sl.mk (below_key HYB2.out HX3.out)
  by_cases hl : s.size > 300
  · go_wp2_with fail
    refine (awake_any w3 (HG.out.below HB3.out HG.out.size)).mono ?_
    rintro e w4 ⟨rfl, HX4⟩
    have HB4 : Sl (Below w.heap.size w w4) := ⟨HB3.out.trans (HX4.out.mono HB3.out.size)⟩
    go_wp2
    go_ret
    exact ⟨rfl, HB4.out⟩
  have hl2 : s.size ≤ 300 := by omega
  clear hl
  have p0 : w3.cell? ⟨w.heap.size, 0, none⟩ = some (.int .u8 (a0 : Int)) := by rw [cell_of_row _ _ _ _ _ _ HYA3.out, HKA.out]; rfl
  have p1 : w3.cell? ⟨w.heap.size, 1, none⟩ = some (.int .u8 (a1 : Int)) := by rw [cell_of_row _ _ _ _ _ _ HYA3.out, HKA.out]; rfl
  have p2 : w3.cell? ⟨w.heap.size, 2, none⟩ = some (.int .u8 (a2 : Int)) := by rw [cell_of_row _ _ _ _ _ _ HYA3.out, HKA.out]; rfl
  have p3 : w3.cell? ⟨w.heap.size, 3, none⟩ = some (.int .u8 (a3 : Int)) := by rw [cell_of_row _ _ _ _ _ _ HYA3.out, HKA.out]; rfl
  have q0 : w3.cell? ⟨w.heap.size + 1, 0, none⟩ = some (.int .u8 (b0 : Int)) := by rw [cell_of_row _ _ _ _ _ _ HYB3.out, HKB.out]; rfl
  have q1 : w3.cell? ⟨w.heap.size + 1, 1, none⟩ = some (.int .u8 (b1 : Int)) := by rw [cell_of_row _ _ _ _ _ _ HYB3.out, HKB.out]; rfl
  have q2 : w3.cell? ⟨w.heap.size + 1, 2, none⟩ = some (.int .u8 (b2 : Int)) := by rw [cell_of_row _ _ _ _ _ _ HYB3.out, HKB.out]; rfl
  have q3 : w3.cell? ⟨w.heap.size + 1, 3, none⟩ = some (.int .u8 (b3 : Int)) := by rw [cell_of_row _ _ _ _ _ _ HYB3.out, HKB.out]; rfl
  go_upto_region 4 with fail
  have HYC : Sl ((w3.alloc (.cells #[.int .u8 (c0 : Int), .int .u8 (c1 : Int), .int .u8 (c2 : Int), .int .u8 (c3 : Int)] 22)).heap[w3.heap.size]? = some (.cells (u8s kc).toArray 22 (0, 0))) := ⟨by rw [HKC.out]; exact alloc_new _ _ _ rfl⟩
  obtain ⟨R, hR⟩ : ∃ R, (w3.alloc (.cells #[.int .u8 (c0 : Int), .int .u8 (c1 : Int), .int .u8 (c2 : Int), .int .u8 (c3 : Int)] 22)).drew = R := ⟨_, rfl⟩
  have HAL : Sl (Below w3.heap.size w3 R) := ⟨by rw [← hR]; exact ((Below.refl _ _).alloc (Nat.le_refl _) _).drew⟩
  have HS0 : Below w.heap.size w R ∧ R.heap[w.heap.size]? = some (.cells (u8s ka).toArray 22 (0, 0)) ∧ R.heap[w.heap.size + 1]? = some (.cells (u8s kb).toArray 22 (0, 0)) ∧ R.heap[w3.heap.size]? = some (.cells (u8s kc).toArray 22 (0, 0)) := ⟨HB3.out.trans (HAL.out.mono HB3.out.size), below_key HYA3.out HAL.out, below_key HYB3.out HAL.out, by rw [← hR]; exact HYC.out⟩
  clear p0 p1 p2 p3 q0 q1 q2 q3 x0 x1 x2 x3
  obtain ⟨K, hK⟩ : ∃ K, rest4 (n : Int) = K := ⟨_, rfl⟩
  have HK := Sl.mk hK
  have HL1 : Sl ((turn ka K (bytes s)).length = s.size) := ⟨by rw [turn_length, bytes_length]⟩
  have HS1X : Sl (Small 256 (turn ka K (bytes s))) := ⟨turn_lt ka K _ (bytes_small s) (fun i => HSA.out.getD (by omega) i)⟩
  have HZ : Sl (turn (zs 4) K (bytes s) = bytes s) := ⟨turn_zero (fun i hi => by
    match i, hi with
    | 0, _ => rfl
    | 1, _ => rfl
    | 2, _ => rfl
    | 3, _ => rfl) K (bytes s)⟩
  have H12 := Sl.mk (H2.out K (bytes s))
  obtain ⟨X, hX⟩ : ∃ X, turn kc K (bytes s) = X := ⟨_, rfl⟩
  have HX := Sl.mk hX
  have HXL : Sl (X.length = s.size) := ⟨by rw [← hX, turn_length, bytes_length]⟩
  rw [hX] at H12
  obtain ⟨xs, hxs⟩ : ∃ xs, strOf X = xs := ⟨_, rfl⟩
  have HXS := Sl.mk hxs
  clear hK hX hxs
  refine wp_region_noPanic ?_
  refine wp_region_held (S := fun V => Below w.heap.size w V ∧ V.heap[w.heap.size]? = some (.cells (u8s ka).toArray 22 (0, 0)) ∧ V.heap[w.heap.size + 1]? = some (.cells (u8s kb).toArray 22 (0, 0)) ∧ V.heap[w3.heap.size]? = some (.cells (u8s kc).toArray 22 (0, 0))) (by kernel_rfl) ?_
  change wpAnyH _ _ _ _ _ _ _ _ (w3.alloc (.cells #[.int .u8 (c0 : Int), .int .u8 (c1 : Int), .int .u8 (c2 : Int), .int .u8 (c3 : Int)] 22)).drew
  rw [hR]
  clear hR HAL HYC
  refine heldTake (d := some 40) (op := .load 22 (Operand.tmp 5)) (g := none) 0 (.agg (u8s kb).toArray) rfl (by kernel_rfl) (by kernel_rfl) (by kernel_rfl) (by kernel_rfl) ?y0 HS0 ?_
  case y0 => intro o' ho W hS; exact loadrun ho (by rfl) HIB.out hS.2.2.1
  simp only [Act.put, List.setIfInBounds_toArray, List.set_cons_zero, List.set_cons_succ]
  refine heldTake (d := some 41) (op := .move (Operand.tmp 2)) (g := none) 1 ?v1 rfl (by kernel_rfl) (by kernel_rfl) (by kernel_rfl) (by kernel_rfl) ?y1 HS0 ?_
  case y1 => intro o' ho W hS; simp only [execOp, ho]; go_simp; try rfl
  simp only [Act.put, List.setIfInBounds_toArray, List.set_cons_zero, List.set_cons_succ]
  refine heldTake (d := some 42) (op := .convert 28 3 (Operand.tmp 41)) (g := none) 2 ?v2 rfl (by kernel_rfl) (by kernel_rfl) (by kernel_rfl) (by kernel_rfl) ?y2 HS0 ?_
  case y2 => intro o' ho W hS; simp only [execOp, ho]; go_simp; try rfl
  simp only [Act.put, List.setIfInBounds_toArray, List.set_cons_zero, List.set_cons_succ]
  refine heldTake (d := some 43) (op := .load 22 (Operand.tmp 4)) (g := none) 3 (.agg (u8s ka).toArray) rfl (by kernel_rfl) (by kernel_rfl) (by kernel_rfl) (by kernel_rfl) ?y3 HS0 ?_
  case y3 => intro o' ho W hS; exact loadrun ho (by rfl) HIA.out hS.2.1
  simp only [Act.put, List.setIfInBounds_toArray, List.set_cons_zero, List.set_cons_succ]
  refine heldTake (d := some 44) (op := .move (Operand.tmp 2)) (g := none) 4 ?v4 rfl (by kernel_rfl) (by kernel_rfl) (by kernel_rfl) (by kernel_rfl) ?y4 HS0 ?_
  case y4 => intro o' ho W hS; simp only [execOp, ho]; go_simp; try rfl
  simp only [Act.put, List.setIfInBounds_toArray, List.set_cons_zero, List.set_cons_succ]
  refine heldTake (d := some 45) (op := .convert 28 3 (Operand.tmp 44)) (g := none) 5 ?v5 rfl (by kernel_rfl) (by kernel_rfl) (by kernel_rfl) (by kernel_rfl) ?y5 HS0 ?_
  case y5 => intro o' ho W hS; simp only [execOp, ho]; go_simp; try rfl
  simp only [Act.put, List.setIfInBounds_toArray, List.set_cons_zero, List.set_cons_succ]
  refine heldTake (d := some 46) (op := .move (Operand.tmp 3)) (g := none) 6 ?v6 rfl (by kernel_rfl) (by kernel_rfl) (by kernel_rfl) (by kernel_rfl) ?y6 HS0 ?_
  case y6 => intro o' ho W hS; simp only [execOp, ho]; go_simp; try rfl
  simp only [Act.put, List.setIfInBounds_toArray, List.set_cons_zero, List.set_cons_succ]
  obtain ⟨cap, R1, hconv, HS1, HC1⟩ := conv_str s R
  have HT1 : Below w.heap.size w R1 ∧ R1.heap[w.heap.size]? = some (.cells (u8s ka).toArray 22 (0, 0)) ∧ R1.heap[w.heap.size + 1]? = some (.cells (u8s kb).toArray 22 (0, 0)) ∧ R1.heap[w3.heap.size]? = some (.cells (u8s kc).toArray 22 (0, 0)) := ⟨HS0.1.trans (HC1.out.mono HS0.1.size), below_key HS0.2.1 HC1.out, below_key HS0.2.2.1 HC1.out, below_key HS0.2.2.2 HC1.out⟩
  refine heldRunT (d := some 47) (op := .convert 9 24 (Operand.tmp 46)) (g := none) (t := 24) 7 (.slice (some ⟨R.heap.size, 0, none⟩) s.size cap) R1 rfl (by kernel_rfl) (by kernel_rfl) ?y7 HT1 ?_
  case y7 => intro o' ho _; simp only [execOp, ho]; go_simp; try rfl
  simp only [Act.put, List.setIfInBounds_toArray, List.set_cons_zero, List.set_cons_succ]
  refine heldCall (d := some 48) (op := .call { callee := Callee.value (Operand.func 11), args := #[Operand.tmp 43, Operand.tmp 45, Operand.tmp 47], argTypes := #[22, 3, 24] }) (g := none) 8 11 #[.agg (u8s ka).toArray, .int .i64 (n : Int), .slice (some ⟨R.heap.size, 0, none⟩) s.size cap] rfl (by kernel_rfl) (by kernel_rfl) ?y8 ?_
  case y8 => intro o' ho; simp only [execOp, ho]; go_simp; try rfl
  refine (apply_len ka n _ (bytes s) s.size R1 HLA.out HSA.out HS1.out (bytes_small s) (by omega) (bytes_length s)).mono ?_
  rintro e R2 ⟨g2, rfl, HR2, HC2⟩
  have HT2 : Below w.heap.size w R2 ∧ R2.heap[w.heap.size]? = some (.cells (u8s ka).toArray 22 (0, 0)) ∧ R2.heap[w.heap.size + 1]? = some (.cells (u8s kb).toArray 22 (0, 0)) ∧ R2.heap[w3.heap.size]? = some (.cells (u8s kc).toArray 22 (0, 0)) := ⟨HT1.1.trans (HC2.out.mono HT1.1.size), below_key HT1.2.1 HC2.out, below_key HT1.2.2.1 HC2.out, below_key HT1.2.2.2 HC2.out⟩
  rw [HK.out] at HR2
  refine ⟨_, rfl, HT2, ?_⟩
  simp only [Act.put, List.setIfInBounds_toArray, List.set_cons_zero, List.set_cons_succ]
  refine heldCall (d := some 49) (op := .call { callee := Callee.value (Operand.func 11), args := #[Operand.tmp 40, Operand.tmp 42, Operand.tmp 48], argTypes := #[22, 3, 24] }) (g := none) 9 11 #[.agg (u8s kb).toArray, .int .i64 (n : Int), .slice (some ⟨g2, 0, none⟩) s.size s.size] rfl (by kernel_rfl) (by kernel_rfl) ?y9 ?_
  case y9 => intro o' ho; simp only [execOp, ho]; go_simp; try rfl
  refine (apply_len kb n _ _ s.size R2 HLB.out HSB.out (src_len HR2.out.src HL1.out) HS1X.out (by omega) HL1.out).mono ?_
  rintro e R3 ⟨gx, rfl, HR3, HC3⟩
  have HT3 : Below w.heap.size w R3 ∧ R3.heap[w.heap.size]? = some (.cells (u8s ka).toArray 22 (0, 0)) ∧ R3.heap[w.heap.size + 1]? = some (.cells (u8s kb).toArray 22 (0, 0)) ∧ R3.heap[w3.heap.size]? = some (.cells (u8s kc).toArray 22 (0, 0)) := ⟨HT2.1.trans (HC3.out.mono HT2.1.size), below_key HT2.2.1 HC3.out, below_key HT2.2.2.1 HC3.out, below_key HT2.2.2.2 HC3.out⟩
  rw [HK.out, H12.out] at HR3
  refine ⟨_, rfl, HT3, ?_⟩
  simp only [Act.put, List.setIfInBounds_toArray, List.set_cons_zero, List.set_cons_succ]
  refine heldTake (d := some 10) (op := .assign (Operand.tmp 49)) (g := none) 10 ?v10 rfl (by kernel_rfl) (by kernel_rfl) (by kernel_rfl) (by kernel_rfl) ?y10 HT3 ?_
  case y10 => intro o' ho W hS; simp only [execOp, ho]; go_simp; try rfl
  simp only [Act.put, List.setIfInBounds_toArray, List.set_cons_zero, List.set_cons_succ]
  refine wpAnyH_done (by kernel_rfl) ?_ _
  refine NoPanic.normal ?_
  clear hconv
  go_upto_region 5 with fail
  obtain ⟨Q, hQ⟩ : ∃ Q, R3.drew = Q := ⟨_, rfl⟩
  have HU0 : Below w.heap.size w Q ∧ Q.heap[w.heap.size]? = some (.cells (u8s ka).toArray 22 (0, 0)) ∧ Q.heap[w.heap.size + 1]? = some (.cells (u8s kb).toArray 22 (0, 0)) ∧ Q.heap[w3.heap.size]? = some (.cells (u8s kc).toArray 22 (0, 0)) ∧ RowB Q gx X := ⟨by rw [← hQ]; exact HT3.1.drew, by rw [← hQ]; exact HT3.2.1, by rw [← hQ]; exact HT3.2.2.1, by rw [← hQ]; exact HT3.2.2.2, by rw [← hQ]; exact HR3.out⟩
  refine wp_region_noPanic ?_
  refine wp_region_held (S := fun V => Below w.heap.size w V ∧ V.heap[w.heap.size]? = some (.cells (u8s ka).toArray 22 (0, 0)) ∧ V.heap[w.heap.size + 1]? = some (.cells (u8s kb).toArray 22 (0, 0)) ∧ V.heap[w3.heap.size]? = some (.cells (u8s kc).toArray 22 (0, 0)) ∧ RowB V gx X) (by kernel_rfl) ?_
  change wpAnyH _ _ _ _ _ _ _ _ R3.drew
  rw [hQ]
  clear hQ
  refine heldTake (d := some 50) (op := .move (Operand.tmp 10)) (g := none) 0 ?v0q rfl (by kernel_rfl) (by kernel_rfl) (by kernel_rfl) (by kernel_rfl) ?y0q HU0 ?_
  case y0q => intro o' ho W hS; simp only [execOp, ho]; go_simp; try rfl
  simp only [Act.put, List.setIfInBounds_toArray, List.set_cons_zero, List.set_cons_succ]
  refine heldTake (d := some 51) (op := .convert 24 9 (Operand.tmp 50)) (g := none) 1 ?v1q rfl (by kernel_rfl) (by kernel_rfl) (by kernel_rfl) (by kernel_rfl) ?y1q HU0 ?_
  case y1q => intro o' ho W hS; have cS := hS.2.2.2.2.str HXL.out; rw [HXS.out] at cS; simp only [execOp, ho]; go_simp; try rfl
  simp only [Act.put, List.setIfInBounds_toArray, List.set_cons_zero, List.set_cons_succ]
  refine heldTake (d := some 52) (op := .load 22 (Operand.tmp 9)) (g := none) 2 (.agg (u8s kc).toArray) rfl (by kernel_rfl) (by kernel_rfl) (by kernel_rfl) (by kernel_rfl) ?y2q HU0 ?_
  case y2q => intro o' ho W hS; exact loadrun ho (by rfl) HIC.out hS.2.2.2.1
  simp only [Act.put, List.setIfInBounds_toArray, List.set_cons_zero, List.set_cons_succ]
  refine heldTake (d := some 53) (op := .move (Operand.tmp 2)) (g := none) 3 ?v3q rfl (by kernel_rfl) (by kernel_rfl) (by kernel_rfl) (by kernel_rfl) ?y3q HU0 ?_
  case y3q => intro o' ho W hS; simp only [execOp, ho]; go_simp; try rfl
  simp only [Act.put, List.setIfInBounds_toArray, List.set_cons_zero, List.set_cons_succ]
  refine heldTake (d := some 54) (op := .convert 28 3 (Operand.tmp 53)) (g := none) 4 ?v4q rfl (by kernel_rfl) (by kernel_rfl) (by kernel_rfl) (by kernel_rfl) ?y4q HU0 ?_
  case y4q => intro o' ho W hS; simp only [execOp, ho]; go_simp; try rfl
  simp only [Act.put, List.setIfInBounds_toArray, List.set_cons_zero, List.set_cons_succ]
  refine heldTake (d := some 55) (op := .move (Operand.tmp 3)) (g := none) 5 ?v5q rfl (by kernel_rfl) (by kernel_rfl) (by kernel_rfl) (by kernel_rfl) ?y5q HU0 ?_
  case y5q => intro o' ho W hS; simp only [execOp, ho]; go_simp; try rfl
  simp only [Act.put, List.setIfInBounds_toArray, List.set_cons_zero, List.set_cons_succ]
  obtain ⟨cap1, Q1, hconv1, HV1, HD1⟩ := conv_str s Q
  have HU1 : Below w.heap.size w Q1 ∧ Q1.heap[w.heap.size]? = some (.cells (u8s ka).toArray 22 (0, 0)) ∧ Q1.heap[w.heap.size + 1]? = some (.cells (u8s kb).toArray 22 (0, 0)) ∧ Q1.heap[w3.heap.size]? = some (.cells (u8s kc).toArray 22 (0, 0)) ∧ RowB Q1 gx X := ⟨HU0.1.trans (HD1.out.mono HU0.1.size), below_key HU0.2.1 HD1.out, below_key HU0.2.2.1 HD1.out, below_key HU0.2.2.2.1 HD1.out, HU0.2.2.2.2.below HD1.out⟩
  refine heldRunT (d := some 56) (op := .convert 9 24 (Operand.tmp 55)) (g := none) (t := 24) 6 (.slice (some ⟨Q.heap.size, 0, none⟩) s.size cap1) Q1 rfl (by kernel_rfl) (by kernel_rfl) ?y6q HU1 ?_
  case y6q => intro o' ho _; simp only [execOp, ho]; go_simp; try rfl
  simp only [Act.put, List.setIfInBounds_toArray, List.set_cons_zero, List.set_cons_succ]
  refine heldCall (d := some 57) (op := .call { callee := Callee.value (Operand.func 11), args := #[Operand.tmp 52, Operand.tmp 54, Operand.tmp 56], argTypes := #[22, 3, 24] }) (g := none) 7 11 #[.agg (u8s kc).toArray, .int .i64 (n : Int), .slice (some ⟨Q.heap.size, 0, none⟩) s.size cap1] rfl (by kernel_rfl) (by kernel_rfl) ?y7q ?_
  case y7q => intro o' ho; simp only [execOp, ho]; go_simp; try rfl
  refine (apply_len kc n _ (bytes s) s.size Q1 HLC.out HSC.out HV1.out (bytes_small s) (by omega) (bytes_length s)).mono ?_
  rintro e Q2 ⟨g4, rfl, HR4, HD2⟩
  have HU2 : Below w.heap.size w Q2 ∧ Q2.heap[w.heap.size]? = some (.cells (u8s ka).toArray 22 (0, 0)) ∧ Q2.heap[w.heap.size + 1]? = some (.cells (u8s kb).toArray 22 (0, 0)) ∧ Q2.heap[w3.heap.size]? = some (.cells (u8s kc).toArray 22 (0, 0)) ∧ RowB Q2 gx X := ⟨HU1.1.trans (HD2.out.mono HU1.1.size), below_key HU1.2.1 HD2.out, below_key HU1.2.2.1 HD2.out, below_key HU1.2.2.2.1 HD2.out, HU1.2.2.2.2.below HD2.out⟩
  rw [HK.out, HX.out] at HR4
  have hst4 : (convert 24 9 (.slice (some ⟨g4, 0, none⟩) s.size s.size)).run Tryd.prog Q2 = .ok (.string xs) Q2 := by
    have := HR4.out.str HXL.out
    rwa [HXS.out] at this
  refine ⟨_, rfl, HU2, ?_⟩
  simp only [Act.put, List.setIfInBounds_toArray, List.set_cons_zero, List.set_cons_succ]
  refine heldRunT (d := some 58) (op := .convert 24 9 (Operand.tmp 57)) (g := none) (t := 9) 8 (.string xs) Q2 rfl (by kernel_rfl) (by kernel_rfl) ?y8q HU2 ?_
  case y8q => intro o' ho _; simp only [execOp, ho]; go_simp; try rfl
  simp only [Act.put, List.setIfInBounds_toArray, List.set_cons_zero, List.set_cons_succ]
  refine heldTake (d := some 59) (op := .binOp BinOp.eql 9 (Operand.tmp 51) (Operand.tmp 58) 9) (g := none) 9 ?v9q rfl (by kernel_rfl) (by kernel_rfl) (by kernel_rfl) (by kernel_rfl) ?y9q HU2 ?_
  case y9q => intro o' ho W hS; simp only [execOp, ho]; go_simp; try rfl
  simp only [Act.put, List.setIfInBounds_toArray, List.set_cons_zero, List.set_cons_succ]
  refine heldTake (d := some 60) (op := .move (Operand.tmp 59)) (g := none) 10 ?v10q rfl (by kernel_rfl) (by kernel_rfl) (by kernel_rfl) (by kernel_rfl) ?y10q HU2 ?_
  case y10q => intro o' ho W hS; simp only [execOp, ho]; go_simp; try rfl
  simp only [Act.put, List.setIfInBounds_toArray, List.set_cons_zero, List.set_cons_succ]
  refine heldTake (d := some 61) (op := .build 22 #[]) (g := some (10, true)) 11 ?v11q rfl (by kernel_rfl) (by kernel_rfl) (by kernel_rfl) (by kernel_rfl) ?y11q HU2 ?_
  case y11q => intro o' ho W hS; simp only [execOp, ho]; go_simp; try rfl
  simp only [Act.put, List.setIfInBounds_toArray, List.set_cons_zero, List.set_cons_succ]
  refine heldTake (d := some 62) (op := .move (Operand.tmp 2)) (g := some (10, true)) 12 ?v12q rfl (by kernel_rfl) (by kernel_rfl) (by kernel_rfl) (by kernel_rfl) ?y12q HU2 ?_
  case y12q => intro o' ho W hS; simp only [execOp, ho]; go_simp; try rfl
  simp only [Act.put, List.setIfInBounds_toArray, List.set_cons_zero, List.set_cons_succ]
  refine heldTake (d := some 63) (op := .convert 28 3 (Operand.tmp 62)) (g := some (10, true)) 13 ?v13q rfl (by kernel_rfl) (by kernel_rfl) (by kernel_rfl) (by kernel_rfl) ?y13q HU2 ?_
  case y13q => intro o' ho W hS; simp only [execOp, ho]; go_simp; try rfl
  simp only [Act.put, List.setIfInBounds_toArray, List.set_cons_zero, List.set_cons_succ]
  refine heldTake (d := some 64) (op := .move (Operand.tmp 3)) (g := some (10, true)) 14 ?v14q rfl (by kernel_rfl) (by kernel_rfl) (by kernel_rfl) (by kernel_rfl) ?y14q HU2 ?_
  case y14q => intro o' ho W hS; simp only [execOp, ho]; go_simp; try rfl
  simp only [Act.put, List.setIfInBounds_toArray, List.set_cons_zero, List.set_cons_succ]
  refine heldTake (d := some 68) (op := .move (Operand.tmp 3)) (g := some (10, true)) 18 ?v18q rfl (by kernel_rfl) (by kernel_rfl) (by kernel_rfl) (by kernel_rfl) ?y18q HU2 ?_
  case y18q => intro o' ho W hS; simp only [execOp, ho]; go_simp; try rfl
  simp only [Act.put, List.setIfInBounds_toArray, List.set_cons_zero, List.set_cons_succ]
  obtain ⟨cap2, Q3, hconv2, HV3, HD3⟩ := conv_str s Q2
  have HU3 : Below w.heap.size w Q3 ∧ Q3.heap[w.heap.size]? = some (.cells (u8s ka).toArray 22 (0, 0)) ∧ Q3.heap[w.heap.size + 1]? = some (.cells (u8s kb).toArray 22 (0, 0)) ∧ Q3.heap[w3.heap.size]? = some (.cells (u8s kc).toArray 22 (0, 0)) ∧ RowB Q3 gx X := ⟨HU2.1.trans (HD3.out.mono HU2.1.size), below_key HU2.2.1 HD3.out, below_key HU2.2.2.1 HD3.out, below_key HU2.2.2.2.1 HD3.out, HU2.2.2.2.2.below HD3.out⟩
  refine heldRunT (d := some 65) (op := .convert 9 24 (Operand.tmp 64)) (g := some (10, true)) (t := 24) 15 (.slice (some ⟨Q2.heap.size, 0, none⟩) s.size cap2) Q3 rfl (by kernel_rfl) (by kernel_rfl) ?y15q HU3 ?_
  case y15q => intro o' ho _; simp only [execOp, ho]; go_simp; try rfl
  simp only [Act.put, List.setIfInBounds_toArray, List.set_cons_zero, List.set_cons_succ]
  refine heldCall (d := some 66) (op := .call { callee := Callee.value (Operand.func 11), args := #[Operand.tmp 61, Operand.tmp 63, Operand.tmp 65], argTypes := #[22, 3, 24] }) (g := some (10, true)) 16 11 #[.agg (u8s (zs 4)).toArray, .int .i64 (n : Int), .slice (some ⟨Q2.heap.size, 0, none⟩) s.size cap2] rfl (by kernel_rfl) (by kernel_rfl) ?y16q ?_
  case y16q => intro o' ho; simp only [execOp, ho]; go_simp; try rfl
  refine (apply_len (zs 4) n _ (bytes s) s.size Q3 (zs_length 4) (zs_small 4) HV3.out (bytes_small s) (by omega) (bytes_length s)).mono ?_
  rintro e Q4 ⟨g5, rfl, HR5, HD4⟩
  have HU4 : Below w.heap.size w Q4 ∧ Q4.heap[w.heap.size]? = some (.cells (u8s ka).toArray 22 (0, 0)) ∧ Q4.heap[w.heap.size + 1]? = some (.cells (u8s kb).toArray 22 (0, 0)) ∧ Q4.heap[w3.heap.size]? = some (.cells (u8s kc).toArray 22 (0, 0)) ∧ RowB Q4 gx X := ⟨HU3.1.trans (HD4.out.mono HU3.1.size), below_key HU3.2.1 HD4.out, below_key HU3.2.2.1 HD4.out, below_key HU3.2.2.2.1 HD4.out, HU3.2.2.2.2.below HD4.out⟩
  rw [HK.out, HZ.out] at HR5
  have hst5 : (convert 24 9 (.slice (some ⟨g5, 0, none⟩) s.size s.size)).run Tryd.prog Q4 = .ok (.string s) Q4 := by
    have := HR5.out.str (bytes_length s)
    rwa [strOf_bytes] at this
  refine ⟨_, rfl, HU4, ?_⟩
  simp only [Act.put, List.setIfInBounds_toArray, List.set_cons_zero, List.set_cons_succ]
  refine heldRunT (d := some 67) (op := .convert 24 9 (Operand.tmp 66)) (g := some (10, true)) (t := 9) 17 (.string s) Q4 rfl (by kernel_rfl) (by kernel_rfl) ?y17q HU4 ?_
  case y17q => intro o' ho _; simp only [execOp, ho]; go_simp; try rfl
  simp only [Act.put, List.setIfInBounds_toArray, List.set_cons_zero, List.set_cons_succ]
  refine heldTake (d := some 69) (op := .binOp BinOp.eql 9 (Operand.tmp 67) (Operand.tmp 68) 9) (g := some (10, true)) 19 ?v19q rfl (by kernel_rfl) (by kernel_rfl) (by kernel_rfl) (by kernel_rfl) ?y19q HU4 ?_
  case y19q => intro o' ho W hS; simp only [execOp, ho]; go_simp; try rfl
  simp only [Act.put, List.setIfInBounds_toArray, List.set_cons_zero, List.set_cons_succ]
  refine heldTake (d := some 70) (op := .pick (Operand.tmp 60) (Operand.tmp 69) (Operand.const (Value.bool false))) (g := none) 20 ?v20q rfl (by kernel_rfl) (by kernel_rfl) (by kernel_rfl) (by kernel_rfl) ?y20q HU4 ?_
  case y20q => intro o' ho W hS; simp only [execOp, ho]; go_simp; try rfl
  simp only [Act.put, List.setIfInBounds_toArray, List.set_cons_zero, List.set_cons_succ]
  refine heldTake (d := some 8) (op := .assign (Operand.tmp 70)) (g := none) 21 ?v21q rfl (by kernel_rfl) (by kernel_rfl) (by kernel_rfl) (by kernel_rfl) ?y21q HU4 ?_
  case y21q => intro o' ho W hS; simp only [execOp, ho]; go_simp; try rfl
  simp only [Act.put, List.setIfInBounds_toArray, List.set_cons_zero, List.set_cons_succ]
  refine wpAnyH_done (by kernel_rfl) ?_ _
  refine NoPanic.normal ?_
  go_wp2
  go_ret
  exact ⟨rfl, HU4.1⟩
end Go.Proofs.YtleekkjaoccjlaaDoor
