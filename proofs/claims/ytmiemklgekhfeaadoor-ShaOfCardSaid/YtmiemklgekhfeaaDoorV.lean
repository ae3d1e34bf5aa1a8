/- The document's answer, bits as lists: the contract of turn. -/
import Derived.Test.YtmiemklgekhfeaaDoorU
namespace Go.Proofs.YtmiemklgekhfeaaDoor
open Go.RowKit

theorem slice42_l (g k c : Nat) (hk : k ≤ 31) (hc : 32 ≤ c) (w : World) :
    (Instr.slice 42 (.slice (some ⟨g, 0, none⟩) 32 c) (some (.int .i64 (k : Int))) none none).run Tryd.prog w = .ok (.slice (some ⟨g, k, none⟩) (32 - k) (c - k)) w := by
  have hz : (sizeOf (Tryd.prog.elem 42)).run Tryd.prog w = .ok 1 w := by kernel_rfl
  rw [run_slice_l w 42 (some ⟨g, 0, none⟩) 32 c (by kernel_rfl) .i64 (k : Int) (by omega) (by omega), hz]
  simp only [Result.andThen, sliced, Int.toNat_natCast, Nat.mul_one]
  rw [if_neg (by omega)]
  simp [Addr.add_mid]
theorem slice42_h (g k c : Nat) (hk : k ≤ 31) (hc : 32 ≤ c) (w : World) :
    (Instr.slice 42 (.slice (some ⟨g, 0, none⟩) 32 c) none (some (.int .i64 (k : Int))) none).run Tryd.prog w = .ok (.slice (some ⟨g, 0, none⟩) k c) w := by
  have hz : (sizeOf (Tryd.prog.elem 42)).run Tryd.prog w = .ok 1 w := by kernel_rfl
  rw [run_slice_h w 42 (some ⟨g, 0, none⟩) 32 c (by kernel_rfl) .i64 (k : Int) (by omega) (by omega), hz]
  simp only [Result.andThen, sliced, Int.toNat_natCast, Nat.sub_zero]
  rw [if_neg (by omega)]
  simp [Addr.add_mid]
theorem ints_one (l : List Nat) : ∀ u ∈ ints l, u.oneCell' = true := by
  intro u hu; simp [ints, vi] at hu; obtain ⟨n, _, rfl⟩ := hu; rfl
theorem range_part {W : World} {g : Nat} {l : List Nat} (h : W.rangeAt g 0 (ints l)) (k m : Nat) : ∀ j u, (ints ((l.drop k).take m))[j]? = some u → W.cell? ((⟨g, k, none⟩ : Addr).add j) = some u := by
  intro j u hu
  have hj : j < ((l.drop k).take m).length := by simpa [ints_length] using (List.getElem?_eq_some_iff.1 hu).1
  have hj2 : j < m ∧ k + j < l.length := by simp at hj; omega
  rw [Addr.add_mid]
  have := h (k + j) u (by
    rw [← hu]
    simp only [ints, List.getElem?_map, List.getElem?_take, if_pos hj2.1, List.getElem?_drop])
  rw [Nat.zero_add] at this
  exact this

set_option maxHeartbeats 1000000 in
theorem turn_any (v : Value) (n k : Nat) (X : Int) (w : World) (hX : X = (k : Int)) (hv : Bits w v n) (hn : n < 4294967296) (hk : k ≤ 31) :
    Calls Tryd.prog 19 #[v, .int .i64 X] w fun e w' => ∃ x, e = .returned x ∧ Sl (Bits w' x (rot n k)) ∧ Sl (Below w.heap.size w w') := by
  subst hX
  obtain ⟨g, c, rfl, hc, hg, hr⟩ := hv
  have HR := Sl.mk hr
  clear hr
  have e1 := slice42_l g k c hk hc
  have e2 := slice42_h g k c hk hc
  go_enter Tryd.func19, Tryd.ntmps19
  go_wp2
  refine wp_region_noPanic ?_
  refine wp_region_held (S := fun _ => True) (by kernel_rfl) ?_
  change wpAnyH _ _ _ _ _ _ _ _ w.drew
  refine heldTake (d := (some 6)) (op := .move (.tmp 0)) (g := none) 1 (.slice (some ⟨g, 0, none⟩) 32 c) rfl (by kernel_rfl) (by kernel_rfl) (by kernel_rfl) (by kernel_rfl) ?y1 trivial ?_
  case y1 => intro o ho w _; simp only [execOp, ho]; go_simp; try rfl
  refine heldTake (d := (some 7)) (op := .move (.tmp 1)) (g := none) 2 (.int .i64 (k : Int)) rfl (by kernel_rfl) (by kernel_rfl) (by kernel_rfl) (by kernel_rfl) ?y2 trivial ?_
  case y2 => intro o ho w _; simp only [execOp, ho]; go_simp; try rfl
  refine heldTake (d := (some 8)) (op := .slice 42 (.tmp 6) (some (.tmp 7)) none none) (g := none) 3 (.slice (some ⟨g, k, none⟩) (32 - k) (c - k)) rfl (by kernel_rfl) (by kernel_rfl) (by kernel_rfl) (by kernel_rfl) ?y3 trivial ?_
  case y3 => intro o ho w _; simp only [execOp, ho]; go_simp; try rfl
  refine heldTake (d := (some 10)) (op := .move (.tmp 0)) (g := none) 5 (.slice (some ⟨g, 0, none⟩) 32 c) rfl (by kernel_rfl) (by kernel_rfl) (by kernel_rfl) (by kernel_rfl) ?y5 trivial ?_
  case y5 => intro o ho w _; simp only [execOp, ho]; go_simp; try rfl
  refine heldTake (d := (some 11)) (op := .move (.tmp 1)) (g := none) 6 (.int .i64 (k : Int)) rfl (by kernel_rfl) (by kernel_rfl) (by kernel_rfl) (by kernel_rfl) ?y6 trivial ?_
  case y6 => intro o ho w _; simp only [execOp, ho]; go_simp; try rfl
  refine heldTake (d := (some 12)) (op := .slice 42 (.tmp 10) none (some (.tmp 11)) none) (g := none) 7 (.slice (some ⟨g, 0, none⟩) k c) rfl (by kernel_rfl) (by kernel_rfl) (by kernel_rfl) (by kernel_rfl) ?y7 trivial ?_
  case y7 => intro o ho w _; simp only [execOp, ho]; go_simp; try rfl
  refine heldRun (d := (some 5)) (op := .buildSlice 42 0 #[]) (g := none) 0 (.slice (some ⟨w.heap.size, 0, none⟩) 0 0) (w.drew.alloc (.cells #[] 3)) rfl (by kernel_rfl) (by kernel_rfl) ?y0 trivial ?_
  case y0 => intro o ho; simp only [execOp, ho]; go_simp
  have HB1 : Below w.heap.size w (w.drew.alloc (.cells #[] 3)) := ((Below.refl _ _).drew).alloc (Nat.le_refl _) _
  have HO1 : (w.drew.alloc (.cells #[] 3)).ownsRow w.heap.size 3 1 (.slice (some ⟨w.heap.size, 0, none⟩) 0 0) 0 [] := owns_empty w.drew
  have HR1 : (w.drew.alloc (.cells #[] 3)).rangeAt g 0 (ints (bitsTo n 32)) := fun j u hu => by rw [HB1.cell (p := ⟨g, 0 + j, none⟩) hg]; exact HR.out j u hu
  obtain ⟨v2, w2, happ, HO2, HG2⟩ := app_ints HO1 ⟨g, k, none⟩ (32 - k) (c - k) (ints (((bitsTo n 32).drop k).take (32 - k))) (by simp [ints_length, bitsTo_length]) (range_part HR1 k (32 - k)) (ints_one _) (by omega) (by rw [alloc_size]; show _ ≤ w.heap.size + 1; omega)
  have HB2 : Below w.heap.size w w2 := below_grown HB1 HO1 HG2.out (by rw [alloc_size]; show _ ≤ w.heap.size + 1; omega)
  have HR2 : w2.rangeAt g 0 (ints (bitsTo n 32)) := fun j u hu => by rw [HB2.cell (p := ⟨g, 0 + j, none⟩) hg]; exact HR.out j u hu
  refine heldApp 4 9 (.tmp 5) (.tmp 8) 42 42 none (.slice (some ⟨w.heap.size, 0, none⟩) 0 0) v2 ⟨g, k, none⟩ (32 - k) (c - k) w2 rfl (by kernel_rfl) (by kernel_rfl) (by kernel_rfl) (by kernel_rfl) happ trivial ?_
  obtain ⟨v3, w3, happ3, HO3, HG3⟩ := app_ints HO2.out ⟨g, 0, none⟩ k c (ints (((bitsTo n 32).drop 0).take k)) (by simp [ints_length, bitsTo_length]; omega) (range_part HR2 0 k) (ints_one _) (by omega) HB2.size
  have HB3 : Below w.heap.size w w3 := below_grown HB2 HO2.out HG3.out HB2.size
  refine heldApp 8 13 (.tmp 9) (.tmp 12) 42 42 none v2 v3 ⟨g, 0, none⟩ k c w3 rfl (by kernel_rfl) (by kernel_rfl) (by kernel_rfl) (by kernel_rfl) happ3 trivial ?_
  refine heldTake (d := (some 4)) (op := .assign (.tmp 13)) (g := none) 9 (v3) rfl (by kernel_rfl) (by kernel_rfl) (by kernel_rfl) (by kernel_rfl) ?y9 trivial ?_
  case y9 => intro o ho w _; simp only [execOp, ho]; go_simp; try rfl
  have HF : Sl (Bits w3 v3 (rot n k)) := ⟨bits_of_owns (base := w.heap.size) (by
    have h := HO3.out
    rw [show 0 + (32 - k) + k = 32 by omega] at h
    rw [← turn_list n k hn hk]
    have e : [] ++ ints (((bitsTo n 32).drop k).take (32 - k)) ++ ints (((bitsTo n 32).drop 0).take k) = ints ((bitsTo n 32).drop k ++ (bitsTo n 32).take k) := by
      rw [List.take_of_length_le (by simp [bitsTo_length])]
      simp [ints]
    rw [e] at h
    exact h)⟩
  refine wpAnyH_done (by kernel_rfl) ?_ _
  refine NoPanic.normal ?_
  clear happ happ3 e1 e2
  simp only [Act.put, List.setIfInBounds_toArray, List.set_cons_succ, List.set_cons_zero]
  go_wp2
  go_ret
  exact ⟨v3, rfl, HF, ⟨HB3⟩⟩
end Go.Proofs.YtmiemklgekhfeaaDoor
