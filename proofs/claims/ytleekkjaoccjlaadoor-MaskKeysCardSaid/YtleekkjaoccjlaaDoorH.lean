/- mask: MaskKeys' walk. -/
import Derived.Test.YtleekkjaoccjlaaDoorF
set_option maxRecDepth 100000
namespace Go.Proofs.YtleekkjaoccjlaaDoor
open Go.RowKit MaskPlain

set_option maxHeartbeats 4000000 in
theorem keys_walk (n m : Nat) (w : World) (hg : Globs w) (hn : n < 4294967296) (hm : m < 4294967296) :
    Calls Tryd.prog 7 #[.int .u32 n, .int .u32 m] w fun e w' => e = .returned (.bool true) ∧ Below w.heap.size w w' := by
  have HG := Sl.mk hg
  have hkn := key_be n
  have hkm := key_be m
  have hinj := @key_inj n m hn hm
  rw [hkn, hkm] at hinj
  obtain ⟨a0, ha0⟩ : ∃ a, n / 256 / 256 / 256 % 256 = a := ⟨_, rfl⟩
  obtain ⟨a1, ha1⟩ : ∃ a, n / 256 / 256 % 256 = a := ⟨_, rfl⟩
  obtain ⟨a2, ha2⟩ : ∃ a, n / 256 % 256 = a := ⟨_, rfl⟩
  obtain ⟨a3, ha3⟩ : ∃ a, n % 256 = a := ⟨_, rfl⟩
  obtain ⟨b0, hb0⟩ : ∃ a, m / 256 / 256 / 256 % 256 = a := ⟨_, rfl⟩
  obtain ⟨b1, hb1⟩ : ∃ a, m / 256 / 256 % 256 = a := ⟨_, rfl⟩
  obtain ⟨b2, hb2⟩ : ∃ a, m / 256 % 256 = a := ⟨_, rfl⟩
  obtain ⟨b3, hb3⟩ : ∃ a, m % 256 = a := ⟨_, rfl⟩
  have HSUM : Sl (n = a0 * 16777216 + a1 * 65536 + a2 * 256 + a3) := ⟨by omega⟩
  have l0 : a0 < 256 := by omega
  have l1 : a1 < 256 := by omega
  have l2 : a2 < 256 := by omega
  have l3 : a3 < 256 := by omega
  have q0 : b0 < 256 := by omega
  have q1 : b1 < 256 := by omega
  have q2 : b2 < 256 := by omega
  have q3 : b3 < 256 := by omega
  rw [ha0, ha1, ha2, ha3] at hkn hinj
  rw [hb0, hb1, hb2, hb3] at hkm hinj
  have heq : ∀ W, (Op.equalIn 10000 22 (.agg #[.int .u8 a0, .int .u8 a1, .int .u8 a2, .int .u8 a3]) (.agg #[.int .u8 b0, .int .u8 b1, .int .u8 b2, .int .u8 b3])).run Tryd.prog W = .ok (decide (n = m)) W := fun W => by
    refine (eq_keys [a0, a1, a2, a3] [b0, b1, b2, b3] rfl rfl (fun x hx => by simp at hx; omega) (fun x hx => by simp at hx; omega) W).trans ?_
    congr 1
    rw [decide_eq_decide]
    exact ⟨hinj, fun h => by subst h; rw [← ha0, ← ha1, ← ha2, ← ha3, ← hb0, ← hb1, ← hb2, ← hb3]⟩
  have C1 := fun W => key_ex n [a0, a1, a2, a3] W hn hkn
  have C2 := fun W => key_ex m [b0, b1, b2, b3] W hm hkm
  clear hg hn hm hkn hkm hinj ha0 ha1 ha2 ha3 hb0 hb1 hb2 hb3 q0 q1 q2 q3
  have hsum : ((a0 : Int) * 16777216 + (a1 : Int) * 65536 + (a2 : Int) * 256 + (a3 : Int) == (n : Int)) = true := by have := HSUM.out; simp; omega
  go_enter Tryd.func7, Tryd.ntmps7
  go_wp2_with fail
  refine (C1 w).mono ?_
  rintro e w1 ⟨rfl, HB1⟩
  go_wp2_with fail
  refine (C2 w1).mono ?_
  rintro e w2 ⟨rfl, HX2⟩
  have HB2 : Sl (Below w.heap.size w w2) := ⟨HB1.out.trans (HX2.out.mono HB1.out.size)⟩
  rw [show (u8s [a0, a1, a2, a3]).toArray = #[.int .u8 a0, .int .u8 a1, .int .u8 a2, .int .u8 a3] from rfl, show (u8s [b0, b1, b2, b3]).toArray = #[.int .u8 b0, .int .u8 b1, .int .u8 b2, .int .u8 b3] from rfl]
  have HA : Below w.heap.size w ((w2.alloc (.cells #[.int .u8 a0, .int .u8 a1, .int .u8 a2, .int .u8 a3] 22)).alloc (.cells #[.int .u8 b0, .int .u8 b1, .int .u8 b2, .int .u8 b3] 22)) := (HB2.out.alloc HB2.out.size _).alloc (by rw [alloc_size]; have := HB2.out.size; omega) _
  have HAL := Sl.mk HA
  clear HA
  go_wp2_with fail
  refine (awake_any _ (HG.out.below HAL.out HG.out.size)).mono ?_
  rintro e w3 ⟨rfl, HX3⟩
  have HB3 : Sl (Below w.heap.size w w3) := ⟨HAL.out.trans (HX3.out.mono HAL.out.size)⟩
  have hA3 : w3.heap[w2.heap.size]? = some (.cells #[.int .u8 a0, .int .u8 a1, .int .u8 a2, .int .u8 a3] 22 (0, 0)) := by
    rw [HX3.out.block _ (by rw [alloc_size, alloc_size]; omega), alloc_old _ _ _ (by rw [alloc_size]; omega)]; exact alloc_new _ _ _ rfl
  have hB3 : w3.heap[w2.heap.size + 1]? = some (.cells #[.int .u8 b0, .int .u8 b1, .int .u8 b2, .int .u8 b3] 22 (0, 0)) := by
    rw [HX3.out.block _ (by rw [alloc_size, alloc_size]; omega)]; exact alloc_new _ _ _ (by rw [alloc_size])
  clear HX3 HAL
  generalize w2.heap.size = g at *
  have c0 : w3.cell? ⟨g, 0, none⟩ = some (.int .u8 (a0 : Int)) := by rw [cell_of_row _ _ _ _ _ _ hA3]; rfl
  have c1 : w3.cell? ⟨g, 1, none⟩ = some (.int .u8 (a1 : Int)) := by rw [cell_of_row _ _ _ _ _ _ hA3]; rfl
  have c2 : w3.cell? ⟨g, 2, none⟩ = some (.int .u8 (a2 : Int)) := by rw [cell_of_row _ _ _ _ _ _ hA3]; rfl
  have c3 : w3.cell? ⟨g, 3, none⟩ = some (.int .u8 (a3 : Int)) := by rw [cell_of_row _ _ _ _ _ _ hA3]; rfl
  have d0 : w3.cell? ⟨g + 1, 0, none⟩ = some (.int .u8 (b0 : Int)) := by rw [cell_of_row _ _ _ _ _ _ hB3]; rfl
  have d1 : w3.cell? ⟨g + 1, 1, none⟩ = some (.int .u8 (b1 : Int)) := by rw [cell_of_row _ _ _ _ _ _ hB3]; rfl
  have d2 : w3.cell? ⟨g + 1, 2, none⟩ = some (.int .u8 (b2 : Int)) := by rw [cell_of_row _ _ _ _ _ _ hB3]; rfl
  have d3 : w3.cell? ⟨g + 1, 3, none⟩ = some (.int .u8 (b3 : Int)) := by rw [cell_of_row _ _ _ _ _ _ hB3]; rfl
  clear hA3 hB3
  by_cases hnm : n = m
  · have hdec : decide (n = m) = true := decide_eq_true hnm
    rw [hdec] at heq
    subst hnm
    clear hdec
    go_wp2
    go_ret
    exact ⟨rfl, HB3.out⟩
  · have hdec : decide (n = m) = false := decide_eq_false hnm
    rw [hdec] at heq
    have hqq : ((n : Int) == (m : Int)) = false := beq_eq_false_iff_ne.2 (by omega)
    clear hdec
    go_wp2
    go_ret
    exact ⟨rfl, HB3.out⟩
end Go.Proofs.YtleekkjaoccjlaaDoor
