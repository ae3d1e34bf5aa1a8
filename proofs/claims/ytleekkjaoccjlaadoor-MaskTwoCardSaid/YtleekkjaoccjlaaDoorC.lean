/- mask: Apply. -/
import Derived.Test.YtleekkjaoccjlaaDoorB
set_option maxRecDepth 100000
namespace Go.Proofs.YtleekkjaoccjlaaDoor
open Go.RowKit MaskPlain

theorem i64_and3 (n : Int) : bits .and .i64 n 3 = n % 4 := by
  have h3 : (BitVec.ofInt 64 3).toNat = 2 ^ 2 - 1 := by decide
  have key : (BitVec.ofInt 64 n &&& BitVec.ofInt 64 3).toNat = (n % ((2 ^ 64 : Nat) : Int)).toNat % 2 ^ 2 := by
    rw [BitVec.toNat_and, BitVec.toNat_ofInt, h3, Nat.and_two_pow_sub_one_eq_mod]
  show IntKind.i64.wrap ((BitVec.ofInt 64 n &&& BitVec.ofInt 64 3).toNat : Nat) = n % 4
  rw [key, IntKind.wrap_i64]
  omega
/-- The place's rest. -/
def rest4 (at' : Int) : Nat := (at' % 4).toNat
theorem rest4_lt (at' : Int) : rest4 at' < 4 := by unfold rest4; omega

set_option maxHeartbeats 2000000 in
theorem apply_any (key : List Nat) (at' : Int) (v : Value) (bs : List Nat) (w : World) (hk : key.length = 4) (hks : Small 256 key) (hv : SrcAt w v bs) (hsm : Small 256 bs) (hm : bs.length ≤ 100000) :
    Calls Tryd.prog 11 #[.agg (u8s key).toArray, .int .i64 at', v] w fun e w' => ∃ g, e = .returned (.slice (some ⟨g, 0, none⟩) bs.length bs.length) ∧ Sl (w.heap.size ≤ g) ∧ Sl (RowB w' g (turn key (rest4 at') bs)) ∧ Sl (Below w.heap.size w w') := by
  have f0 : bits .and .i64 at' 3 = ((rest4 at' : Nat) : Int) := by rw [i64_and3]; unfold rest4; omega
  have hK4 := rest4_lt at'
  obtain ⟨K, hK⟩ : ∃ K, rest4 at' = K := ⟨_, rfl⟩
  rw [hK] at f0 hK4 ⊢
  clear hK
  obtain ⟨a, cap, sb, so, rfl, hcap, ha, hc⟩ := hv
  obtain ⟨n, hn⟩ : ∃ n, bs.length = n := ⟨_, rfl⟩
  have HN := Sl.mk hn
  rw [hn] at hcap ha hc hm ⊢
  have HSM := Sl.mk hsm
  have HKL := Sl.mk hk
  have HKS := Sl.mk hks
  obtain ⟨g, hg⟩ : ∃ g, w.heap.size = g := ⟨_, rfl⟩
  obtain ⟨w1, hw1⟩ : ∃ w1, w.alloc (.cells (u8s key).toArray 22) = w1 := ⟨_, rfl⟩
  have hs1 : w1.heap.size = g + 1 := by rw [← hw1, alloc_size, hg]
  have hrow : w1.heap[g]? = some (.cells (u8s key).toArray 22 (0, 0)) := by rw [← hw1, ← hg]; exact alloc_new _ _ _ rfl
  have hmake := make_u8 n n rfl (by omega) w1
  rw [hs1] at hmake
  obtain ⟨w2, hw2⟩ : ∃ w2, w1.alloc (.cells (u8s (zs n)).toArray 5) = w2 := ⟨_, rfl⟩
  have HB1 : Sl (Below g w w2) := ⟨by rw [← hw2, ← hw1, ← hg]; exact ((Below.refl _ _).alloc (Nat.le_refl _) _).alloc (by rw [alloc_size]; omega) _⟩
  have HR1 : Sl (RowB w2 (g + 1) (tuTo key K bs 0)) := ⟨by rw [tuTo_zero, HN.out, ← hs1, ← hw2]; exact rowB_new w1 _⟩
  have HKR : Sl (w2.heap[g]? = some (.cells (u8s key).toArray 22 (0, 0))) := ⟨by rw [← hw2, alloc_old _ _ _ (by rw [hs1]; omega)]; exact hrow⟩
  have HC : Sl (∀ i, i < n → w2.cell? ⟨sb, so + i, none⟩ = some (.int .u8 ((bs.getD i 0 : Nat) : Int)) ∧ sb < g) := ⟨fun i hi => by
    have hlt := block_lt_of_cell (hc i hi)
    rw [hg] at hlt
    exact ⟨by rw [HB1.out.cell (p := ⟨sb, so + i, none⟩) hlt]; exact hc i hi, hlt⟩⟩
  rw [hw2] at hmake
  clear hw2 hc hn hsm hk hks hs1 hrow
  rw [hg]
  go_enter Tryd.func11, Tryd.ntmps11
  go_wp2
  go_loopw [17] (fun i wr => ∃ k : Nat, k ≤ n ∧ i = .int .i64 k ∧ Sl (RowB wr (g + 1) (tuTo key K bs k)) ∧ Sl (Below g w wr) ∧ Sl (wr.heap[g]? = some (.cells (u8s key).toArray 22 (0, 0))) ∧ Sl (∀ i, i < n → wr.cell? ⟨sb, so + i, none⟩ = some (.int .u8 ((bs.getD i 0 : Nat) : Int)) ∧ sb < g)) (fun i _ => n - (intOf i).toNat)
  case atStart => exact ⟨0, Nat.zero_le _, rfl, HR1, HB1, HKR, HC⟩
  case round =>
    obtain ⟨k, hk, rfl, HR, HB, HK, HS⟩ := hrel
    by_cases hlt : k < n
    · have cw := HR.out.cell k (by rw [tuTo_length _ _ _ _ (by rw [HN.out]; exact hk), HN.out]; exact hlt)
      have fw := HR.out.froz k
      have cs := (HS.out k hlt).1
      obtain rfl := ha (by omega)
      have k0 : (0 : Int) ≤ (k : Int) := by omega
      have k1 : (k : Int) < (n : Int) := by omega
      obtain ⟨j, hj⟩ : ∃ j, (K + k) % 4 = j := ⟨_, rfl⟩
      have hj4 : j < 4 := by omega
      have q1 : ((K : Int) + (k : Int)) % 4 = (j : Int) := by omega
      have q2 : ((K : Int) + (k : Int)).tmod 4 = (j : Int) := by rw [Int.tmod_eq_emod_of_nonneg (by omega)]; omega
      have q3 : IntKind.i64.wrap ((K : Int) + (k : Int)) = (K : Int) + (k : Int) := by rw [IntKind.wrap_i64]; omega
      have ck : wr.cell? ⟨g, j, none⟩ = some (.int .u8 ((key.getD j 0 : Nat) : Int)) := by rw [cell_of_row _ _ _ _ _ _ HK.out, List.getElem?_toArray]; exact u8s_get key j (by rw [HKL.out]; exact hj4)
      have hx := u8_xor_nat (bs.getD k 0) (key.getD j 0) (HSM.out.getD (by omega) k) (HKS.out.getD (by omega) j)
      have HST : Sl ((tuTo key K bs k).set k (bs.getD k 0 ^^^ key.getD j 0) = tuTo key K bs (k + 1)) := ⟨by rw [← hj]; exact tuTo_step key K bs k (by rw [HN.out]; exact hlt)⟩
      have hne : g ≠ g + 1 := by omega
      have hne2 : sb ≠ g + 1 := by have := (HS.out k hlt).2; omega
      have HNE := Sl.mk hne2
      obtain ⟨x, hxx⟩ : ∃ x, bs.getD k 0 = x := ⟨_, rfl⟩
      obtain ⟨y, hyy⟩ : ∃ y, key.getD j 0 = y := ⟨_, rfl⟩
      rw [hxx] at cs hx HST
      rw [hyy] at ck hx HST
      obtain ⟨z, hzz⟩ : ∃ z, x ^^^ y = z := ⟨_, rfl⟩
      rw [hzz] at hx HST
      clear hxx hyy hzz hj
      go_wp2
      go_region
      have HR3 : Sl (RowB (wr.setCell ⟨g + 1, k, none⟩ (.int .u8 (z : Int))).drew (g + 1) (tuTo key K bs (k + 1))) := ⟨by rw [← HST.out]; exact HR.out.set k z⟩
      have HB3 : Sl (Below g w (wr.setCell ⟨g + 1, k, none⟩ (.int .u8 (z : Int))).drew) := ⟨(HB.out.setCell (p := ⟨g + 1, k, none⟩) (Nat.le_succ _) _).drew⟩
      have HK3 : Sl ((wr.setCell ⟨g + 1, k, none⟩ (.int .u8 (z : Int))).drew.heap[g]? = some (.cells (u8s key).toArray 22 (0, 0))) := ⟨by
        show (wr.setCell ⟨g + 1, k, none⟩ (.int .u8 (z : Int))).heap[g]? = _
        rw [heap_setCell_other _ _ _ _ hne]; exact HK.out⟩
      have HS3 : Sl (∀ i, i < n → (wr.setCell ⟨g + 1, k, none⟩ (.int .u8 (z : Int))).drew.cell? ⟨sb, so + i, none⟩ = some (.int .u8 ((bs.getD i 0 : Nat) : Int)) ∧ sb < g) := ⟨fun i hi => by
        refine ⟨?_, (HS.out i hi).2⟩
        show (wr.setCell ⟨g + 1, k, none⟩ (.int .u8 (z : Int))).cell? ⟨sb, so + i, none⟩ = _
        rw [World.cell?_setCell_other (h := fun e => HNE.out (by injection e with e1; exact e1.symm))]
        exact (HS.out i hi).1⟩
      clear cw fw cs ck hx
      generalize (wr.setCell ⟨g + 1, k, none⟩ (.int .u8 (z : Int))).drew = w3 at *
      go_wp2
      exact ⟨⟨k + 1, by omega, by go_num, HR3, HB3, HK3, HS3⟩, by simp [intOf]; omega⟩
    · have hge : ((k : Int) < (n : Int)) = False := eq_false (by omega)
      obtain rfl : k = n := by omega
      have HT : Sl (tuTo key K bs k = turn key K bs) := ⟨by rw [← HN.out]; exact tuTo_all key K bs⟩
      have HR2 : Sl (RowB wr (g + 1) (turn key K bs)) := ⟨by rw [← HT.out]; exact HR.out⟩
      go_wp2
      go_ret
      exact ⟨_, rfl, ⟨by omega⟩, HR2, HB⟩
end Go.Proofs.YtleekkjaoccjlaaDoor
