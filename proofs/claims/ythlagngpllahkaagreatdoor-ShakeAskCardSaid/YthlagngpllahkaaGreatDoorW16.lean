/- shake: the document's visible and, of its Ask, where it may not be by what is asked. -/
import Derived.Test.YthlagngpllahkaaGreatDoorW4
import Derived.Test.YthlagngpllahkaaGreatDoorW0
set_option maxRecDepth 100000
namespace Go.Proofs.YthlagngpllahkaaGreatDoor
open Go.RowKit HeadPlain Nam

/-- A head that is all zero. -/
theorem head_zero3 {W : World} {g : Nat} (h : W.heap[g]? = some (.cells #[.string { data := #[] }, .string { data := #[] }, .string { data := #[] }, .slice none 0 0] 25 (0, 0))) :
    (W.cell? ⟨g, 0, none⟩ = some (.string { data := #[] }) ∧ W.cell? ⟨g, 1, none⟩ = some (.string { data := #[] }) ∧ W.cell? ⟨g, 2, none⟩ = some (.string { data := #[] }) ∧ W.cell? ⟨g, 3, none⟩ = some (.slice none 0 0)) ∧
    (W.frozen? ⟨g, 0, none⟩ = false ∧ W.frozen? ⟨g, 1, none⟩ = false ∧ W.frozen? ⟨g, 2, none⟩ = false ∧ W.frozen? ⟨g, 3, none⟩ = false) ∧
    (W.setCell ⟨g, 0, none⟩ (.string { data := #[] }) = W ∧ W.setCell ⟨g, 1, none⟩ (.string { data := #[] }) = W ∧ W.setCell ⟨g, 2, none⟩ (.string { data := #[] }) = W ∧ W.setCell ⟨g, 3, none⟩ (.slice none 0 0) = W) :=
  ⟨⟨by rw [cell_of_row _ _ _ _ _ _ h]; rfl, by rw [cell_of_row _ _ _ _ _ _ h]; rfl, by rw [cell_of_row _ _ _ _ _ _ h]; rfl, by rw [cell_of_row _ _ _ _ _ _ h]; rfl⟩,
   ⟨frozen_of_row _ _ _ _ _ h, frozen_of_row _ _ _ _ _ h, frozen_of_row _ _ _ _ _ h, frozen_of_row _ _ _ _ _ h⟩,
   ⟨setCell_there h rfl, setCell_there h rfl, setCell_there h rfl, setCell_there h rfl⟩⟩
theorem len_zero3 {s : ByteArray} (h : s.size = 0) : Lib.hasPrefix s.data.toList [47] = false := by
  rw [hasPrefix_head]
  rw [decide_eq_false_iff_not, (bytes_nil_iff s).2 h]
  simp
theorem len_some3 {s : ByteArray} (h : 0 < s.size) : Lib.hasPrefix s.data.toList [47] = decide ((s[0]'h).toNat = 47) := by
  rw [hasPrefix_head, head_get s h, bytes_getD s 0 h]
  simp
  exact Iff.rfl
theorem offer_val3 {l : List ByteArray} (h : l.all tokT = true) : offerB l = (decide (l.length ≤ 16) && decide (l.map bytes).Nodup) := by
  have ha : (l.any fun x => !(tokT x)) = false := by
    rw [List.any_eq_false]
    intro x hx
    have := List.all_eq_true.1 h x hx
    simp [this]
  unfold offerB
  rw [ha]
  rfl
set_option maxHeartbeats 400000 in
theorem visible_any (s : ByteArray) (W : World) (hs : s.size ≤ maxLen) : Calls Tryz.prog 56 #[.string s] W fun e w' => e = .returned (.bool (plainB 33 (bytes s) && decide (0 < s.size))) ∧ W = w' := by
  unfold maxLen at hs
  go_enter Tryz.func56, Tryz.ntmps56
  go_wp2
  go_loopw [3] (fun i wr => ∃ k : Nat, k ≤ s.size ∧ i = .int .i64 k ∧ W = wr ∧ Sl (∀ j, j < k → 33 ≤ (bytes s).getD j 0 ∧ (bytes s).getD j 0 ≤ 126)) (fun i _ => s.size - (intOf i).toNat)
  case atStart => exact ⟨0, by omega, rfl, rfl, ⟨fun j hj => by omega⟩⟩
  case round =>
    obtain ⟨k, hk, rfl, rfl, HA⟩ := hrel
    by_cases hlt : k < s.size
    · obtain ⟨x, hx⟩ : ∃ x, (s[k]'hlt).toNat = x := ⟨_, rfl⟩
      have HXX : Sl ((bytes s).getD k 0 = x) := ⟨by rw [bytes_getD s k hlt, ← hx]; rfl⟩
      by_cases h1 : 33 ≤ x
      · have h1' : ((x : Int) < 33) = False := by simp; omega
        by_cases h2 : x ≤ 126
        · have h2' : ((x : Int) > 126) = False := by simp; omega
          go_wp2
          refine ⟨⟨k + 1, by omega, by go_num, trivial, ⟨fun j hj => ?_⟩⟩, by simp [intOf]; omega⟩
          by_cases e : j = k
          · subst e; rw [HXX.out]; exact ⟨h1, h2⟩
          · exact HA.out j (by omega)
        · have h2' : (x : Int) > 126 := by omega
          go_wp2
          go_ret
          exact ⟨ret_bool (by rw [plain_no k hlt (by rw [HXX.out]; omega)]; rfl), rfl⟩
      · have h1' : (x : Int) < 33 := by omega
        go_wp2
        go_ret
        exact ⟨ret_bool (by rw [plain_no k hlt (by rw [HXX.out]; omega)]; rfl), rfl⟩
    · have hge : ((k : Int) < (s.size : Int)) = False := by simp; omega
      have HY : Sl (plainB 33 (bytes s) = true) := ⟨(plain_get 33 s).2 (fun j hj => HA.out j (by omega))⟩
      by_cases hz : 0 < s.size
      · have hz' : ((s.size : Int) > 0) = True := eq_true (by omega)
        go_wp2
        go_ret
        exact ⟨ret_bool (by rw [HY.out, decide_eq_true hz]; rfl), rfl⟩
      · have hz' : ((s.size : Int) > 0) = False := eq_false (by omega)
        go_wp2
        go_ret
        exact ⟨ret_bool (by rw [HY.out, decide_eq_false hz]; rfl), rfl⟩
/-- The document's Ask refuses. -/
def AskNo (e : Ending) : Prop := e = .returned (.tuple #[.agg #[.string { data := #[] }, .string { data := #[] }, .string { data := #[] }, .slice none 0 0], .bool false])
set_option maxHeartbeats 8000000 in
theorem askD_no (path host key : ByteArray) (l : List ByteArray) (v : Value) (w : World) (hp : path.size ≤ 2500) (hh : host.size ≤ 300) (hk : key.size ≤ 300) (hf : fewB l = true) (hv : StrA w v l) (hno : askB path host key = false ∨ l.length > 16 ∨ ¬ (l.map bytes).Nodup) :
    Calls Tryz.prog 29 #[.string path, .string host, .string key, v] w fun e w' => AskNo e ∧ Sl (Below w.heap.size w w') := by
  obtain ⟨hf1, hf2⟩ := fewB_yes hf
  have CV : Sl (∀ s V, s.size ≤ 2500 → Calls Tryz.prog 56 #[.string s] V fun e w' => e = .returned (.bool (plainB 33 (bytes s) && decide (0 < s.size))) ∧ V = w') := ⟨fun s V h => visible_any s V (by unfold maxLen; omega)⟩
  have CK : Sl (∀ V, Calls Tryz.prog 40 #[.string key] V fun e w' => e = .returned (.bool (keyB (bytes key))) ∧ Sl (Below V.heap.size V w')) := ⟨fun V => keyR_any key V (by omega)⟩
  have CO : Sl (∀ V r, Below w.heap.size w V → decide (l.map bytes).Nodup = r → Calls Tryz.prog 42 #[v] V fun e w' => e = .returned (.bool r) ∧ Sl (Below V.heap.size V w')) := ⟨fun V r hB hr => (onceR_any l v V (hv.below hB) (by omega)).mono fun e w' ⟨h1, h2⟩ => ⟨by rw [h1, hr], ⟨h2.below⟩⟩⟩
  have HP0 : Sl (path.size ≤ 2500) := ⟨hp⟩
  have HH0 : Sl (host.size ≤ 2500) := ⟨by omega⟩
  have HSZ := Sl.mk hf1
  have hn30 := hf2
  have HA : Sl (askB path host key = (Lib.hasPrefix path.data.toList [47] && (plainB 33 (bytes path) && ((!(host.toList == [])) && (plainB 33 (bytes host) && keyB (bytes key)))))) := ⟨rfl⟩
  have HNO := Sl.mk hno
  have HV := Sl.mk hv
  obtain ⟨vd, vc, vs, vo, rfl, _, hva, hvcell⟩ := hv
  have HVC := Sl.mk hvcell
  have HVA := Sl.mk hva
  clear hva hvcell hf hf1 hf2 hp hh hk hno
  obtain ⟨n, hn⟩ : ∃ n, l.length = n := ⟨_, rfl⟩
  have HN := Sl.mk hn
  rw [hn] at CO HV HNO hn30 ⊢
  clear hn
  obtain ⟨w0, hw0⟩ : ∃ V, w.alloc (.cells #[.string { data := #[] }, .string { data := #[] }, .string { data := #[] }, .slice none 0 0] 25) = V := ⟨_, rfl⟩
  have HB0 : Sl (Below w.heap.size w w0) := ⟨by rw [← hw0]; exact (Below.refl _ _).alloc (Nat.le_refl _) _⟩
  have HX0 : Sl (w0.heap[w.heap.size]? = some (.cells #[.string { data := #[] }, .string { data := #[] }, .string { data := #[] }, .slice none 0 0] 25 (0, 0))) := ⟨by rw [← hw0]; exact alloc_new _ _ _ rfl⟩
  go_enter Tryz.func29, Tryz.ntmps29
  go_wp2_with fail
  clear hw0
  refine (CV.out path _ HP0.out).mono ?_
  rintro e w1 ⟨rfl, rfl⟩
  cases e1 : (plainB 33 (bytes path) && decide (0 < path.size)) with
  | false =>
    go_wp2
    have hz := HB0.out.size
    go_loopw [10, 11, 12] (fun b a i wr => ∃ (k : Nat) (s : ByteArray), k ≤ n ∧ b = .bool false ∧ a = .string s ∧ s.size ≤ k * 302 ∧ i = .int .i64 k ∧ w0 = wr) (fun _ _ i _ => n - (intOf i).toNat)
    case atStart => exact ⟨0, { data := #[] }, Nat.zero_le _, rfl, rfl, by decide, rfl, rfl⟩
    case round =>
      obtain ⟨k, s, hk, rfl, rfl, hs, rfl, rfl⟩ := hrel
      by_cases hlt : k < n
      · obtain rfl := HVA.out (by rw [HN.out]; omega)
        obtain ⟨p, hp⟩ : ∃ p, l.getD k ByteArray.empty = p := ⟨_, rfl⟩
        have hps : p.size ≤ 300 := by rw [← hp]; exact HSZ.out _ (getD_mem (by rw [HN.out]; exact hlt))
        have e0 : w0.cell? ⟨vs, vo + k, none⟩ = some (.string p) := by
          have h1 := HVC.out k (by rw [HN.out]; exact hlt)
          rw [HB0.out.cell (p := ⟨vs, vo + k, none⟩) (block_lt_of_cell h1), h1, hp]
        have hk0 : (0 : Int) ≤ (k : Int) := by omega
        have hk1 : (k : Int) < (n : Int) := by omega
        have hs3 : s.size ≤ 10000 := by omega
        clear hp
        by_cases h0 : k = 0
        · have h00 : ¬ 0 < k := by omega
          have h01 : ((k : Int) > 0) = False := eq_false (by omega)
          clear h0
          go_wp2
          refine ⟨⟨k + 1, _, by omega, rfl, rfl, ?_, by go_num, trivial⟩, by simp [intOf]; omega⟩
          rw [ByteArray.size_append]
          omega
        · have h00 : 0 < k := by omega
          have h01 : ((k : Int) > 0) = True := eq_true (by omega)
          clear h0
          go_wp2
          refine ⟨⟨k + 1, _, by omega, rfl, rfl, ?_, by go_num, trivial⟩, by simp [intOf]; omega⟩
          rw [ByteArray.size_append, ByteArray.size_append]
          have : (ByteArray.mk #[44, 32]).size = 2 := rfl
          omega
      · have hge : ((k : Int) < (n : Int)) = False := eq_false (by omega)
        obtain ⟨⟨z0, z1, z2, z3⟩, ⟨f0, f1, f2, f3⟩, ⟨s0, s1, s2, s3⟩⟩ := head_zero3 HX0.out
        go_wp2
        refine bodyPost_ret (ret_head rfl _ _ w.heap.size 25 _ (0, 0) rfl HX0.out rfl) rfl ?_
        exact ⟨rfl, HB0⟩
  | true =>
  have HPV : Sl (plainB 33 (bytes path) = true ∧ 0 < path.size) := ⟨by rw [Bool.and_eq_true, decide_eq_true_iff] at e1; exact e1⟩
  have hz2 := HPV.out.2
  obtain ⟨x, hx⟩ : ∃ x, (path[0]'hz2).toNat = x := ⟨_, rfl⟩
  have HPX : Sl (Lib.hasPrefix path.data.toList [47] = decide (x = 47)) := ⟨by rw [len_some3 hz2, hx]⟩
  clear e1
  by_cases h47 : x = 47
  rotate_left
  · have h47' : ((x : Int) == 47) = false := by simp; omega
    go_wp2
    clear hx h47'
    have hz := HB0.out.size
    go_loopw [10, 11, 12] (fun b a i wr => ∃ (k : Nat) (s : ByteArray), k ≤ n ∧ b = .bool false ∧ a = .string s ∧ s.size ≤ k * 302 ∧ i = .int .i64 k ∧ w0 = wr) (fun _ _ i _ => n - (intOf i).toNat)
    case atStart => exact ⟨0, { data := #[] }, Nat.zero_le _, rfl, rfl, by decide, rfl, rfl⟩
    case round =>
      obtain ⟨k, s, hk, rfl, rfl, hs, rfl, rfl⟩ := hrel
      by_cases hlt : k < n
      · obtain rfl := HVA.out (by rw [HN.out]; omega)
        obtain ⟨p, hp⟩ : ∃ p, l.getD k ByteArray.empty = p := ⟨_, rfl⟩
        have hps : p.size ≤ 300 := by rw [← hp]; exact HSZ.out _ (getD_mem (by rw [HN.out]; exact hlt))
        have e0 : w0.cell? ⟨vs, vo + k, none⟩ = some (.string p) := by
          have h1 := HVC.out k (by rw [HN.out]; exact hlt)
          rw [HB0.out.cell (p := ⟨vs, vo + k, none⟩) (block_lt_of_cell h1), h1, hp]
        have hk0 : (0 : Int) ≤ (k : Int) := by omega
        have hk1 : (k : Int) < (n : Int) := by omega
        have hs3 : s.size ≤ 10000 := by omega
        clear hp
        by_cases h0 : k = 0
        · have h00 : ¬ 0 < k := by omega
          have h01 : ((k : Int) > 0) = False := eq_false (by omega)
          clear h0
          go_wp2
          refine ⟨⟨k + 1, _, by omega, rfl, rfl, ?_, by go_num, trivial⟩, by simp [intOf]; omega⟩
          rw [ByteArray.size_append]
          omega
        · have h00 : 0 < k := by omega
          have h01 : ((k : Int) > 0) = True := eq_true (by omega)
          clear h0
          go_wp2
          refine ⟨⟨k + 1, _, by omega, rfl, rfl, ?_, by go_num, trivial⟩, by simp [intOf]; omega⟩
          rw [ByteArray.size_append, ByteArray.size_append]
          have : (ByteArray.mk #[44, 32]).size = 2 := rfl
          omega
      · have hge : ((k : Int) < (n : Int)) = False := eq_false (by omega)
        obtain ⟨⟨z0, z1, z2, z3⟩, ⟨f0, f1, f2, f3⟩, ⟨s0, s1, s2, s3⟩⟩ := head_zero3 HX0.out
        go_wp2
        refine bodyPost_ret (ret_head rfl _ _ w.heap.size 25 _ (0, 0) rfl HX0.out rfl) rfl ?_
        exact ⟨rfl, HB0⟩
  have h47' : ((x : Int) == 47) = true := by simp [h47]
  go_wp2_with fail
  clear hx h47'
  refine (CV.out host _ HH0.out).mono ?_
  rintro e w1 ⟨rfl, rfl⟩
  cases e2 : (plainB 33 (bytes host) && decide (0 < host.size)) with
  | false =>
    go_wp2
    have hz := HB0.out.size
    go_loopw [10, 11, 12] (fun b a i wr => ∃ (k : Nat) (s : ByteArray), k ≤ n ∧ b = .bool false ∧ a = .string s ∧ s.size ≤ k * 302 ∧ i = .int .i64 k ∧ w0 = wr) (fun _ _ i _ => n - (intOf i).toNat)
    case atStart => exact ⟨0, { data := #[] }, Nat.zero_le _, rfl, rfl, by decide, rfl, rfl⟩
    case round =>
      obtain ⟨k, s, hk, rfl, rfl, hs, rfl, rfl⟩ := hrel
      by_cases hlt : k < n
      · obtain rfl := HVA.out (by rw [HN.out]; omega)
        obtain ⟨p, hp⟩ : ∃ p, l.getD k ByteArray.empty = p := ⟨_, rfl⟩
        have hps : p.size ≤ 300 := by rw [← hp]; exact HSZ.out _ (getD_mem (by rw [HN.out]; exact hlt))
        have e0 : w0.cell? ⟨vs, vo + k, none⟩ = some (.string p) := by
          have h1 := HVC.out k (by rw [HN.out]; exact hlt)
          rw [HB0.out.cell (p := ⟨vs, vo + k, none⟩) (block_lt_of_cell h1), h1, hp]
        have hk0 : (0 : Int) ≤ (k : Int) := by omega
        have hk1 : (k : Int) < (n : Int) := by omega
        have hs3 : s.size ≤ 10000 := by omega
        clear hp
        by_cases h0 : k = 0
        · have h00 : ¬ 0 < k := by omega
          have h01 : ((k : Int) > 0) = False := eq_false (by omega)
          clear h0
          go_wp2
          refine ⟨⟨k + 1, _, by omega, rfl, rfl, ?_, by go_num, trivial⟩, by simp [intOf]; omega⟩
          rw [ByteArray.size_append]
          omega
        · have h00 : 0 < k := by omega
          have h01 : ((k : Int) > 0) = True := eq_true (by omega)
          clear h0
          go_wp2
          refine ⟨⟨k + 1, _, by omega, rfl, rfl, ?_, by go_num, trivial⟩, by simp [intOf]; omega⟩
          rw [ByteArray.size_append, ByteArray.size_append]
          have : (ByteArray.mk #[44, 32]).size = 2 := rfl
          omega
      · have hge : ((k : Int) < (n : Int)) = False := eq_false (by omega)
        obtain ⟨⟨z0, z1, z2, z3⟩, ⟨f0, f1, f2, f3⟩, ⟨s0, s1, s2, s3⟩⟩ := head_zero3 HX0.out
        go_wp2
        refine bodyPost_ret (ret_head rfl _ _ w.heap.size 25 _ (0, 0) rfl HX0.out rfl) rfl ?_
        exact ⟨rfl, HB0⟩
  | true =>
  have HHV : Sl (plainB 33 (bytes host) = true ∧ 0 < host.size) := ⟨by rw [Bool.and_eq_true, decide_eq_true_iff] at e2; exact e2⟩
  clear e2
  go_wp2_with fail
  refine (CK.out _).mono ?_
  rintro e w2 ⟨rfl, HE⟩
  have HB2 := Sl.mk (below_trans HB0.out HE.out)
  have HX2 := Sl.mk (box_below HX0.out HE.out)
  clear HE
  cases e3 : keyB (bytes key) with
  | false =>
    go_wp2
    have hz := HB2.out.size
    go_loopw [10, 11, 12] (fun b a i wr => ∃ (k : Nat) (s : ByteArray), k ≤ n ∧ b = .bool false ∧ a = .string s ∧ s.size ≤ k * 302 ∧ i = .int .i64 k ∧ w2 = wr) (fun _ _ i _ => n - (intOf i).toNat)
    case atStart => exact ⟨0, { data := #[] }, Nat.zero_le _, rfl, rfl, by decide, rfl, rfl⟩
    case round =>
      obtain ⟨k, s, hk, rfl, rfl, hs, rfl, rfl⟩ := hrel
      by_cases hlt : k < n
      · obtain rfl := HVA.out (by rw [HN.out]; omega)
        obtain ⟨p, hp⟩ : ∃ p, l.getD k ByteArray.empty = p := ⟨_, rfl⟩
        have hps : p.size ≤ 300 := by rw [← hp]; exact HSZ.out _ (getD_mem (by rw [HN.out]; exact hlt))
        have e0 : w2.cell? ⟨vs, vo + k, none⟩ = some (.string p) := by
          have h1 := HVC.out k (by rw [HN.out]; exact hlt)
          rw [HB2.out.cell (p := ⟨vs, vo + k, none⟩) (block_lt_of_cell h1), h1, hp]
        have hk0 : (0 : Int) ≤ (k : Int) := by omega
        have hk1 : (k : Int) < (n : Int) := by omega
        have hs3 : s.size ≤ 10000 := by omega
        clear hp
        by_cases h0 : k = 0
        · have h00 : ¬ 0 < k := by omega
          have h01 : ((k : Int) > 0) = False := eq_false (by omega)
          clear h0
          go_wp2
          refine ⟨⟨k + 1, _, by omega, rfl, rfl, ?_, by go_num, trivial⟩, by simp [intOf]; omega⟩
          rw [ByteArray.size_append]
          omega
        · have h00 : 0 < k := by omega
          have h01 : ((k : Int) > 0) = True := eq_true (by omega)
          clear h0
          go_wp2
          refine ⟨⟨k + 1, _, by omega, rfl, rfl, ?_, by go_num, trivial⟩, by simp [intOf]; omega⟩
          rw [ByteArray.size_append, ByteArray.size_append]
          have : (ByteArray.mk #[44, 32]).size = 2 := rfl
          omega
      · have hge : ((k : Int) < (n : Int)) = False := eq_false (by omega)
        obtain ⟨⟨z0, z1, z2, z3⟩, ⟨f0, f1, f2, f3⟩, ⟨s0, s1, s2, s3⟩⟩ := head_zero3 HX2.out
        go_wp2
        refine bodyPost_ret (ret_head rfl _ _ w.heap.size 25 _ (0, 0) rfl HX2.out rfl) rfl ?_
        exact ⟨rfl, HB2⟩
  | true =>
  have HHN : Sl ((!(host.toList == [])) = true) := ⟨by
    rw [beq_bytes]
    simp only [Bool.not_eq_true', decide_eq_false_iff_not]
    intro e
    have := (bytes_nil_iff host).1 e
    have := HHV.out.2
    omega⟩
  have HNO2 : Sl (n > 16 ∨ ¬ (l.map bytes).Nodup) := ⟨by
    rcases HNO.out with h | h
    · rw [HA.out, HPX.out, HPV.out.1, HHN.out, HHV.out.1, e3, decide_eq_true h47] at h; cases h
    · exact h⟩
  clear HNO HA HPX HHN HHV HPV e3 CK CV
  by_cases h16 : n ≤ 16
  rotate_left
  · have h16' : ((n : Int) ≤ 16) = False := eq_false (by omega)
    go_wp2
    clear h16'
    have hz := HB2.out.size
    go_loopw [10, 11, 12] (fun b a i wr => ∃ (k : Nat) (s : ByteArray), k ≤ n ∧ b = .bool false ∧ a = .string s ∧ s.size ≤ k * 302 ∧ i = .int .i64 k ∧ w2 = wr) (fun _ _ i _ => n - (intOf i).toNat)
    case atStart => exact ⟨0, { data := #[] }, Nat.zero_le _, rfl, rfl, by decide, rfl, rfl⟩
    case round =>
      obtain ⟨k, s, hk, rfl, rfl, hs, rfl, rfl⟩ := hrel
      by_cases hlt : k < n
      · obtain rfl := HVA.out (by rw [HN.out]; omega)
        obtain ⟨p, hp⟩ : ∃ p, l.getD k ByteArray.empty = p := ⟨_, rfl⟩
        have hps : p.size ≤ 300 := by rw [← hp]; exact HSZ.out _ (getD_mem (by rw [HN.out]; exact hlt))
        have e0 : w2.cell? ⟨vs, vo + k, none⟩ = some (.string p) := by
          have h1 := HVC.out k (by rw [HN.out]; exact hlt)
          rw [HB2.out.cell (p := ⟨vs, vo + k, none⟩) (block_lt_of_cell h1), h1, hp]
        have hk0 : (0 : Int) ≤ (k : Int) := by omega
        have hk1 : (k : Int) < (n : Int) := by omega
        have hs3 : s.size ≤ 10000 := by omega
        clear hp
        by_cases h0 : k = 0
        · have h00 : ¬ 0 < k := by omega
          have h01 : ((k : Int) > 0) = False := eq_false (by omega)
          clear h0
          go_wp2
          refine ⟨⟨k + 1, _, by omega, rfl, rfl, ?_, by go_num, trivial⟩, by simp [intOf]; omega⟩
          rw [ByteArray.size_append]
          omega
        · have h00 : 0 < k := by omega
          have h01 : ((k : Int) > 0) = True := eq_true (by omega)
          clear h0
          go_wp2
          refine ⟨⟨k + 1, _, by omega, rfl, rfl, ?_, by go_num, trivial⟩, by simp [intOf]; omega⟩
          rw [ByteArray.size_append, ByteArray.size_append]
          have : (ByteArray.mk #[44, 32]).size = 2 := rfl
          omega
      · have hge : ((k : Int) < (n : Int)) = False := eq_false (by omega)
        obtain ⟨⟨z0, z1, z2, z3⟩, ⟨f0, f1, f2, f3⟩, ⟨s0, s1, s2, s3⟩⟩ := head_zero3 HX2.out
        go_wp2
        refine bodyPost_ret (ret_head rfl _ _ w.heap.size 25 _ (0, 0) rfl HX2.out rfl) rfl ?_
        exact ⟨rfl, HB2⟩
  have h16' : ((n : Int) ≤ 16) = True := eq_true (by omega)
  have HND : Sl (decide (l.map bytes).Nodup = false) := ⟨by rw [decide_eq_false_iff_not]; rcases HNO2.out with h | h; omega; exact h⟩
  go_wp2_with fail
  clear h16'
  refine (CO.out _ _ HB2.out HND.out).mono ?_
  rintro e w3 ⟨rfl, HE⟩
  have HB3 := Sl.mk (below_trans HB2.out HE.out)
  have HX3 := Sl.mk (box_below HX2.out HE.out)
  clear HE
  go_wp2
  have hz := HB3.out.size
  go_loopw [10, 11, 12] (fun b a i wr => ∃ (k : Nat) (s : ByteArray), k ≤ n ∧ b = .bool false ∧ a = .string s ∧ s.size ≤ k * 302 ∧ i = .int .i64 k ∧ w3 = wr) (fun _ _ i _ => n - (intOf i).toNat)
  case atStart => exact ⟨0, { data := #[] }, Nat.zero_le _, rfl, rfl, by decide, rfl, rfl⟩
  case round =>
    obtain ⟨k, s, hk, rfl, rfl, hs, rfl, rfl⟩ := hrel
    by_cases hlt : k < n
    · obtain rfl := HVA.out (by rw [HN.out]; omega)
      obtain ⟨p, hp⟩ : ∃ p, l.getD k ByteArray.empty = p := ⟨_, rfl⟩
      have hps : p.size ≤ 300 := by rw [← hp]; exact HSZ.out _ (getD_mem (by rw [HN.out]; exact hlt))
      have e0 : w3.cell? ⟨vs, vo + k, none⟩ = some (.string p) := by
        have h1 := HVC.out k (by rw [HN.out]; exact hlt)
        rw [HB3.out.cell (p := ⟨vs, vo + k, none⟩) (block_lt_of_cell h1), h1, hp]
      have hk0 : (0 : Int) ≤ (k : Int) := by omega
      have hk1 : (k : Int) < (n : Int) := by omega
      have hs3 : s.size ≤ 10000 := by omega
      clear hp
      by_cases h0 : k = 0
      · have h00 : ¬ 0 < k := by omega
        have h01 : ((k : Int) > 0) = False := eq_false (by omega)
        clear h0
        go_wp2
        refine ⟨⟨k + 1, _, by omega, rfl, rfl, ?_, by go_num, trivial⟩, by simp [intOf]; omega⟩
        rw [ByteArray.size_append]
        omega
      · have h00 : 0 < k := by omega
        have h01 : ((k : Int) > 0) = True := eq_true (by omega)
        clear h0
        go_wp2
        refine ⟨⟨k + 1, _, by omega, rfl, rfl, ?_, by go_num, trivial⟩, by simp [intOf]; omega⟩
        rw [ByteArray.size_append, ByteArray.size_append]
        have : (ByteArray.mk #[44, 32]).size = 2 := rfl
        omega
    · have hge : ((k : Int) < (n : Int)) = False := eq_false (by omega)
      obtain ⟨⟨z0, z1, z2, z3⟩, ⟨f0, f1, f2, f3⟩, ⟨s0, s1, s2, s3⟩⟩ := head_zero3 HX3.out
      go_wp2
      refine bodyPost_ret (ret_head rfl _ _ w.heap.size 25 _ (0, 0) rfl HX3.out rfl) rfl ?_
      exact ⟨rfl, HB3⟩
/-- The protocols so far, a comma and a blank between. -/
theorem join_step {l : List ByteArray} {k : Nat} {s p : ByteArray} (hk : k < l.length) (hp : l.getD k ByteArray.empty = p) (hs : bytes s = commas ((l.take k).map bytes)) :
    (k = 0 → bytes (s ++ p) = commas ((l.take (k + 1)).map bytes)) ∧ (0 < k → bytes (s ++ { data := #[44, 32] } ++ p) = commas ((l.take (k + 1)).map bytes)) := by
  have e : ((l.map bytes).getD k []) = bytes p := by
    rw [← hp, List.getD_eq_getElem?_getD, List.getElem?_map, List.getD_eq_getElem?_getD, List.getElem?_eq_getElem hk]; rfl
  have h := commas_take (l.map bytes) k (by rw [List.length_map]; exact hk)
  rw [e, ← List.map_take, ← List.map_take] at h
  constructor
  · intro h0
    rw [h, if_pos h0, bytes_append, hs, h0]
    rfl
  · intro h0
    rw [h, if_neg (by omega), bytes_append, bytes_append, hs, List.append_assoc]
    rfl
end Go.Proofs.YthlagngpllahkaaGreatDoor
