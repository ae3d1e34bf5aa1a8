/- queue: New, Put. -/
import Derived.Test.YtflnmjiopeoodaaQE
set_option maxRecDepth 100000
namespace Go.Proofs.Ytflnmjiopeoodaa.Que
open Go.RowKit Evt QueuePlain
open MsgPlain (Ev)

theorem new_no (w : World) (count bytes' : Int) (h : ¬ (1 ≤ count ∧ count ≤ 1024 ∧ 1 ≤ bytes' ∧ bytes' ≤ 4194304)) :
    Calls Try.prog 8 #[.int .i64 count, .int .i64 bytes'] w fun e w' => e = .returned (.tuple #[.pointer none, .int .i64 140]) ∧ Sl (Below w.heap.size w w') := by
  by_cases h1 : count < 1
  · have hq : (count < 1) = True := eq_true h1
    clear h
    go_enter Try.func8, Try.ntmps8
    go_wp2
    go_ret2
    exact ⟨rfl, ⟨Below.refl _ _⟩⟩
  · have hq1 : (count < 1) = False := eq_false h1
    by_cases h2 : count > 1024
    · have hq : (count > 1024) = True := eq_true h2
      clear h h1
      go_enter Try.func8, Try.ntmps8
      go_wp2
      go_ret2
      exact ⟨rfl, ⟨Below.refl _ _⟩⟩
    · have hq2 : (count > 1024) = False := eq_false h2
      by_cases h3 : bytes' < 1
      · have hq : (bytes' < 1) = True := eq_true h3
        clear h h1 h2
        go_enter Try.func8, Try.ntmps8
        go_wp2
        go_ret2
        exact ⟨rfl, ⟨Below.refl _ _⟩⟩
      · have hq3 : (bytes' < 1) = False := eq_false h3
        have hq : (bytes' > 4194304) = True := eq_true (by omega)
        clear h h1 h2 h3
        go_enter Try.func8, Try.ntmps8
        go_wp2
        go_ret2
        exact ⟨rfl, ⟨Below.refl _ _⟩⟩
theorem new_yes (w0 w : World) (count bytes' : Int) (h : 1 ≤ count ∧ count ≤ 1024 ∧ 1 ≤ bytes' ∧ bytes' ≤ 4194304) (hB : Below w0.heap.size w0 w) :
    Calls Try.prog 8 #[.int .i64 count, .int .i64 bytes'] w fun e w' => e = .returned (.tuple #[.pointer (some ⟨w.heap.size, 0, none⟩), .int .i64 0]) ∧ Sl (Qu w0 w' w.heap.size (.slice none 0 0) count bytes' []) ∧ Sl (Below w.heap.size w w') := by
  obtain ⟨h1, h2, h3, h4⟩ := h
  have hq1 : (count < 1) = False := eq_false (by omega)
  have hq2 : (count > 1024) = False := eq_false (by omega)
  have hq3 : (bytes' < 1) = False := eq_false (by omega)
  have hq4 : (bytes' > 4194304) = False := eq_false (by omega)
  obtain ⟨V, hV⟩ : ∃ V, w.alloc (.cells #[.int .i64 count, .int .i64 bytes', .int .i64 0, .slice none 0 0] 56) = V := ⟨_, rfl⟩
  have HB : Sl (Below w.heap.size w V) := ⟨by rw [← hV]; exact (Below.refl _ _).alloc (Nat.le_refl _) _⟩
  have HX : V.heap[w.heap.size]? = some (.cells #[.int .i64 count, .int .i64 bytes', .int .i64 0, .slice none 0 0] 56 (0, 0)) := by rw [← hV]; exact alloc_new _ _ _ rfl
  have HQ : Sl (Qu w0 V w.heap.size (.slice none 0 0) count bytes' []) := ⟨⟨⟨HX, qrow_nil _ _, hB.size, hB.trans (HB.out.mono hB.size)⟩, ⟨h1, h2⟩, ⟨h3, h4⟩, within_nil (by omega) (by omega), fun e he => absurd he List.not_mem_nil⟩⟩
  clear HX h1 h2 h3 h4 hB
  go_enter Try.func8, Try.ntmps8
  go_wp2
  go_ret2
  exact ⟨rfl, HQ, HB⟩
theorem put_fst {count bytes' : Int} {l l' : List Ev} {e : Ev} {r : Bool} (h : put count bytes' l e = (l', r)) : room count bytes' l (e.data.length : Int) = r ∧ (r = false → l' = l) ∧ (r = true → l' = l ++ [e]) := by
  unfold put at h
  split at h
  · rename_i hr
    injection h with h1 h2
    exact ⟨by rw [hr, h2], fun e => (by rw [← h2] at e; cases e), fun _ => h1.symm⟩
  · rename_i hr
    injection h with h1 h2
    exact ⟨by rw [← h2]; simpa using hr, fun _ => h1.symm, fun e => (by rw [← h2] at e; cases e)⟩
set_option maxHeartbeats 4000000 in
theorem put_any {w0 W : World} {q : Nat} {v : Value} {count bytes' : Int} {l l' : List Ev} (o c : Int) (s : ByteArray) (r : Bool) (h : Qu w0 W q v count bytes' l) (hs : s.size ≤ 1000000) (hp : put count bytes' l ⟨o, c, bytes s⟩ = (l', r)) :
    Calls Try.prog 11 #[.pointer (some ⟨q, 0, none⟩), .agg #[.int .i64 o, .int .i64 c, .string s]] W fun e w' => ∃ v', e = .returned (.bool r) ∧ Sl (Qu w0 w' q v' count bytes' l') ∧ Sl (Goes W w' q v v') := by
  obtain ⟨hr, hf, ht⟩ := put_fst hp
  rw [show ((⟨o, c, bytes s⟩ : Ev).data.length : Int) = (s.size : Int) from congrArg Nat.cast (bytes_length s)] at hr
  have HW : Sl (Within count bytes' l') := ⟨by have := put_within ⟨o, c, bytes s⟩ h.I; rw [hp] at this; exact this⟩
  have HZ : Sl (∀ e ∈ l', e.data.length ≤ 1000000) := ⟨fun e he => by
    cases r with
    | false => rw [hf rfl] at he; exact h.Z e he
    | true =>
      rw [ht rfl] at he
      rcases List.mem_append.1 he with he | he
      · exact h.Z e he
      · rw [List.mem_singleton] at he
        rw [he]; show (bytes s).length ≤ 1000000; rw [bytes_length]; exact hs⟩
  have HF := Sl.mk hf
  have HT := Sl.mk ht
  have HC := Sl.mk h.C
  have HD := Sl.mk h.D
  have HM := Sl.mk h.most
  obtain ⟨wa, hwa⟩ : ∃ V, W.alloc (.cells #[.int .i64 o, .int .i64 c, .string s] 32) = V := ⟨_, rfl⟩
  have HB : Below W.heap.size W wa := by rw [← hwa]; exact (Below.refl _ _).alloc (Nat.le_refl _) _
  have hH : wa.heap[W.heap.size]? = some (.cells #[.int .i64 o, .int .i64 c, .string s] 32 (0, 0)) := by rw [← hwa]; exact alloc_new _ _ _ rfl
  have hqn : Sl (q < W.heap.size) := ⟨h.N.lt⟩
  have hvn : Sl (v.ownBlock ≠ some W.heap.size) := ⟨fun e => Nat.lt_irrefl _ (h.N.R.lt e)⟩
  have HG0 := Sl.mk (Goes.below q v HB)
  have h1 := h.below HB
  have HQ1 := Sl.mk h1
  obtain ⟨-, -, d2⟩ := ev_cells hH
  have RC := room_any (s.size : Int) r h1 hr
  have HH := Sl.mk hH
  have HS := Sl.mk hs
  have HN := Sl.mk hp
  clear h h1 HB hH hp hf ht hr
  go_enter Try.func11, Try.ntmps11
  go_upto_region 1 with fail
  go_wp2_with fail
  refine RC.mono ?_
  rintro e w2 ⟨rfl, HB2⟩
  clear RC d2
  cases r with
  | false =>
    go_wp2
    go_ret
    have HQ2 := HQ1.out.below HB2.out
    have HG2 := HG0.out.trans (Goes.below q v HB2.out)
    have hll : l' = l := by simpa using HF.out
    rw [hll]
    exact ⟨v, rfl, ⟨HQ2⟩, ⟨HG2⟩⟩
  | true =>
    have hH2 := below_key HH.out HB2.out
    obtain ⟨d0, d1, d2⟩ := ev_cells hH2
    have HH2 := Sl.mk hH2
    have HQ2 := Sl.mk (HQ1.out.below HB2.out)
    have HG2 := Sl.mk (HG0.out.trans (Goes.below q v HB2.out))
    have CC := clone_any s w2 HS.out
    clear HH HQ1 HB2 HG0 hH2 d0 d1
    go_upto_region 3 with fail
    go_wp2_with fail
    refine CC.mono ?_
    rintro e w3 ⟨rfl, HB3⟩
    clear CC d2
    have hH3 := below_key HH2.out HB3.out
    have fz : w3.frozen? ⟨W.heap.size, 2, none⟩ = false := frozen_of_row _ _ _ _ _ hH3
    obtain ⟨-, -, d2⟩ := ev_cells hH3
    have hw4 : w3.setCell ⟨W.heap.size, 2, none⟩ (.string s) = w3 := setCell_self hH3 rfl
    have HQ3 := Sl.mk (HQ2.out.below HB3.out)
    have HG3 := Sl.mk (HG2.out.trans (Goes.below q v HB3.out))
    have HH3 := Sl.mk hH3
    clear HQ2 HG2 HH2 HB3 hH3
    go_upto_region 4 with fail
    (try rw [hw4])
    clear hw4 fz d2
    have hCa : W.heap.size < w3.heap.size := (Array.getElem?_eq_some_iff.1 HH3.out).1
    obtain ⟨Rw, hRw⟩ : ∃ R, w3.drew = R := ⟨_, rfl⟩
    have HBR : Below w3.heap.size w3 Rw := by rw [← hRw]; exact (Below.refl _ _).drew
    refine wp_region_noPanic ?_
    refine last_begin (S := fun V => V.heap[W.heap.size]? = some (.cells #[.int .i64 o, .int .i64 c, .string s] 32 (0, 0))) (D := fun k => k == 4) (by kernel_rfl) ?_
    change wpAnyL _ _ _ _ _ _ _ _ _ w3.drew
    rw [hRw]
    clear hRw
    have HS0 : Rw.heap[W.heap.size]? = some (.cells #[.int .i64 o, .int .i64 c, .string s] 32 (0, 0)) := (HBR.block _ hCa).trans HH3.out
    refine last_pure (d := some 15) (op := .move (Operand.tmp 0)) (g := none) 0 ?v0 rfl (by kernel_rfl) (by kernel_rfl) (by kernel_rfl) (by kernel_rfl) rfl ?y0 HS0 ?_
    case y0 => intro o' ho W; simp only [execOp, ho]; go_simp; try rfl
    simp only [Act.put, List.setIfInBounds_toArray, List.set_cons_zero, List.set_cons_succ]
    refine last_pure (d := some 16) (op := .nilCheck (Operand.tmp 15)) (g := none) 1 ?v1 rfl (by kernel_rfl) (by kernel_rfl) (by kernel_rfl) (by kernel_rfl) rfl ?y1 HS0 ?_
    case y1 => intro o' ho W; simp only [execOp, ho]; go_simp; try rfl
    simp only [Act.put, List.setIfInBounds_toArray, List.set_cons_zero, List.set_cons_succ]
    refine last_pure (d := some 17) (op := .fieldAddr 56 (Operand.tmp 16) 3) (g := none) 2 ?v2 rfl (by kernel_rfl) (by kernel_rfl) (by kernel_rfl) (by kernel_rfl) rfl ?y2 HS0 ?_
    case y2 => intro o' ho W; simp only [execOp, ho]; go_simp; try rfl
    simp only [Act.put, List.setIfInBounds_toArray, List.set_cons_zero, List.set_cons_succ]
    refine last_take (d := some 18) (op := .load 32 (Operand.tmp 3)) (g := none) 3 ?v3 rfl (by kernel_rfl) (by kernel_rfl) (by kernel_rfl) (by kernel_rfl) (by kernel_rfl) ?y3 HS0 ?_
    case y3 => intro o' ho W hS; obtain ⟨f0, f1, f2⟩ := ev_cells hS; simp only [execOp, ho]; go_simp; try rfl
    simp only [Act.put, List.setIfInBounds_toArray, List.set_cons_zero, List.set_cons_succ]
    have HQR := HQ3.out.below HBR
    have HGR := HG3.out.trans (Goes.below q v HBR)
    have LP := lput_any o c s HQR.N (by have := HM.out; omega)
    refine last_call (d := some 19) (op := .call { callee := Callee.value (Operand.func 22), args := #[Operand.tmp 17, Operand.tmp 18], argTypes := #[54, 32] }) (g := none) 4 22 #[.pointer (some ⟨q, 3, none⟩), .agg #[.int .i64 o, .int .i64 c, .string s]] rfl (by kernel_rfl) (by kernel_rfl) ?y4 (by kernel_rfl) ?_
    case y4 => intro o' ho; simp only [execOp, ho]; go_simp; try rfl
    refine (LP).mono ?_
    rintro e w5 ⟨v5, rfl, HQ5, HG5⟩
    refine ⟨_, rfl, ?_⟩
    simp only [Act.put, List.setIfInBounds_toArray, List.set_cons_zero, List.set_cons_succ]
    refine last_done (by kernel_rfl) ?_ _
    refine NoPanic.normal ?_
    have HH5 : Sl (w5.heap[W.heap.size]? = some (.cells #[.int .i64 o, .int .i64 c, .string s] 32 (0, 0))) := ⟨by
      rw [HG5.out.kept.block _ (Array.getElem?_eq_some_iff.1 HS0).1 (fun e => by
        rcases e with e | e
        · have := hqn.out; omega
        · exact hvn.out e)]; exact HS0⟩
    have HG6 := Sl.mk (HGR.trans HG5.out)
    clear HQR HGR LP HS0 HBR HG5 HH3 HQ3 HG3 hCa
    go_upto_region 5 with fail
    obtain ⟨m, hm⟩ : ∃ m, size l = m := ⟨_, rfl⟩
    have HMM := HM.out
    rw [hm] at HQ5 HMM
    have hm1 : m + s.size ≤ 1000000000 := by have := HS.out; omega
    have hwk : IntKind.i64.wrap ((m : Int) + (s.size : Int)) = ((m + s.size : Nat) : Int) := by rw [IntKind.wrap_i64]; omega
    have hwr : wrap64 ((m : Int) + (s.size : Int)) = ((m + s.size : Nat) : Int) := by unfold wrap64; omega
    have hqw := HQ5.out.lt
    have hCa : W.heap.size < w5.heap.size := (Array.getElem?_eq_some_iff.1 HH5.out).1
    obtain ⟨-, -, c2, -⟩ := HQ5.out.cells
    obtain ⟨Rw, hRw⟩ : ∃ R, w5.drew = R := ⟨_, rfl⟩
    have HBR : Below w5.heap.size w5 Rw := by rw [← hRw]; exact (Below.refl _ _).drew
    refine wp_region_noPanic ?_
    refine last_begin (S := fun V => V.cell? ⟨q, 2, none⟩ = some (.int .i64 (m : Int)) ∧ V.heap[W.heap.size]? = some (.cells #[.int .i64 o, .int .i64 c, .string s] 32 (0, 0))) (D := fun k => k == 10) (by kernel_rfl) ?_
    change wpAnyL _ _ _ _ _ _ _ _ _ w5.drew
    rw [hRw]
    clear hRw
    have HS0 : Rw.cell? ⟨q, 2, none⟩ = some (.int .i64 (m : Int)) ∧ Rw.heap[W.heap.size]? = some (.cells #[.int .i64 o, .int .i64 c, .string s] 32 (0, 0)) := ⟨(HBR.cell (p := ⟨q, 2, none⟩) hqw).trans c2, (HBR.block _ hCa).trans HH5.out⟩
    refine last_pure (d := some 20) (op := .move (Operand.tmp 0)) (g := none) 0 ?v0z rfl (by kernel_rfl) (by kernel_rfl) (by kernel_rfl) (by kernel_rfl) rfl ?y0z HS0 ?_
    case y0z => intro o' ho W; simp only [execOp, ho]; go_simp; try rfl
    simp only [Act.put, List.setIfInBounds_toArray, List.set_cons_zero, List.set_cons_succ]
    refine last_pure (d := some 21) (op := .nilCheck (Operand.tmp 20)) (g := none) 1 ?v1z rfl (by kernel_rfl) (by kernel_rfl) (by kernel_rfl) (by kernel_rfl) rfl ?y1z HS0 ?_
    case y1z => intro o' ho W; simp only [execOp, ho]; go_simp; try rfl
    simp only [Act.put, List.setIfInBounds_toArray, List.set_cons_zero, List.set_cons_succ]
    refine last_pure (d := some 22) (op := .fieldAddr 56 (Operand.tmp 21) 2) (g := none) 2 ?v2z rfl (by kernel_rfl) (by kernel_rfl) (by kernel_rfl) (by kernel_rfl) rfl ?y2z HS0 ?_
    case y2z => intro o' ho W; simp only [execOp, ho]; go_simp; try rfl
    simp only [Act.put, List.setIfInBounds_toArray, List.set_cons_zero, List.set_cons_succ]
    refine last_take (d := some 23) (op := .load 3 (Operand.tmp 22)) (g := none) 3 ?v3z rfl (by kernel_rfl) (by kernel_rfl) (by kernel_rfl) (by kernel_rfl) (by kernel_rfl) ?y3z HS0 ?_
    case y3z => intro o' ho W hS; have hc := hS.1; simp only [execOp, ho]; go_simp; try rfl
    simp only [Act.put, List.setIfInBounds_toArray, List.set_cons_zero, List.set_cons_succ]
    refine last_pure (d := some 24) (op := .fieldAddr 32 (Operand.tmp 3) 2) (g := none) 4 ?v4z rfl (by kernel_rfl) (by kernel_rfl) (by kernel_rfl) (by kernel_rfl) rfl ?y4z HS0 ?_
    case y4z => intro o' ho W; simp only [execOp, ho]; go_simp; try rfl
    simp only [Act.put, List.setIfInBounds_toArray, List.set_cons_zero, List.set_cons_succ]
    refine last_take (d := some 25) (op := .load 9 (Operand.tmp 24)) (g := none) 5 ?v5z rfl (by kernel_rfl) (by kernel_rfl) (by kernel_rfl) (by kernel_rfl) (by kernel_rfl) ?y5z HS0 ?_
    case y5z => intro o' ho W hS; obtain ⟨-, -, f2⟩ := ev_cells hS.2; simp only [execOp, ho]; go_simp; try rfl
    simp only [Act.put, List.setIfInBounds_toArray, List.set_cons_zero, List.set_cons_succ]
    refine last_pure (d := some 26) (op := .call { callee := Callee.builtin Builtin.len, args := #[Operand.tmp 25], argTypes := #[9] }) (g := none) 6 ?v6z rfl (by kernel_rfl) (by kernel_rfl) (by kernel_rfl) (by kernel_rfl) rfl ?y6z HS0 ?_
    case y6z => intro o' ho W; simp only [execOp, ho]; go_simp; try rfl
    simp only [Act.put, List.setIfInBounds_toArray, List.set_cons_zero, List.set_cons_succ]
    refine last_pure (d := some 27) (op := .binOp BinOp.add 3 (Operand.tmp 23) (Operand.tmp 26) 3) (g := none) 7 (.int .i64 ((m + s.size : Nat) : Int)) rfl (by kernel_rfl) (by kernel_rfl) (by kernel_rfl) (by kernel_rfl) rfl ?y7z HS0 ?_
    case y7z => intro o' ho W; exact by simp only [execOp, ho]; go_simp; first | done | (rw [hwr]; done) | (rw [hwk]; done) | simp [hwr] | rfl
    simp only [Act.put, List.setIfInBounds_toArray, List.set_cons_zero, List.set_cons_succ]
    refine last_pure (d := some 28) (op := .nilCheck (Operand.tmp 20)) (g := none) 8 ?v8z rfl (by kernel_rfl) (by kernel_rfl) (by kernel_rfl) (by kernel_rfl) rfl ?y8z HS0 ?_
    case y8z => intro o' ho W; simp only [execOp, ho]; go_simp; try rfl
    simp only [Act.put, List.setIfInBounds_toArray, List.set_cons_zero, List.set_cons_succ]
    refine last_pure (d := some 29) (op := .fieldAddr 56 (Operand.tmp 28) 2) (g := none) 9 ?v9z rfl (by kernel_rfl) (by kernel_rfl) (by kernel_rfl) (by kernel_rfl) rfl ?y9z HS0 ?_
    case y9z => intro o' ho W; simp only [execOp, ho]; go_simp; try rfl
    simp only [Act.put, List.setIfInBounds_toArray, List.set_cons_zero, List.set_cons_succ]
    have HQR := HQ5.out.below HBR
    obtain ⟨HQ7, HG7⟩ := HQR.resize (m + s.size)
    have hcq : Rw.cell? ⟨q, 2, none⟩ = some (.int .i64 (m : Int)) := HS0.1
    have hfq : Rw.frozen? ⟨q, 2, none⟩ = false := HQR.froz 2
    refine last_store (d := none) (op := .store 3 (Operand.tmp 29) (Operand.tmp 27)) (g := none) (t := 0) 10 (Rw.setCell ⟨q, 2, none⟩ (.int .i64 ((m + s.size : Nat) : Int))) rfl (by kernel_rfl) (by kernel_rfl) ?y10 (by kernel_rfl) ?_
    case y10 => intro o' ho ht; simp only [execOp, ho]; go_simp; try rfl
    simp only [Act.put]
    refine last_done (by kernel_rfl) ?_ _
    refine NoPanic.normal ?_
    have HG8 := Sl.mk (HG6.out.trans ((Goes.below q v5 HBR).trans HG7))
    have hz : size (l ++ [⟨o, c, bytes s⟩]) = m + s.size := by rw [size_append, size_one, hm]; exact congrArg (m + ·) (bytes_length s)
    have HQ8 : Sl (Qu w0 (Rw.setCell ⟨q, 2, none⟩ (.int .i64 ((m + s.size : Nat) : Int))) q v5 count bytes' l') := ⟨by
      have hl : l' = l ++ [⟨o, c, bytes s⟩] := by simpa using HT.out
      refine ⟨?_, HC.out, HD.out, HW.out, HZ.out⟩
      rw [hl, hz]; exact HQ7⟩
    clear HQ7 HG7 HQR hcq hfq HS0 HBR c2 HG6 HQ5 hm hz HH5
    go_wp2
    go_ret
    exact ⟨_, rfl, HQ8, HG8⟩
end Go.Proofs.Ytflnmjiopeoodaa.Que
