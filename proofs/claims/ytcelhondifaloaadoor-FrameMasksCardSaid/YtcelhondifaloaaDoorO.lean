/- frame: FrameMasks' walk. -/
import Derived.Test.YtcelhondifaloaaDoorM
set_option maxRecDepth 100000
namespace Go.Proofs.YtcelhondifaloaaDoor
open Go.RowKit MaskPlain FramePlain Mas

theorem loadkey {W : World} {ev : Operand → Value} {o : Oper} {x : Operand} {g a b c d : Nat} (ho : o.op = .load 22 x) (hx : ev x = .pointer (some ⟨g, 0, none⟩)) (h : W.heap[g]? = some (.cells #[.int .u8 ((a : Nat) : Int), .int .u8 ((b : Nat) : Int), .int .u8 ((c : Nat) : Int), .int .u8 ((d : Nat) : Int)] 22 (0, 0))) :
    (execOp ev o).run Tryd.prog W = .ok (.value (.agg #[.int .u8 ((a : Nat) : Int), .int .u8 ((b : Nat) : Int), .int .u8 ((c : Nat) : Int), .int .u8 ((d : Nat) : Int)])) W :=
  loadrun (key := [a, b, c, d]) ho hx (key_info rfl) h
/-- A key is stored in a frame. -/
theorem store_key {W : World} {ev : Operand → Value} {o : Oper} {x y : Operand} {g : Nat} {c0 c1 c2 c7 : Value} {a b c d p q r t : Nat} (ho : o.op = .store 22 x y) (hx : ev x = .pointer (some ⟨g, 3, none⟩)) (hy : ev y = .agg #[.int .u8 ((p : Nat) : Int), .int .u8 ((q : Nat) : Int), .int .u8 ((r : Nat) : Int), .int .u8 ((t : Nat) : Int)])
    (hg : W.heap[g]? = some (.cells #[c0, c1, c2, .int .u8 ((a : Nat) : Int), .int .u8 ((b : Nat) : Int), .int .u8 ((c : Nat) : Int), .int .u8 ((d : Nat) : Int), c7] 24 (0, 0))) :
    (execOp ev o).run Tryd.prog W = .ok .skip (W.setRow g #[c0, c1, c2, .int .u8 ((p : Nat) : Int), .int .u8 ((q : Nat) : Int), .int .u8 ((r : Nat) : Int), .int .u8 ((t : Nat) : Int), c7]) := by
  have hst := run_storeCells_at Tryd.prog g 3 24 (u8s [p, q, r, t]) 0 _ W hg (by simp) (u8s_one _)
  have hi := key_info (key := [p, q, r, t]) rfl
  cases hq : Tryd.prog.info? 22 with
  | none => rw [hq] at hi; cases hi
  | some i =>
    have hs : i.size = 4 := by rw [hq] at hi; simpa using hi
    unfold execOp
    simp only [ho, hx, hy, Instr.storeAt, Instr.sureAddr, Sem.run_bind, Sem.run_pure, Result.andThen_ok, storeVar, sizeOf, typeInfo]
    simp [Value.cells, hq, hs]
    refine (congrArg (fun r => Result.andThen r _) hst).trans ?_
    rfl
theorem masks_chk (fin : Bool) (op : Int) (a b c d ka kb kc kd : Nat) (s : ByteArray) {k1 k2 : Nat} (h1 : chk (⟨fin, (op : Int), false, [a, b, c, d], bytes s⟩ : Fr) = k1) (h2 : chk (⟨fin, (op : Int), true, [ka, kb, kc, kd], bytes s⟩ : Fr) = k2) : k1 = k2 ∨ ([a, b, c, d] ≠ zero4 ∧ k1 ≠ 0) := by
  by_cases hz : [a, b, c, d] = zero4
  · left
    rw [← h1, ← h2]
    unfold chk
    rw [form_mask (f := (⟨fin, (op : Int), false, [a, b, c, d], bytes s⟩ : Fr)) rfl hz [ka, kb, kc, kd]]
  · right
    refine ⟨hz, fun h0 => ?_⟩
    rw [h0] at h1
    rcases (form_cases (chk_ok h1).1).2 with h | h
    · cases h
    · exact hz h

set_option maxHeartbeats 8000000 in
theorem masks_walk (fin : Bool) (op : Int) (m : Bool) (a b c d : Nat) (s : ByteArray) (ka kb kc kd : Nat) (w : World) (hg : Globs w) (hk1 : Small 256 [a, b, c, d]) (hk2 : Small 256 [ka, kb, kc, kd]) : Calls Tryd.prog 7 #[.agg #[.bool fin, .int .i64 (op : Int), .bool m, .int .u8 ((a : Nat) : Int), .int .u8 ((b : Nat) : Int), .int .u8 ((c : Nat) : Int), .int .u8 ((d : Nat) : Int), .string s], .agg #[.int .u8 ((ka : Nat) : Int), .int .u8 ((kb : Nat) : Int), .int .u8 ((kc : Nat) : Int), .int .u8 ((kd : Nat) : Int)]] w fun e w' => e = .returned (.bool true) ∧ Below w.heap.size w w' := by
  have HG := Sl.mk hg
  clear hg
  by_cases hs : s.size > 1000
  · have hq : ((s.size : Int) > 1000) = True := eq_true (by omega)
    clear hs
    obtain ⟨w1, hw1⟩ : ∃ V, w.alloc (.cells #[.bool fin, .int .i64 (op : Int), .bool m, .int .u8 ((a : Nat) : Int), .int .u8 ((b : Nat) : Int), .int .u8 ((c : Nat) : Int), .int .u8 ((d : Nat) : Int), .string s] 24) = V := ⟨_, rfl⟩
    have h1s : w1.heap.size = w.heap.size + 1 := by rw [← hw1]; exact alloc_size _ _
    obtain ⟨w2, hw2⟩ : ∃ V, w1.alloc (.cells #[.int .u8 ((ka : Nat) : Int), .int .u8 ((kb : Nat) : Int), .int .u8 ((kc : Nat) : Int), .int .u8 ((kd : Nat) : Int)] 22) = V := ⟨_, rfl⟩
    have HB2 : Sl (Below w.heap.size w w2) := ⟨by rw [← hw2, ← hw1]; exact (bx_below w _).out.alloc (by rw [alloc_size]; omega) _⟩
    have HY2 : Sl (w2.heap[w.heap.size]? = some (.cells #[.bool fin, .int .i64 (op : Int), .bool m, .int .u8 ((a : Nat) : Int), .int .u8 ((b : Nat) : Int), .int .u8 ((c : Nat) : Int), .int .u8 ((d : Nat) : Int), .string s] 24 (0, 0))) := ⟨by rw [← hw2, alloc_old _ _ _ (by omega), ← hw1]; exact bx_new _ _⟩
    have HZ2 : Sl (w2.heap[w.heap.size + 1]? = some (.cells #[.int .u8 ((ka : Nat) : Int), .int .u8 ((kb : Nat) : Int), .int .u8 ((kc : Nat) : Int), .int .u8 ((kd : Nat) : Int)] 22 (0, 0))) := ⟨by rw [← hw2, ← h1s]; exact alloc_new _ _ _ rfl⟩
    go_enter Tryd.func7, Tryd.ntmps7
    go_wp2_with fail
    refine (awake_any w2 (HG.out.below HB2.out HG.out.size)).mono ?_
    rintro e w3 ⟨rfl, HX3⟩
    have HB3 : Sl (Below w.heap.size w w3) := ⟨HB2.out.trans (HX3.out.mono HB2.out.size)⟩
    have HY3 : Sl (w3.heap[w.heap.size]? = some (.cells #[.bool fin, .int .i64 (op : Int), .bool m, .int .u8 ((a : Nat) : Int), .int .u8 ((b : Nat) : Int), .int .u8 ((c : Nat) : Int), .int .u8 ((d : Nat) : Int), .string s] 24 (0, 0))) := ⟨below_key HY2.out HX3.out⟩
    have HZ3 : Sl (w3.heap[w.heap.size + 1]? = some (.cells #[.int .u8 ((ka : Nat) : Int), .int .u8 ((kb : Nat) : Int), .int .u8 ((kc : Nat) : Int), .int .u8 ((kd : Nat) : Int)] 22 (0, 0))) := ⟨below_key HZ2.out HX3.out⟩
    clear HB2 HY2 HZ2 HX3 hw1 hw2 h1s
    obtain ⟨c0, c1, c2, c3, c4, c5, c6, c7⟩ := bx8 HY3.out
    go_wp2_with fail
    refine (awake_any w3 (HG.out.below HB3.out HG.out.size)).mono ?_
    rintro e w4 ⟨rfl, HX4⟩
    have HB4 := HB3.out.trans (HX4.out.mono HB3.out.size)
    go_wp2
    go_ret
    exact ⟨rfl, HB4⟩
  have hq : ((s.size : Int) > 1000) = False := eq_false (by omega)
  cases m with
  | true =>
    clear hs
    obtain ⟨w1, hw1⟩ : ∃ V, w.alloc (.cells #[.bool fin, .int .i64 (op : Int), .bool true, .int .u8 ((a : Nat) : Int), .int .u8 ((b : Nat) : Int), .int .u8 ((c : Nat) : Int), .int .u8 ((d : Nat) : Int), .string s] 24) = V := ⟨_, rfl⟩
    have h1s : w1.heap.size = w.heap.size + 1 := by rw [← hw1]; exact alloc_size _ _
    obtain ⟨w2, hw2⟩ : ∃ V, w1.alloc (.cells #[.int .u8 ((ka : Nat) : Int), .int .u8 ((kb : Nat) : Int), .int .u8 ((kc : Nat) : Int), .int .u8 ((kd : Nat) : Int)] 22) = V := ⟨_, rfl⟩
    have HB2 : Sl (Below w.heap.size w w2) := ⟨by rw [← hw2, ← hw1]; exact (bx_below w _).out.alloc (by rw [alloc_size]; omega) _⟩
    have HY2 : Sl (w2.heap[w.heap.size]? = some (.cells #[.bool fin, .int .i64 (op : Int), .bool true, .int .u8 ((a : Nat) : Int), .int .u8 ((b : Nat) : Int), .int .u8 ((c : Nat) : Int), .int .u8 ((d : Nat) : Int), .string s] 24 (0, 0))) := ⟨by rw [← hw2, alloc_old _ _ _ (by omega), ← hw1]; exact bx_new _ _⟩
    have HZ2 : Sl (w2.heap[w.heap.size + 1]? = some (.cells #[.int .u8 ((ka : Nat) : Int), .int .u8 ((kb : Nat) : Int), .int .u8 ((kc : Nat) : Int), .int .u8 ((kd : Nat) : Int)] 22 (0, 0))) := ⟨by rw [← hw2, ← h1s]; exact alloc_new _ _ _ rfl⟩
    go_enter Tryd.func7, Tryd.ntmps7
    go_wp2_with fail
    refine (awake_any w2 (HG.out.below HB2.out HG.out.size)).mono ?_
    rintro e w3 ⟨rfl, HX3⟩
    have HB3 : Sl (Below w.heap.size w w3) := ⟨HB2.out.trans (HX3.out.mono HB2.out.size)⟩
    have HY3 : Sl (w3.heap[w.heap.size]? = some (.cells #[.bool fin, .int .i64 (op : Int), .bool true, .int .u8 ((a : Nat) : Int), .int .u8 ((b : Nat) : Int), .int .u8 ((c : Nat) : Int), .int .u8 ((d : Nat) : Int), .string s] 24 (0, 0))) := ⟨below_key HY2.out HX3.out⟩
    have HZ3 : Sl (w3.heap[w.heap.size + 1]? = some (.cells #[.int .u8 ((ka : Nat) : Int), .int .u8 ((kb : Nat) : Int), .int .u8 ((kc : Nat) : Int), .int .u8 ((kd : Nat) : Int)] 22 (0, 0))) := ⟨below_key HZ2.out HX3.out⟩
    clear HB2 HY2 HZ2 HX3 hw1 hw2 h1s
    obtain ⟨c0, c1, c2, c3, c4, c5, c6, c7⟩ := bx8 HY3.out
    go_wp2_with fail
    refine (awake_any w3 (HG.out.below HB3.out HG.out.size)).mono ?_
    rintro e w4 ⟨rfl, HX4⟩
    have HB4 := HB3.out.trans (HX4.out.mono HB3.out.size)
    go_wp2
    go_ret
    exact ⟨rfl, HB4⟩
  | false =>
    obtain ⟨w1, hw1⟩ : ∃ V, w.alloc (.cells #[.bool fin, .int .i64 (op : Int), .bool false, .int .u8 ((a : Nat) : Int), .int .u8 ((b : Nat) : Int), .int .u8 ((c : Nat) : Int), .int .u8 ((d : Nat) : Int), .string s] 24) = V := ⟨_, rfl⟩
    have h1s : w1.heap.size = w.heap.size + 1 := by rw [← hw1]; exact alloc_size _ _
    obtain ⟨w2, hw2⟩ : ∃ V, w1.alloc (.cells #[.int .u8 ((ka : Nat) : Int), .int .u8 ((kb : Nat) : Int), .int .u8 ((kc : Nat) : Int), .int .u8 ((kd : Nat) : Int)] 22) = V := ⟨_, rfl⟩
    have HB2 : Sl (Below w.heap.size w w2) := ⟨by rw [← hw2, ← hw1]; exact (bx_below w _).out.alloc (by rw [alloc_size]; omega) _⟩
    have HY2 : Sl (w2.heap[w.heap.size]? = some (.cells #[.bool fin, .int .i64 (op : Int), .bool false, .int .u8 ((a : Nat) : Int), .int .u8 ((b : Nat) : Int), .int .u8 ((c : Nat) : Int), .int .u8 ((d : Nat) : Int), .string s] 24 (0, 0))) := ⟨by rw [← hw2, alloc_old _ _ _ (by omega), ← hw1]; exact bx_new _ _⟩
    have HZ2 : Sl (w2.heap[w.heap.size + 1]? = some (.cells #[.int .u8 ((ka : Nat) : Int), .int .u8 ((kb : Nat) : Int), .int .u8 ((kc : Nat) : Int), .int .u8 ((kd : Nat) : Int)] 22 (0, 0))) := ⟨by rw [← hw2, ← h1s]; exact alloc_new _ _ _ rfl⟩
    obtain ⟨k1, hc1⟩ : ∃ k, chk (⟨fin, (op : Int), false, [a, b, c, d], bytes s⟩ : Fr) = k := ⟨_, rfl⟩
    obtain ⟨k2, hc2⟩ : ∃ k, chk (⟨fin, (op : Int), true, [ka, kb, kc, kd], bytes s⟩ : Fr) = k := ⟨_, rfl⟩
    have hmc := masks_chk fin op a b c d ka kb kc kd s hc1 hc2
    have hEq := eq_zero4 a b c d hk1
    by_cases h01 : k1 = 0
    · have h02 : k2 = 0 := by rcases hmc with h | h <;> omega
      subst h01
      subst h02
      obtain ⟨op, rfl⟩ := Int.eq_ofNat_of_zero_le (show 0 ≤ op by have h := (form_cases (chk_ok hc1).1).1; simp only at h; omega)
      obtain ⟨na, hn1⟩ : ∃ n, size (⟨fin, (op : Int), false, [a, b, c, d], bytes s⟩ : Fr) = n := ⟨_, rfl⟩
      obtain ⟨A, hT1⟩ : ∃ T, text (⟨fin, (op : Int), false, [a, b, c, d], bytes s⟩ : Fr) = T := ⟨_, rfl⟩
      obtain ⟨nb, hn2⟩ : ∃ n, size (⟨fin, (op : Int), true, [ka, kb, kc, kd], bytes s⟩ : Fr) = n := ⟨_, rfl⟩
      obtain ⟨B, hT2⟩ : ∃ T, text (⟨fin, (op : Int), true, [ka, kb, kc, kd], bytes s⟩ : Fr) = T := ⟨_, rfl⟩
      have hdl2 : (bytes s).length ≤ 1000 := by rw [bytes_length]; omega
      have hlB : Sl (B.length = nb) := ⟨by rw [← hT2, ← hn2]; exact text_length _ (by show (bytes _).length ≤ _; omega) rfl⟩
      have hsz2 : nb ≤ 1100 := by rw [← hn2]; unfold size; simp only [bytes_length]; split <;> split <;> (try split) <;> omega
      have P1 : ∀ W, Globs W → Calls Tryd.prog 11 #[.agg #[.bool fin, .int .i64 (op : Int), .bool false, .int .u8 ((a : Nat) : Int), .int .u8 ((b : Nat) : Int), .int .u8 ((c : Nat) : Int), .int .u8 ((d : Nat) : Int), .string s]] W fun e w' => ∃ g cap, e = .returned (.tuple #[.slice (some ⟨g, 0, none⟩) na cap, .int .i64 0]) ∧ Sl (SrcAt w' (.slice (some ⟨g, 0, none⟩) na cap) A) ∧ Sl (Below W.heap.size W w') := fun W hW => by
        have := putf_yes fin op false a b c d s na W hW hk1 hc1 hn1
        rw [hT1] at this
        exact this
      have P2 : ∀ W, Globs W → Calls Tryd.prog 11 #[.agg #[.bool fin, .int .i64 (op : Int), .bool true, .int .u8 ((ka : Nat) : Int), .int .u8 ((kb : Nat) : Int), .int .u8 ((kc : Nat) : Int), .int .u8 ((kd : Nat) : Int), .string s]] W fun e w' => ∃ g cap, e = .returned (.tuple #[.slice (some ⟨g, 0, none⟩) nb cap, .int .i64 0]) ∧ Sl (SrcAt w' (.slice (some ⟨g, 0, none⟩) nb cap) B) ∧ Sl (Below W.heap.size W w') := fun W hW => by
        have := putf_yes fin op true ka kb kc kd s nb W hW hk2 hc2 hn2
        rw [hT2] at this
        exact this
      have hnn : nb = na + 4 := by rw [← hn1, ← hn2]; exact size_mask (f := (⟨fin, (op : Int), false, [a, b, c, d], bytes s⟩ : Fr)) rfl [ka, kb, kc, kd]
      have Z1 : ∀ W, Globs W → Calls Tryd.prog 18 #[.agg #[.bool fin, .int .i64 (op : Int), .bool false, .int .u8 ((a : Nat) : Int), .int .u8 ((b : Nat) : Int), .int .u8 ((c : Nat) : Int), .int .u8 ((d : Nat) : Int), .string s]] W fun e w' => e = .returned (.int .i64 (na : Int)) ∧ Sl (Below W.heap.size W w') := fun W hW => by have := size_any fin (op : Int) false a b c d s W hW (by omega); rw [hn1] at this; exact this
      have Z2 : ∀ W, Globs W → Calls Tryd.prog 18 #[.agg #[.bool fin, .int .i64 (op : Int), .bool true, .int .u8 ((ka : Nat) : Int), .int .u8 ((kb : Nat) : Int), .int .u8 ((kc : Nat) : Int), .int .u8 ((kd : Nat) : Int), .string s]] W fun e w' => e = .returned (.int .i64 (nb : Int)) ∧ Sl (Below W.heap.size W w') := fun W hW => by have := size_any fin (op : Int) true ka kb kc kd s W hW (by omega); rw [hn2] at this; exact this
      have zq : IntKind.i64.wrap ((na : Int) + 4) = (nb : Int) := by rw [IntKind.wrap_i64]; omega
      have hqs : (s.toList == s.toList) = true := by simp
      have heq22 : ∀ W, (Op.equalIn 10000 22 (.agg #[.int .u8 ((ka : Nat) : Int), .int .u8 ((kb : Nat) : Int), .int .u8 ((kc : Nat) : Int), .int .u8 ((kd : Nat) : Int)]) (.agg #[.int .u8 ((ka : Nat) : Int), .int .u8 ((kb : Nat) : Int), .int .u8 ((kc : Nat) : Int), .int .u8 ((kd : Nat) : Int)])).run Tryd.prog W = .ok true W := fun W => (eq_keys [ka, kb, kc, kd] [ka, kb, kc, kd] rfl rfl hk2 hk2 W).trans (congrArg (fun b => Result.ok b W) (by simp))
      have G1 : ∀ (W : World) g cap, Globs W → SrcAt W (.slice (some ⟨g, 0, none⟩) nb cap) B → Calls Tryd.prog 16 #[.slice (some ⟨g, 0, none⟩) nb cap, .int .i64 65536] W fun e w' => e = .returned (.tuple #[.agg #[.bool fin, .int .i64 (op : Int), .bool true, .int .u8 ((ka : Nat) : Int), .int .u8 ((kb : Nat) : Int), .int .u8 ((kc : Nat) : Int), .int .u8 ((kd : Nat) : Int), .string s], .int .i64 (nb : Int), .int .i64 0]) ∧ Sl (Below W.heap.size W w') := fun W g cap hW hv => by
        have hx := get_text (chk_ok hc2).1 (by show (bytes s).length ≤ _; omega) rfl [] 65536
        rw [hT2, if_neg (by show ¬ (65536 : Int) < ((bytes s).length : Int); omega), hn2, List.append_nil] at hx
        have := getf_ex g 0 nb cap B 65536 fin (op : Int) true ka kb kc kd (bytes s) nb 0 W hW hv hlB.out (by rw [← hT2]; exact text_small hc2 hk2 (bytes_small s)) (by omega) (by decide) hx
        rw [strOf_bytes] at this
        exact this
      clear hc1 hc2 hT1 hT2 hn1 hn2 hdl2 hs hk1 hk2 hmc hEq hnn
      go_enter Tryd.func7, Tryd.ntmps7
      go_wp2_with fail
      refine (awake_any w2 (HG.out.below HB2.out HG.out.size)).mono ?_
      rintro e w3 ⟨rfl, HX3⟩
      have HB3 : Sl (Below w.heap.size w w3) := ⟨HB2.out.trans (HX3.out.mono HB2.out.size)⟩
      have HY3 : Sl (w3.heap[w.heap.size]? = some (.cells #[.bool fin, .int .i64 (op : Int), .bool false, .int .u8 ((a : Nat) : Int), .int .u8 ((b : Nat) : Int), .int .u8 ((c : Nat) : Int), .int .u8 ((d : Nat) : Int), .string s] 24 (0, 0))) := ⟨below_key HY2.out HX3.out⟩
      have HZ3 : Sl (w3.heap[w.heap.size + 1]? = some (.cells #[.int .u8 ((ka : Nat) : Int), .int .u8 ((kb : Nat) : Int), .int .u8 ((kc : Nat) : Int), .int .u8 ((kd : Nat) : Int)] 22 (0, 0))) := ⟨below_key HZ2.out HX3.out⟩
      clear HB2 HY2 HZ2 HX3 hw1 hw2 h1s
      obtain ⟨c0, c1, c2, c3, c4, c5, c6, c7⟩ := bx8 HY3.out
      obtain ⟨gb, hgb⟩ : ∃ gb, w3.heap.size = gb := ⟨_, rfl⟩
      have hgb1 : w.heap.size + 1 < gb := by rw [← hgb]; exact (Array.getElem?_eq_some_iff.1 HZ3.out).1
      obtain ⟨w4, hw4⟩ : ∃ V, (w3.alloc (.cells #[.bool false, .int .i64 0, .bool false, .int .u8 0, .int .u8 0, .int .u8 0, .int .u8 0, .string { data := #[] }] 24)).setRow w3.heap.size #[.bool fin, .int .i64 (op : Int), .bool false, .int .u8 ((a : Nat) : Int), .int .u8 ((b : Nat) : Int), .int .u8 ((c : Nat) : Int), .int .u8 ((d : Nat) : Int), .string s] = V := ⟨_, rfl⟩
      have HXw4 : Sl (Below w3.heap.size w3 w4) := ⟨by rw [← hw4]; exact laid_self w3 #[.bool fin, .int .i64 (op : Int), .bool false, .int .u8 ((a : Nat) : Int), .int .u8 ((b : Nat) : Int), .int .u8 ((c : Nat) : Int), .int .u8 ((d : Nat) : Int), .string s]⟩
      have HBw4 : Sl (Below w.heap.size w w4) := ⟨HB3.out.trans (HXw4.out.mono HB3.out.size)⟩
      have HYw4 : Sl (w4.heap[w3.heap.size]? = some (.cells #[.bool fin, .int .i64 (op : Int), .bool false, .int .u8 ((a : Nat) : Int), .int .u8 ((b : Nat) : Int), .int .u8 ((c : Nat) : Int), .int .u8 ((d : Nat) : Int), .string s] 24 (0, 0))) := ⟨by rw [← hw4]; exact (laid_fr #[.bool fin, .int .i64 (op : Int), .bool false, .int .u8 ((a : Nat) : Int), .int .u8 ((b : Nat) : Int), .int .u8 ((c : Nat) : Int), .int .u8 ((d : Nat) : Int), .string s] (Below.refl _ _)).2⟩
      have HIw4 := fr_info (cs := #[.bool fin, .int .i64 (op : Int), .bool false, .int .u8 ((a : Nat) : Int), .int .u8 ((b : Nat) : Int), .int .u8 ((c : Nat) : Int), .int .u8 ((d : Nat) : Int), .string s]) rfl
      have HY4 : Sl (w4.heap[w.heap.size]? = some (.cells #[.bool fin, .int .i64 (op : Int), .bool false, .int .u8 ((a : Nat) : Int), .int .u8 ((b : Nat) : Int), .int .u8 ((c : Nat) : Int), .int .u8 ((d : Nat) : Int), .string s] 24 (0, 0))) := ⟨below_key HY3.out HXw4.out⟩
      have HZ4 : Sl (w4.heap[w.heap.size + 1]? = some (.cells #[.int .u8 ((ka : Nat) : Int), .int .u8 ((kb : Nat) : Int), .int .u8 ((kc : Nat) : Int), .int .u8 ((kd : Nat) : Int)] 22 (0, 0))) := ⟨below_key HZ3.out HXw4.out⟩
      rw [hgb] at HYw4
      have hbn := bx_new w3 #[.bool false, .int .i64 0, .bool false, .int .u8 0, .int .u8 0, .int .u8 0, .int .u8 0, .string { data := #[] }]
      rw [hgb] at hw4 hbn
      clear HXw4 HB3 HY3 HZ3
      go_upto_region 4 with (refine wpList_store_row rfl 24 (.tmp 5) (.tmp 26) rfl gb #[.bool fin, .int .i64 (op : Int), .bool false, .int .u8 ((a : Nat) : Int), .int .u8 ((b : Nat) : Int), .int .u8 ((c : Nat) : Int), .int .u8 ((d : Nat) : Int), .string s] (by rw [← hgb]; rfl) rfl 24 #[.bool false, .int .i64 0, .bool false, .int .u8 0, .int .u8 0, .int .u8 0, .int .u8 0, .string { data := #[] }] hbn HIw4 rfl (fr_all _ _ _ _ _ _ _ _) ?_)
      obtain ⟨Rw, hR⟩ : ∃ Rw, ((w3.alloc (.cells #[.bool false, .int .i64 0, .bool false, .int .u8 0, .int .u8 0, .int .u8 0, .int .u8 0, .string { data := #[] }] 24)).setRow gb #[.bool fin, .int .i64 (op : Int), .bool false, .int .u8 ((a : Nat) : Int), .int .u8 ((b : Nat) : Int), .int .u8 ((c : Nat) : Int), .int .u8 ((d : Nat) : Int), .string s]).drew = Rw := ⟨_, rfl⟩
      have HS0 : Below w.heap.size w Rw ∧ Rw.heap[w.heap.size + 1]? = some (.cells #[.int .u8 ((ka : Nat) : Int), .int .u8 ((kb : Nat) : Int), .int .u8 ((kc : Nat) : Int), .int .u8 ((kd : Nat) : Int)] 22 (0, 0)) := ⟨by rw [← hR, hw4]; exact HBw4.out.drew, by rw [← hR, hw4]; exact HZ4.out⟩
      have HGR : Rw.heap[gb]? = some (.cells #[.bool fin, .int .i64 (op : Int), .bool false, .int .u8 ((a : Nat) : Int), .int .u8 ((b : Nat) : Int), .int .u8 ((c : Nat) : Int), .int .u8 ((d : Nat) : Int), .string s] 24 (0, 0)) := by rw [← hR, hw4]; exact HYw4.out
      have HYR : Rw.heap[w.heap.size]? = some (.cells #[.bool fin, .int .i64 (op : Int), .bool false, .int .u8 ((a : Nat) : Int), .int .u8 ((b : Nat) : Int), .int .u8 ((c : Nat) : Int), .int .u8 ((d : Nat) : Int), .string s] 24 (0, 0)) := by rw [← hR, hw4]; exact HY4.out
      refine wp_region_noPanic ?_
      refine wp_region_held (S := fun W => Below w.heap.size w W ∧ W.heap[w.heap.size + 1]? = some (.cells #[.int .u8 ((ka : Nat) : Int), .int .u8 ((kb : Nat) : Int), .int .u8 ((kc : Nat) : Int), .int .u8 ((kd : Nat) : Int)] 22 (0, 0))) (by kernel_rfl) ?_
      change wpAnyH _ _ _ _ _ _ _ _ ((w3.alloc (.cells #[.bool false, .int .i64 0, .bool false, .int .u8 0, .int .u8 0, .int .u8 0, .int .u8 0, .string { data := #[] }] 24)).setRow gb #[.bool fin, .int .i64 (op : Int), .bool false, .int .u8 ((a : Nat) : Int), .int .u8 ((b : Nat) : Int), .int .u8 ((c : Nat) : Int), .int .u8 ((d : Nat) : Int), .string s]).drew
      rw [hR]
      clear hR HBw4 HY4 HZ4 HYw4 hw4 HIw4 hbn
      clear c0 c1 c2 c3 c4 c5 c6 c7
      refine heldTake (d := some 27) (op := .load 22 (Operand.tmp 3)) (g := none) 0 (.agg #[.int .u8 ((ka : Nat) : Int), .int .u8 ((kb : Nat) : Int), .int .u8 ((kc : Nat) : Int), .int .u8 ((kd : Nat) : Int)]) rfl (by kernel_rfl) (by kernel_rfl) (by kernel_rfl) (by kernel_rfl) ?y0h1 HS0 ?_
      case y0h1 => intro o' ho W hS; exact loadkey ho (by rfl) hS.2
      simp only [Act.put, List.setIfInBounds_toArray, List.set_cons_zero, List.set_cons_succ]
      refine heldTake (d := some 28) (op := .fieldAddr 24 (Operand.tmp 5) 2) (g := none) 1 ?v1h1 rfl (by kernel_rfl) (by kernel_rfl) (by kernel_rfl) (by kernel_rfl) ?y1h1 HS0 ?_
      case y1h1 => intro o' ho W hS; simp only [execOp, ho]; go_simp; try rfl
      simp only [Act.put, List.setIfInBounds_toArray, List.set_cons_zero, List.set_cons_succ]
      obtain ⟨w5, hw5⟩ : ∃ V, Rw.setCell ⟨gb, 2, none⟩ (.bool true) = V := ⟨_, rfl⟩
      have HB5 : Sl (Below w.heap.size w w5) := ⟨by rw [← hw5]; exact HS0.1.setCell (by show w.heap.size ≤ gb; omega) _⟩
      have HG5 : Sl (w5.heap[gb]? = some (.cells #[.bool fin, .int .i64 (op : Int), .bool true, .int .u8 ((a : Nat) : Int), .int .u8 ((b : Nat) : Int), .int .u8 ((c : Nat) : Int), .int .u8 ((d : Nat) : Int), .string s] 24 (0, 0))) := ⟨by rw [← hw5, heap_setCell_same _ _ _ _ _ _ HGR]; rfl⟩
      have HY5 : Sl (w5.heap[w.heap.size]? = some (.cells #[.bool fin, .int .i64 (op : Int), .bool false, .int .u8 ((a : Nat) : Int), .int .u8 ((b : Nat) : Int), .int .u8 ((c : Nat) : Int), .int .u8 ((d : Nat) : Int), .string s] 24 (0, 0))) := ⟨by rw [← hw5, heap_setCell_other _ _ _ _ (by show w.heap.size ≠ gb; omega)]; exact HYR⟩
      have HZ5 : Sl (w5.heap[w.heap.size + 1]? = some (.cells #[.int .u8 ((ka : Nat) : Int), .int .u8 ((kb : Nat) : Int), .int .u8 ((kc : Nat) : Int), .int .u8 ((kd : Nat) : Int)] 22 (0, 0))) := ⟨by rw [← hw5, heap_setCell_other _ _ _ _ (by show w.heap.size + 1 ≠ gb; omega)]; exact HS0.2⟩
      have hf2 : Rw.frozen? ⟨gb, 2, none⟩ = false := frozen_of_row _ _ _ _ _ HGR
      have hc2 : Rw.cell? ⟨gb, 2, none⟩ = some (.bool false) := (bx8 HGR).2.2.1
      refine heldStore (d := none) (op := .store 4 (Operand.tmp 28) (Operand.const (Value.bool true))) (g := none) (t := 0) 2 w5 rfl (by kernel_rfl) (by kernel_rfl) ?y2h1 ⟨HB5.out, HZ5.out⟩ ?_
      case y2h1 => intro o' ho ht; simp only [execOp, ho]; go_simp; first | done | rw [hw5] | rfl
      simp only [Act.put]
      refine heldTake (d := some 29) (op := .fieldAddr 24 (Operand.tmp 5) 3) (g := none) 3 ?v3h1 rfl (by kernel_rfl) (by kernel_rfl) (by kernel_rfl) (by kernel_rfl) ?y3h1 ⟨HB5.out, HZ5.out⟩ ?_
      case y3h1 => intro o' ho W hS; simp only [execOp, ho]; go_simp; try rfl
      simp only [Act.put, List.setIfInBounds_toArray, List.set_cons_zero, List.set_cons_succ]
      obtain ⟨w6, hw6⟩ : ∃ V, w5.setRow gb #[.bool fin, .int .i64 (op : Int), .bool true, .int .u8 ((ka : Nat) : Int), .int .u8 ((kb : Nat) : Int), .int .u8 ((kc : Nat) : Int), .int .u8 ((kd : Nat) : Int), .string s] = V := ⟨_, rfl⟩
      have HB6 : Sl (Below w.heap.size w w6) := ⟨by rw [← hw6]; exact below_setRow HB5.out (by omega) _⟩
      have HG6 : Sl (w6.heap[gb]? = some (.cells #[.bool fin, .int .i64 (op : Int), .bool true, .int .u8 ((ka : Nat) : Int), .int .u8 ((kb : Nat) : Int), .int .u8 ((kc : Nat) : Int), .int .u8 ((kd : Nat) : Int), .string s] 24 (0, 0))) := ⟨by rw [← hw6]; exact setRow_heap _ _ _ _ _ _ HG5.out⟩
      have HY6 : Sl (w6.heap[w.heap.size]? = some (.cells #[.bool fin, .int .i64 (op : Int), .bool false, .int .u8 ((a : Nat) : Int), .int .u8 ((b : Nat) : Int), .int .u8 ((c : Nat) : Int), .int .u8 ((d : Nat) : Int), .string s] 24 (0, 0))) := ⟨by rw [← hw6, setRow_other _ _ _ _ (by omega)]; exact HY5.out⟩
      have HZ6 : Sl (w6.heap[w.heap.size + 1]? = some (.cells #[.int .u8 ((ka : Nat) : Int), .int .u8 ((kb : Nat) : Int), .int .u8 ((kc : Nat) : Int), .int .u8 ((kd : Nat) : Int)] 22 (0, 0))) := ⟨by rw [← hw6, setRow_other _ _ _ _ (by omega)]; exact HZ5.out⟩
      refine heldStore (d := none) (op := .store 22 (Operand.tmp 29) (Operand.tmp 27)) (g := none) (t := 0) 4 w6 rfl (by kernel_rfl) (by kernel_rfl) ?y4h1 ⟨HB6.out, HZ6.out⟩ ?_
      case y4h1 => intro o' ho ht; rw [← hw6]; exact store_key ho (by rfl) (by rfl) HG5.out
      simp only [Act.put]
      refine wpAnyH_done (by kernel_rfl) ?_ _
      refine NoPanic.normal ?_
      clear HS0 HGR HYR hf2 hc2 hw5 HB5 HG5 HY5 HZ5 hw6
      obtain ⟨c0, c1, c2, c3, c4, c5, c6, c7⟩ := bx8 HY6.out
      obtain ⟨g0, g1, g2, g3, g4, g5, g6, g7⟩ := bx8 HG6.out
      go_wp2_with fail
      refine (P1 w6 (HG.out.below HB6.out HG.out.size)).mono ?_
      rintro e w7 ⟨ga4, cap4, rfl, HS4, HX7⟩
      have HB7 : Sl (Below w.heap.size w w7) := ⟨HB6.out.trans (HX7.out.mono HB6.out.size)⟩
      have HY7 : Sl (w7.heap[w.heap.size]? = some (.cells #[.bool fin, .int .i64 (op : Int), .bool false, .int .u8 ((a : Nat) : Int), .int .u8 ((b : Nat) : Int), .int .u8 ((c : Nat) : Int), .int .u8 ((d : Nat) : Int), .string s] 24 (0, 0))) := ⟨below_key HY6.out HX7.out⟩
      have HZ7 : Sl (w7.heap[w.heap.size + 1]? = some (.cells #[.int .u8 ((ka : Nat) : Int), .int .u8 ((kb : Nat) : Int), .int .u8 ((kc : Nat) : Int), .int .u8 ((kd : Nat) : Int)] 22 (0, 0))) := ⟨below_key HZ6.out HX7.out⟩
      have HG7 : Sl (w7.heap[gb]? = some (.cells #[.bool fin, .int .i64 (op : Int), .bool true, .int .u8 ((ka : Nat) : Int), .int .u8 ((kb : Nat) : Int), .int .u8 ((kc : Nat) : Int), .int .u8 ((kd : Nat) : Int), .string s] 24 (0, 0))) := ⟨below_key HG6.out HX7.out⟩
      clear c0 c1 c2 c3 c4 c5 c6 c7
      clear g0 g1 g2 g3 g4 g5 g6 g7
      obtain ⟨c0, c1, c2, c3, c4, c5, c6, c7⟩ := bx8 HY7.out
      obtain ⟨g0, g1, g2, g3, g4, g5, g6, g7⟩ := bx8 HG7.out
      go_wp2_with fail
      refine (P2 w7 (HG.out.below HB7.out HG.out.size)).mono ?_
      rintro e w8 ⟨ga5, cap5, rfl, HS5, HX8⟩
      have HB8 : Sl (Below w.heap.size w w8) := ⟨HB7.out.trans (HX8.out.mono HB7.out.size)⟩
      have HY8 : Sl (w8.heap[w.heap.size]? = some (.cells #[.bool fin, .int .i64 (op : Int), .bool false, .int .u8 ((a : Nat) : Int), .int .u8 ((b : Nat) : Int), .int .u8 ((c : Nat) : Int), .int .u8 ((d : Nat) : Int), .string s] 24 (0, 0))) := ⟨below_key HY7.out HX8.out⟩
      have HZ8 : Sl (w8.heap[w.heap.size + 1]? = some (.cells #[.int .u8 ((ka : Nat) : Int), .int .u8 ((kb : Nat) : Int), .int .u8 ((kc : Nat) : Int), .int .u8 ((kd : Nat) : Int)] 22 (0, 0))) := ⟨below_key HZ7.out HX8.out⟩
      have HG8 : Sl (w8.heap[gb]? = some (.cells #[.bool fin, .int .i64 (op : Int), .bool true, .int .u8 ((ka : Nat) : Int), .int .u8 ((kb : Nat) : Int), .int .u8 ((kc : Nat) : Int), .int .u8 ((kd : Nat) : Int), .string s] 24 (0, 0))) := ⟨below_key HG7.out HX8.out⟩
      clear c0 c1 c2 c3 c4 c5 c6 c7
      clear g0 g1 g2 g3 g4 g5 g6 g7
      obtain ⟨c0, c1, c2, c3, c4, c5, c6, c7⟩ := bx8 HY8.out
      obtain ⟨g0, g1, g2, g3, g4, g5, g6, g7⟩ := bx8 HG8.out
      clear HX7 HX8 HS4
      go_wp2_with fail
      refine (G1 w8 _ _ (HG.out.below HB8.out HG.out.size) HS5.out).mono ?_
      rintro e w9 ⟨rfl, HX9⟩
      have HB9 : Sl (Below w.heap.size w w9) := ⟨HB8.out.trans (HX9.out.mono HB8.out.size)⟩
      have HY9 : Sl (w9.heap[w.heap.size]? = some (.cells #[.bool fin, .int .i64 (op : Int), .bool false, .int .u8 ((a : Nat) : Int), .int .u8 ((b : Nat) : Int), .int .u8 ((c : Nat) : Int), .int .u8 ((d : Nat) : Int), .string s] 24 (0, 0))) := ⟨below_key HY8.out HX9.out⟩
      have HZ9 : Sl (w9.heap[w.heap.size + 1]? = some (.cells #[.int .u8 ((ka : Nat) : Int), .int .u8 ((kb : Nat) : Int), .int .u8 ((kc : Nat) : Int), .int .u8 ((kd : Nat) : Int)] 22 (0, 0))) := ⟨below_key HZ8.out HX9.out⟩
      have HG9 : Sl (w9.heap[gb]? = some (.cells #[.bool fin, .int .i64 (op : Int), .bool true, .int .u8 ((ka : Nat) : Int), .int .u8 ((kb : Nat) : Int), .int .u8 ((kc : Nat) : Int), .int .u8 ((kd : Nat) : Int), .string s] 24 (0, 0))) := ⟨below_key HG8.out HX9.out⟩
      obtain ⟨xb, hxb⟩ : ∃ xb, w9.heap.size = xb := ⟨_, rfl⟩
      obtain ⟨w10, hw10⟩ : ∃ V, (w9.alloc (.cells #[.bool false, .int .i64 0, .bool false, .int .u8 0, .int .u8 0, .int .u8 0, .int .u8 0, .string { data := #[] }] 24)).setRow w9.heap.size #[.bool fin, .int .i64 (op : Int), .bool true, .int .u8 ((ka : Nat) : Int), .int .u8 ((kb : Nat) : Int), .int .u8 ((kc : Nat) : Int), .int .u8 ((kd : Nat) : Int), .string s] = V := ⟨_, rfl⟩
      have HXw10 : Sl (Below w9.heap.size w9 w10) := ⟨by rw [← hw10]; exact laid_self w9 #[.bool fin, .int .i64 (op : Int), .bool true, .int .u8 ((ka : Nat) : Int), .int .u8 ((kb : Nat) : Int), .int .u8 ((kc : Nat) : Int), .int .u8 ((kd : Nat) : Int), .string s]⟩
      have HBw10 : Sl (Below w.heap.size w w10) := ⟨HB9.out.trans (HXw10.out.mono HB9.out.size)⟩
      have HYw10 : Sl (w10.heap[w9.heap.size]? = some (.cells #[.bool fin, .int .i64 (op : Int), .bool true, .int .u8 ((ka : Nat) : Int), .int .u8 ((kb : Nat) : Int), .int .u8 ((kc : Nat) : Int), .int .u8 ((kd : Nat) : Int), .string s] 24 (0, 0))) := ⟨by rw [← hw10]; exact (laid_fr #[.bool fin, .int .i64 (op : Int), .bool true, .int .u8 ((ka : Nat) : Int), .int .u8 ((kb : Nat) : Int), .int .u8 ((kc : Nat) : Int), .int .u8 ((kd : Nat) : Int), .string s] (Below.refl _ _)).2⟩
      have HIw10 := fr_info (cs := #[.bool fin, .int .i64 (op : Int), .bool true, .int .u8 ((ka : Nat) : Int), .int .u8 ((kb : Nat) : Int), .int .u8 ((kc : Nat) : Int), .int .u8 ((kd : Nat) : Int), .string s]) rfl
      have HY10 : Sl (w10.heap[w.heap.size]? = some (.cells #[.bool fin, .int .i64 (op : Int), .bool false, .int .u8 ((a : Nat) : Int), .int .u8 ((b : Nat) : Int), .int .u8 ((c : Nat) : Int), .int .u8 ((d : Nat) : Int), .string s] 24 (0, 0))) := ⟨below_key HY9.out HXw10.out⟩
      have HZ10 : Sl (w10.heap[w.heap.size + 1]? = some (.cells #[.int .u8 ((ka : Nat) : Int), .int .u8 ((kb : Nat) : Int), .int .u8 ((kc : Nat) : Int), .int .u8 ((kd : Nat) : Int)] 22 (0, 0))) := ⟨below_key HZ9.out HXw10.out⟩
      have HG10 : Sl (w10.heap[gb]? = some (.cells #[.bool fin, .int .i64 (op : Int), .bool true, .int .u8 ((ka : Nat) : Int), .int .u8 ((kb : Nat) : Int), .int .u8 ((kc : Nat) : Int), .int .u8 ((kd : Nat) : Int), .string s] 24 (0, 0))) := ⟨below_key HG9.out HXw10.out⟩
      have hbn := bx_new w9 #[.bool false, .int .i64 0, .bool false, .int .u8 0, .int .u8 0, .int .u8 0, .int .u8 0, .string { data := #[] }]
      rw [hxb] at HYw10 hw10 hbn
      clear c0 c1 c2 c3 c4 c5 c6 c7
      clear g0 g1 g2 g3 g4 g5 g6 g7
      clear HX9 HS5 HXw10
      go_upto_region 10 with (refine wpList_store_row rfl 24 (.tmp 10) (.tmp 58) rfl xb #[.bool fin, .int .i64 (op : Int), .bool true, .int .u8 ((ka : Nat) : Int), .int .u8 ((kb : Nat) : Int), .int .u8 ((kc : Nat) : Int), .int .u8 ((kd : Nat) : Int), .string s] (by rw [← hxb]; rfl) rfl 24 #[.bool false, .int .i64 0, .bool false, .int .u8 0, .int .u8 0, .int .u8 0, .int .u8 0, .string { data := #[] }] hbn HIw10 rfl (fr_all _ _ _ _ _ _ _ _) ?_)
      obtain ⟨Rw, hR⟩ : ∃ Rw, w10.drew = Rw := ⟨_, rfl⟩
      have HS0 : Below w.heap.size w Rw ∧ Rw.heap[w.heap.size]? = some (.cells #[.bool fin, .int .i64 (op : Int), .bool false, .int .u8 ((a : Nat) : Int), .int .u8 ((b : Nat) : Int), .int .u8 ((c : Nat) : Int), .int .u8 ((d : Nat) : Int), .string s] 24 (0, 0)) ∧ Rw.heap[w.heap.size + 1]? = some (.cells #[.int .u8 ((ka : Nat) : Int), .int .u8 ((kb : Nat) : Int), .int .u8 ((kc : Nat) : Int), .int .u8 ((kd : Nat) : Int)] 22 (0, 0)) ∧ Rw.heap[gb]? = some (.cells #[.bool fin, .int .i64 (op : Int), .bool true, .int .u8 ((ka : Nat) : Int), .int .u8 ((kb : Nat) : Int), .int .u8 ((kc : Nat) : Int), .int .u8 ((kd : Nat) : Int), .string s] 24 (0, 0)) ∧ Rw.heap[xb]? = some (.cells #[.bool fin, .int .i64 (op : Int), .bool true, .int .u8 ((ka : Nat) : Int), .int .u8 ((kb : Nat) : Int), .int .u8 ((kc : Nat) : Int), .int .u8 ((kd : Nat) : Int), .string s] 24 (0, 0)) := ⟨by rw [← hR]; exact HBw10.out.drew, by rw [← hR]; exact HY10.out, by rw [← hR]; exact HZ10.out, by rw [← hR]; exact HG10.out, by rw [← hR]; exact HYw10.out⟩
      refine wp_region_noPanic ?_
      refine wp_region_held (S := fun W => Below w.heap.size w W ∧ W.heap[w.heap.size]? = some (.cells #[.bool fin, .int .i64 (op : Int), .bool false, .int .u8 ((a : Nat) : Int), .int .u8 ((b : Nat) : Int), .int .u8 ((c : Nat) : Int), .int .u8 ((d : Nat) : Int), .string s] 24 (0, 0)) ∧ W.heap[w.heap.size + 1]? = some (.cells #[.int .u8 ((ka : Nat) : Int), .int .u8 ((kb : Nat) : Int), .int .u8 ((kc : Nat) : Int), .int .u8 ((kd : Nat) : Int)] 22 (0, 0)) ∧ W.heap[gb]? = some (.cells #[.bool fin, .int .i64 (op : Int), .bool true, .int .u8 ((ka : Nat) : Int), .int .u8 ((kb : Nat) : Int), .int .u8 ((kc : Nat) : Int), .int .u8 ((kd : Nat) : Int), .string s] 24 (0, 0)) ∧ W.heap[xb]? = some (.cells #[.bool fin, .int .i64 (op : Int), .bool true, .int .u8 ((ka : Nat) : Int), .int .u8 ((kb : Nat) : Int), .int .u8 ((kc : Nat) : Int), .int .u8 ((kd : Nat) : Int), .string s] 24 (0, 0))) (by kernel_rfl) ?_
      change wpAnyH _ _ _ _ _ _ _ _ w10.drew
      rw [hR]
      clear hR HBw10 HY10 HZ10 HG10 HYw10 hw10 HIw10 hbn
      refine heldTake (d := some 61) (op := .move (Operand.tmp 8)) (g := none) 0 ?v0m rfl (by kernel_rfl) (by kernel_rfl) (by kernel_rfl) (by kernel_rfl) ?y0m HS0 ?_
      case y0m => intro o' ho W hS; simp only [execOp, ho]; go_simp; try rfl
      simp only [Act.put, List.setIfInBounds_toArray, List.set_cons_zero, List.set_cons_succ]
      refine heldTake (d := some 62) (op := .call { callee := Callee.builtin Builtin.len, args := #[Operand.tmp 61], argTypes := #[26] }) (g := none) 1 ?v1m rfl (by kernel_rfl) (by kernel_rfl) (by kernel_rfl) (by kernel_rfl) ?y1m HS0 ?_
      case y1m => intro o' ho W hS; simp only [execOp, ho]; go_simp; try rfl
      simp only [Act.put, List.setIfInBounds_toArray, List.set_cons_zero, List.set_cons_succ]
      refine heldTake (d := some 63) (op := .move (Operand.tmp 6)) (g := none) 2 ?v2m rfl (by kernel_rfl) (by kernel_rfl) (by kernel_rfl) (by kernel_rfl) ?y2m HS0 ?_
      case y2m => intro o' ho W hS; simp only [execOp, ho]; go_simp; try rfl
      simp only [Act.put, List.setIfInBounds_toArray, List.set_cons_zero, List.set_cons_succ]
      refine heldTake (d := some 64) (op := .call { callee := Callee.builtin Builtin.len, args := #[Operand.tmp 63], argTypes := #[26] }) (g := none) 3 ?v3m rfl (by kernel_rfl) (by kernel_rfl) (by kernel_rfl) (by kernel_rfl) ?y3m HS0 ?_
      case y3m => intro o' ho W hS; simp only [execOp, ho]; go_simp; try rfl
      simp only [Act.put, List.setIfInBounds_toArray, List.set_cons_zero, List.set_cons_succ]
      refine heldTake (d := some 65) (op := .binOp BinOp.add 3 (Operand.tmp 64) (Operand.const (Value.int IntKind.i64 4)) 3) (g := none) 4 ?v4m rfl (by kernel_rfl) (by kernel_rfl) (by kernel_rfl) (by kernel_rfl) ?y4m HS0 ?_
      case y4m => intro o' ho W hS; simp only [execOp, ho]; go_simp; try rfl
      simp only [Act.put, List.setIfInBounds_toArray, List.set_cons_zero, List.set_cons_succ]
      refine heldTake (d := some 66) (op := .binOp BinOp.eql 3 (Operand.tmp 62) (Operand.tmp 65) 3) (g := none) 5 ?v5m rfl (by kernel_rfl) (by kernel_rfl) (by kernel_rfl) (by kernel_rfl) ?y5m HS0 ?_
      case y5m => intro o' ho W hS; simp only [execOp, ho]; go_simp; try rfl
      simp only [Act.put, List.setIfInBounds_toArray, List.set_cons_zero, List.set_cons_succ]
      refine heldTake (d := some 67) (op := .move (Operand.tmp 66)) (g := none) 6 ?v6m rfl (by kernel_rfl) (by kernel_rfl) (by kernel_rfl) (by kernel_rfl) ?y6m HS0 ?_
      case y6m => intro o' ho W hS; simp only [execOp, ho]; go_simp; try rfl
      simp only [Act.put, List.setIfInBounds_toArray, List.set_cons_zero, List.set_cons_succ]
      refine heldTake (d := some 68) (op := .load 24 (Operand.tmp 5)) (g := some (6, true)) 7 (.agg #[.bool fin, .int .i64 (op : Int), .bool true, .int .u8 ((ka : Nat) : Int), .int .u8 ((kb : Nat) : Int), .int .u8 ((kc : Nat) : Int), .int .u8 ((kd : Nat) : Int), .string s]) rfl (by kernel_rfl) (by kernel_rfl) (by kernel_rfl) (by kernel_rfl) ?y7m HS0 ?_
      case y7m => intro o' ho W hS; exact loadbox8 ho (by rfl) rfl hS.2.2.2.1
      simp only [Act.put, List.setIfInBounds_toArray, List.set_cons_zero, List.set_cons_succ]
      refine heldTake (d := some 70) (op := .load 24 (Operand.tmp 2)) (g := some (6, true)) 9 (.agg #[.bool fin, .int .i64 (op : Int), .bool false, .int .u8 ((a : Nat) : Int), .int .u8 ((b : Nat) : Int), .int .u8 ((c : Nat) : Int), .int .u8 ((d : Nat) : Int), .string s]) rfl (by kernel_rfl) (by kernel_rfl) (by kernel_rfl) (by kernel_rfl) ?y9m HS0 ?_
      case y9m => intro o' ho W hS; exact loadbox8 ho (by rfl) rfl hS.2.1
      simp only [Act.put, List.setIfInBounds_toArray, List.set_cons_zero, List.set_cons_succ]
      refine heldCall (d := some 69) (op := .call { callee := Callee.value (Operand.func 18), args := #[Operand.tmp 68], argTypes := #[24] }) (g := some (6, true)) 8 18 #[.agg #[.bool fin, .int .i64 (op : Int), .bool true, .int .u8 ((ka : Nat) : Int), .int .u8 ((kb : Nat) : Int), .int .u8 ((kc : Nat) : Int), .int .u8 ((kd : Nat) : Int), .string s]] rfl (by kernel_rfl) (by kernel_rfl) ?y8m ?_
      case y8m => intro o' ho; simp only [execOp, ho]; go_simp; try rfl
      refine (Z2 Rw (HG.out.below HS0.1 HG.out.size)).mono ?_
      rintro e X ⟨rfl, HXX⟩
      have HS1 : Below w.heap.size w X ∧ X.heap[w.heap.size]? = some (.cells #[.bool fin, .int .i64 (op : Int), .bool false, .int .u8 ((a : Nat) : Int), .int .u8 ((b : Nat) : Int), .int .u8 ((c : Nat) : Int), .int .u8 ((d : Nat) : Int), .string s] 24 (0, 0)) ∧ X.heap[w.heap.size + 1]? = some (.cells #[.int .u8 ((ka : Nat) : Int), .int .u8 ((kb : Nat) : Int), .int .u8 ((kc : Nat) : Int), .int .u8 ((kd : Nat) : Int)] 22 (0, 0)) ∧ X.heap[gb]? = some (.cells #[.bool fin, .int .i64 (op : Int), .bool true, .int .u8 ((ka : Nat) : Int), .int .u8 ((kb : Nat) : Int), .int .u8 ((kc : Nat) : Int), .int .u8 ((kd : Nat) : Int), .string s] 24 (0, 0)) ∧ X.heap[xb]? = some (.cells #[.bool fin, .int .i64 (op : Int), .bool true, .int .u8 ((ka : Nat) : Int), .int .u8 ((kb : Nat) : Int), .int .u8 ((kc : Nat) : Int), .int .u8 ((kd : Nat) : Int), .string s] 24 (0, 0)) := ⟨HS0.1.trans (HXX.out.mono HS0.1.size), below_key HS0.2.1 HXX.out, below_key HS0.2.2.1 HXX.out, below_key HS0.2.2.2.1 HXX.out, below_key HS0.2.2.2.2 HXX.out⟩
      refine ⟨_, rfl, HS1, ?_⟩
      simp only [Act.put, List.setIfInBounds_toArray, List.set_cons_zero, List.set_cons_succ]
      refine heldCall (d := some 71) (op := .call { callee := Callee.value (Operand.func 18), args := #[Operand.tmp 70], argTypes := #[24] }) (g := some (6, true)) 10 18 #[.agg #[.bool fin, .int .i64 (op : Int), .bool false, .int .u8 ((a : Nat) : Int), .int .u8 ((b : Nat) : Int), .int .u8 ((c : Nat) : Int), .int .u8 ((d : Nat) : Int), .string s]] rfl (by kernel_rfl) (by kernel_rfl) ?y10m ?_
      case y10m => intro o' ho; simp only [execOp, ho]; go_simp; try rfl
      refine (Z1 X (HG.out.below HS1.1 HG.out.size)).mono ?_
      rintro e Y ⟨rfl, HXY⟩
      have HS2 : Below w.heap.size w Y ∧ Y.heap[w.heap.size]? = some (.cells #[.bool fin, .int .i64 (op : Int), .bool false, .int .u8 ((a : Nat) : Int), .int .u8 ((b : Nat) : Int), .int .u8 ((c : Nat) : Int), .int .u8 ((d : Nat) : Int), .string s] 24 (0, 0)) ∧ Y.heap[w.heap.size + 1]? = some (.cells #[.int .u8 ((ka : Nat) : Int), .int .u8 ((kb : Nat) : Int), .int .u8 ((kc : Nat) : Int), .int .u8 ((kd : Nat) : Int)] 22 (0, 0)) ∧ Y.heap[gb]? = some (.cells #[.bool fin, .int .i64 (op : Int), .bool true, .int .u8 ((ka : Nat) : Int), .int .u8 ((kb : Nat) : Int), .int .u8 ((kc : Nat) : Int), .int .u8 ((kd : Nat) : Int), .string s] 24 (0, 0)) ∧ Y.heap[xb]? = some (.cells #[.bool fin, .int .i64 (op : Int), .bool true, .int .u8 ((ka : Nat) : Int), .int .u8 ((kb : Nat) : Int), .int .u8 ((kc : Nat) : Int), .int .u8 ((kd : Nat) : Int), .string s] 24 (0, 0)) := ⟨HS1.1.trans (HXY.out.mono HS1.1.size), below_key HS1.2.1 HXY.out, below_key HS1.2.2.1 HXY.out, below_key HS1.2.2.2.1 HXY.out, below_key HS1.2.2.2.2 HXY.out⟩
      refine ⟨_, rfl, HS2, ?_⟩
      simp only [Act.put, List.setIfInBounds_toArray, List.set_cons_zero, List.set_cons_succ]
      refine heldTake (d := some 72) (op := .binOp BinOp.add 3 (Operand.tmp 71) (Operand.const (Value.int IntKind.i64 4)) 3) (g := some (6, true)) 11 ?v11m rfl (by kernel_rfl) (by kernel_rfl) (by kernel_rfl) (by kernel_rfl) ?y11m HS2 ?_
      case y11m => intro o' ho W hS; simp only [execOp, ho]; go_simp; try rfl
      simp only [Act.put, List.setIfInBounds_toArray, List.set_cons_zero, List.set_cons_succ]
      refine heldTake (d := some 73) (op := .binOp BinOp.eql 3 (Operand.tmp 69) (Operand.tmp 72) 3) (g := some (6, true)) 12 ?v12m rfl (by kernel_rfl) (by kernel_rfl) (by kernel_rfl) (by kernel_rfl) ?y12m HS2 ?_
      case y12m => intro o' ho W hS; simp only [execOp, ho]; go_simp; try rfl
      simp only [Act.put, List.setIfInBounds_toArray, List.set_cons_zero, List.set_cons_succ]
      refine heldTake (d := some 74) (op := .pick (Operand.tmp 67) (Operand.tmp 73) (Operand.const (Value.bool false))) (g := none) 13 ?v13m rfl (by kernel_rfl) (by kernel_rfl) (by kernel_rfl) (by kernel_rfl) ?y13m HS2 ?_
      case y13m => intro o' ho W hS; simp only [execOp, ho]; go_simp; try rfl
      simp only [Act.put, List.setIfInBounds_toArray, List.set_cons_zero, List.set_cons_succ]
      refine heldTake (d := some 75) (op := .move (Operand.tmp 74)) (g := none) 14 ?v14m rfl (by kernel_rfl) (by kernel_rfl) (by kernel_rfl) (by kernel_rfl) ?y14m HS2 ?_
      case y14m => intro o' ho W hS; simp only [execOp, ho]; go_simp; try rfl
      simp only [Act.put, List.setIfInBounds_toArray, List.set_cons_zero, List.set_cons_succ]
      refine heldTake (d := some 76) (op := .move (Operand.tmp 12)) (g := some (14, true)) 15 ?v15m rfl (by kernel_rfl) (by kernel_rfl) (by kernel_rfl) (by kernel_rfl) ?y15m HS2 ?_
      case y15m => intro o' ho W hS; simp only [execOp, ho]; go_simp; try rfl
      simp only [Act.put, List.setIfInBounds_toArray, List.set_cons_zero, List.set_cons_succ]
      refine heldTake (d := some 77) (op := .binOp BinOp.eql 27 (Operand.tmp 76) (Operand.const (Value.int IntKind.i64 0)) 27) (g := some (14, true)) 16 ?v16m rfl (by kernel_rfl) (by kernel_rfl) (by kernel_rfl) (by kernel_rfl) ?y16m HS2 ?_
      case y16m => intro o' ho W hS; simp only [execOp, ho]; go_simp; try rfl
      simp only [Act.put, List.setIfInBounds_toArray, List.set_cons_zero, List.set_cons_succ]
      refine heldTake (d := some 78) (op := .pick (Operand.tmp 75) (Operand.tmp 77) (Operand.const (Value.bool false))) (g := none) 17 ?v17m rfl (by kernel_rfl) (by kernel_rfl) (by kernel_rfl) (by kernel_rfl) ?y17m HS2 ?_
      case y17m => intro o' ho W hS; simp only [execOp, ho]; go_simp; try rfl
      simp only [Act.put, List.setIfInBounds_toArray, List.set_cons_zero, List.set_cons_succ]
      refine heldTake (d := some 79) (op := .move (Operand.tmp 78)) (g := none) 18 ?v18m rfl (by kernel_rfl) (by kernel_rfl) (by kernel_rfl) (by kernel_rfl) ?y18m HS2 ?_
      case y18m => intro o' ho W hS; simp only [execOp, ho]; go_simp; try rfl
      simp only [Act.put, List.setIfInBounds_toArray, List.set_cons_zero, List.set_cons_succ]
      refine heldTake (d := some 80) (op := .move (Operand.tmp 11)) (g := some (18, true)) 19 ?v19m rfl (by kernel_rfl) (by kernel_rfl) (by kernel_rfl) (by kernel_rfl) ?y19m HS2 ?_
      case y19m => intro o' ho W hS; simp only [execOp, ho]; go_simp; try rfl
      simp only [Act.put, List.setIfInBounds_toArray, List.set_cons_zero, List.set_cons_succ]
      refine heldTake (d := some 81) (op := .move (Operand.tmp 8)) (g := some (18, true)) 20 ?v20m rfl (by kernel_rfl) (by kernel_rfl) (by kernel_rfl) (by kernel_rfl) ?y20m HS2 ?_
      case y20m => intro o' ho W hS; simp only [execOp, ho]; go_simp; try rfl
      simp only [Act.put, List.setIfInBounds_toArray, List.set_cons_zero, List.set_cons_succ]
      refine heldTake (d := some 82) (op := .call { callee := Callee.builtin Builtin.len, args := #[Operand.tmp 81], argTypes := #[26] }) (g := some (18, true)) 21 ?v21m rfl (by kernel_rfl) (by kernel_rfl) (by kernel_rfl) (by kernel_rfl) ?y21m HS2 ?_
      case y21m => intro o' ho W hS; simp only [execOp, ho]; go_simp; try rfl
      simp only [Act.put, List.setIfInBounds_toArray, List.set_cons_zero, List.set_cons_succ]
      refine heldTake (d := some 83) (op := .binOp BinOp.eql 3 (Operand.tmp 80) (Operand.tmp 82) 3) (g := some (18, true)) 22 ?v22m rfl (by kernel_rfl) (by kernel_rfl) (by kernel_rfl) (by kernel_rfl) ?y22m HS2 ?_
      case y22m => intro o' ho W hS; simp only [execOp, ho]; go_simp; try rfl
      simp only [Act.put, List.setIfInBounds_toArray, List.set_cons_zero, List.set_cons_succ]
      refine heldTake (d := some 84) (op := .pick (Operand.tmp 79) (Operand.tmp 83) (Operand.const (Value.bool false))) (g := none) 23 ?v23m rfl (by kernel_rfl) (by kernel_rfl) (by kernel_rfl) (by kernel_rfl) ?y23m HS2 ?_
      case y23m => intro o' ho W hS; simp only [execOp, ho]; go_simp; try rfl
      simp only [Act.put, List.setIfInBounds_toArray, List.set_cons_zero, List.set_cons_succ]
      refine heldTake (d := some 85) (op := .move (Operand.tmp 84)) (g := none) 24 ?v24m rfl (by kernel_rfl) (by kernel_rfl) (by kernel_rfl) (by kernel_rfl) ?y24m HS2 ?_
      case y24m => intro o' ho W hS; simp only [execOp, ho]; go_simp; try rfl
      simp only [Act.put, List.setIfInBounds_toArray, List.set_cons_zero, List.set_cons_succ]
      refine heldTake (d := some 86) (op := .fieldAddr 24 (Operand.tmp 10) 4) (g := some (24, true)) 25 ?v25m rfl (by kernel_rfl) (by kernel_rfl) (by kernel_rfl) (by kernel_rfl) ?y25m HS2 ?_
      case y25m => intro o' ho W hS; simp only [execOp, ho]; go_simp; try rfl
      simp only [Act.put, List.setIfInBounds_toArray, List.set_cons_zero, List.set_cons_succ]
      refine heldTake (d := some 87) (op := .load 9 (Operand.tmp 86)) (g := some (24, true)) 26 ?v26m rfl (by kernel_rfl) (by kernel_rfl) (by kernel_rfl) (by kernel_rfl) ?y26m HS2 ?_
      case y26m => intro o' ho W hS; obtain ⟨x0, x1, x2, x3, x4, x5, x6, x7⟩ := bx8 hS.2.2.2.2; obtain ⟨c0, c1, c2, c3, c4, c5, c6, c7⟩ := bx8 hS.2.1; simp only [execOp, ho]; go_simp; try rfl
      simp only [Act.put, List.setIfInBounds_toArray, List.set_cons_zero, List.set_cons_succ]
      refine heldTake (d := some 88) (op := .fieldAddr 24 (Operand.tmp 2) 4) (g := some (24, true)) 27 ?v27m rfl (by kernel_rfl) (by kernel_rfl) (by kernel_rfl) (by kernel_rfl) ?y27m HS2 ?_
      case y27m => intro o' ho W hS; simp only [execOp, ho]; go_simp; try rfl
      simp only [Act.put, List.setIfInBounds_toArray, List.set_cons_zero, List.set_cons_succ]
      refine heldTake (d := some 89) (op := .load 9 (Operand.tmp 88)) (g := some (24, true)) 28 ?v28m rfl (by kernel_rfl) (by kernel_rfl) (by kernel_rfl) (by kernel_rfl) ?y28m HS2 ?_
      case y28m => intro o' ho W hS; obtain ⟨x0, x1, x2, x3, x4, x5, x6, x7⟩ := bx8 hS.2.2.2.2; obtain ⟨c0, c1, c2, c3, c4, c5, c6, c7⟩ := bx8 hS.2.1; simp only [execOp, ho]; go_simp; try rfl
      simp only [Act.put, List.setIfInBounds_toArray, List.set_cons_zero, List.set_cons_succ]
      refine heldTake (d := some 90) (op := .binOp BinOp.eql 9 (Operand.tmp 87) (Operand.tmp 89) 9) (g := some (24, true)) 29 ?v29m rfl (by kernel_rfl) (by kernel_rfl) (by kernel_rfl) (by kernel_rfl) ?y29m HS2 ?_
      case y29m => intro o' ho W hS; simp only [execOp, ho]; go_simp; try rfl
      simp only [Act.put, List.setIfInBounds_toArray, List.set_cons_zero, List.set_cons_succ]
      refine heldTake (d := some 91) (op := .pick (Operand.tmp 85) (Operand.tmp 90) (Operand.const (Value.bool false))) (g := none) 30 ?v30m rfl (by kernel_rfl) (by kernel_rfl) (by kernel_rfl) (by kernel_rfl) ?y30m HS2 ?_
      case y30m => intro o' ho W hS; simp only [execOp, ho]; go_simp; try rfl
      simp only [Act.put, List.setIfInBounds_toArray, List.set_cons_zero, List.set_cons_succ]
      refine heldTake (d := some 92) (op := .move (Operand.tmp 91)) (g := none) 31 ?v31m rfl (by kernel_rfl) (by kernel_rfl) (by kernel_rfl) (by kernel_rfl) ?y31m HS2 ?_
      case y31m => intro o' ho W hS; simp only [execOp, ho]; go_simp; try rfl
      simp only [Act.put, List.setIfInBounds_toArray, List.set_cons_zero, List.set_cons_succ]
      refine heldTake (d := some 93) (op := .fieldAddr 24 (Operand.tmp 10) 1) (g := some (31, true)) 32 ?v32m rfl (by kernel_rfl) (by kernel_rfl) (by kernel_rfl) (by kernel_rfl) ?y32m HS2 ?_
      case y32m => intro o' ho W hS; simp only [execOp, ho]; go_simp; try rfl
      simp only [Act.put, List.setIfInBounds_toArray, List.set_cons_zero, List.set_cons_succ]
      refine heldTake (d := some 94) (op := .load 3 (Operand.tmp 93)) (g := some (31, true)) 33 ?v33m rfl (by kernel_rfl) (by kernel_rfl) (by kernel_rfl) (by kernel_rfl) ?y33m HS2 ?_
      case y33m => intro o' ho W hS; obtain ⟨x0, x1, x2, x3, x4, x5, x6, x7⟩ := bx8 hS.2.2.2.2; obtain ⟨c0, c1, c2, c3, c4, c5, c6, c7⟩ := bx8 hS.2.1; simp only [execOp, ho]; go_simp; try rfl
      simp only [Act.put, List.setIfInBounds_toArray, List.set_cons_zero, List.set_cons_succ]
      refine heldTake (d := some 95) (op := .fieldAddr 24 (Operand.tmp 2) 1) (g := some (31, true)) 34 ?v34m rfl (by kernel_rfl) (by kernel_rfl) (by kernel_rfl) (by kernel_rfl) ?y34m HS2 ?_
      case y34m => intro o' ho W hS; simp only [execOp, ho]; go_simp; try rfl
      simp only [Act.put, List.setIfInBounds_toArray, List.set_cons_zero, List.set_cons_succ]
      refine heldTake (d := some 96) (op := .load 3 (Operand.tmp 95)) (g := some (31, true)) 35 ?v35m rfl (by kernel_rfl) (by kernel_rfl) (by kernel_rfl) (by kernel_rfl) ?y35m HS2 ?_
      case y35m => intro o' ho W hS; obtain ⟨x0, x1, x2, x3, x4, x5, x6, x7⟩ := bx8 hS.2.2.2.2; obtain ⟨c0, c1, c2, c3, c4, c5, c6, c7⟩ := bx8 hS.2.1; simp only [execOp, ho]; go_simp; try rfl
      simp only [Act.put, List.setIfInBounds_toArray, List.set_cons_zero, List.set_cons_succ]
      refine heldTake (d := some 97) (op := .binOp BinOp.eql 3 (Operand.tmp 94) (Operand.tmp 96) 3) (g := some (31, true)) 36 ?v36m rfl (by kernel_rfl) (by kernel_rfl) (by kernel_rfl) (by kernel_rfl) ?y36m HS2 ?_
      case y36m => intro o' ho W hS; simp only [execOp, ho]; go_simp; try rfl
      simp only [Act.put, List.setIfInBounds_toArray, List.set_cons_zero, List.set_cons_succ]
      refine heldTake (d := some 98) (op := .pick (Operand.tmp 92) (Operand.tmp 97) (Operand.const (Value.bool false))) (g := none) 37 ?v37m rfl (by kernel_rfl) (by kernel_rfl) (by kernel_rfl) (by kernel_rfl) ?y37m HS2 ?_
      case y37m => intro o' ho W hS; simp only [execOp, ho]; go_simp; try rfl
      simp only [Act.put, List.setIfInBounds_toArray, List.set_cons_zero, List.set_cons_succ]
      refine heldTake (d := some 99) (op := .move (Operand.tmp 98)) (g := none) 38 ?v38m rfl (by kernel_rfl) (by kernel_rfl) (by kernel_rfl) (by kernel_rfl) ?y38m HS2 ?_
      case y38m => intro o' ho W hS; simp only [execOp, ho]; go_simp; try rfl
      simp only [Act.put, List.setIfInBounds_toArray, List.set_cons_zero, List.set_cons_succ]
      refine heldTake (d := some 100) (op := .fieldAddr 24 (Operand.tmp 10) 0) (g := some (38, true)) 39 ?v39m rfl (by kernel_rfl) (by kernel_rfl) (by kernel_rfl) (by kernel_rfl) ?y39m HS2 ?_
      case y39m => intro o' ho W hS; simp only [execOp, ho]; go_simp; try rfl
      simp only [Act.put, List.setIfInBounds_toArray, List.set_cons_zero, List.set_cons_succ]
      refine heldTake (d := some 101) (op := .load 4 (Operand.tmp 100)) (g := some (38, true)) 40 ?v40m rfl (by kernel_rfl) (by kernel_rfl) (by kernel_rfl) (by kernel_rfl) ?y40m HS2 ?_
      case y40m => intro o' ho W hS; obtain ⟨x0, x1, x2, x3, x4, x5, x6, x7⟩ := bx8 hS.2.2.2.2; obtain ⟨c0, c1, c2, c3, c4, c5, c6, c7⟩ := bx8 hS.2.1; simp only [execOp, ho]; go_simp; try rfl
      simp only [Act.put, List.setIfInBounds_toArray, List.set_cons_zero, List.set_cons_succ]
      refine heldTake (d := some 102) (op := .fieldAddr 24 (Operand.tmp 2) 0) (g := some (38, true)) 41 ?v41m rfl (by kernel_rfl) (by kernel_rfl) (by kernel_rfl) (by kernel_rfl) ?y41m HS2 ?_
      case y41m => intro o' ho W hS; simp only [execOp, ho]; go_simp; try rfl
      simp only [Act.put, List.setIfInBounds_toArray, List.set_cons_zero, List.set_cons_succ]
      refine heldTake (d := some 103) (op := .load 4 (Operand.tmp 102)) (g := some (38, true)) 42 ?v42m rfl (by kernel_rfl) (by kernel_rfl) (by kernel_rfl) (by kernel_rfl) ?y42m HS2 ?_
      case y42m => intro o' ho W hS; obtain ⟨x0, x1, x2, x3, x4, x5, x6, x7⟩ := bx8 hS.2.2.2.2; obtain ⟨c0, c1, c2, c3, c4, c5, c6, c7⟩ := bx8 hS.2.1; simp only [execOp, ho]; go_simp; try rfl
      simp only [Act.put, List.setIfInBounds_toArray, List.set_cons_zero, List.set_cons_succ]
      refine heldTake (d := some 104) (op := .binOp BinOp.eql 4 (Operand.tmp 101) (Operand.tmp 103) 4) (g := some (38, true)) 43 ?v43m rfl (by kernel_rfl) (by kernel_rfl) (by kernel_rfl) (by kernel_rfl) ?y43m HS2 ?_
      case y43m => intro o' ho W hS; simp only [execOp, ho]; go_simp; try rfl
      simp only [Act.put, List.setIfInBounds_toArray, List.set_cons_zero, List.set_cons_succ]
      refine heldTake (d := some 105) (op := .pick (Operand.tmp 99) (Operand.tmp 104) (Operand.const (Value.bool false))) (g := none) 44 ?v44m rfl (by kernel_rfl) (by kernel_rfl) (by kernel_rfl) (by kernel_rfl) ?y44m HS2 ?_
      case y44m => intro o' ho W hS; simp only [execOp, ho]; go_simp; try rfl
      simp only [Act.put, List.setIfInBounds_toArray, List.set_cons_zero, List.set_cons_succ]
      refine heldTake (d := some 106) (op := .move (Operand.tmp 105)) (g := none) 45 ?v45m rfl (by kernel_rfl) (by kernel_rfl) (by kernel_rfl) (by kernel_rfl) ?y45m HS2 ?_
      case y45m => intro o' ho W hS; simp only [execOp, ho]; go_simp; try rfl
      simp only [Act.put, List.setIfInBounds_toArray, List.set_cons_zero, List.set_cons_succ]
      refine heldTake (d := some 107) (op := .fieldAddr 24 (Operand.tmp 10) 3) (g := some (45, true)) 46 ?v46m rfl (by kernel_rfl) (by kernel_rfl) (by kernel_rfl) (by kernel_rfl) ?y46m HS2 ?_
      case y46m => intro o' ho W hS; simp only [execOp, ho]; go_simp; try rfl
      simp only [Act.put, List.setIfInBounds_toArray, List.set_cons_zero, List.set_cons_succ]
      refine heldTake (d := some 108) (op := .load 22 (Operand.tmp 107)) (g := some (45, true)) 47 ?v47m rfl (by kernel_rfl) (by kernel_rfl) (by kernel_rfl) (by kernel_rfl) ?y47m HS2 ?_
      case y47m => intro o' ho W hS; obtain ⟨x0, x1, x2, x3, x4, x5, x6, x7⟩ := bx8 hS.2.2.2.2; obtain ⟨c0, c1, c2, c3, c4, c5, c6, c7⟩ := bx8 hS.2.1; simp only [execOp, ho]; go_simp; try rfl
      simp only [Act.put, List.setIfInBounds_toArray, List.set_cons_zero, List.set_cons_succ]
      refine heldTake (d := some 109) (op := .load 22 (Operand.tmp 3)) (g := some (45, true)) 48 (.agg #[.int .u8 ((ka : Nat) : Int), .int .u8 ((kb : Nat) : Int), .int .u8 ((kc : Nat) : Int), .int .u8 ((kd : Nat) : Int)]) rfl (by kernel_rfl) (by kernel_rfl) (by kernel_rfl) (by kernel_rfl) ?y48m HS2 ?_
      case y48m => intro o' ho W hS; exact loadkey ho (by rfl) hS.2.2.1
      simp only [Act.put, List.setIfInBounds_toArray, List.set_cons_zero, List.set_cons_succ]
      refine heldTake (d := some 110) (op := .binOp BinOp.eql 22 (Operand.tmp 108) (Operand.tmp 109) 22) (g := some (45, true)) 49 ?v49m rfl (by kernel_rfl) (by kernel_rfl) (by kernel_rfl) (by kernel_rfl) ?y49m HS2 ?_
      case y49m => intro o' ho W hS; simp only [execOp, ho]; go_simp; try rfl
      simp only [Act.put, List.setIfInBounds_toArray, List.set_cons_zero, List.set_cons_succ]
      refine heldTake (d := some 111) (op := .pick (Operand.tmp 106) (Operand.tmp 110) (Operand.const (Value.bool false))) (g := none) 50 ?v50m rfl (by kernel_rfl) (by kernel_rfl) (by kernel_rfl) (by kernel_rfl) ?y50m HS2 ?_
      case y50m => intro o' ho W hS; simp only [execOp, ho]; go_simp; try rfl
      simp only [Act.put, List.setIfInBounds_toArray, List.set_cons_zero, List.set_cons_succ]
      refine heldTake (d := some 4) (op := .assign (Operand.tmp 111)) (g := none) 51 ?v51m rfl (by kernel_rfl) (by kernel_rfl) (by kernel_rfl) (by kernel_rfl) ?y51m HS2 ?_
      case y51m => intro o' ho W hS; simp only [execOp, ho]; go_simp; try rfl
      simp only [Act.put, List.setIfInBounds_toArray, List.set_cons_zero, List.set_cons_succ]
      refine wpAnyH_done (by kernel_rfl) ?_ _
      refine NoPanic.normal ?_
      go_wp2
      go_ret
      exact ⟨rfl, HS2.1⟩
    · by_cases h02 : k2 = 0
      · have hz : [a, b, c, d] ≠ zero4 := by rcases hmc with h | h; exact absurd (h.trans h02) h01; exact h.1
        subst h02
        obtain ⟨op, rfl⟩ := Int.eq_ofNat_of_zero_le (show 0 ≤ op by have h := (form_cases (chk_ok hc2).1).1; simp only at h; omega)
        obtain ⟨nb, hn2⟩ : ∃ n, size (⟨fin, (op : Int), true, [ka, kb, kc, kd], bytes s⟩ : Fr) = n := ⟨_, rfl⟩
        obtain ⟨B, hT2⟩ : ∃ T, text (⟨fin, (op : Int), true, [ka, kb, kc, kd], bytes s⟩ : Fr) = T := ⟨_, rfl⟩
        have hdl2 : (bytes s).length ≤ 1000 := by rw [bytes_length]; omega
        have hlB : Sl (B.length = nb) := ⟨by rw [← hT2, ← hn2]; exact text_length _ (by show (bytes _).length ≤ _; omega) rfl⟩
        have hsz2 : nb ≤ 1100 := by rw [← hn2]; unfold size; simp only [bytes_length]; split <;> split <;> (try split) <;> omega
        have P2 : ∀ W, Globs W → Calls Tryd.prog 11 #[.agg #[.bool fin, .int .i64 (op : Int), .bool true, .int .u8 ((ka : Nat) : Int), .int .u8 ((kb : Nat) : Int), .int .u8 ((kc : Nat) : Int), .int .u8 ((kd : Nat) : Int), .string s]] W fun e w' => ∃ g cap, e = .returned (.tuple #[.slice (some ⟨g, 0, none⟩) nb cap, .int .i64 0]) ∧ Sl (SrcAt w' (.slice (some ⟨g, 0, none⟩) nb cap) B) ∧ Sl (Below W.heap.size W w') := fun W hW => by
          have := putf_yes fin op true ka kb kc kd s nb W hW hk2 hc2 hn2
          rw [hT2] at this
          exact this
        have P1 : ∀ W, Globs W → Calls Tryd.prog 11 #[.agg #[.bool fin, .int .i64 (op : Int), .bool false, .int .u8 ((a : Nat) : Int), .int .u8 ((b : Nat) : Int), .int .u8 ((c : Nat) : Int), .int .u8 ((d : Nat) : Int), .string s]] W fun e w' => e = .returned (.tuple #[.slice none 0 0, .int .i64 (k1 : Int)]) ∧ Sl (Below W.heap.size W w') := fun W _ => putf_no fin op false a b c d s k1 W hk1 hc1 h01
        have hne1 : ((k1 : Int) != 0) = true := by simp; omega
        rw [decide_eq_false hz] at hEq
        have hkk : ((k1 : Int) == 0) = false := by simp; omega
        clear hc1 hc2 hT2 hn2 hdl2 hs hk1 hk2 hmc hz h01 hsz2 hlB
        go_enter Tryd.func7, Tryd.ntmps7
        go_wp2_with fail
        refine (awake_any w2 (HG.out.below HB2.out HG.out.size)).mono ?_
        rintro e w3 ⟨rfl, HX3⟩
        have HB3 : Sl (Below w.heap.size w w3) := ⟨HB2.out.trans (HX3.out.mono HB2.out.size)⟩
        have HY3 : Sl (w3.heap[w.heap.size]? = some (.cells #[.bool fin, .int .i64 (op : Int), .bool false, .int .u8 ((a : Nat) : Int), .int .u8 ((b : Nat) : Int), .int .u8 ((c : Nat) : Int), .int .u8 ((d : Nat) : Int), .string s] 24 (0, 0))) := ⟨below_key HY2.out HX3.out⟩
        have HZ3 : Sl (w3.heap[w.heap.size + 1]? = some (.cells #[.int .u8 ((ka : Nat) : Int), .int .u8 ((kb : Nat) : Int), .int .u8 ((kc : Nat) : Int), .int .u8 ((kd : Nat) : Int)] 22 (0, 0))) := ⟨below_key HZ2.out HX3.out⟩
        clear HB2 HY2 HZ2 HX3 hw1 hw2 h1s
        obtain ⟨c0, c1, c2, c3, c4, c5, c6, c7⟩ := bx8 HY3.out
        obtain ⟨gb, hgb⟩ : ∃ gb, w3.heap.size = gb := ⟨_, rfl⟩
        have hgb1 : w.heap.size + 1 < gb := by rw [← hgb]; exact (Array.getElem?_eq_some_iff.1 HZ3.out).1
        obtain ⟨w4, hw4⟩ : ∃ V, (w3.alloc (.cells #[.bool false, .int .i64 0, .bool false, .int .u8 0, .int .u8 0, .int .u8 0, .int .u8 0, .string { data := #[] }] 24)).setRow w3.heap.size #[.bool fin, .int .i64 (op : Int), .bool false, .int .u8 ((a : Nat) : Int), .int .u8 ((b : Nat) : Int), .int .u8 ((c : Nat) : Int), .int .u8 ((d : Nat) : Int), .string s] = V := ⟨_, rfl⟩
        have HXw4 : Sl (Below w3.heap.size w3 w4) := ⟨by rw [← hw4]; exact laid_self w3 #[.bool fin, .int .i64 (op : Int), .bool false, .int .u8 ((a : Nat) : Int), .int .u8 ((b : Nat) : Int), .int .u8 ((c : Nat) : Int), .int .u8 ((d : Nat) : Int), .string s]⟩
        have HBw4 : Sl (Below w.heap.size w w4) := ⟨HB3.out.trans (HXw4.out.mono HB3.out.size)⟩
        have HYw4 : Sl (w4.heap[w3.heap.size]? = some (.cells #[.bool fin, .int .i64 (op : Int), .bool false, .int .u8 ((a : Nat) : Int), .int .u8 ((b : Nat) : Int), .int .u8 ((c : Nat) : Int), .int .u8 ((d : Nat) : Int), .string s] 24 (0, 0))) := ⟨by rw [← hw4]; exact (laid_fr #[.bool fin, .int .i64 (op : Int), .bool false, .int .u8 ((a : Nat) : Int), .int .u8 ((b : Nat) : Int), .int .u8 ((c : Nat) : Int), .int .u8 ((d : Nat) : Int), .string s] (Below.refl _ _)).2⟩
        have HIw4 := fr_info (cs := #[.bool fin, .int .i64 (op : Int), .bool false, .int .u8 ((a : Nat) : Int), .int .u8 ((b : Nat) : Int), .int .u8 ((c : Nat) : Int), .int .u8 ((d : Nat) : Int), .string s]) rfl
        have HY4 : Sl (w4.heap[w.heap.size]? = some (.cells #[.bool fin, .int .i64 (op : Int), .bool false, .int .u8 ((a : Nat) : Int), .int .u8 ((b : Nat) : Int), .int .u8 ((c : Nat) : Int), .int .u8 ((d : Nat) : Int), .string s] 24 (0, 0))) := ⟨below_key HY3.out HXw4.out⟩
        have HZ4 : Sl (w4.heap[w.heap.size + 1]? = some (.cells #[.int .u8 ((ka : Nat) : Int), .int .u8 ((kb : Nat) : Int), .int .u8 ((kc : Nat) : Int), .int .u8 ((kd : Nat) : Int)] 22 (0, 0))) := ⟨below_key HZ3.out HXw4.out⟩
        rw [hgb] at HYw4
        have hbn := bx_new w3 #[.bool false, .int .i64 0, .bool false, .int .u8 0, .int .u8 0, .int .u8 0, .int .u8 0, .string { data := #[] }]
        rw [hgb] at hw4 hbn
        clear HXw4 HB3 HY3 HZ3
        go_upto_region 4 with (refine wpList_store_row rfl 24 (.tmp 5) (.tmp 26) rfl gb #[.bool fin, .int .i64 (op : Int), .bool false, .int .u8 ((a : Nat) : Int), .int .u8 ((b : Nat) : Int), .int .u8 ((c : Nat) : Int), .int .u8 ((d : Nat) : Int), .string s] (by rw [← hgb]; rfl) rfl 24 #[.bool false, .int .i64 0, .bool false, .int .u8 0, .int .u8 0, .int .u8 0, .int .u8 0, .string { data := #[] }] hbn HIw4 rfl (fr_all _ _ _ _ _ _ _ _) ?_)
        obtain ⟨Rw, hR⟩ : ∃ Rw, ((w3.alloc (.cells #[.bool false, .int .i64 0, .bool false, .int .u8 0, .int .u8 0, .int .u8 0, .int .u8 0, .string { data := #[] }] 24)).setRow gb #[.bool fin, .int .i64 (op : Int), .bool false, .int .u8 ((a : Nat) : Int), .int .u8 ((b : Nat) : Int), .int .u8 ((c : Nat) : Int), .int .u8 ((d : Nat) : Int), .string s]).drew = Rw := ⟨_, rfl⟩
        have HS0 : Below w.heap.size w Rw ∧ Rw.heap[w.heap.size + 1]? = some (.cells #[.int .u8 ((ka : Nat) : Int), .int .u8 ((kb : Nat) : Int), .int .u8 ((kc : Nat) : Int), .int .u8 ((kd : Nat) : Int)] 22 (0, 0)) := ⟨by rw [← hR, hw4]; exact HBw4.out.drew, by rw [← hR, hw4]; exact HZ4.out⟩
        have HGR : Rw.heap[gb]? = some (.cells #[.bool fin, .int .i64 (op : Int), .bool false, .int .u8 ((a : Nat) : Int), .int .u8 ((b : Nat) : Int), .int .u8 ((c : Nat) : Int), .int .u8 ((d : Nat) : Int), .string s] 24 (0, 0)) := by rw [← hR, hw4]; exact HYw4.out
        have HYR : Rw.heap[w.heap.size]? = some (.cells #[.bool fin, .int .i64 (op : Int), .bool false, .int .u8 ((a : Nat) : Int), .int .u8 ((b : Nat) : Int), .int .u8 ((c : Nat) : Int), .int .u8 ((d : Nat) : Int), .string s] 24 (0, 0)) := by rw [← hR, hw4]; exact HY4.out
        refine wp_region_noPanic ?_
        refine wp_region_held (S := fun W => Below w.heap.size w W ∧ W.heap[w.heap.size + 1]? = some (.cells #[.int .u8 ((ka : Nat) : Int), .int .u8 ((kb : Nat) : Int), .int .u8 ((kc : Nat) : Int), .int .u8 ((kd : Nat) : Int)] 22 (0, 0))) (by kernel_rfl) ?_
        change wpAnyH _ _ _ _ _ _ _ _ ((w3.alloc (.cells #[.bool false, .int .i64 0, .bool false, .int .u8 0, .int .u8 0, .int .u8 0, .int .u8 0, .string { data := #[] }] 24)).setRow gb #[.bool fin, .int .i64 (op : Int), .bool false, .int .u8 ((a : Nat) : Int), .int .u8 ((b : Nat) : Int), .int .u8 ((c : Nat) : Int), .int .u8 ((d : Nat) : Int), .string s]).drew
        rw [hR]
        clear hR HBw4 HY4 HZ4 HYw4 hw4 HIw4 hbn
        clear c0 c1 c2 c3 c4 c5 c6 c7
        refine heldTake (d := some 27) (op := .load 22 (Operand.tmp 3)) (g := none) 0 (.agg #[.int .u8 ((ka : Nat) : Int), .int .u8 ((kb : Nat) : Int), .int .u8 ((kc : Nat) : Int), .int .u8 ((kd : Nat) : Int)]) rfl (by kernel_rfl) (by kernel_rfl) (by kernel_rfl) (by kernel_rfl) ?y0h2 HS0 ?_
        case y0h2 => intro o' ho W hS; exact loadkey ho (by rfl) hS.2
        simp only [Act.put, List.setIfInBounds_toArray, List.set_cons_zero, List.set_cons_succ]
        refine heldTake (d := some 28) (op := .fieldAddr 24 (Operand.tmp 5) 2) (g := none) 1 ?v1h2 rfl (by kernel_rfl) (by kernel_rfl) (by kernel_rfl) (by kernel_rfl) ?y1h2 HS0 ?_
        case y1h2 => intro o' ho W hS; simp only [execOp, ho]; go_simp; try rfl
        simp only [Act.put, List.setIfInBounds_toArray, List.set_cons_zero, List.set_cons_succ]
        obtain ⟨w5, hw5⟩ : ∃ V, Rw.setCell ⟨gb, 2, none⟩ (.bool true) = V := ⟨_, rfl⟩
        have HB5 : Sl (Below w.heap.size w w5) := ⟨by rw [← hw5]; exact HS0.1.setCell (by show w.heap.size ≤ gb; omega) _⟩
        have HG5 : Sl (w5.heap[gb]? = some (.cells #[.bool fin, .int .i64 (op : Int), .bool true, .int .u8 ((a : Nat) : Int), .int .u8 ((b : Nat) : Int), .int .u8 ((c : Nat) : Int), .int .u8 ((d : Nat) : Int), .string s] 24 (0, 0))) := ⟨by rw [← hw5, heap_setCell_same _ _ _ _ _ _ HGR]; rfl⟩
        have HY5 : Sl (w5.heap[w.heap.size]? = some (.cells #[.bool fin, .int .i64 (op : Int), .bool false, .int .u8 ((a : Nat) : Int), .int .u8 ((b : Nat) : Int), .int .u8 ((c : Nat) : Int), .int .u8 ((d : Nat) : Int), .string s] 24 (0, 0))) := ⟨by rw [← hw5, heap_setCell_other _ _ _ _ (by show w.heap.size ≠ gb; omega)]; exact HYR⟩
        have HZ5 : Sl (w5.heap[w.heap.size + 1]? = some (.cells #[.int .u8 ((ka : Nat) : Int), .int .u8 ((kb : Nat) : Int), .int .u8 ((kc : Nat) : Int), .int .u8 ((kd : Nat) : Int)] 22 (0, 0))) := ⟨by rw [← hw5, heap_setCell_other _ _ _ _ (by show w.heap.size + 1 ≠ gb; omega)]; exact HS0.2⟩
        have hf2 : Rw.frozen? ⟨gb, 2, none⟩ = false := frozen_of_row _ _ _ _ _ HGR
        have hc2 : Rw.cell? ⟨gb, 2, none⟩ = some (.bool false) := (bx8 HGR).2.2.1
        refine heldStore (d := none) (op := .store 4 (Operand.tmp 28) (Operand.const (Value.bool true))) (g := none) (t := 0) 2 w5 rfl (by kernel_rfl) (by kernel_rfl) ?y2h2 ⟨HB5.out, HZ5.out⟩ ?_
        case y2h2 => intro o' ho ht; simp only [execOp, ho]; go_simp; first | done | rw [hw5] | rfl
        simp only [Act.put]
        refine heldTake (d := some 29) (op := .fieldAddr 24 (Operand.tmp 5) 3) (g := none) 3 ?v3h2 rfl (by kernel_rfl) (by kernel_rfl) (by kernel_rfl) (by kernel_rfl) ?y3h2 ⟨HB5.out, HZ5.out⟩ ?_
        case y3h2 => intro o' ho W hS; simp only [execOp, ho]; go_simp; try rfl
        simp only [Act.put, List.setIfInBounds_toArray, List.set_cons_zero, List.set_cons_succ]
        obtain ⟨w6, hw6⟩ : ∃ V, w5.setRow gb #[.bool fin, .int .i64 (op : Int), .bool true, .int .u8 ((ka : Nat) : Int), .int .u8 ((kb : Nat) : Int), .int .u8 ((kc : Nat) : Int), .int .u8 ((kd : Nat) : Int), .string s] = V := ⟨_, rfl⟩
        have HB6 : Sl (Below w.heap.size w w6) := ⟨by rw [← hw6]; exact below_setRow HB5.out (by omega) _⟩
        have HG6 : Sl (w6.heap[gb]? = some (.cells #[.bool fin, .int .i64 (op : Int), .bool true, .int .u8 ((ka : Nat) : Int), .int .u8 ((kb : Nat) : Int), .int .u8 ((kc : Nat) : Int), .int .u8 ((kd : Nat) : Int), .string s] 24 (0, 0))) := ⟨by rw [← hw6]; exact setRow_heap _ _ _ _ _ _ HG5.out⟩
        have HY6 : Sl (w6.heap[w.heap.size]? = some (.cells #[.bool fin, .int .i64 (op : Int), .bool false, .int .u8 ((a : Nat) : Int), .int .u8 ((b : Nat) : Int), .int .u8 ((c : Nat) : Int), .int .u8 ((d : Nat) : Int), .string s] 24 (0, 0))) := ⟨by rw [← hw6, setRow_other _ _ _ _ (by omega)]; exact HY5.out⟩
        have HZ6 : Sl (w6.heap[w.heap.size + 1]? = some (.cells #[.int .u8 ((ka : Nat) : Int), .int .u8 ((kb : Nat) : Int), .int .u8 ((kc : Nat) : Int), .int .u8 ((kd : Nat) : Int)] 22 (0, 0))) := ⟨by rw [← hw6, setRow_other _ _ _ _ (by omega)]; exact HZ5.out⟩
        refine heldStore (d := none) (op := .store 22 (Operand.tmp 29) (Operand.tmp 27)) (g := none) (t := 0) 4 w6 rfl (by kernel_rfl) (by kernel_rfl) ?y4h2 ⟨HB6.out, HZ6.out⟩ ?_
        case y4h2 => intro o' ho ht; rw [← hw6]; exact store_key ho (by rfl) (by rfl) HG5.out
        simp only [Act.put]
        refine wpAnyH_done (by kernel_rfl) ?_ _
        refine NoPanic.normal ?_
        clear HS0 HGR HYR hf2 hc2 hw5 HB5 HG5 HY5 HZ5 hw6
        obtain ⟨c0, c1, c2, c3, c4, c5, c6, c7⟩ := bx8 HY6.out
        obtain ⟨g0, g1, g2, g3, g4, g5, g6, g7⟩ := bx8 HG6.out
        go_wp2_with fail
        refine (P1 w6 (HG.out.below HB6.out HG.out.size)).mono ?_
        rintro e w7 ⟨rfl, HX7⟩
        have HB7 : Sl (Below w.heap.size w w7) := ⟨HB6.out.trans (HX7.out.mono HB6.out.size)⟩
        have HY7 : Sl (w7.heap[w.heap.size]? = some (.cells #[.bool fin, .int .i64 (op : Int), .bool false, .int .u8 ((a : Nat) : Int), .int .u8 ((b : Nat) : Int), .int .u8 ((c : Nat) : Int), .int .u8 ((d : Nat) : Int), .string s] 24 (0, 0))) := ⟨below_key HY6.out HX7.out⟩
        have HZ7 : Sl (w7.heap[w.heap.size + 1]? = some (.cells #[.int .u8 ((ka : Nat) : Int), .int .u8 ((kb : Nat) : Int), .int .u8 ((kc : Nat) : Int), .int .u8 ((kd : Nat) : Int)] 22 (0, 0))) := ⟨below_key HZ6.out HX7.out⟩
        have HG7 : Sl (w7.heap[gb]? = some (.cells #[.bool fin, .int .i64 (op : Int), .bool true, .int .u8 ((ka : Nat) : Int), .int .u8 ((kb : Nat) : Int), .int .u8 ((kc : Nat) : Int), .int .u8 ((kd : Nat) : Int), .string s] 24 (0, 0))) := ⟨below_key HG6.out HX7.out⟩
        clear c0 c1 c2 c3 c4 c5 c6 c7
        clear g0 g1 g2 g3 g4 g5 g6 g7
        obtain ⟨c0, c1, c2, c3, c4, c5, c6, c7⟩ := bx8 HY7.out
        obtain ⟨g0, g1, g2, g3, g4, g5, g6, g7⟩ := bx8 HG7.out
        go_wp2_with fail
        refine (P2 w7 (HG.out.below HB7.out HG.out.size)).mono ?_
        rintro e w8 ⟨ga5, cap5, rfl, HS5, HX8⟩
        have HB8 : Sl (Below w.heap.size w w8) := ⟨HB7.out.trans (HX8.out.mono HB7.out.size)⟩
        have HY8 : Sl (w8.heap[w.heap.size]? = some (.cells #[.bool fin, .int .i64 (op : Int), .bool false, .int .u8 ((a : Nat) : Int), .int .u8 ((b : Nat) : Int), .int .u8 ((c : Nat) : Int), .int .u8 ((d : Nat) : Int), .string s] 24 (0, 0))) := ⟨below_key HY7.out HX8.out⟩
        have HZ8 : Sl (w8.heap[w.heap.size + 1]? = some (.cells #[.int .u8 ((ka : Nat) : Int), .int .u8 ((kb : Nat) : Int), .int .u8 ((kc : Nat) : Int), .int .u8 ((kd : Nat) : Int)] 22 (0, 0))) := ⟨below_key HZ7.out HX8.out⟩
        have HG8 : Sl (w8.heap[gb]? = some (.cells #[.bool fin, .int .i64 (op : Int), .bool true, .int .u8 ((ka : Nat) : Int), .int .u8 ((kb : Nat) : Int), .int .u8 ((kc : Nat) : Int), .int .u8 ((kd : Nat) : Int), .string s] 24 (0, 0))) := ⟨below_key HG7.out HX8.out⟩
        clear c0 c1 c2 c3 c4 c5 c6 c7
        clear g0 g1 g2 g3 g4 g5 g6 g7
        obtain ⟨c0, c1, c2, c3, c4, c5, c6, c7⟩ := bx8 HY8.out
        go_wp2
        go_ret
        exact ⟨rfl, HB8.out⟩
      · have P1 : ∀ W, Globs W → Calls Tryd.prog 11 #[.agg #[.bool fin, .int .i64 (op : Int), .bool false, .int .u8 ((a : Nat) : Int), .int .u8 ((b : Nat) : Int), .int .u8 ((c : Nat) : Int), .int .u8 ((d : Nat) : Int), .string s]] W fun e w' => e = .returned (.tuple #[.slice none 0 0, .int .i64 (k1 : Int)]) ∧ Sl (Below W.heap.size W w') := fun W _ => putf_no fin op false a b c d s k1 W hk1 hc1 h01
        have hne1 : ((k1 : Int) != 0) = true := by simp; omega
        have P2 : ∀ W, Globs W → Calls Tryd.prog 11 #[.agg #[.bool fin, .int .i64 (op : Int), .bool true, .int .u8 ((ka : Nat) : Int), .int .u8 ((kb : Nat) : Int), .int .u8 ((kc : Nat) : Int), .int .u8 ((kd : Nat) : Int), .string s]] W fun e w' => e = .returned (.tuple #[.slice none 0 0, .int .i64 (k2 : Int)]) ∧ Sl (Below W.heap.size W w') := fun W _ => putf_no fin op true ka kb kc kd s k2 W hk2 hc2 h02
        have hne2 : ((k2 : Int) != 0) = true := by simp; omega
        by_cases hkk : k1 = k2
        · have hkq : ((k1 : Int) == (k2 : Int)) = true := by subst hkk; simp
          clear hc1 hc2 hs hk1 hk2 hmc h01 h02 hkk
          go_enter Tryd.func7, Tryd.ntmps7
          go_wp2_with fail
          refine (awake_any w2 (HG.out.below HB2.out HG.out.size)).mono ?_
          rintro e w3 ⟨rfl, HX3⟩
          have HB3 : Sl (Below w.heap.size w w3) := ⟨HB2.out.trans (HX3.out.mono HB2.out.size)⟩
          have HY3 : Sl (w3.heap[w.heap.size]? = some (.cells #[.bool fin, .int .i64 (op : Int), .bool false, .int .u8 ((a : Nat) : Int), .int .u8 ((b : Nat) : Int), .int .u8 ((c : Nat) : Int), .int .u8 ((d : Nat) : Int), .string s] 24 (0, 0))) := ⟨below_key HY2.out HX3.out⟩
          have HZ3 : Sl (w3.heap[w.heap.size + 1]? = some (.cells #[.int .u8 ((ka : Nat) : Int), .int .u8 ((kb : Nat) : Int), .int .u8 ((kc : Nat) : Int), .int .u8 ((kd : Nat) : Int)] 22 (0, 0))) := ⟨below_key HZ2.out HX3.out⟩
          clear HB2 HY2 HZ2 HX3 hw1 hw2 h1s
          obtain ⟨c0, c1, c2, c3, c4, c5, c6, c7⟩ := bx8 HY3.out
          obtain ⟨gb, hgb⟩ : ∃ gb, w3.heap.size = gb := ⟨_, rfl⟩
          have hgb1 : w.heap.size + 1 < gb := by rw [← hgb]; exact (Array.getElem?_eq_some_iff.1 HZ3.out).1
          obtain ⟨w4, hw4⟩ : ∃ V, (w3.alloc (.cells #[.bool false, .int .i64 0, .bool false, .int .u8 0, .int .u8 0, .int .u8 0, .int .u8 0, .string { data := #[] }] 24)).setRow w3.heap.size #[.bool fin, .int .i64 (op : Int), .bool false, .int .u8 ((a : Nat) : Int), .int .u8 ((b : Nat) : Int), .int .u8 ((c : Nat) : Int), .int .u8 ((d : Nat) : Int), .string s] = V := ⟨_, rfl⟩
          have HXw4 : Sl (Below w3.heap.size w3 w4) := ⟨by rw [← hw4]; exact laid_self w3 #[.bool fin, .int .i64 (op : Int), .bool false, .int .u8 ((a : Nat) : Int), .int .u8 ((b : Nat) : Int), .int .u8 ((c : Nat) : Int), .int .u8 ((d : Nat) : Int), .string s]⟩
          have HBw4 : Sl (Below w.heap.size w w4) := ⟨HB3.out.trans (HXw4.out.mono HB3.out.size)⟩
          have HYw4 : Sl (w4.heap[w3.heap.size]? = some (.cells #[.bool fin, .int .i64 (op : Int), .bool false, .int .u8 ((a : Nat) : Int), .int .u8 ((b : Nat) : Int), .int .u8 ((c : Nat) : Int), .int .u8 ((d : Nat) : Int), .string s] 24 (0, 0))) := ⟨by rw [← hw4]; exact (laid_fr #[.bool fin, .int .i64 (op : Int), .bool false, .int .u8 ((a : Nat) : Int), .int .u8 ((b : Nat) : Int), .int .u8 ((c : Nat) : Int), .int .u8 ((d : Nat) : Int), .string s] (Below.refl _ _)).2⟩
          have HIw4 := fr_info (cs := #[.bool fin, .int .i64 (op : Int), .bool false, .int .u8 ((a : Nat) : Int), .int .u8 ((b : Nat) : Int), .int .u8 ((c : Nat) : Int), .int .u8 ((d : Nat) : Int), .string s]) rfl
          have HY4 : Sl (w4.heap[w.heap.size]? = some (.cells #[.bool fin, .int .i64 (op : Int), .bool false, .int .u8 ((a : Nat) : Int), .int .u8 ((b : Nat) : Int), .int .u8 ((c : Nat) : Int), .int .u8 ((d : Nat) : Int), .string s] 24 (0, 0))) := ⟨below_key HY3.out HXw4.out⟩
          have HZ4 : Sl (w4.heap[w.heap.size + 1]? = some (.cells #[.int .u8 ((ka : Nat) : Int), .int .u8 ((kb : Nat) : Int), .int .u8 ((kc : Nat) : Int), .int .u8 ((kd : Nat) : Int)] 22 (0, 0))) := ⟨below_key HZ3.out HXw4.out⟩
          rw [hgb] at HYw4
          have hbn := bx_new w3 #[.bool false, .int .i64 0, .bool false, .int .u8 0, .int .u8 0, .int .u8 0, .int .u8 0, .string { data := #[] }]
          rw [hgb] at hw4 hbn
          clear HXw4 HB3 HY3 HZ3
          go_upto_region 4 with (refine wpList_store_row rfl 24 (.tmp 5) (.tmp 26) rfl gb #[.bool fin, .int .i64 (op : Int), .bool false, .int .u8 ((a : Nat) : Int), .int .u8 ((b : Nat) : Int), .int .u8 ((c : Nat) : Int), .int .u8 ((d : Nat) : Int), .string s] (by rw [← hgb]; rfl) rfl 24 #[.bool false, .int .i64 0, .bool false, .int .u8 0, .int .u8 0, .int .u8 0, .int .u8 0, .string { data := #[] }] hbn HIw4 rfl (fr_all _ _ _ _ _ _ _ _) ?_)
          obtain ⟨Rw, hR⟩ : ∃ Rw, ((w3.alloc (.cells #[.bool false, .int .i64 0, .bool false, .int .u8 0, .int .u8 0, .int .u8 0, .int .u8 0, .string { data := #[] }] 24)).setRow gb #[.bool fin, .int .i64 (op : Int), .bool false, .int .u8 ((a : Nat) : Int), .int .u8 ((b : Nat) : Int), .int .u8 ((c : Nat) : Int), .int .u8 ((d : Nat) : Int), .string s]).drew = Rw := ⟨_, rfl⟩
          have HS0 : Below w.heap.size w Rw ∧ Rw.heap[w.heap.size + 1]? = some (.cells #[.int .u8 ((ka : Nat) : Int), .int .u8 ((kb : Nat) : Int), .int .u8 ((kc : Nat) : Int), .int .u8 ((kd : Nat) : Int)] 22 (0, 0)) := ⟨by rw [← hR, hw4]; exact HBw4.out.drew, by rw [← hR, hw4]; exact HZ4.out⟩
          have HGR : Rw.heap[gb]? = some (.cells #[.bool fin, .int .i64 (op : Int), .bool false, .int .u8 ((a : Nat) : Int), .int .u8 ((b : Nat) : Int), .int .u8 ((c : Nat) : Int), .int .u8 ((d : Nat) : Int), .string s] 24 (0, 0)) := by rw [← hR, hw4]; exact HYw4.out
          have HYR : Rw.heap[w.heap.size]? = some (.cells #[.bool fin, .int .i64 (op : Int), .bool false, .int .u8 ((a : Nat) : Int), .int .u8 ((b : Nat) : Int), .int .u8 ((c : Nat) : Int), .int .u8 ((d : Nat) : Int), .string s] 24 (0, 0)) := by rw [← hR, hw4]; exact HY4.out
          refine wp_region_noPanic ?_
          refine wp_region_held (S := fun W => Below w.heap.size w W ∧ W.heap[w.heap.size + 1]? = some (.cells #[.int .u8 ((ka : Nat) : Int), .int .u8 ((kb : Nat) : Int), .int .u8 ((kc : Nat) : Int), .int .u8 ((kd : Nat) : Int)] 22 (0, 0))) (by kernel_rfl) ?_
          change wpAnyH _ _ _ _ _ _ _ _ ((w3.alloc (.cells #[.bool false, .int .i64 0, .bool false, .int .u8 0, .int .u8 0, .int .u8 0, .int .u8 0, .string { data := #[] }] 24)).setRow gb #[.bool fin, .int .i64 (op : Int), .bool false, .int .u8 ((a : Nat) : Int), .int .u8 ((b : Nat) : Int), .int .u8 ((c : Nat) : Int), .int .u8 ((d : Nat) : Int), .string s]).drew
          rw [hR]
          clear hR HBw4 HY4 HZ4 HYw4 hw4 HIw4 hbn
          clear c0 c1 c2 c3 c4 c5 c6 c7
          refine heldTake (d := some 27) (op := .load 22 (Operand.tmp 3)) (g := none) 0 (.agg #[.int .u8 ((ka : Nat) : Int), .int .u8 ((kb : Nat) : Int), .int .u8 ((kc : Nat) : Int), .int .u8 ((kd : Nat) : Int)]) rfl (by kernel_rfl) (by kernel_rfl) (by kernel_rfl) (by kernel_rfl) ?y0h3 HS0 ?_
          case y0h3 => intro o' ho W hS; exact loadkey ho (by rfl) hS.2
          simp only [Act.put, List.setIfInBounds_toArray, List.set_cons_zero, List.set_cons_succ]
          refine heldTake (d := some 28) (op := .fieldAddr 24 (Operand.tmp 5) 2) (g := none) 1 ?v1h3 rfl (by kernel_rfl) (by kernel_rfl) (by kernel_rfl) (by kernel_rfl) ?y1h3 HS0 ?_
          case y1h3 => intro o' ho W hS; simp only [execOp, ho]; go_simp; try rfl
          simp only [Act.put, List.setIfInBounds_toArray, List.set_cons_zero, List.set_cons_succ]
          obtain ⟨w5, hw5⟩ : ∃ V, Rw.setCell ⟨gb, 2, none⟩ (.bool true) = V := ⟨_, rfl⟩
          have HB5 : Sl (Below w.heap.size w w5) := ⟨by rw [← hw5]; exact HS0.1.setCell (by show w.heap.size ≤ gb; omega) _⟩
          have HG5 : Sl (w5.heap[gb]? = some (.cells #[.bool fin, .int .i64 (op : Int), .bool true, .int .u8 ((a : Nat) : Int), .int .u8 ((b : Nat) : Int), .int .u8 ((c : Nat) : Int), .int .u8 ((d : Nat) : Int), .string s] 24 (0, 0))) := ⟨by rw [← hw5, heap_setCell_same _ _ _ _ _ _ HGR]; rfl⟩
          have HY5 : Sl (w5.heap[w.heap.size]? = some (.cells #[.bool fin, .int .i64 (op : Int), .bool false, .int .u8 ((a : Nat) : Int), .int .u8 ((b : Nat) : Int), .int .u8 ((c : Nat) : Int), .int .u8 ((d : Nat) : Int), .string s] 24 (0, 0))) := ⟨by rw [← hw5, heap_setCell_other _ _ _ _ (by show w.heap.size ≠ gb; omega)]; exact HYR⟩
          have HZ5 : Sl (w5.heap[w.heap.size + 1]? = some (.cells #[.int .u8 ((ka : Nat) : Int), .int .u8 ((kb : Nat) : Int), .int .u8 ((kc : Nat) : Int), .int .u8 ((kd : Nat) : Int)] 22 (0, 0))) := ⟨by rw [← hw5, heap_setCell_other _ _ _ _ (by show w.heap.size + 1 ≠ gb; omega)]; exact HS0.2⟩
          have hf2 : Rw.frozen? ⟨gb, 2, none⟩ = false := frozen_of_row _ _ _ _ _ HGR
          have hc2 : Rw.cell? ⟨gb, 2, none⟩ = some (.bool false) := (bx8 HGR).2.2.1
          refine heldStore (d := none) (op := .store 4 (Operand.tmp 28) (Operand.const (Value.bool true))) (g := none) (t := 0) 2 w5 rfl (by kernel_rfl) (by kernel_rfl) ?y2h3 ⟨HB5.out, HZ5.out⟩ ?_
          case y2h3 => intro o' ho ht; simp only [execOp, ho]; go_simp; first | done | rw [hw5] | rfl
          simp only [Act.put]
          refine heldTake (d := some 29) (op := .fieldAddr 24 (Operand.tmp 5) 3) (g := none) 3 ?v3h3 rfl (by kernel_rfl) (by kernel_rfl) (by kernel_rfl) (by kernel_rfl) ?y3h3 ⟨HB5.out, HZ5.out⟩ ?_
          case y3h3 => intro o' ho W hS; simp only [execOp, ho]; go_simp; try rfl
          simp only [Act.put, List.setIfInBounds_toArray, List.set_cons_zero, List.set_cons_succ]
          obtain ⟨w6, hw6⟩ : ∃ V, w5.setRow gb #[.bool fin, .int .i64 (op : Int), .bool true, .int .u8 ((ka : Nat) : Int), .int .u8 ((kb : Nat) : Int), .int .u8 ((kc : Nat) : Int), .int .u8 ((kd : Nat) : Int), .string s] = V := ⟨_, rfl⟩
          have HB6 : Sl (Below w.heap.size w w6) := ⟨by rw [← hw6]; exact below_setRow HB5.out (by omega) _⟩
          have HG6 : Sl (w6.heap[gb]? = some (.cells #[.bool fin, .int .i64 (op : Int), .bool true, .int .u8 ((ka : Nat) : Int), .int .u8 ((kb : Nat) : Int), .int .u8 ((kc : Nat) : Int), .int .u8 ((kd : Nat) : Int), .string s] 24 (0, 0))) := ⟨by rw [← hw6]; exact setRow_heap _ _ _ _ _ _ HG5.out⟩
          have HY6 : Sl (w6.heap[w.heap.size]? = some (.cells #[.bool fin, .int .i64 (op : Int), .bool false, .int .u8 ((a : Nat) : Int), .int .u8 ((b : Nat) : Int), .int .u8 ((c : Nat) : Int), .int .u8 ((d : Nat) : Int), .string s] 24 (0, 0))) := ⟨by rw [← hw6, setRow_other _ _ _ _ (by omega)]; exact HY5.out⟩
          have HZ6 : Sl (w6.heap[w.heap.size + 1]? = some (.cells #[.int .u8 ((ka : Nat) : Int), .int .u8 ((kb : Nat) : Int), .int .u8 ((kc : Nat) : Int), .int .u8 ((kd : Nat) : Int)] 22 (0, 0))) := ⟨by rw [← hw6, setRow_other _ _ _ _ (by omega)]; exact HZ5.out⟩
          refine heldStore (d := none) (op := .store 22 (Operand.tmp 29) (Operand.tmp 27)) (g := none) (t := 0) 4 w6 rfl (by kernel_rfl) (by kernel_rfl) ?y4h3 ⟨HB6.out, HZ6.out⟩ ?_
          case y4h3 => intro o' ho ht; rw [← hw6]; exact store_key ho (by rfl) (by rfl) HG5.out
          simp only [Act.put]
          refine wpAnyH_done (by kernel_rfl) ?_ _
          refine NoPanic.normal ?_
          clear HS0 HGR HYR hf2 hc2 hw5 HB5 HG5 HY5 HZ5 hw6
          obtain ⟨c0, c1, c2, c3, c4, c5, c6, c7⟩ := bx8 HY6.out
          obtain ⟨g0, g1, g2, g3, g4, g5, g6, g7⟩ := bx8 HG6.out
          go_wp2_with fail
          refine (P1 w6 (HG.out.below HB6.out HG.out.size)).mono ?_
          rintro e w7 ⟨rfl, HX7⟩
          have HB7 : Sl (Below w.heap.size w w7) := ⟨HB6.out.trans (HX7.out.mono HB6.out.size)⟩
          have HY7 : Sl (w7.heap[w.heap.size]? = some (.cells #[.bool fin, .int .i64 (op : Int), .bool false, .int .u8 ((a : Nat) : Int), .int .u8 ((b : Nat) : Int), .int .u8 ((c : Nat) : Int), .int .u8 ((d : Nat) : Int), .string s] 24 (0, 0))) := ⟨below_key HY6.out HX7.out⟩
          have HZ7 : Sl (w7.heap[w.heap.size + 1]? = some (.cells #[.int .u8 ((ka : Nat) : Int), .int .u8 ((kb : Nat) : Int), .int .u8 ((kc : Nat) : Int), .int .u8 ((kd : Nat) : Int)] 22 (0, 0))) := ⟨below_key HZ6.out HX7.out⟩
          have HG7 : Sl (w7.heap[gb]? = some (.cells #[.bool fin, .int .i64 (op : Int), .bool true, .int .u8 ((ka : Nat) : Int), .int .u8 ((kb : Nat) : Int), .int .u8 ((kc : Nat) : Int), .int .u8 ((kd : Nat) : Int), .string s] 24 (0, 0))) := ⟨below_key HG6.out HX7.out⟩
          clear c0 c1 c2 c3 c4 c5 c6 c7
          clear g0 g1 g2 g3 g4 g5 g6 g7
          obtain ⟨c0, c1, c2, c3, c4, c5, c6, c7⟩ := bx8 HY7.out
          obtain ⟨g0, g1, g2, g3, g4, g5, g6, g7⟩ := bx8 HG7.out
          go_wp2_with fail
          refine (P2 w7 (HG.out.below HB7.out HG.out.size)).mono ?_
          rintro e w8 ⟨rfl, HX8⟩
          have HB8 : Sl (Below w.heap.size w w8) := ⟨HB7.out.trans (HX8.out.mono HB7.out.size)⟩
          have HY8 : Sl (w8.heap[w.heap.size]? = some (.cells #[.bool fin, .int .i64 (op : Int), .bool false, .int .u8 ((a : Nat) : Int), .int .u8 ((b : Nat) : Int), .int .u8 ((c : Nat) : Int), .int .u8 ((d : Nat) : Int), .string s] 24 (0, 0))) := ⟨below_key HY7.out HX8.out⟩
          have HZ8 : Sl (w8.heap[w.heap.size + 1]? = some (.cells #[.int .u8 ((ka : Nat) : Int), .int .u8 ((kb : Nat) : Int), .int .u8 ((kc : Nat) : Int), .int .u8 ((kd : Nat) : Int)] 22 (0, 0))) := ⟨below_key HZ7.out HX8.out⟩
          have HG8 : Sl (w8.heap[gb]? = some (.cells #[.bool fin, .int .i64 (op : Int), .bool true, .int .u8 ((ka : Nat) : Int), .int .u8 ((kb : Nat) : Int), .int .u8 ((kc : Nat) : Int), .int .u8 ((kd : Nat) : Int), .string s] 24 (0, 0))) := ⟨below_key HG7.out HX8.out⟩
          clear c0 c1 c2 c3 c4 c5 c6 c7
          clear g0 g1 g2 g3 g4 g5 g6 g7
          obtain ⟨c0, c1, c2, c3, c4, c5, c6, c7⟩ := bx8 HY8.out
          go_wp2
          go_ret
          exact ⟨rfl, HB8.out⟩
        · have hz : [a, b, c, d] ≠ zero4 := by rcases hmc with h | h; exact absurd h hkk; exact h.1
          rw [decide_eq_false hz] at hEq
          have hkq : ((k1 : Int) == (k2 : Int)) = false := by simp; omega
          clear hc1 hc2 hs hk1 hk2 hmc hz h01 h02 hkk
          go_enter Tryd.func7, Tryd.ntmps7
          go_wp2_with fail
          refine (awake_any w2 (HG.out.below HB2.out HG.out.size)).mono ?_
          rintro e w3 ⟨rfl, HX3⟩
          have HB3 : Sl (Below w.heap.size w w3) := ⟨HB2.out.trans (HX3.out.mono HB2.out.size)⟩
          have HY3 : Sl (w3.heap[w.heap.size]? = some (.cells #[.bool fin, .int .i64 (op : Int), .bool false, .int .u8 ((a : Nat) : Int), .int .u8 ((b : Nat) : Int), .int .u8 ((c : Nat) : Int), .int .u8 ((d : Nat) : Int), .string s] 24 (0, 0))) := ⟨below_key HY2.out HX3.out⟩
          have HZ3 : Sl (w3.heap[w.heap.size + 1]? = some (.cells #[.int .u8 ((ka : Nat) : Int), .int .u8 ((kb : Nat) : Int), .int .u8 ((kc : Nat) : Int), .int .u8 ((kd : Nat) : Int)] 22 (0, 0))) := ⟨below_key HZ2.out HX3.out⟩
          clear HB2 HY2 HZ2 HX3 hw1 hw2 h1s
          obtain ⟨c0, c1, c2, c3, c4, c5, c6, c7⟩ := bx8 HY3.out
          obtain ⟨gb, hgb⟩ : ∃ gb, w3.heap.size = gb := ⟨_, rfl⟩
          have hgb1 : w.heap.size + 1 < gb := by rw [← hgb]; exact (Array.getElem?_eq_some_iff.1 HZ3.out).1
          obtain ⟨w4, hw4⟩ : ∃ V, (w3.alloc (.cells #[.bool false, .int .i64 0, .bool false, .int .u8 0, .int .u8 0, .int .u8 0, .int .u8 0, .string { data := #[] }] 24)).setRow w3.heap.size #[.bool fin, .int .i64 (op : Int), .bool false, .int .u8 ((a : Nat) : Int), .int .u8 ((b : Nat) : Int), .int .u8 ((c : Nat) : Int), .int .u8 ((d : Nat) : Int), .string s] = V := ⟨_, rfl⟩
          have HXw4 : Sl (Below w3.heap.size w3 w4) := ⟨by rw [← hw4]; exact laid_self w3 #[.bool fin, .int .i64 (op : Int), .bool false, .int .u8 ((a : Nat) : Int), .int .u8 ((b : Nat) : Int), .int .u8 ((c : Nat) : Int), .int .u8 ((d : Nat) : Int), .string s]⟩
          have HBw4 : Sl (Below w.heap.size w w4) := ⟨HB3.out.trans (HXw4.out.mono HB3.out.size)⟩
          have HYw4 : Sl (w4.heap[w3.heap.size]? = some (.cells #[.bool fin, .int .i64 (op : Int), .bool false, .int .u8 ((a : Nat) : Int), .int .u8 ((b : Nat) : Int), .int .u8 ((c : Nat) : Int), .int .u8 ((d : Nat) : Int), .string s] 24 (0, 0))) := ⟨by rw [← hw4]; exact (laid_fr #[.bool fin, .int .i64 (op : Int), .bool false, .int .u8 ((a : Nat) : Int), .int .u8 ((b : Nat) : Int), .int .u8 ((c : Nat) : Int), .int .u8 ((d : Nat) : Int), .string s] (Below.refl _ _)).2⟩
          have HIw4 := fr_info (cs := #[.bool fin, .int .i64 (op : Int), .bool false, .int .u8 ((a : Nat) : Int), .int .u8 ((b : Nat) : Int), .int .u8 ((c : Nat) : Int), .int .u8 ((d : Nat) : Int), .string s]) rfl
          have HY4 : Sl (w4.heap[w.heap.size]? = some (.cells #[.bool fin, .int .i64 (op : Int), .bool false, .int .u8 ((a : Nat) : Int), .int .u8 ((b : Nat) : Int), .int .u8 ((c : Nat) : Int), .int .u8 ((d : Nat) : Int), .string s] 24 (0, 0))) := ⟨below_key HY3.out HXw4.out⟩
          have HZ4 : Sl (w4.heap[w.heap.size + 1]? = some (.cells #[.int .u8 ((ka : Nat) : Int), .int .u8 ((kb : Nat) : Int), .int .u8 ((kc : Nat) : Int), .int .u8 ((kd : Nat) : Int)] 22 (0, 0))) := ⟨below_key HZ3.out HXw4.out⟩
          rw [hgb] at HYw4
          have hbn := bx_new w3 #[.bool false, .int .i64 0, .bool false, .int .u8 0, .int .u8 0, .int .u8 0, .int .u8 0, .string { data := #[] }]
          rw [hgb] at hw4 hbn
          clear HXw4 HB3 HY3 HZ3
          go_upto_region 4 with (refine wpList_store_row rfl 24 (.tmp 5) (.tmp 26) rfl gb #[.bool fin, .int .i64 (op : Int), .bool false, .int .u8 ((a : Nat) : Int), .int .u8 ((b : Nat) : Int), .int .u8 ((c : Nat) : Int), .int .u8 ((d : Nat) : Int), .string s] (by rw [← hgb]; rfl) rfl 24 #[.bool false, .int .i64 0, .bool false, .int .u8 0, .int .u8 0, .int .u8 0, .int .u8 0, .string { data := #[] }] hbn HIw4 rfl (fr_all _ _ _ _ _ _ _ _) ?_)
          obtain ⟨Rw, hR⟩ : ∃ Rw, ((w3.alloc (.cells #[.bool false, .int .i64 0, .bool false, .int .u8 0, .int .u8 0, .int .u8 0, .int .u8 0, .string { data := #[] }] 24)).setRow gb #[.bool fin, .int .i64 (op : Int), .bool false, .int .u8 ((a : Nat) : Int), .int .u8 ((b : Nat) : Int), .int .u8 ((c : Nat) : Int), .int .u8 ((d : Nat) : Int), .string s]).drew = Rw := ⟨_, rfl⟩
          have HS0 : Below w.heap.size w Rw ∧ Rw.heap[w.heap.size + 1]? = some (.cells #[.int .u8 ((ka : Nat) : Int), .int .u8 ((kb : Nat) : Int), .int .u8 ((kc : Nat) : Int), .int .u8 ((kd : Nat) : Int)] 22 (0, 0)) := ⟨by rw [← hR, hw4]; exact HBw4.out.drew, by rw [← hR, hw4]; exact HZ4.out⟩
          have HGR : Rw.heap[gb]? = some (.cells #[.bool fin, .int .i64 (op : Int), .bool false, .int .u8 ((a : Nat) : Int), .int .u8 ((b : Nat) : Int), .int .u8 ((c : Nat) : Int), .int .u8 ((d : Nat) : Int), .string s] 24 (0, 0)) := by rw [← hR, hw4]; exact HYw4.out
          have HYR : Rw.heap[w.heap.size]? = some (.cells #[.bool fin, .int .i64 (op : Int), .bool false, .int .u8 ((a : Nat) : Int), .int .u8 ((b : Nat) : Int), .int .u8 ((c : Nat) : Int), .int .u8 ((d : Nat) : Int), .string s] 24 (0, 0)) := by rw [← hR, hw4]; exact HY4.out
          refine wp_region_noPanic ?_
          refine wp_region_held (S := fun W => Below w.heap.size w W ∧ W.heap[w.heap.size + 1]? = some (.cells #[.int .u8 ((ka : Nat) : Int), .int .u8 ((kb : Nat) : Int), .int .u8 ((kc : Nat) : Int), .int .u8 ((kd : Nat) : Int)] 22 (0, 0))) (by kernel_rfl) ?_
          change wpAnyH _ _ _ _ _ _ _ _ ((w3.alloc (.cells #[.bool false, .int .i64 0, .bool false, .int .u8 0, .int .u8 0, .int .u8 0, .int .u8 0, .string { data := #[] }] 24)).setRow gb #[.bool fin, .int .i64 (op : Int), .bool false, .int .u8 ((a : Nat) : Int), .int .u8 ((b : Nat) : Int), .int .u8 ((c : Nat) : Int), .int .u8 ((d : Nat) : Int), .string s]).drew
          rw [hR]
          clear hR HBw4 HY4 HZ4 HYw4 hw4 HIw4 hbn
          clear c0 c1 c2 c3 c4 c5 c6 c7
          refine heldTake (d := some 27) (op := .load 22 (Operand.tmp 3)) (g := none) 0 (.agg #[.int .u8 ((ka : Nat) : Int), .int .u8 ((kb : Nat) : Int), .int .u8 ((kc : Nat) : Int), .int .u8 ((kd : Nat) : Int)]) rfl (by kernel_rfl) (by kernel_rfl) (by kernel_rfl) (by kernel_rfl) ?y0h4 HS0 ?_
          case y0h4 => intro o' ho W hS; exact loadkey ho (by rfl) hS.2
          simp only [Act.put, List.setIfInBounds_toArray, List.set_cons_zero, List.set_cons_succ]
          refine heldTake (d := some 28) (op := .fieldAddr 24 (Operand.tmp 5) 2) (g := none) 1 ?v1h4 rfl (by kernel_rfl) (by kernel_rfl) (by kernel_rfl) (by kernel_rfl) ?y1h4 HS0 ?_
          case y1h4 => intro o' ho W hS; simp only [execOp, ho]; go_simp; try rfl
          simp only [Act.put, List.setIfInBounds_toArray, List.set_cons_zero, List.set_cons_succ]
          obtain ⟨w5, hw5⟩ : ∃ V, Rw.setCell ⟨gb, 2, none⟩ (.bool true) = V := ⟨_, rfl⟩
          have HB5 : Sl (Below w.heap.size w w5) := ⟨by rw [← hw5]; exact HS0.1.setCell (by show w.heap.size ≤ gb; omega) _⟩
          have HG5 : Sl (w5.heap[gb]? = some (.cells #[.bool fin, .int .i64 (op : Int), .bool true, .int .u8 ((a : Nat) : Int), .int .u8 ((b : Nat) : Int), .int .u8 ((c : Nat) : Int), .int .u8 ((d : Nat) : Int), .string s] 24 (0, 0))) := ⟨by rw [← hw5, heap_setCell_same _ _ _ _ _ _ HGR]; rfl⟩
          have HY5 : Sl (w5.heap[w.heap.size]? = some (.cells #[.bool fin, .int .i64 (op : Int), .bool false, .int .u8 ((a : Nat) : Int), .int .u8 ((b : Nat) : Int), .int .u8 ((c : Nat) : Int), .int .u8 ((d : Nat) : Int), .string s] 24 (0, 0))) := ⟨by rw [← hw5, heap_setCell_other _ _ _ _ (by show w.heap.size ≠ gb; omega)]; exact HYR⟩
          have HZ5 : Sl (w5.heap[w.heap.size + 1]? = some (.cells #[.int .u8 ((ka : Nat) : Int), .int .u8 ((kb : Nat) : Int), .int .u8 ((kc : Nat) : Int), .int .u8 ((kd : Nat) : Int)] 22 (0, 0))) := ⟨by rw [← hw5, heap_setCell_other _ _ _ _ (by show w.heap.size + 1 ≠ gb; omega)]; exact HS0.2⟩
          have hf2 : Rw.frozen? ⟨gb, 2, none⟩ = false := frozen_of_row _ _ _ _ _ HGR
          have hc2 : Rw.cell? ⟨gb, 2, none⟩ = some (.bool false) := (bx8 HGR).2.2.1
          refine heldStore (d := none) (op := .store 4 (Operand.tmp 28) (Operand.const (Value.bool true))) (g := none) (t := 0) 2 w5 rfl (by kernel_rfl) (by kernel_rfl) ?y2h4 ⟨HB5.out, HZ5.out⟩ ?_
          case y2h4 => intro o' ho ht; simp only [execOp, ho]; go_simp; first | done | rw [hw5] | rfl
          simp only [Act.put]
          refine heldTake (d := some 29) (op := .fieldAddr 24 (Operand.tmp 5) 3) (g := none) 3 ?v3h4 rfl (by kernel_rfl) (by kernel_rfl) (by kernel_rfl) (by kernel_rfl) ?y3h4 ⟨HB5.out, HZ5.out⟩ ?_
          case y3h4 => intro o' ho W hS; simp only [execOp, ho]; go_simp; try rfl
          simp only [Act.put, List.setIfInBounds_toArray, List.set_cons_zero, List.set_cons_succ]
          obtain ⟨w6, hw6⟩ : ∃ V, w5.setRow gb #[.bool fin, .int .i64 (op : Int), .bool true, .int .u8 ((ka : Nat) : Int), .int .u8 ((kb : Nat) : Int), .int .u8 ((kc : Nat) : Int), .int .u8 ((kd : Nat) : Int), .string s] = V := ⟨_, rfl⟩
          have HB6 : Sl (Below w.heap.size w w6) := ⟨by rw [← hw6]; exact below_setRow HB5.out (by omega) _⟩
          have HG6 : Sl (w6.heap[gb]? = some (.cells #[.bool fin, .int .i64 (op : Int), .bool true, .int .u8 ((ka : Nat) : Int), .int .u8 ((kb : Nat) : Int), .int .u8 ((kc : Nat) : Int), .int .u8 ((kd : Nat) : Int), .string s] 24 (0, 0))) := ⟨by rw [← hw6]; exact setRow_heap _ _ _ _ _ _ HG5.out⟩
          have HY6 : Sl (w6.heap[w.heap.size]? = some (.cells #[.bool fin, .int .i64 (op : Int), .bool false, .int .u8 ((a : Nat) : Int), .int .u8 ((b : Nat) : Int), .int .u8 ((c : Nat) : Int), .int .u8 ((d : Nat) : Int), .string s] 24 (0, 0))) := ⟨by rw [← hw6, setRow_other _ _ _ _ (by omega)]; exact HY5.out⟩
          have HZ6 : Sl (w6.heap[w.heap.size + 1]? = some (.cells #[.int .u8 ((ka : Nat) : Int), .int .u8 ((kb : Nat) : Int), .int .u8 ((kc : Nat) : Int), .int .u8 ((kd : Nat) : Int)] 22 (0, 0))) := ⟨by rw [← hw6, setRow_other _ _ _ _ (by omega)]; exact HZ5.out⟩
          refine heldStore (d := none) (op := .store 22 (Operand.tmp 29) (Operand.tmp 27)) (g := none) (t := 0) 4 w6 rfl (by kernel_rfl) (by kernel_rfl) ?y4h4 ⟨HB6.out, HZ6.out⟩ ?_
          case y4h4 => intro o' ho ht; rw [← hw6]; exact store_key ho (by rfl) (by rfl) HG5.out
          simp only [Act.put]
          refine wpAnyH_done (by kernel_rfl) ?_ _
          refine NoPanic.normal ?_
          clear HS0 HGR HYR hf2 hc2 hw5 HB5 HG5 HY5 HZ5 hw6
          obtain ⟨c0, c1, c2, c3, c4, c5, c6, c7⟩ := bx8 HY6.out
          obtain ⟨g0, g1, g2, g3, g4, g5, g6, g7⟩ := bx8 HG6.out
          go_wp2_with fail
          refine (P1 w6 (HG.out.below HB6.out HG.out.size)).mono ?_
          rintro e w7 ⟨rfl, HX7⟩
          have HB7 : Sl (Below w.heap.size w w7) := ⟨HB6.out.trans (HX7.out.mono HB6.out.size)⟩
          have HY7 : Sl (w7.heap[w.heap.size]? = some (.cells #[.bool fin, .int .i64 (op : Int), .bool false, .int .u8 ((a : Nat) : Int), .int .u8 ((b : Nat) : Int), .int .u8 ((c : Nat) : Int), .int .u8 ((d : Nat) : Int), .string s] 24 (0, 0))) := ⟨below_key HY6.out HX7.out⟩
          have HZ7 : Sl (w7.heap[w.heap.size + 1]? = some (.cells #[.int .u8 ((ka : Nat) : Int), .int .u8 ((kb : Nat) : Int), .int .u8 ((kc : Nat) : Int), .int .u8 ((kd : Nat) : Int)] 22 (0, 0))) := ⟨below_key HZ6.out HX7.out⟩
          have HG7 : Sl (w7.heap[gb]? = some (.cells #[.bool fin, .int .i64 (op : Int), .bool true, .int .u8 ((ka : Nat) : Int), .int .u8 ((kb : Nat) : Int), .int .u8 ((kc : Nat) : Int), .int .u8 ((kd : Nat) : Int), .string s] 24 (0, 0))) := ⟨below_key HG6.out HX7.out⟩
          clear c0 c1 c2 c3 c4 c5 c6 c7
          clear g0 g1 g2 g3 g4 g5 g6 g7
          obtain ⟨c0, c1, c2, c3, c4, c5, c6, c7⟩ := bx8 HY7.out
          obtain ⟨g0, g1, g2, g3, g4, g5, g6, g7⟩ := bx8 HG7.out
          go_wp2_with fail
          refine (P2 w7 (HG.out.below HB7.out HG.out.size)).mono ?_
          rintro e w8 ⟨rfl, HX8⟩
          have HB8 : Sl (Below w.heap.size w w8) := ⟨HB7.out.trans (HX8.out.mono HB7.out.size)⟩
          have HY8 : Sl (w8.heap[w.heap.size]? = some (.cells #[.bool fin, .int .i64 (op : Int), .bool false, .int .u8 ((a : Nat) : Int), .int .u8 ((b : Nat) : Int), .int .u8 ((c : Nat) : Int), .int .u8 ((d : Nat) : Int), .string s] 24 (0, 0))) := ⟨below_key HY7.out HX8.out⟩
          have HZ8 : Sl (w8.heap[w.heap.size + 1]? = some (.cells #[.int .u8 ((ka : Nat) : Int), .int .u8 ((kb : Nat) : Int), .int .u8 ((kc : Nat) : Int), .int .u8 ((kd : Nat) : Int)] 22 (0, 0))) := ⟨below_key HZ7.out HX8.out⟩
          have HG8 : Sl (w8.heap[gb]? = some (.cells #[.bool fin, .int .i64 (op : Int), .bool true, .int .u8 ((ka : Nat) : Int), .int .u8 ((kb : Nat) : Int), .int .u8 ((kc : Nat) : Int), .int .u8 ((kd : Nat) : Int), .string s] 24 (0, 0))) := ⟨below_key HG7.out HX8.out⟩
          clear c0 c1 c2 c3 c4 c5 c6 c7
          clear g0 g1 g2 g3 g4 g5 g6 g7
          obtain ⟨c0, c1, c2, c3, c4, c5, c6, c7⟩ := bx8 HY8.out
          go_wp2
          go_ret
          exact ⟨rfl, HB8.out⟩
theorem masks_walk2 (fin : Bool) (op : Int) (m : Bool) (a b c d : Nat) (s : ByteArray) (key : List Nat) (w : World) (hg : Globs w) (hk1 : Small 256 [a, b, c, d]) (hl : key.length = 4) (hk2 : Small 256 key) : Calls Tryd.prog 7 #[.agg #[.bool fin, .int .i64 (op : Int), .bool m, .int .u8 ((a : Nat) : Int), .int .u8 ((b : Nat) : Int), .int .u8 ((c : Nat) : Int), .int .u8 ((d : Nat) : Int), .string s], .agg (u8s key).toArray] w fun e w' => e = .returned (.bool true) ∧ Below w.heap.size w w' :=
  match key, hl, hk2 with
  | [ka, kb, kc, kd], _, h => masks_walk fin op m a b c d s ka kb kc kd w hg hk1 h
end Go.Proofs.YtcelhondifaloaaDoor
