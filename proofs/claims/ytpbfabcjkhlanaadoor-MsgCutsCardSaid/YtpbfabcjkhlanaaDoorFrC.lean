/- frame: Get. -/
import Derived.Test.YtpbfabcjkhlanaaDoorFrB
set_option maxRecDepth 100000
namespace Go.Proofs.YtpbfabcjkhlanaaDoor.Fra
open Go.RowKit MaskPlain FramePlain Mas

theorem slice_tail {W : World} {ev : Operand → Value} {o : Oper} {x : Operand} {sb so L cap k : Nat} (of : Nat) (hof : (if cap = 1 then so else so + 1) = of) (ho : o.op = .slice 22 x (some (.const (.int .i64 1))) none none) (hx : ev x = .slice (some ⟨sb, so, none⟩) L cap) (hk : L - 1 = k) (hL : 1 ≤ L ∧ L ≤ cap) (hev : ev (.const (.int .i64 1)) = .int .i64 1) :
    (execOp ev o).run Tryd.prog W = .ok (.value (.slice (some ⟨sb, of, none⟩) k (cap - 1))) W := by
  subst hk hof
  obtain ⟨hL1, hL2⟩ := hL
  simp only [execOp, ho, hx, hev, Option.map_some, Option.map_none]
  by_cases hc : cap = 1
  · subst hc
    rw [if_pos rfl]
    go_simp
    intro h; omega
  · rw [if_neg hc]
    go_simp
    intro h; omega
theorem store8 {W : World} {ev : Operand → Value} {o : Oper} {x y : Operand} {g : Nat} {old cells : Array Value} (ho : o.op = .store 35 x y) (hx : ev x = .pointer (some ⟨g, 0, none⟩)) (hy : ev y = .agg cells) (hg : W.heap[g]? = some (.cells old 35 (0, 0))) (hs : old.size = 8 ∧ cells.size = 8) (h1 : cells.all (·.oneCell') = true) :
    (execOp ev o).run Tryd.prog W = .ok .skip (W.setRow g cells) := by
  unfold execOp
  simp only [ho, hx, hy, Instr.storeAt, Instr.sureAddr, Sem.run_bind, Sem.run_pure, Result.andThen_ok, run_storeVar_row W g 35 35 old cells hg (fr_info hs.2) (hs.1.trans hs.2.symm) h1]
/-- What a first byte tells. -/
theorem bad_opn (x : Nat) (h : x < 256) : bad x = !(opn (decide (128 ≤ x)) ((x % 128 : Nat) : Int)) ∧ (bad x = false → (ctl ((x % 128 : Nat) : Int) = true ↔ 8 ≤ x % 16) ∧ x % 128 = x % 16) := by
  have : ∀ c : Fin 256, bad c.val = !(opn (decide (128 ≤ c.val)) ((c.val % 128 : Nat) : Int)) ∧ (bad c.val = false → (ctl ((c.val % 128 : Nat) : Int) = true ↔ 8 ≤ c.val % 16) ∧ c.val % 128 = c.val % 16) := by decide +kernel
  exact this ⟨x, h⟩
theorem getF_cons (x : Nat) (xs : List Nat) (most : Int) : getF (x :: xs) most = if bad x then (Fr0, 0, 91)
    else if 0 < xs.length ∧ 8 ≤ x % 16 ∧ 125 < xs.getD 0 0 % 128 then (Fr0, 0, 91)
    else if (getL xs).2.2 = 81 then (Fr0, 0, 91)
    else if (getL xs).2.2 = 80 then (Fr0, 0, 90)
    else if most < ((getL xs).1 : Int) then (Fr0, 0, 92)
    else rest x (xs.getD 0 0) (getL xs).1 (getL xs).2.1 (xs.drop (getL xs).2.1) := rfl
theorem getF_bad {x : Nat} {xs : List Nat} (most : Int) (h : bad x = true) : getF (x :: xs) most = (Fr0, 0, 91) := by rw [getF_cons, if_pos h]
theorem getF_len {x : Nat} {xs : List Nat} (most : Int) (hx : x < 256) (h : bad x = false) : getF (x :: xs) most = if (lenF (x % 128) xs).2.2 = 0 then (if most < (((lenF (x % 128) xs).1 : Nat) : Int) then (Fr0, 0, 92) else rest x (xs.getD 0 0) (lenF (x % 128) xs).1 (lenF (x % 128) xs).2.1 (xs.drop (lenF (x % 128) xs).2.1)) else (Fr0, 0, (lenF (x % 128) xs).2.2) := by
  have h2 := ((bad_opn x hx).2 h).1
  rw [getF_cons, if_neg (show ¬ bad x = true from by rw [h]; decide)]
  unfold lenF
  by_cases c1 : ctl ((x % 128 : Nat) : Int) = true ∧ 0 < xs.length ∧ 125 < xs.getD 0 0 % 128
  · rw [if_pos c1, if_pos ⟨c1.2.1, h2.1 c1.1, c1.2.2⟩]; rfl
  · rw [if_neg c1, if_neg (fun hh => c1 ⟨h2.2 hh.2.1, hh.1, hh.2.2⟩)]
    by_cases c2 : (getL xs).2.2 = 81
    · rw [if_pos c2, if_pos c2]; rfl
    · rw [if_neg c2, if_neg c2]
      by_cases c3 : (getL xs).2.2 = 80
      · rw [if_pos c3, if_pos c3]; rfl
      · rw [if_neg c3, if_neg c3]
        have c4 : (getL xs).2.2 = 0 := by rcases get_codes xs with h | h | h <;> omega
        rw [if_pos c4]
theorem lenF_le (o : Nat) (bs : List Nat) : (lenF o bs).2.1 ≤ bs.length ∧ (bs = [] → (lenF o bs).2.2 ≠ 0) := by
  unfold lenF
  have := get_le bs
  refine ⟨?_, fun hb => ?_⟩
  · split
    · exact Nat.zero_le _
    · split
      · exact Nat.zero_le _
      · split
        · exact Nat.zero_le _
        · exact this
  · subst hb; rw [if_neg (fun h => absurd h.2.1 (by decide)), if_neg (by decide), if_pos (by rfl)]; decide

end Go.Proofs.YtpbfabcjkhlanaaDoor.Fra
/- frame: the contracts in the form in which they are used; awake. -/
set_option maxRecDepth 100000
namespace Go.Proofs.YtpbfabcjkhlanaaDoor.Fra
open Go.RowKit MaskPlain FramePlain Mas

/-- A frame is laid down in a new cell. -/
theorem laid_fr {w W : World} (cs : Array Value) (h : Below w.heap.size w W) : Below w.heap.size w ((W.alloc (.cells #[.bool false, .int .i64 0, .bool false, .int .u8 0, .int .u8 0, .int .u8 0, .int .u8 0, .string { data := #[] }] 35)).setRow W.heap.size cs) ∧ ((W.alloc (.cells #[.bool false, .int .i64 0, .bool false, .int .u8 0, .int .u8 0, .int .u8 0, .int .u8 0, .string { data := #[] }] 35)).setRow W.heap.size cs).heap[W.heap.size]? = some (.cells cs 35 (0, 0)) :=
  ⟨below_setRow (h.alloc h.size _) h.size _, setRow_heap _ _ _ _ _ _ (bx_new W _)⟩
theorem laid_self (W : World) (cs : Array Value) : Below W.heap.size W ((W.alloc (.cells #[.bool false, .int .i64 0, .bool false, .int .u8 0, .int .u8 0, .int .u8 0, .int .u8 0, .string { data := #[] }] 35)).setRow W.heap.size cs) := (laid_fr cs (Below.refl _ _)).1

end Go.Proofs.YtpbfabcjkhlanaaDoor.Fra
/- frame: FrameBack's walk. -/
set_option maxRecDepth 100000
namespace Go.Proofs.YtpbfabcjkhlanaaDoor.Fra
open Go.RowKit MaskPlain FramePlain Mas

theorem eq_fr0 (W : World) : (Op.equalIn 10000 35 (.agg #[.bool false, .int .i64 0, .bool false, .int .u8 0, .int .u8 0, .int .u8 0, .int .u8 0, .string { data := #[] }]) (.agg #[.bool false, .int .i64 0, .bool false, .int .u8 0, .int .u8 0, .int .u8 0, .int .u8 0, .string { data := #[] }])).run Tryd.prog W = .ok true W :=
  (eq_fr false 0 false 0 0 0 0 { data := #[] } false 0 false 0 0 0 0 { data := #[] } (fun x hx => by simp at hx; omega) (fun x hx => by simp at hx; omega) W).trans (congrArg (fun b => Result.ok b W) (by kernel_rfl))
/-- What is got, part by part. -/
theorem got_parts {bs : List Nat} {most : Int} (hs : Small 256 bs) (hm : most ≤ 65536) : (∃ k, getF bs most = (Fr0, 0, k) ∧ k ≠ 0) ∨
    ∃ fin k m a b c d dt n, getF bs most = (⟨fin, ((k : Nat) : Int), m, [a, b, c, d], dt⟩, n, 0) ∧ chk ⟨fin, ((k : Nat) : Int), m, [a, b, c, d], dt⟩ = 0 ∧ text ⟨fin, ((k : Nat) : Int), m, [a, b, c, d], dt⟩ = bs.take n ∧ size ⟨fin, ((k : Nat) : Int), m, [a, b, c, d], dt⟩ = n ∧ n ≤ bs.length ∧ 2 ≤ n ∧ Small 256 [a, b, c, d] ∧ Small 256 dt := by
  rcases get_err bs most with h | ⟨e, he, hee⟩
  · obtain ⟨⟨f, n, e⟩, hf⟩ : ∃ r, getF bs most = r := ⟨_, rfl⟩
    rw [hf] at h
    simp only at h
    subst h
    obtain ⟨h1, h2, h3, h4, h5, h6, h7, h8⟩ := get_ok hs hf
    obtain ⟨fin, op, m, key, dt⟩ := f
    obtain ⟨k, rfl⟩ := Int.eq_ofNat_of_zero_le (show 0 ≤ op by have := (form_cases h1).1; simp only at this; omega)
    simp only at h5 h6 h7 h8
    have hl := text_length (⟨fin, ((k : Nat) : Int), m, key, dt⟩ : Fr) (by show dt.length ≤ _; omega) h5
    rw [h2, List.length_take] at hl
    match key, h5 with
    | [a, b, c, d], _ => exact .inr ⟨fin, k, m, a, b, c, d, dt, n, hf, chk_of h1 (by show dt.length ≤ _; omega), h2, by omega, h3, h4, h6, h7⟩
  · exact .inl ⟨e, he, by omega⟩

end Go.Proofs.YtpbfabcjkhlanaaDoor.Fra
/- frame: FrameTwo's walk. -/
set_option maxRecDepth 100000
namespace Go.Proofs.YtpbfabcjkhlanaaDoor.Fra
open Go.RowKit MaskPlain FramePlain Mas

theorem eq_same (fin : Bool) (op : Int) (m : Bool) (a b c d : Nat) (s : ByteArray) (hk : Small 256 [a, b, c, d]) (W : World) : (Op.equalIn 10000 35 (.agg #[.bool fin, .int .i64 (op : Int), .bool m, .int .u8 ((a : Nat) : Int), .int .u8 ((b : Nat) : Int), .int .u8 ((c : Nat) : Int), .int .u8 ((d : Nat) : Int), .string s]) (.agg #[.bool fin, .int .i64 (op : Int), .bool m, .int .u8 ((a : Nat) : Int), .int .u8 ((b : Nat) : Int), .int .u8 ((c : Nat) : Int), .int .u8 ((d : Nat) : Int), .string s])).run Tryd.prog W = .ok true W :=
  (eq_fr fin op m a b c d s fin op m a b c d s hk hk W).trans (congrArg (fun b => Result.ok b W) (by simp))
theorem text_small {f : Fr} (h : chk f = 0) (hk : Small 256 f.key) (hd : Small 256 f.data) : Small 256 (text f) := by
  obtain ⟨h1, h2⟩ := chk_ok h
  have hb := (byte0_facts h1).2.2.2.1
  have hl := lenB_small (n := f.data.length) (by omega)
  have hw := (lenB_low (n := f.data.length) (by omega)).1
  unfold text headB
  by_cases hm : f.masked = true
  · rw [if_pos hm, if_pos hm]
    intro x hx
    simp only [List.mem_append, List.mem_cons] at hx
    rcases hx with ((rfl | rfl | hx) | hx) | hx
    · exact hb
    · omega
    · exact hl x (List.mem_of_mem_drop hx)
    · exact hk x hx
    · exact turn_lt f.key 0 f.data hd (fun i => hk.getD (by omega) i) x hx
  · rw [if_neg hm, if_neg hm]
    intro x hx
    simp only [List.mem_append, List.mem_cons] at hx
    rcases hx with (rfl | hx) | hx
    · exact hb
    · exact hl x hx
    · exact hd x hx

end Go.Proofs.YtpbfabcjkhlanaaDoor.Fra
