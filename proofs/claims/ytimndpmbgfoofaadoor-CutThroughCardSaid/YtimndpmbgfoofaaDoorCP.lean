/- cut, plain and memory: a message's frames with masks, as bytes, fed piece by piece. -/
import Derived.Test.YtimndpmbgfoofaaDoorCM
set_option maxRecDepth 100000
namespace Go.Proofs.YtimndpmbgfoofaaDoor.Cut
open Go.RowKit MaskPlain Mas Fra Stm CutPlain
open FramePlain (Fr Fr0 form chk ctl zero4)
open StreamPlain (all)
open MsgPlain (Ms M0 Ev)

theorem thr_feed {A C R part : List Nat} {m : List Fr} {j k : Nat} (hA : Small 256 A) (hC : Small 256 C) (hR : Small 256 R) (hm : all (A ++ (C ++ R)) true 65536 = (m, 0, k)) (hF : FedS A true 65536 (m.take j) 0 part) (hj : j ≤ m.length) :
    ∃ gs lf part', all (part ++ C) true 65536 = (gs, 0, lf) ∧ (part ++ C).drop ((part ++ C).length - lf) = part' ∧ FedS (A ++ C) true 65536 (m.take (j + gs.length)) 0 part' ∧ gs = (m.drop j).take gs.length ∧ j + gs.length ≤ m.length := by
  obtain ⟨⟨gs, e, lf⟩, hg⟩ : ∃ r, all (part ++ C) true 65536 = r := ⟨_, rfl⟩
  have h1 := fed_more hF hA hC hg
  obtain ⟨lf1, h2, h3⟩ := h1
  obtain ⟨fs, lf2, rest, h4, h5⟩ := all_prefix true 65536 (A := A ++ C) (R := R) (hA.append hC) hR (by rw [List.append_assoc]; exact hm)
  rw [h4] at h2
  injection h2 with e1 e2
  injection e2 with e2 e3
  subst e2
  have hl : (m.take j).length = j := by rw [List.length_take]; omega
  have e4 : m = m.take j ++ (gs ++ rest) := by rw [← List.append_assoc, ← e1]; exact h5
  have e5 : m.drop j = gs ++ rest := by
    have h : (m.take j ++ m.drop j) = m.take j ++ (gs ++ rest) := by rw [List.take_append_drop]; exact e4
    exact List.append_cancel_left h
  have e6 : m.take (j + gs.length) = m.take j ++ gs := by
    rw [List.take_add, e5, List.take_left]
  have e7 : j + gs.length ≤ m.length := by
    have h := congrArg List.length e4
    rw [List.length_append, List.length_append, hl] at h
    omega
  refine ⟨gs, lf, _, hg, rfl, ⟨lf2, by rw [e6, ← e1]; exact h4, ?_⟩, by rw [e5, List.take_left], e7⟩
  rw [h3, e3]
theorem thr_end {B part : List Nat} {m : List Fr} {j : Nat} (hm : all B true 65536 = (m, 0, 0)) (hF : FedS B true 65536 (m.take j) 0 part) (hj : j ≤ m.length) : j = m.length ∧ part = [] := by
  obtain ⟨lf, h1, h2⟩ := hF
  rw [hm] at h1
  injection h1 with e1 e2
  injection e2 with _ e3
  subst e3
  refine ⟨?_, by rw [h2, Nat.sub_zero, List.drop_length]⟩
  have h := congrArg List.length e1
  rw [List.length_take] at h
  omega
theorem form_masked {fin : Bool} {op : Int} {key data : List Nat} (h : 0 ≤ op ∧ op ≤ 2) : form ⟨fin, op, true, key, data⟩ = true := by
  unfold FramePlain.form
  simp [h.1, h.2]
/-- A short message's frames with masks may all be fed. -/
theorem msk_let {M : Nat} (hM : 1 ≤ M) {op : Int} (ho : op = 1 ∨ op = 2) {t : List Nat} (ht : Small 256 t) (hl : t.length ≤ 500) {ds : List Nat} (hd : (frs M op t).length ≤ ds.length) : ∀ f ∈ msk K4 (frs M op t) ds, FrLet f true := fun f hf => by
  obtain ⟨i, hi, rfl⟩ := List.getElem_of_mem hf
  have hi' : i < (frs M op t).length := by rwa [msk_length K4 _ _ hd] at hi
  have h := msk_get K4 (frs M op t) ds i hd hi'
  rw [List.getD_eq_getElem?_getD, List.getElem?_eq_getElem hi, frs_get hM i op t hi'] at h
  simp only [Option.getD_some] at h
  rw [h]
  have hop : 0 ≤ (if i = 0 then op else 0) ∧ (if i = 0 then op else 0) ≤ 2 := by split <;> omega
  have hdl : ((t.drop (i * M)).take M).length ≤ 500 := by rw [List.length_take, List.length_drop]; omega
  exact ⟨⟨K4_length _, K4_small _, (ht.drop _).take _, by show ((t.drop (i * M)).take M).length ≤ maxLen; unfold maxLen; omega, by show -9223372036854775808 ≤ (if i = 0 then op else 0) ∧ (if i = 0 then op else 0) ≤ 9223372036854775807; omega⟩, form_masked hop, hdl, rfl⟩
theorem msk_data (K : Nat → List Nat) : ∀ (l : List Fr) (ds : List Nat), l.length ≤ ds.length → dataOf (msk K l ds) = dataOf l
  | [], _, _ => by simp [msk]
  | f :: l, [], h => by simp at h
  | f :: l, d :: ds, h => by
    simp only [msk, dataOf_cons]
    rw [msk_data K l ds (by simpa using h)]
theorem let_bytes {fs : List Fr} (h : ∀ f ∈ fs, FrLet f true) : bytesF fs = (texts fs, 0) :=
  bytesF_all fs fun j hj => (h _ (by rw [List.getD_eq_getElem?_getD, List.getElem?_eq_getElem hj]; exact List.getElem_mem _)).chk
/-- The machine's state, and what is told, behind j frames of N. -/
def stt (N : Nat) (op : Int) (t : List Nat) (M j : Nat) : Ms := if j < N then mid op t M j else M0
def tln (N j : Nat) : Nat := if j < N then 0 else 1
def tlv (N : Nat) (op : Int) (s : ByteArray) (j : Nat) : List Value := if j < N then [] else [.int .i64 op, .int .i64 0, .string s]
theorem stt_zero {N : Nat} (h : 1 ≤ N) (op : Int) (t : List Nat) (M : Nat) : stt N op t M 0 = M0 := by
  unfold stt mid; rw [if_pos (by omega), if_pos rfl]
/-- What the machine answers of a frame: it goes on, tells the message, or they are no letters. -/
theorem stt_take {M : Nat} (hM : 1 ≤ M) {op : Int} (ho : op = 1 ∨ op = 2) {t : List Nat} (hl : t.length ≤ 500) {ds : List Nat} {N : Nat} (hN : (frs M op t).length = N) (hd : N ≤ ds.length) {j : Nat} (hj : j < N) :
    (j + 1 < N ∧ MsgPlain.take 1000 (stt N op t M j) ((msk K4 (frs M op t) ds).getD j Fr0) = (stt N op t M (j + 1), none)) ∨ (j + 1 = N ∧ MsgPlain.take 1000 (stt N op t M j) ((msk K4 (frs M op t) ds).getD j Fr0) = (stt N op t M (j + 1), some ⟨op, 0, t⟩)) ∨ (op = 1 ∧ MsgPlain.take 1000 (stt N op t M j) ((msk K4 (frs M op t) ds).getD j Fr0) = (MsgPlain.bad 122, none)) := by
  have h := mid_step 1000 hM ho t K4 ds (by omega) j (by omega)
  have e : stt N op t M j = mid op t M j := if_pos hj
  rw [e, h, hN]
  by_cases h1 : j + 1 = N
  · rw [if_pos h1]
    rcases whole_end (B := 1000) (op := op) (t := t) (by omega) with h2 | ⟨h2, h3⟩
    · exact .inr (.inl ⟨h1, by rw [h2]; unfold stt; rw [if_neg (by omega)]⟩)
    · exact .inr (.inr ⟨h2, h3⟩)
  · rw [if_neg h1]
    rcases mid_part (B := 1000) (most := M) (op := op) (t := t) (by omega) j with h2 | ⟨h2, h3⟩
    · exact .inl ⟨by omega, by rw [h2]; unfold stt; rw [if_pos (by omega)]⟩
    · exact .inr (.inr ⟨h2, h3⟩)
theorem wpList_minV {ops : Array Oper} {rest : List Oper} {o : Oper} {a : Act} {Q : Exit → Act → World → Prop} {w : World} (hgd : o.guard = none) (x y : Operand)
    (ho : o.op = .call { callee := .builtin .min, args := #[x, y], argTypes := #[3, 3] }) (hty : o.type = 3) (p r N : Int)
    (hx : a.eval x = .int .i64 p) (hy : a.eval y = .int .i64 r) (hN : (if r < p then r else p) = N)
    (h : wpList Tryd.prog ops Q rest (a.put o.dst (.int .i64 N)) w) : wpList Tryd.prog ops Q (o :: rest) a w := by
  refine wpList_plain hgd fun K hK => ?_
  unfold Oper.wp
  have hy2 : (execOp a.eval o).run Tryd.prog w = .ok (.value (.int .i64 N)) w := by
    have h1 := run_min_int2 (P := Tryd.prog) w #[3, 3] 3 .i64 .i64 p r
    rw [hN] at h1
    simp [execOp, ho, hty, resolve, invoke, builtin, hx, hy, h1, Result.andThen]
  rw [hy2, Oper.upon_value]
  exact hK _ _ h
theorem slice_upto (V : World) (q o R c N : Nat) (hN : N ≤ c) : (Instr.slice 36 (.slice (some ⟨q, o, none⟩) R c) none (some (.int .i64 (N : Int))) none).run Tryd.prog V = .ok (.slice (some ⟨q, o, none⟩) N c) V := by
  obtain ⟨i0, hi, hz0, hz1, hz2⟩ := info5'
  rw [run_slice_h (ht := Tryd.underlying36) (h0 := by omega) (h2 := by omega)]
  simp [sizeOf, typeInfo, show Tryd.prog.elem 36 = 5 from rfl, hi, hz1, sliced, Addr.add]
theorem src_end {W : World} {q o R c N o' : Nat} {bs : List Nat} (h : SrcAt W (.slice (some ⟨q, o, none⟩) R c) bs) (hN : N ≤ R) (hl : bs.length = R) (ho : (if c = N then o else o + N) = o') : SrcAt W (.slice (some ⟨q, o', none⟩) (R - N) (c - N)) (bs.drop N) := by
  have h1 := Stm.SrcAt.from h hN hl
  have h2 : fromA (some ⟨q, o, none⟩) N c = some ⟨q, o', none⟩ := by
    unfold fromA
    rw [← ho]
    split <;> simp [Addr.add]
  rwa [h2] at h1
end Go.Proofs.YtimndpmbgfoofaaDoor.Cut
