/- A head as it is read: the head so far in its block; what a first line and a field's line add to it. -/
import Derived.Test.YtcohecghibndhaaDoorE
import Derived.Laws.ResultCell
import Derived.Laws.Rows
import Derived.WalkSmall
namespace Go.Proofs.YtcohecghibndhaaDoor
open Go.RowKit HeadPlain

def wordN (l : List Nat) : Bool := wordB l
/-- A first line that may be. -/
def ok1 (l : List Nat) : Option (List Nat × List Nat × List Nat) := (rd1 l).bind fun p => if (wordB p.1 && (wordB p.2.1 && valueB p.2.2)) = true then some p else none
/-- A field's line that may be. -/
def okF (l : List Nat) : Option (List Nat × List Nat) := (rdF l).bind fun f => if (token f.1 && valueB f.2) = true then some f else none
/-- Lines of fields that may be. -/
def okFs : List (List Nat) → Option (List (List Nat × List Nat))
  | [] => some []
  | l :: ls => (okF l).bind fun f => (okFs ls).map fun fs => f :: fs
/-- Lines that are a head's, one that may be. -/
def okL : List (List Nat) → Option Hd
  | [] => none
  | l :: ls => (ok1 l).bind fun p => (okFs ls).map fun fs => ⟨p.1, p.2.1, p.2.2, fs⟩
theorem okFs_eq (ls : List (List Nat)) : okFs ls = (rdFs ls).bind fun fs => if (fs.all fun f => token f.1 && valueB f.2) = true then some fs else none := by
  induction ls with
  | nil => rfl
  | cons l ls ih =>
    rw [okFs, rdFs, okF, ih]
    cases rdF l with
    | none => rfl
    | some f =>
      simp only [Option.bind_some]
      cases rdFs ls with
      | none =>
        simp only [Option.bind_none, Option.map_none]
        split <;> rfl
      | some fs =>
        simp only [Option.bind_some, Option.map_some]
        by_cases h1 : (token f.1 && valueB f.2) = true
        · have e : ((f :: fs).all fun f => token f.1 && valueB f.2) = fs.all fun f => token f.1 && valueB f.2 := by rw [List.all_cons, h1, Bool.true_and]
          rw [if_pos h1]
          simp only [e, Option.bind_some]
          split <;> rfl
        · have e : ((f :: fs).all fun f => token f.1 && valueB f.2) = false := by rw [List.all_cons, Bool.eq_false_iff.2 h1, Bool.false_and]
          rw [if_neg h1]
          simp only [e]
          rfl
theorem okL_eq (ls : List (List Nat)) : okL ls = (rdL ls).bind fun h => if formB h = true then some h else none := by
  cases ls with
  | nil => rfl
  | cons l ls =>
    rw [okL, rdL, ok1, okFs_eq]
    cases rd1 l with
    | none => rfl
    | some p =>
      simp only [Option.bind_some]
      cases rdFs ls with
      | none =>
        simp only [Option.bind_none, Option.map_none]
        split <;> rfl
      | some fs =>
        simp only [Option.bind_some, Option.map_some]
        have e : formB ⟨p.1, p.2.1, p.2.2, fs⟩ = ((wordB p.1 && (wordB p.2.1 && valueB p.2.2)) && fs.all fun f => token f.1 && valueB f.2) := by
          unfold formB wordB
          simp only [Bool.and_assoc]
        rw [e]
        by_cases h1 : (wordB p.1 && (wordB p.2.1 && valueB p.2.2)) = true
        · rw [if_pos h1, h1, Bool.true_and]
          simp only [Option.bind_some]
          split <;> rfl
        · rw [if_neg h1, Bool.eq_false_iff.2 h1, Bool.false_and]
          rfl
theorem okFs_snoc (ls : List (List Nat)) (l : List Nat) : okFs (ls ++ [l]) = (okFs ls).bind fun fs => (okF l).map fun f => fs ++ [f] := by
  induction ls with
  | nil => simp only [List.nil_append, okFs]; cases okF l <;> rfl
  | cons x ls ih =>
    rw [List.cons_append, okFs, okFs, ih]
    cases okF x with
    | none => rfl
    | some f =>
      simp only [Option.bind_some]
      cases okFs ls with
      | none => rfl
      | some fs =>
        simp only [Option.bind_some, Option.map_some]
        cases okF l <;> rfl
theorem okL_snoc (x : List Nat) (ls : List (List Nat)) (l : List Nat) : okL (x :: ls ++ [l]) = (okL (x :: ls)).bind fun h => (okF l).map fun f => ⟨h.a, h.b, h.c, h.fs ++ [f]⟩ := by
  rw [List.cons_append, okL, okL, okFs_snoc]
  cases ok1 x with
  | none => rfl
  | some p =>
    simp only [Option.bind_some]
    cases okFs ls with
    | none => rfl
    | some fs =>
      simp only [Option.bind_some, Option.map_some]
      cases okF l <;> rfl

/-- The cells of fields. -/
def cellsF (fs : List FV) : List Value := fs.flatMap fun f => [.string f.1, .string f.2]
theorem cellsF_append (a b : List FV) : cellsF (a ++ b) = cellsF a ++ cellsF b := by simp [cellsF]
theorem cellsF_length (fs : List FV) : (cellsF fs).length = fs.length * 2 := by
  induction fs with
  | nil => rfl
  | cons f fs ih => rw [show cellsF (f :: fs) = [.string f.1, .string f.2] ++ cellsF fs from rfl, List.length_append, ih]; simp; omega
/-- The head so far: block C has its cells. -/
structure HI (w0 : World) (C : Nat) (h : HdV) (W : World) : Prop where
  ex : ∃ v, W.heap[C]? = some (.cells #[.string h.a, .string h.b, .string h.c, v] 25 (0, 0)) ∧ W.ownsRow w0.heap.size 48 2 v h.fs.length (cellsF h.fs)
  b : Below w0.heap.size w0 W
def e0 : ByteArray := { data := #[] }
theorem HI.below {w0 W w' : World} {C : Nat} {h : HdV} (hi : HI w0 C h W) (hb : Below W.heap.size W w') : HI w0 C h w' := by
  obtain ⟨v, hc, ho⟩ := hi.ex
  exact ⟨⟨v, by rw [hb.block _ (lt_of_block hc)]; exact hc, own_below ho hb⟩, below_trans hi.b hb⟩

theorem splitB_bytes (sep s : ByteArray) (k : Nat) : (Lib.splitB sep 0 k s).map bytes = (Lib.splitK sep.data.toList 0 k s.data.toList).map toN := by
  rw [← Lib.splitB_data, List.map_map]
  rfl
theorem three_pieces (line : ByteArray) (P : List ByteArray) (hP : P = Lib.splitB { data := #[32] } 0 (min 3 (line.size + 1) - 1) line) :
    (P.length < 3 ∧ rd1 (bytes line) = none) ∨ ∃ a b c, P = [a, b, c] ∧ rd1 (bytes line) = some (bytes a, bytes b, bytes c) := by
  have h := split_three line.data.toList (P.map bytes) (by
    rw [hP, splitB_bytes]
    rw [show line.data.toList.length = line.size from by rw [Array.length_toList]; rfl])
  rcases h with ⟨h1, h2⟩ | ⟨x, y, z, h1, h2⟩
  · rw [List.length_map] at h1
    exact Or.inl ⟨h1, h2⟩
  · right
    match P, h1 with
    | [a, b, c], h1 =>
      simp only [List.map_cons, List.map_nil, List.cons.injEq, and_true] at h1
      obtain ⟨rfl, rfl, rfl⟩ := h1
      exact ⟨a, b, c, rfl, h2⟩
theorem piece_size (sep : ByteArray) : ∀ (k : Nat) (s x : ByteArray), x ∈ Lib.splitB sep 0 k s → x.size ≤ s.size
  | 0, s, x, h => by simp [Lib.splitB] at h; rw [h]; exact Nat.le_refl _
  | k + 1, s, x, h => by
    unfold Lib.splitB at h
    split at h
    · simp at h; rw [h]; exact Nat.le_refl _
    · rcases List.mem_cons.1 h with rfl | h
      · rw [ByteArray.size_extract]; omega
      · have := piece_size sep k _ x h
        rw [ByteArray.size_extract] at this
        omega

theorem size9 : (Tryd.prog.info? 9).map (·.size) = some 1 := by kernel_rfl
theorem cellsOf_get (P : List ByteArray) (N j : Nat) (hj : j < P.length) : (Lib.cellsOf P N)[j]? = some (.string (P.getD j ByteArray.empty)) := by
  unfold Lib.cellsOf
  rw [List.getElem?_toArray, List.getElem?_append_left (by simpa using hj), List.getElem?_map, List.getElem?_eq_getElem hj]
  simp [List.getD_eq_getElem?_getD, List.getElem?_eq_getElem hj]
theorem below_setRow {w0 w : World} {B C : Nat} (h : Below B w0 w) (hC : B ≤ C) (hw : B ≤ w.heap.size) (cs : Array Value) : Below B w0 (w.setRow C cs) :=
  h.grown (grown_setRow w C cs) hw (fun k hk => by injection hk with hk; omega)

/-- Rows of strings stay. -/
def Kept9 (W w' : World) : Prop := ∀ (k : Nat) (cs : Array Value), W.heap[k]? = some (.cells cs 9 (0, 0)) → w'.heap[k]? = some (.cells cs 9 (0, 0))
theorem Kept9.below {w w' : World} (h : Below w.heap.size w w') : Kept9 w w' := fun k cs hk => by rw [h.block k (lt_of_block hk)]; exact hk
theorem Kept9.trans {u v w : World} (h : Kept9 u v) (k : Kept9 v w) : Kept9 u w := fun i cs hi => k i cs (h i cs hi)
theorem Kept9.grown {w w' : World} {r : Option Nat} (h : w.grownBy w' r) (hr : ∀ k, r = some k → ∃ cs t, w.heap[k]? = some (.cells cs t (0, 0)) ∧ t ≠ 9) : Kept9 w w' := fun k cs hk => by
  rw [h.block k (lt_of_block hk) (fun e => by
    obtain ⟨cs2, t2, h1, h2⟩ := hr k e.symm
    rw [hk] at h1
    injection h1 with h1
    injection h1 with _ h3
    exact h2 h3.symm)]
  exact hk
section
variable {P : Program} {w : World} {ops : Array Oper} {rest : List Oper} {o : Oper} {a : Act} {Q : Exit → Act → World → Prop}
/-- Strings are copied to the front of a block: k of them, cs. -/
theorem copy_front (hgd : o.guard = none) (d s : Operand) (dT sT : TypeId)
    (ho : o.op = .call { callee := .builtin .copy, args := #[d, s], argTypes := #[dT, sT] }) (elem : TypeId) (hu : P.underlying dT = some (.slice elem)) (hsz : (P.info? elem).map (·.size) = some 1)
    (g dLen dCap : Nat) (ad : Addr) (sLen sCap k : Nat) (hd : a.eval d = .slice (some ⟨g, 0, none⟩) dLen dCap) (hs : a.eval s = .slice (some ad) sLen sCap)
    (cur : Array Value) (t : TypeId) (hg : w.heap[g]? = some (.cells cur t (0, 0))) (cs : List Value) (hk : cs.length = k) (hn : k = Nat.min sLen dLen)
    (hsrc : ∀ j v, cs[j]? = some v → w.cell? (ad.add j) = some v) (hfit : k ≤ cur.size) (h1 : ∀ v ∈ cs, v.oneCell' = true)
    (h : ∀ w', Sl (w'.heap[g]? = some (.cells (cs ++ cur.toList.drop k).toArray t (0, 0))) → Sl (w.grownBy w' (some g)) → wpList P ops Q rest (a.put o.dst (goInt k)) w') : wpList P ops Q (o :: rest) a w := by
  subst hk
  refine wpList_copy_own hgd d s dT sT ho elem hu hsz g 0 dLen dCap ad sLen sCap hd hs cur t hg cs hn hsrc (by omega) h1 ?_
  refine h _ ⟨?_⟩ ⟨grown_setRow _ _ _⟩
  rw [setRow_heap _ _ _ _ _ _ hg]
  simp
end
theorem below_row {w0 w w' : World} {C : Nat} (h : Below w0.heap.size w0 w) (hg : w.grownBy w' (some C)) (hC : w0.heap.size ≤ C) : Below w0.heap.size w0 w' :=
  h.grown hg h.size (fun k hk => by injection hk with hk; omega)

set_option maxHeartbeats 1000000 in
set_option maxRecDepth 100000 in
theorem line1_few (w0 : World) (C : Nat) (line : ByteArray) (W : World) (P : List ByteArray) (cp : Nat) (hC : w0.heap.size ≤ C) (hi : HI w0 C ⟨e0, e0, e0, []⟩ W)
    (hS : Calls Tryd.prog 49 #[.string line, .string { data := #[32] }, .int .i64 3] W fun e w' => e = .returned (.slice (some ⟨W.heap.size, 0, none⟩) P.length cp) ∧ w' = W.alloc (.cells (Lib.cellsOf P cp) 9)) (h3 : P.length < 3) :
    Calls Tryd.prog 48 #[.string line, .pointer (some ⟨C, 0, none⟩)] W fun e w' => e = .returned (.bool true) ∧ Sl (Below w0.heap.size w0 w') ∧ Sl (Kept9 W w') := by
  obtain ⟨v, hc, ho⟩ := hi.ex
  have HC := Sl.mk hc
  have HB := Sl.mk hi.b
  have HS := Sl.mk hS
  obtain ⟨p, hp⟩ : ∃ p, P.length = p := ⟨_, rfl⟩
  have HP := Sl.mk hp
  rw [hp] at HS h3
  clear hi hc ho hS hp
  go_enter Tryd.func48, Tryd.ntmps48
  go_wp2_with fail
  refine HS.out.mono ?_
  rintro e w1 ⟨rfl, hw1⟩
  have HW1 := Sl.mk hw1
  have HC1 : Sl (w1.heap[C]? = some (.cells #[.string e0, .string e0, .string e0, v] 25 (0, 0))) := ⟨by rw [hw1, alloc_old _ _ _ (lt_of_block HC.out)]; exact HC.out⟩
  have HB1 : Sl (Below w0.heap.size w0 w1) := ⟨by rw [hw1]; exact HB.out.alloc HB.out.size _⟩
  have HL : Sl (((P.take 3).map Value.string).length = p) := ⟨by rw [List.length_map, List.length_take, HP.out]; omega⟩
  clear hw1
  go_wp2_with (with_reducible refine copy_front rfl (.tmp 8) (.tmp 9) 43 43 rfl 9 Tryd.underlying43 size9 C 3 3 ⟨W.heap.size, 0, none⟩ p cp p rfl rfl #[.string e0, .string e0, .string e0, v] 25 HC1.out ((P.take 3).map Value.string) ?c0 ?c1 ?c2 ?c3 ?c4 ?_)
  case c0 => exact HL.out
  case c1 => exact (Nat.min_eq_left (by omega)).symm
  case c2 =>
    intro j u hu
    have hj : j < p := by rw [← HL.out]; exact (List.getElem?_eq_some_iff.1 hu).1
    rw [Addr.add_mid, Nat.zero_add, HW1.out, cell_of_row _ _ _ _ _ _ (alloc_new _ _ _ rfl), cellsOf_get _ _ _ (by rw [HP.out]; exact hj), ← hu, List.getElem?_map, List.getElem?_take_of_lt (by omega), List.getElem?_eq_getElem (by rw [HP.out]; exact hj)]
    simp [List.getD_eq_getElem?_getD, List.getElem?_eq_getElem (show j < P.length by rw [HP.out]; exact hj)]
  case c3 => show p ≤ 4; omega
  case c4 =>
    intro u hu
    obtain ⟨x, _, rfl⟩ := List.mem_map.1 hu
    rfl
  intro w2 HG2 HW2
  have h3' : (p : Int) < 3 := by omega
  have HB2 : Sl (Below w0.heap.size w0 w2) := ⟨below_row HB1.out HW2.out hC⟩
  have HK2 : Sl (Kept9 W w2) := ⟨(Kept9.below (by rw [HW1.out]; exact (Below.refl _ _).alloc (Nat.le_refl _) _)).trans (Kept9.grown HW2.out (fun k hk => by injection hk with hk; subst hk; exact ⟨_, _, HC1.out, by decide⟩))⟩
  go_wp2
  go_ret
  exact ⟨rfl, HB2, HK2⟩

set_option maxHeartbeats 1000000 in
set_option maxRecDepth 100000 in
theorem line1_three (w0 : World) (C : Nat) (line : ByteArray) (W : World) (a b c : ByteArray) (cp : Nat) (hC : w0.heap.size ≤ C) (hi : HI w0 C ⟨e0, e0, e0, []⟩ W)
    (hS : Calls Tryd.prog 49 #[.string line, .string { data := #[32] }, .int .i64 3] W fun e w' => e = .returned (.slice (some ⟨W.heap.size, 0, none⟩) 3 cp) ∧ w' = W.alloc (.cells (Lib.cellsOf [a, b, c] cp) 9)) (ha : a.size ≤ maxLen) (hb : b.size ≤ maxLen) (hc' : c.size ≤ maxLen) :
    Calls Tryd.prog 48 #[.string line, .pointer (some ⟨C, 0, none⟩)] W fun e w' => e = .returned (.bool (!firstB a b c)) ∧ Sl (HI w0 C ⟨a, b, c, []⟩ w') ∧ Sl (Kept9 W w') := by
  obtain ⟨v, hc, ho⟩ := hi.ex
  have HC := Sl.mk hc
  have HO := Sl.mk ho
  have HB := Sl.mk hi.b
  have HS := Sl.mk hS
  have HF : Sl (∀ V : World, Calls Tryd.prog 32 #[.agg #[.string a, .string b, .string c]] V fun e w' => e = .returned (.bool (firstB a b c)) ∧ Sl (Below V.heap.size V w')) := ⟨fun V => first_any a b c V ha hb hc'⟩
  obtain ⟨q, hq⟩ : ∃ q, firstB a b c = q := ⟨_, rfl⟩
  rw [hq] at HF
  rw [hq]
  clear hi hc ho hS ha hb hc' hq
  go_enter Tryd.func48, Tryd.ntmps48
  go_wp2_with fail
  refine HS.out.mono ?_
  rintro e w1 ⟨rfl, hw1⟩
  have HW1 := Sl.mk hw1
  have HC1 : Sl (w1.heap[C]? = some (.cells #[.string e0, .string e0, .string e0, v] 25 (0, 0))) := ⟨by rw [hw1, alloc_old _ _ _ (lt_of_block HC.out)]; exact HC.out⟩
  have HO1 : Sl (w1.ownsRow w0.heap.size 48 2 v ([] : List FV).length (cellsF [])) := ⟨by rw [hw1]; exact own_below HO.out ((Below.refl _ _).alloc (Nat.le_refl _) _)⟩
  have HB1 : Sl (Below w0.heap.size w0 w1) := ⟨by rw [hw1]; exact HB.out.alloc HB.out.size _⟩
  clear hw1
  go_wp2_with (with_reducible refine copy_front rfl (.tmp 8) (.tmp 9) 43 43 rfl 9 Tryd.underlying43 size9 C 3 3 ⟨W.heap.size, 0, none⟩ 3 cp 3 rfl rfl #[.string e0, .string e0, .string e0, v] 25 HC1.out [.string a, .string b, .string c] rfl ?c1 ?c2 ?c3 ?c4 ?_)
  case c1 => rfl
  case c2 =>
    intro j u hu
    have hj : j < 3 := (List.getElem?_eq_some_iff.1 hu).1
    rw [Addr.add_mid, Nat.zero_add, HW1.out, cell_of_row _ _ _ _ _ _ (alloc_new _ _ _ rfl), cellsOf_get _ _ _ hj, ← hu]
    match j, hj with
    | 0, _ => rfl
    | 1, _ => rfl
    | 2, _ => rfl
  case c3 => show 3 ≤ 4; omega
  case c4 =>
    intro u hu
    simp at hu
    rcases hu with rfl | rfl | rfl <;> rfl
  intro w2 HG2 HW2
  have HC2 : Sl (w2.heap[C]? = some (.cells #[.string a, .string b, .string c, v] 25 (0, 0))) := ⟨HG2.out⟩
  have HO2 : Sl (w2.ownsRow w0.heap.size 48 2 v ([] : List FV).length (cellsF [])) := ⟨by
    refine HO1.out.kept HW2.out ?_
    obtain ⟨_, h2⟩ := HO1.out
    rcases h2 with ⟨rfl, _⟩ | ⟨g, cap, cur, rfl, hg, hh, _⟩
    · exact Or.inl rfl
    · right
      intro e
      have e2 : g = C := by simpa [Value.ownBlock] using e
      rw [e2, HC1.out] at hh
      injection hh with hh
      injection hh with _ h4
      cases h4⟩
  have HB2 : Sl (Below w0.heap.size w0 w2) := ⟨below_row HB1.out HW2.out hC⟩
  have HK2 : Sl (Kept9 W w2) := ⟨(Kept9.below (by rw [HW1.out]; exact (Below.refl _ _).alloc (Nat.le_refl _) _)).trans (Kept9.grown HW2.out (fun k hk => by injection hk with hk; subst hk; exact ⟨_, _, HC1.out, by decide⟩))⟩
  have HI2 : Sl (HI w0 C ⟨a, b, c, []⟩ w2) := ⟨⟨⟨v, HC2.out, HO2.out⟩, HB2.out⟩⟩
  have d0 : w2.cell? ⟨C, 0, none⟩ = some (.string a) := by rw [cell_of_row _ _ _ _ _ _ HC2.out]; rfl
  have d1 : w2.cell? ⟨C, 1, none⟩ = some (.string b) := by rw [cell_of_row _ _ _ _ _ _ HC2.out]; rfl
  have d2 : w2.cell? ⟨C, 2, none⟩ = some (.string c) := by rw [cell_of_row _ _ _ _ _ _ HC2.out]; rfl
  clear HC1 HO1 HB1 HC2 HO2 HG2 HW2
  go_wp2_with fail
  refine (HF.out _).mono ?_
  rintro e w3 ⟨rfl, HB3⟩
  have HI3 : Sl (HI w0 C ⟨a, b, c, []⟩ w3) := ⟨HI2.out.below HB3.out⟩
  have HK3 : Sl (Kept9 W w3) := ⟨HK2.out.trans (Kept9.below HB3.out)⟩
  go_wp2
  go_ret
  exact ⟨rfl, HI3, HK3⟩

/-- A first line: what it leaves if it may be; else it is told to be wrong. -/
theorem line1_any (w0 : World) (C : Nat) (line : ByteArray) (W : World) (hg : Globs w0) (hC : w0.heap.size ≤ C) (hi : HI w0 C ⟨e0, e0, e0, []⟩ W) (hs : line.size ≤ 1000000) :
    Calls Tryd.prog 48 #[.string line, .pointer (some ⟨C, 0, none⟩)] W fun e w' => e = .returned (.bool (ok1 (bytes line)).isNone) ∧ Sl (Below w0.heap.size w0 w') ∧ Sl (Kept9 W w') ∧ Sl (∀ p, ok1 (bytes line) = some p → ∃ a b c, (bytes a, bytes b, bytes c) = p ∧ a.size ≤ 1000000 ∧ b.size ≤ 1000000 ∧ c.size ≤ 1000000 ∧ HI w0 C ⟨a, b, c, []⟩ w') := by
  obtain ⟨m, hm⟩ := (hg.of hi.b).m
  have HS := Tryd.strings_SplitN line { data := #[32] } 3 m W (by omega) hm (by decide) (by decide) (by decide)
  have H3 := three_pieces line _ rfl
  have HSZ : ∀ x ∈ Lib.splitB { data := #[32] } 0 (min 3 (line.size + 1) - 1) line, x.size ≤ line.size := fun x hx => piece_size _ _ _ _ hx
  generalize Lib.splitB { data := #[32] } 0 (min 3 (line.size + 1) - 1) line = P at *
  rcases H3 with ⟨h1, h2⟩ | ⟨a, b, c, h1, h2⟩
  · have e : ok1 (bytes line) = none := by unfold ok1; rw [h2]; rfl
    refine (line1_few w0 C line W P _ hC hi HS h1).mono fun _ _ ⟨he, hb, hk⟩ => ⟨by rw [he, e]; rfl, hb, hk, ⟨fun p hp => by rw [e] at hp; cases hp⟩⟩
  · subst h1
    have sa := HSZ a (by simp)
    have sb := HSZ b (by simp)
    have sc := HSZ c (by simp)
    have e : ok1 (bytes line) = if firstB a b c = true then some (bytes a, bytes b, bytes c) else none := by unfold ok1; rw [h2]; rfl
    refine (line1_three w0 C line W a b c _ hC hi HS (by unfold maxLen; omega) (by unfold maxLen; omega) (by unfold maxLen; omega)).mono fun _ w' ⟨he, hb, hk⟩ => ⟨?_, ⟨hb.out.b⟩, hk, ⟨fun p hp => ?_⟩⟩
    · rw [he, e]
      cases firstB a b c <;> rfl
    · rw [e] at hp
      split at hp
      · injection hp with hp
        exact ⟨a, b, c, hp, by omega, by omega, by omega, hb.out⟩
      · cases hp

theorem info48 : ∃ i, Tryd.prog.info? 48 = some i ∧ i.zero = some (.agg #[.string ByteArray.empty, .string ByteArray.empty]) ∧ i.size = 2 ∧ i.bytes = 32 := by
  have h5 : (Tryd.prog.info? 48).map (fun i => (i.zero, i.size, i.bytes)) = some (some (.agg #[.string ByteArray.empty, .string ByteArray.empty]), 2, 32) := by kernel_rfl
  cases hi : Tryd.prog.info? 48 with
  | none => rw [hi] at h5; cases h5
  | some i =>
    rw [hi] at h5
    simp only [Option.map_some, Option.some.injEq, Prod.mk.injEq] at h5
    exact ⟨i, rfl, h5.1, h5.2.1, h5.2.2⟩
theorem agg_setCell {W : World} {C : Nat} {a b c : ByteArray} {v : Value} (v' : Value) (hC : W.heap[C]? = some (.cells #[.string a, .string b, .string c, v] 25 (0, 0))) :
    (W.setCell ⟨C, 3, none⟩ v').heap[C]? = some (.cells #[.string a, .string b, .string c, v'] 25 (0, 0)) := by
  rw [heap_setCell_same _ _ _ _ _ _ hC]; rfl

set_option maxHeartbeats 1000000 in
set_option maxRecDepth 100000 in
/-- A field's line, of the name n and the value x, as they are read. -/
theorem lineF_run (w0 : World) (C : Nat) (line : ByteArray) (W : World) (h : HdV) (n x y : ByteArray) (found : Bool) (hg : Globs w0) (hC : w0.heap.size ≤ C) (hi : HI w0 C h W) (hlen : h.fs.length ≤ 100000)
    (hcut : Calls Tryd.prog 51 #[.string line, .string { data := #[58] }] W fun e w' => e = .returned (.tuple #[.string n, .string x, .bool found]) ∧ ∃ m, w' = W.drewN m)
    (htrim : ∀ V : World, Calls Tryd.prog 52 #[.string x, .string { data := #[32, 9] }] V fun e w' => e = .returned (.string y) ∧ Below V.heap.size V w') (hn : n.size ≤ maxLen) (hy : y.size ≤ maxLen) :
    Calls Tryd.prog 50 #[.string line, .pointer (some ⟨C, 0, none⟩)] W fun e w' => e = .returned (.bool (!(found && fieldB n y))) ∧ Sl (HI w0 C ⟨h.a, h.b, h.c, h.fs ++ [(n, y)]⟩ w') ∧ Sl (Kept9 W w') := by
  obtain ⟨i0, hi0, hz0, hz1, hz2⟩ := info48
  have HI0 := Sl.mk hi0
  have HZ0 := Sl.mk hz0
  have HZ1 := Sl.mk hz1
  have HZ2 := Sl.mk hz2
  have HH := Sl.mk hi
  have HCUT := Sl.mk hcut
  have HTR := Sl.mk htrim
  have HF : Sl (∀ V : World, Below w0.heap.size w0 V → Calls Tryd.prog 31 #[.agg #[.string n, .string y]] V fun e w' => e = .returned (.bool (fieldB n y)) ∧ Sl (Below V.heap.size V w')) := ⟨fun V hb => field_any n y V (hg.of hb) hn hy⟩
  obtain ⟨q, hq⟩ : ∃ q, fieldB n y = q := ⟨_, rfl⟩
  rw [hq] at HF
  rw [hq]
  clear hi0 hz0 hz1 hz2 hi hcut htrim hg hn hy hq
  go_enter Tryd.func50, Tryd.ntmps50
  go_wp2_with fail
  refine HCUT.out.mono ?_
  rintro e w1 ⟨rfl, m, hw1⟩
  have HH1 : Sl (HI w0 C h w1) := ⟨HH.out.below (Still.below ⟨m, hw1⟩)⟩
  have HK1 : Sl (Kept9 W w1) := ⟨Kept9.below (Still.below ⟨m, hw1⟩)⟩
  clear hw1
  go_wp2_with fail
  refine (HTR.out _).mono ?_
  rintro e w2 ⟨rfl, hb2⟩
  have HH2 : Sl (HI w0 C h w2) := ⟨HH1.out.below hb2⟩
  have HK2 : Sl (Kept9 W w2) := ⟨HK1.out.trans (Kept9.below hb2)⟩
  obtain ⟨v, hc, ho⟩ := HH2.out.ex
  obtain ⟨av, nv, cv, rfl⟩ : ∃ a n c, v = .slice a n c := by
    obtain ⟨_, h2⟩ := ho
    rcases h2 with ⟨rfl, _⟩ | ⟨g, cap, cur, rfl, _⟩
    · exact ⟨_, _, _, rfl⟩
    · exact ⟨_, _, _, rfl⟩
  have HC2 := Sl.mk hc
  have HO2 := Sl.mk ho
  have c3 : (w2.alloc (.cells #[.string n, .string y] 48)).cell? ⟨C, 3, none⟩ = some (.slice av nv cv) := by
    rw [cell_of_row _ _ _ _ _ _ (show (w2.alloc (.cells #[.string n, .string y] 48)).heap[C]? = _ by rw [alloc_old _ _ _ (lt_of_block hc)]; exact hc)]; rfl
  clear hb2 HH1 HCUT HTR HH hc ho
  go_wp2_with (with_reducible refine wpList_append_own _ rfl (.tmp 19) (.tmp 21) 23 rfl w0.heap.size 48 i0 (.agg #[.string ByteArray.empty, .string ByteArray.empty]) 2 32 Tryd.underlying23 HI0.out HZ0.out HZ1.out HZ2.out rfl (by decide) (.slice av nv cv) h.fs.length (cellsF h.fs) rfl ((HO2.out.alloc _).alloc _) ⟨w2.heap.size + 1, 0, none⟩ 1 1 [.string n, .string y] rfl rfl ?c1 ?c2 ?c3 ?c4 ?c5 ?_)
  case c1 =>
    intro j u hu
    have hj : j < 2 := (List.getElem?_eq_some_iff.1 hu).1
    rw [Addr.add_mid, Nat.zero_add, cell_of_row _ _ _ _ _ _ (alloc_new _ _ _ (by rw [alloc_size])), ← hu]
    exact List.getElem?_toArray
  case c2 => intro u hu; simp at hu; rcases hu with rfl | rfl <;> rfl
  case c3 => unfold maxLen; omega
  case c4 => omega
  case c5 => rw [alloc_size, alloc_size]; have := HH2.out.b.size; omega
  intro v' w3 hown' hgrow _
  have hne : ∀ k cs t, w2.heap[k]? = some (.cells cs t (0, 0)) → t = 25 → (Value.slice av nv cv).ownBlock ≠ some k := fun k cs t hk ht e => by
    obtain ⟨_, h2⟩ := HO2.out
    rcases h2 with ⟨h3, _⟩ | ⟨g, cap, cur, h3, hg, hh, _⟩
    · rw [h3] at e; cases e
    · rw [h3] at e
      have e2 : g = k := by simpa [Value.ownBlock] using e
      rw [e2, hk] at hh
      injection hh with hh
      injection hh with _ h4
      rw [ht] at h4; cases h4
  have hltC := lt_of_block HC2.out
  have hgC : w3.heap[C]? = some (.cells #[.string h.a, .string h.b, .string h.c, .slice av nv cv] 25 (0, 0)) := by
    rw [hgrow.block C (by rw [alloc_size, alloc_size]; omega) (fun e => hne _ _ _ HC2.out rfl e.symm), alloc_old _ _ _ (by rw [alloc_size]; omega), alloc_old _ _ _ hltC]
    exact HC2.out
  have hgF : w3.heap[w2.heap.size]? = some (.cells #[.string n, .string y] 48 (0, 0)) := by
    rw [hgrow.block _ (by rw [alloc_size, alloc_size]; omega) (fun e => by
      obtain ⟨_, h2⟩ := HO2.out
      rcases h2 with ⟨h3, _⟩ | ⟨g, cap, cur, h3, hg, hh, _⟩
      · rw [h3] at e; cases e
      · rw [h3] at e
        have e2 : w2.heap.size = g := by simpa [Value.ownBlock] using e
        have := lt_of_block hh
        omega), alloc_old _ _ _ (by rw [alloc_size]; omega)]
    exact alloc_new _ _ _ rfl
  have HB3 : Sl (Below w0.heap.size w0 w3) := ⟨by
    exact ((HH2.out.b.alloc HH2.out.b.size _).alloc (by rw [alloc_size]; have := HH2.out.b.size; omega) _).grown hgrow (by rw [alloc_size, alloc_size]; have := HH2.out.b.size; omega) (fun k hk => (HO2.out.lt k hk).1)⟩
  obtain ⟨av', nv', cv', rfl⟩ : ∃ a n c, v' = .slice a n c := by
    obtain ⟨_, h2⟩ := hown'
    rcases h2 with ⟨rfl, _⟩ | ⟨g, cap, cur, rfl, _⟩
    · exact ⟨_, _, _, rfl⟩
    · exact ⟨_, _, _, rfl⟩
  have HO3 := Sl.mk hown'
  have HGC := Sl.mk hgC
  have d3 : w3.cell? ⟨C, 3, none⟩ = some (.slice av nv cv) := by rw [cell_of_row _ _ _ _ _ _ hgC]; rfl
  have f3 : w3.frozen? ⟨C, 3, none⟩ = false := frozen_of_row _ _ _ _ _ hgC
  have k0 : w3.cell? ⟨w2.heap.size, 0, none⟩ = some (.string n) := by rw [cell_of_row _ _ _ _ _ _ hgF]; rfl
  have k1 : w3.cell? ⟨w2.heap.size, 1, none⟩ = some (.string y) := by rw [cell_of_row _ _ _ _ _ _ hgF]; rfl
  have hn1 : ¬ w2.heap.size = C := by omega
  have hn2 : ¬ C = w2.heap.size := by omega
  have q0 : (w3.setCell ⟨C, 3, none⟩ (.slice av' nv' cv')).cell? ⟨w2.heap.size, 0, none⟩ = some (.string n) := by
    rw [World.cell?_setCell_other _ _ _ _ (fun e => by injection e with e1 _; exact hn2 e1)]; exact k0
  have q1 : (w3.setCell ⟨C, 3, none⟩ (.slice av' nv' cv')).cell? ⟨w2.heap.size, 1, none⟩ = some (.string y) := by
    rw [World.cell?_setCell_other _ _ _ _ (fun e => by injection e with e1 _; exact hn2 e1)]; exact k1
  have HI4 : Sl (HI w0 C ⟨h.a, h.b, h.c, h.fs ++ [(n, y)]⟩ (w3.setCell ⟨C, 3, none⟩ (.slice av' nv' cv'))) := ⟨⟨⟨_, agg_setCell _ HGC.out, by
    rw [List.length_append, cellsF_append]
    refine ownsRow_setCell_other HO3.out (fun e => ?_) _
    obtain ⟨_, h2⟩ := HO3.out
    rcases h2 with ⟨h3, _⟩ | ⟨g, cap, cur, h3, hg, hh, _⟩
    · rw [h3] at e; cases e
    · rw [h3] at e
      have e2 : g = C := by simpa [Value.ownBlock] using e
      rw [e2, HGC.out] at hh
      injection hh with hh
      injection hh with _ h4
      cases h4⟩, HB3.out.setCell hC _⟩⟩
  have HK4 : Sl (Kept9 W (w3.setCell ⟨C, 3, none⟩ (.slice av' nv' cv'))) := ⟨by
    refine HK2.out.trans (Kept9.trans ?_ (Kept9.trans (Kept9.grown hgrow ?_) (Kept9.grown (grown_setCell w3 C 3 _) (fun k hk => by injection hk with hk; subst hk; exact ⟨_, _, hgC, by decide⟩))))
    · exact Kept9.below (((Below.refl _ _).alloc (Nat.le_refl _) _).alloc (by rw [alloc_size]; omega) _)
    · intro k hk
      obtain ⟨_, h2⟩ := HO2.out
      rcases h2 with ⟨h3, _⟩ | ⟨g, cap, cur, h3, hg, hh, _⟩
      · rw [h3] at hk; cases hk
      · rw [h3] at hk
        have e2 : g = k := by simpa [Value.ownBlock] using hk
        subst e2
        exact ⟨cur, 48, by rw [alloc_old _ _ _ (by rw [alloc_size]; have := lt_of_block hh; omega), alloc_old _ _ _ (lt_of_block hh)]; exact hh, by decide⟩⟩
  clear hown' hgrow hne hgC hgF
  cases found with
  | false =>
    go_wp2
    go_ret
    exact ⟨rfl, HI4, HK4⟩
  | true =>
    go_wp2_with fail
    refine (HF.out _ HI4.out.b).mono ?_
    rintro e w5 ⟨rfl, HB5⟩
    have HI5 := Sl.mk (HI4.out.below HB5.out)
    have HK5 : Sl (Kept9 W w5) := ⟨HK4.out.trans (Kept9.below HB5.out)⟩
    go_wp2
    go_ret
    exact ⟨by simp, HI5, HK5⟩
theorem trim_laid (x : ByteArray) (V : World) (hx : x.size ≤ maxLen) : Calls Tryd.prog 52 #[.string x, .string { data := #[32, 9] }] V fun e w' => e = .returned (.string ⟨(Lib.trimS x.data.toList [32, 9]).toArray⟩) ∧ Below V.heap.size V w' :=
  Any.strings_Trim_laid Tryd.lays160 (by kernel_rfl) x { data := #[32, 9] } V (by unfold maxLen at hx; omega) (by decide) (ascii_of_all (by decide))
theorem trimS_le (l cs : List UInt8) : (Lib.trimS l cs).length ≤ l.length := by
  unfold Lib.trimS Lib.trimLeftS Lib.trimRightS
  refine Nat.le_trans (dropWhile_le _ _) ?_
  rw [List.length_reverse]
  refine Nat.le_trans (dropWhile_le _ _) ?_
  rw [List.length_reverse]; exact Nat.le_refl _
theorem cut_le (l : List UInt8) : (Lib.cut l [58]).1.length ≤ l.length ∧ (Lib.cut l [58]).2.1.length ≤ l.length := by
  unfold Lib.cut
  split
  · simp only [List.length_take, List.length_drop]; omega
  · simp
/-- A field's line: what it leaves if it may be; else it is told to be wrong. -/
theorem lineF_any (w0 : World) (C : Nat) (line : ByteArray) (W : World) (h : HdV) (hg : Globs w0) (hC : w0.heap.size ≤ C) (hi : HI w0 C h W) (hs : line.size ≤ 1000000) (hlen : h.fs.length ≤ 100000) :
    Calls Tryd.prog 50 #[.string line, .pointer (some ⟨C, 0, none⟩)] W fun e w' => e = .returned (.bool (okF (bytes line)).isNone) ∧ Sl (Below w0.heap.size w0 w') ∧ Sl (Kept9 W w') ∧ Sl (∀ f, okF (bytes line) = some f → ∃ g : FV, fN g = f ∧ g.1.size ≤ 1000000 ∧ g.2.size ≤ 1000000 ∧ HI w0 C ⟨h.a, h.b, h.c, h.fs ++ [g]⟩ w') := by
  obtain ⟨m, hm⟩ := (hg.of hi.b).m
  have hc := Tryd.strings_Cut line { data := #[58] } m W (by omega) hm
  have hl := libcut line.data.toList
  have hle := cut_le line.data.toList
  have hsz : line.data.toList.length = line.size := by rw [Array.length_toList]; rfl
  rw [hsz] at hle
  have hb : (⟨(Lib.cut line.data.toList [58]).1.toArray⟩ : ByteArray).size = (Lib.cut line.data.toList [58]).1.length := rfl
  have hb2 : (⟨(Lib.cut line.data.toList [58]).2.1.toArray⟩ : ByteArray).size = (Lib.cut line.data.toList [58]).2.1.length := rfl
  have hb3 : (⟨(Lib.trimS (Lib.cut line.data.toList [58]).2.1 [32, 9]).toArray⟩ : ByteArray).size = (Lib.trimS (Lib.cut line.data.toList [58]).2.1 [32, 9]).length := rfl
  have hb4 := trimS_le (Lib.cut line.data.toList [58]).2.1 [32, 9]
  refine (lineF_run w0 C line W h ⟨(Lib.cut line.data.toList [58]).1.toArray⟩ ⟨(Lib.cut line.data.toList [58]).2.1.toArray⟩ ⟨(Lib.trimS (Lib.cut line.data.toList [58]).2.1 [32, 9]).toArray⟩ (Lib.cut line.data.toList [58]).2.2 hg hC hi hlen hc (fun V => trim_laid _ V (by rw [hb2]; unfold maxLen; omega)) (by rw [hb]; unfold maxLen; omega) (by rw [hb3]; unfold maxLen; omega)).mono ?_
  rintro e w' ⟨rfl, hh, hk9⟩
  have hok : okF (bytes line) = if ((Lib.cut line.data.toList [58]).2.2 && fieldB ⟨(Lib.cut line.data.toList [58]).1.toArray⟩ ⟨(Lib.trimS (Lib.cut line.data.toList [58]).2.1 [32, 9]).toArray⟩) = true then some (fN (⟨(Lib.cut line.data.toList [58]).1.toArray⟩, ⟨(Lib.trimS (Lib.cut line.data.toList [58]).2.1 [32, 9]).toArray⟩)) else none := by
    unfold okF rdF fieldB fN
    rw [bytes_toN line]
    simp only [bytes_mk, libtrim]
    cases h58 : cut 58 (toN line.data.toList) with
    | none =>
      rw [h58] at hl
      simp only at hl
      rw [hl]
      rfl
    | some p =>
      rw [h58] at hl
      simp only at hl
      obtain ⟨h1, h2, h3⟩ := hl
      rw [h1, h2, h3]
      simp only [Option.map_some, Option.bind_some, Bool.true_and]
  refine ⟨?_, ⟨hh.out.b⟩, hk9, ⟨fun f hf => ?_⟩⟩
  · rw [hok]
    cases ((Lib.cut line.data.toList [58]).2.2 && fieldB ⟨(Lib.cut line.data.toList [58]).1.toArray⟩ ⟨(Lib.trimS (Lib.cut line.data.toList [58]).2.1 [32, 9]).toArray⟩) <;> rfl
  · rw [hok] at hf
    split at hf
    · injection hf with hf
      exact ⟨_, hf, by rw [hb]; omega, by rw [hb3]; omega, hh.out⟩
    · cases hf
end Go.Proofs.YtcohecghibndhaaDoor
