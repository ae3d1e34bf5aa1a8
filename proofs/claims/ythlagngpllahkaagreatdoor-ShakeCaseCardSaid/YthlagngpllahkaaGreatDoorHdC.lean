/- length of package head: where a head's end is, among the first 2048 bytes. -/
import Derived.Test.YthlagngpllahkaaGreatDoorHdB
import Derived.Laws.ResultCell
import Derived.Laws.Rows
import Derived.WalkSmall
set_option maxRecDepth 100000
namespace Go.Proofs.YthlagngpllahkaaGreatDoor
open Go.RowKit HeadPlain

theorem bytesOf_ints (l : List Nat) (h : Small 256 l) : toN (Lib.bytesOf (l.map fun (n : Nat) => (n : Int))) = l := by
  have := bytes_strOf l h
  unfold strOf at this
  rw [bytes_toN, Lib.strOfNums_toBytes] at this
  exact this
/-- The end's place, or none, and the error. -/
def lenR (s : List Nat) : Int × Nat := match fnd (s.take 2048) with
  | some n => ((n + 4 : Nat), 0)
  | none => if s.length < 2048 then (0, 50) else (0, 51)
/-- The bytes bs lie behind the slice v, which is not nil. -/
def SrcS (w : World) (v : Value) (bs : List Nat) : Prop :=
  ∃ (cap sb so : Nat), v = .slice (some ⟨sb, so, none⟩) bs.length cap ∧ bs.length ≤ cap ∧ ∀ i, i < bs.length → w.cell? ⟨sb, so + i, none⟩ = some (.int .u8 ((bs.getD i 0 : Nat) : Int))
theorem SrcAt.srcS {w : World} {g o n c : Nat} {bs : List Nat} (h : SrcAt w (.slice (some ⟨g, o, none⟩) n c) bs) : SrcS w (.slice (some ⟨g, o, none⟩) n c) bs := by
  obtain ⟨a, cap, sb, so, h0, h1, h3, h5⟩ := h
  injection h0 with ha hn hc
  subst hc
  refine ⟨c, g, o, by rw [hn], h1, fun i hi => ?_⟩
  have := h3 (by omega)
  rw [← ha] at this
  injection this with this
  injection this with e1 e2
  rw [e1, e2]; exact h5 i hi
theorem SrcS.below {w w' : World} {v : Value} {bs : List Nat} (h : SrcS w v bs) (hb : Below w.heap.size w w') : SrcS w' v bs := by
  obtain ⟨cap, sb, so, h0, h1, h5⟩ := h
  exact ⟨cap, sb, so, h0, h1, fun i hi => by
    have := h5 i hi
    rw [hb.cell (p := ⟨sb, so + i, none⟩) (block_lt_of_cell this)]; exact this⟩
theorem index_end (s : List Nat) (hs : Small 256 s) : Lib.index (Lib.bytesOf ((s.take 2048).map fun (n : Nat) => (n : Int))) (Lib.bytesOf [13, 10, 13, 10]) = pos (fnd (s.take 2048)) := by
  have e : Lib.bytesOf [13, 10, 13, 10] = [13, 10, 13, 10] := rfl
  rw [e, index4, bytesOf_ints _ (hs.take 2048)]

set_option maxHeartbeats 1000000 in
theorem length_any (s : List Nat) (v : Value) (W : World) (hg : Globs W) (hv : SrcS W v s) (hs : Small 256 s) (hL : s.length ≤ 100000) :
    Calls Tryz.prog 63 #[v] W fun e w' => e = .returned (.tuple #[.int .i64 (lenR s).1, .int .i64 ((lenR s).2 : Nat)]) ∧ Sl (Below W.heap.size W w') := by
  obtain ⟨cap, sb, so, rfl, hcap, hcell⟩ := hv
  have kc := fun (w : World) (C : Array Value) (n c : Nat) => Lib.run_convert_bytes_const (P := Tryz.prog) w 53 5 C n c Tryz.underlying53 Tryz.underlying5
  have HG := Sl.mk hg
  have HCE := Sl.mk hcell
  have HSM := Sl.mk hs
  have HIX := Sl.mk (index_end s hs)
  have HLR : Sl (lenR s = match fnd (s.take 2048) with | some n => (((n + 4 : Nat) : Int), 0) | none => if s.length < 2048 then (0, 50) else (0, 51)) := ⟨rfl⟩
  obtain ⟨r, hr⟩ : ∃ r, fnd (s.take 2048) = r := ⟨_, rfl⟩
  have HFN := Sl.mk hr
  rw [hr] at HIX HLR
  clear hg hcell hs hr
  obtain ⟨n, hn⟩ : ∃ n, s.length = n := ⟨_, rfl⟩
  have HN := Sl.mk hn
  rw [hn] at hcap hL HLR
  rw [hn]
  have HK : Sl ((min (n : Int) 2048).toNat = min 2048 n) := ⟨by omega⟩
  clear hn
  have hcon : ∀ (o : Obj) (_ : o = .cells #[.int .u8 13, .int .u8 10, .int .u8 13, .int .u8 10] 5 (4, 5)), Sl (Calls Tryz.prog 110 #[.slice (some ⟨sb, so, none⟩) (min (n : Int) 2048).toNat cap, .slice (some ⟨W.heap.size, 0, none⟩) 4 4] (W.alloc o) fun e w' => e = .returned (.int .i64 (pos r)) ∧ ∃ q, w' = (W.alloc o).drewN q) := fun o ho => ⟨by
    obtain ⟨m, hm⟩ := (HG.out.of ((Below.refl W.heap.size W).alloc (Nat.le_refl _) o)).m
    rw [← HIX.out]
    refine Tryz.bytes_Index_at ⟨sb, so, none⟩ ⟨W.heap.size, 0, none⟩ _ cap 4 4 ((s.take 2048).map fun (n : Nat) => (n : Int)) [13, 10, 13, 10] m _ (by rw [List.length_map, List.length_take, HN.out, HK.out]) rfl ?_ ?_ ?_ ?_ ?_ ?_ (by decide) hm
    · intro x hx
      obtain ⟨y, hy, rfl⟩ := List.mem_map.1 hx
      have := HSM.out y (List.mem_of_mem_take hy)
      omega
    · intro y hy
      simp at hy
      rcases hy with rfl | rfl | rfl | rfl <;> decide
    · intro i hi
      rw [HK.out] at hi
      have h1 := HCE.out i (by rw [HN.out]; omega)
      rw [Addr.add_mid]
      have hb : Below W.heap.size W (W.alloc o) := (Below.refl _ _).alloc (Nat.le_refl _) _
      rw [hb.cell (p := ⟨sb, so + i, none⟩) (block_lt_of_cell h1), h1]
      congr 1
      have hi2 : i < s.length := by rw [HN.out]; omega
      simp only [List.getD_eq_getElem?_getD, List.getElem?_map]
      rw [List.getElem?_take_of_lt (by omega), List.getElem?_eq_getElem hi2]
      rfl
    · intro i hi
      subst ho
      rw [Addr.add_mid, Nat.zero_add, World.cell?_alloc_mark]
      match i, hi with
      | 0, _ => rfl
      | 1, _ => rfl
      | 2, _ => rfl
      | 3, _ => rfl
    · rw [HK.out]; omega
    · rw [HK.out]; omega⟩
  go_enter Tryz.func63, Tryz.ntmps63
  go_wp2_with fail
  refine (hcon _ rfl).out.mono ?_
  rintro e w2 ⟨rfl, q, hq⟩
  have HB2 : Sl (Below W.heap.size W w2) := ⟨by rw [hq]; exact below_trans ((Below.refl _ _).alloc (Nat.le_refl _) _) (Still.below ⟨q, rfl⟩)⟩
  clear hq hcon
  cases r with
  | some k =>
    have hk : (pos (some k) : Int) = (k : Int) := rfl
    have HKK : Sl (k ≤ 2048) := ⟨by
      have := (fnd_length HFN.out).1
      rw [List.length_take] at this
      omega⟩
    have hkk := HKK.out
    rw [hk]
    go_wp2
    go_ret2
    exact ⟨by rw [HLR.out]; rfl, HB2⟩
  | none =>
    have hk : (pos none : Int) = -1 := rfl
    rw [hk]
    by_cases h1 : n < 2048
    · have h1' : (n : Int) < 2048 := by omega
      rw [if_pos h1] at HLR
      go_wp2
      go_ret2
      exact ⟨by rw [HLR.out]; rfl, HB2⟩
    · have h1' : ((n : Int) < 2048) = False := eq_false (by omega)
      rw [if_neg h1] at HLR
      go_wp2
      go_ret2
      exact ⟨by rw [HLR.out]; rfl, HB2⟩
end Go.Proofs.YthlagngpllahkaaGreatDoor
/- A head as it is read: the head so far in its block; what a first line and a field's line add to it. -/
namespace Go.Proofs.YthlagngpllahkaaGreatDoor
open Go.RowKit HeadPlain

def wordN (l : List Nat) : Bool := wordB l
/-- A first line that may be. -/
def ok1 (l : List Nat) : Option (List Nat × List Nat × List Nat) := (rd1 l).bind fun p => if (wordB p.1 && (wordB p.2.1 && valueB p.2.2)) = true then some p else none
/-- A field's line that may be. -/
def okF (l : List Nat) : Option (List Nat × List Nat) := (rdF l).bind fun f => if (token f.1 && valueB f.2) = true then some f else none
/-- Lines of fields that may be. -/
def okFs : List (List Nat) → Option (List (List Nat × List Nat))
  | [] => some []
  | l :: ls => (okF l).bind fun f => (okFs ls).map fun fs => f :: fs
/-- Lines that are a head's, one that may be. -/
def okL : List (List Nat) → Option Hd
  | [] => none
  | l :: ls => (ok1 l).bind fun p => (okFs ls).map fun fs => ⟨p.1, p.2.1, p.2.2, fs⟩
theorem okFs_eq (ls : List (List Nat)) : okFs ls = (rdFs ls).bind fun fs => if (fs.all fun f => token f.1 && valueB f.2) = true then some fs else none := by
  induction ls with
  | nil => rfl
  | cons l ls ih =>
    rw [okFs, rdFs, okF, ih]
    cases rdF l with
    | none => rfl
    | some f =>
      simp only [Option.bind_some]
      cases rdFs ls with
      | none =>
        simp only [Option.bind_none, Option.map_none]
        split <;> rfl
      | some fs =>
        simp only [Option.bind_some, Option.map_some]
        by_cases h1 : (token f.1 && valueB f.2) = true
        · have e : ((f :: fs).all fun f => token f.1 && valueB f.2) = fs.all fun f => token f.1 && valueB f.2 := by rw [List.all_cons, h1, Bool.true_and]
          rw [if_pos h1]
          simp only [e, Option.bind_some]
          split <;> rfl
        · have e : ((f :: fs).all fun f => token f.1 && valueB f.2) = false := by rw [List.all_cons, Bool.eq_false_iff.2 h1, Bool.false_and]
          rw [if_neg h1]
          simp only [e]
          rfl
theorem okL_eq (ls : List (List Nat)) : okL ls = (rdL ls).bind fun h => if formB h = true then some h else none := by
  cases ls with
  | nil => rfl
  | cons l ls =>
    rw [okL, rdL, ok1, okFs_eq]
    cases rd1 l with
    | none => rfl
    | some p =>
      simp only [Option.bind_some]
      cases rdFs ls with
      | none =>
        simp only [Option.bind_none, Option.map_none]
        split <;> rfl
      | some fs =>
        simp only [Option.bind_some, Option.map_some]
        have e : formB ⟨p.1, p.2.1, p.2.2, fs⟩ = ((wordB p.1 && (wordB p.2.1 && valueB p.2.2)) && fs.all fun f => token f.1 && valueB f.2) := by
          unfold formB wordB
          simp only [Bool.and_assoc]
        rw [e]
        by_cases h1 : (wordB p.1 && (wordB p.2.1 && valueB p.2.2)) = true
        · rw [if_pos h1, h1, Bool.true_and]
          simp only [Option.bind_some]
          split <;> rfl
        · rw [if_neg h1, Bool.eq_false_iff.2 h1, Bool.false_and]
          rfl
theorem okFs_snoc (ls : List (List Nat)) (l : List Nat) : okFs (ls ++ [l]) = (okFs ls).bind fun fs => (okF l).map fun f => fs ++ [f] := by
  induction ls with
  | nil => simp only [List.nil_append, okFs]; cases okF l <;> rfl
  | cons x ls ih =>
    rw [List.cons_append, okFs, okFs, ih]
    cases okF x with
    | none => rfl
    | some f =>
      simp only [Option.bind_some]
      cases okFs ls with
      | none => rfl
      | some fs =>
        simp only [Option.bind_some, Option.map_some]
        cases okF l <;> rfl
theorem okL_snoc (x : List Nat) (ls : List (List Nat)) (l : List Nat) : okL (x :: ls ++ [l]) = (okL (x :: ls)).bind fun h => (okF l).map fun f => ⟨h.a, h.b, h.c, h.fs ++ [f]⟩ := by
  rw [List.cons_append, okL, okL, okFs_snoc]
  cases ok1 x with
  | none => rfl
  | some p =>
    simp only [Option.bind_some]
    cases okFs ls with
    | none => rfl
    | some fs =>
      simp only [Option.bind_some, Option.map_some]
      cases okF l <;> rfl

/-- The cells of fields. -/
def cellsF (fs : List FV) : List Value := fs.flatMap fun f => [.string f.1, .string f.2]
theorem cellsF_append (a b : List FV) : cellsF (a ++ b) = cellsF a ++ cellsF b := by simp [cellsF]
theorem cellsF_length (fs : List FV) : (cellsF fs).length = fs.length * 2 := by
  induction fs with
  | nil => rfl
  | cons f fs ih => rw [show cellsF (f :: fs) = [.string f.1, .string f.2] ++ cellsF fs from rfl, List.length_append, ih]; simp; omega
/-- The head so far: block C has its cells. -/
structure HI (w0 : World) (C : Nat) (h : HdV) (W : World) : Prop where
  ex : ∃ v, W.heap[C]? = some (.cells #[.string h.a, .string h.b, .string h.c, v] 25 (0, 0)) ∧ W.ownsRow w0.heap.size 60 2 v h.fs.length (cellsF h.fs)
  b : Below w0.heap.size w0 W
def e0 : ByteArray := { data := #[] }
theorem HI.below {w0 W w' : World} {C : Nat} {h : HdV} (hi : HI w0 C h W) (hb : Below W.heap.size W w') : HI w0 C h w' := by
  obtain ⟨v, hc, ho⟩ := hi.ex
  exact ⟨⟨v, by rw [hb.block _ (lt_of_block hc)]; exact hc, own_below ho hb⟩, below_trans hi.b hb⟩

theorem splitB_bytes (sep s : ByteArray) (k : Nat) : (Lib.splitB sep 0 k s).map bytes = (Lib.splitK sep.data.toList 0 k s.data.toList).map toN := by
  rw [← Lib.splitB_data, List.map_map]
  rfl
theorem three_pieces (line : ByteArray) (P : List ByteArray) (hP : P = Lib.splitB { data := #[32] } 0 (min 3 (line.size + 1) - 1) line) :
    (P.length < 3 ∧ rd1 (bytes line) = none) ∨ ∃ a b c, P = [a, b, c] ∧ rd1 (bytes line) = some (bytes a, bytes b, bytes c) := by
  have h := split_three line.data.toList (P.map bytes) (by
    rw [hP, splitB_bytes]
    rw [show line.data.toList.length = line.size from by rw [Array.length_toList]; rfl])
  rcases h with ⟨h1, h2⟩ | ⟨x, y, z, h1, h2⟩
  · rw [List.length_map] at h1
    exact Or.inl ⟨h1, h2⟩
  · right
    match P, h1 with
    | [a, b, c], h1 =>
      simp only [List.map_cons, List.map_nil, List.cons.injEq, and_true] at h1
      obtain ⟨rfl, rfl, rfl⟩ := h1
      exact ⟨a, b, c, rfl, h2⟩
theorem piece_size (sep : ByteArray) : ∀ (k : Nat) (s x : ByteArray), x ∈ Lib.splitB sep 0 k s → x.size ≤ s.size
  | 0, s, x, h => by simp [Lib.splitB] at h; rw [h]; exact Nat.le_refl _
  | k + 1, s, x, h => by
    unfold Lib.splitB at h
    split at h
    · simp at h; rw [h]; exact Nat.le_refl _
    · rcases List.mem_cons.1 h with rfl | h
      · rw [ByteArray.size_extract]; omega
      · have := piece_size sep k _ x h
        rw [ByteArray.size_extract] at this
        omega

theorem size9 : (Tryz.prog.info? 9).map (·.size) = some 1 := by kernel_rfl
theorem cellsOf_get (P : List ByteArray) (N j : Nat) (hj : j < P.length) : (Lib.cellsOf P N)[j]? = some (.string (P.getD j ByteArray.empty)) := by
  unfold Lib.cellsOf
  rw [List.getElem?_toArray, List.getElem?_append_left (by simpa using hj), List.getElem?_map, List.getElem?_eq_getElem hj]
  simp [List.getD_eq_getElem?_getD, List.getElem?_eq_getElem hj]
theorem below_setRow {w0 w : World} {B C : Nat} (h : Below B w0 w) (hC : B ≤ C) (hw : B ≤ w.heap.size) (cs : Array Value) : Below B w0 (w.setRow C cs) :=
  h.grown (grown_setRow w C cs) hw (fun k hk => by injection hk with hk; omega)

/-- Rows of strings stay. -/
def Kept9 (W w' : World) : Prop := ∀ (k : Nat) (cs : Array Value), W.heap[k]? = some (.cells cs 9 (0, 0)) → w'.heap[k]? = some (.cells cs 9 (0, 0))
theorem Kept9.below {w w' : World} (h : Below w.heap.size w w') : Kept9 w w' := fun k cs hk => by rw [h.block k (lt_of_block hk)]; exact hk
theorem Kept9.trans {u v w : World} (h : Kept9 u v) (k : Kept9 v w) : Kept9 u w := fun i cs hi => k i cs (h i cs hi)
theorem Kept9.grown {w w' : World} {r : Option Nat} (h : w.grownBy w' r) (hr : ∀ k, r = some k → ∃ cs t, w.heap[k]? = some (.cells cs t (0, 0)) ∧ t ≠ 9) : Kept9 w w' := fun k cs hk => by
  rw [h.block k (lt_of_block hk) (fun e => by
    obtain ⟨cs2, t2, h1, h2⟩ := hr k e.symm
    rw [hk] at h1
    injection h1 with h1
    injection h1 with _ h3
    exact h2 h3.symm)]
  exact hk
section
variable {P : Program} {w : World} {ops : Array Oper} {rest : List Oper} {o : Oper} {a : Act} {Q : Exit → Act → World → Prop}
/-- Strings are copied to the front of a block: k of them, cs. -/
theorem copy_front (hgd : o.guard = none) (d s : Operand) (dT sT : TypeId)
    (ho : o.op = .call { callee := .builtin .copy, args := #[d, s], argTypes := #[dT, sT] }) (elem : TypeId) (hu : P.underlying dT = some (.slice elem)) (hsz : (P.info? elem).map (·.size) = some 1)
    (g dLen dCap : Nat) (ad : Addr) (sLen sCap k : Nat) (hd : a.eval d = .slice (some ⟨g, 0, none⟩) dLen dCap) (hs : a.eval s = .slice (some ad) sLen sCap)
    (cur : Array Value) (t : TypeId) (hg : w.heap[g]? = some (.cells cur t (0, 0))) (cs : List Value) (hk : cs.length = k) (hn : k = Nat.min sLen dLen)
    (hsrc : ∀ j v, cs[j]? = some v → w.cell? (ad.add j) = some v) (hfit : k ≤ cur.size) (h1 : ∀ v ∈ cs, v.oneCell' = true)
    (h : ∀ w', Sl (w'.heap[g]? = some (.cells (cs ++ cur.toList.drop k).toArray t (0, 0))) → Sl (w.grownBy w' (some g)) → wpList P ops Q rest (a.put o.dst (goInt k)) w') : wpList P ops Q (o :: rest) a w := by
  subst hk
  refine wpList_copy_own hgd d s dT sT ho elem hu hsz g 0 dLen dCap ad sLen sCap hd hs cur t hg cs hn hsrc (by omega) h1 ?_
  refine h _ ⟨?_⟩ ⟨grown_setRow _ _ _⟩
  rw [setRow_heap _ _ _ _ _ _ hg]
  simp
end
theorem below_row {w0 w w' : World} {C : Nat} (h : Below w0.heap.size w0 w) (hg : w.grownBy w' (some C)) (hC : w0.heap.size ≤ C) : Below w0.heap.size w0 w' :=
  h.grown hg h.size (fun k hk => by injection hk with hk; omega)

set_option maxHeartbeats 1000000 in
set_option maxRecDepth 100000 in
theorem line1_few (w0 : World) (C : Nat) (line : ByteArray) (W : World) (P : List ByteArray) (cp : Nat) (hC : w0.heap.size ≤ C) (hi : HI w0 C ⟨e0, e0, e0, []⟩ W)
    (hS : Calls Tryz.prog 112 #[.string line, .string { data := #[32] }, .int .i64 3] W fun e w' => e = .returned (.slice (some ⟨W.heap.size, 0, none⟩) P.length cp) ∧ w' = W.alloc (.cells (Lib.cellsOf P cp) 9)) (h3 : P.length < 3) :
    Calls Tryz.prog 111 #[.string line, .pointer (some ⟨C, 0, none⟩)] W fun e w' => e = .returned (.bool true) ∧ Sl (Below w0.heap.size w0 w') ∧ Sl (Kept9 W w') := by
  obtain ⟨v, hc, ho⟩ := hi.ex
  have HC := Sl.mk hc
  have HB := Sl.mk hi.b
  have HS := Sl.mk hS
  obtain ⟨p, hp⟩ : ∃ p, P.length = p := ⟨_, rfl⟩
  have HP := Sl.mk hp
  rw [hp] at HS h3
  clear hi hc ho hS hp
  go_enter Tryz.func111, Tryz.ntmps111
  go_wp2_with fail
  refine HS.out.mono ?_
  rintro e w1 ⟨rfl, hw1⟩
  have HW1 := Sl.mk hw1
  have HC1 : Sl (w1.heap[C]? = some (.cells #[.string e0, .string e0, .string e0, v] 25 (0, 0))) := ⟨by rw [hw1, alloc_old _ _ _ (lt_of_block HC.out)]; exact HC.out⟩
  have HB1 : Sl (Below w0.heap.size w0 w1) := ⟨by rw [hw1]; exact HB.out.alloc HB.out.size _⟩
  have HL : Sl (((P.take 3).map Value.string).length = p) := ⟨by rw [List.length_map, List.length_take, HP.out]; omega⟩
  clear hw1
  go_wp2_with (with_reducible refine copy_front rfl (.tmp 8) (.tmp 9) 28 28 rfl 9 Tryz.underlying28 size9 C 3 3 ⟨W.heap.size, 0, none⟩ p cp p rfl rfl #[.string e0, .string e0, .string e0, v] 25 HC1.out ((P.take 3).map Value.string) ?c0 ?c1 ?c2 ?c3 ?c4 ?_)
  case c0 => exact HL.out
  case c1 => exact (Nat.min_eq_left (by omega)).symm
  case c2 =>
    intro j u hu
    have hj : j < p := by rw [← HL.out]; exact (List.getElem?_eq_some_iff.1 hu).1
    rw [Addr.add_mid, Nat.zero_add, HW1.out, cell_of_row _ _ _ _ _ _ (alloc_new _ _ _ rfl), cellsOf_get _ _ _ (by rw [HP.out]; exact hj), ← hu, List.getElem?_map, List.getElem?_take_of_lt (by omega), List.getElem?_eq_getElem (by rw [HP.out]; exact hj)]
    simp [List.getD_eq_getElem?_getD, List.getElem?_eq_getElem (show j < P.length by rw [HP.out]; exact hj)]
  case c3 => show p ≤ 4; omega
  case c4 =>
    intro u hu
    obtain ⟨x, _, rfl⟩ := List.mem_map.1 hu
    rfl
  intro w2 HG2 HW2
  have h3' : (p : Int) < 3 := by omega
  have HB2 : Sl (Below w0.heap.size w0 w2) := ⟨below_row HB1.out HW2.out hC⟩
  have HK2 : Sl (Kept9 W w2) := ⟨(Kept9.below (by rw [HW1.out]; exact (Below.refl _ _).alloc (Nat.le_refl _) _)).trans (Kept9.grown HW2.out (fun k hk => by injection hk with hk; subst hk; exact ⟨_, _, HC1.out, by decide⟩))⟩
  go_wp2
  go_ret
  exact ⟨rfl, HB2, HK2⟩

set_option maxHeartbeats 1000000 in
set_option maxRecDepth 100000 in
theorem line1_three (w0 : World) (C : Nat) (line : ByteArray) (W : World) (a b c : ByteArray) (cp : Nat) (hC : w0.heap.size ≤ C) (hi : HI w0 C ⟨e0, e0, e0, []⟩ W)
    (hS : Calls Tryz.prog 112 #[.string line, .string { data := #[32] }, .int .i64 3] W fun e w' => e = .returned (.slice (some ⟨W.heap.size, 0, none⟩) 3 cp) ∧ w' = W.alloc (.cells (Lib.cellsOf [a, b, c] cp) 9)) (ha : a.size ≤ maxLen) (hb : b.size ≤ maxLen) (hc' : c.size ≤ maxLen) :
    Calls Tryz.prog 111 #[.string line, .pointer (some ⟨C, 0, none⟩)] W fun e w' => e = .returned (.bool (!firstB a b c)) ∧ Sl (HI w0 C ⟨a, b, c, []⟩ w') ∧ Sl (Kept9 W w') := by
  obtain ⟨v, hc, ho⟩ := hi.ex
  have HC := Sl.mk hc
  have HO := Sl.mk ho
  have HB := Sl.mk hi.b
  have HS := Sl.mk hS
  have HF : Sl (∀ V : World, Calls Tryz.prog 106 #[.agg #[.string a, .string b, .string c]] V fun e w' => e = .returned (.bool (firstB a b c)) ∧ Sl (Below V.heap.size V w')) := ⟨fun V => first_any a b c V ha hb hc'⟩
  obtain ⟨q, hq⟩ : ∃ q, firstB a b c = q := ⟨_, rfl⟩
  rw [hq] at HF
  rw [hq]
  clear hi hc ho hS ha hb hc' hq
  go_enter Tryz.func111, Tryz.ntmps111
  go_wp2_with fail
  refine HS.out.mono ?_
  rintro e w1 ⟨rfl, hw1⟩
  have HW1 := Sl.mk hw1
  have HC1 : Sl (w1.heap[C]? = some (.cells #[.string e0, .string e0, .string e0, v] 25 (0, 0))) := ⟨by rw [hw1, alloc_old _ _ _ (lt_of_block HC.out)]; exact HC.out⟩
  have HO1 : Sl (w1.ownsRow w0.heap.size 60 2 v ([] : List FV).length (cellsF [])) := ⟨by rw [hw1]; exact own_below HO.out ((Below.refl _ _).alloc (Nat.le_refl _) _)⟩
  have HB1 : Sl (Below w0.heap.size w0 w1) := ⟨by rw [hw1]; exact HB.out.alloc HB.out.size _⟩
  clear hw1
  go_wp2_with (with_reducible refine copy_front rfl (.tmp 8) (.tmp 9) 28 28 rfl 9 Tryz.underlying28 size9 C 3 3 ⟨W.heap.size, 0, none⟩ 3 cp 3 rfl rfl #[.string e0, .string e0, .string e0, v] 25 HC1.out [.string a, .string b, .string c] rfl ?c1 ?c2 ?c3 ?c4 ?_)
  case c1 => rfl
  case c2 =>
    intro j u hu
    have hj : j < 3 := (List.getElem?_eq_some_iff.1 hu).1
    rw [Addr.add_mid, Nat.zero_add, HW1.out, cell_of_row _ _ _ _ _ _ (alloc_new _ _ _ rfl), cellsOf_get _ _ _ hj, ← hu]
    match j, hj with
    | 0, _ => rfl
    | 1, _ => rfl
    | 2, _ => rfl
  case c3 => show 3 ≤ 4; omega
  case c4 =>
    intro u hu
    simp at hu
    rcases hu with rfl | rfl | rfl <;> rfl
  intro w2 HG2 HW2
  have HC2 : Sl (w2.heap[C]? = some (.cells #[.string a, .string b, .string c, v] 25 (0, 0))) := ⟨HG2.out⟩
  have HO2 : Sl (w2.ownsRow w0.heap.size 60 2 v ([] : List FV).length (cellsF [])) := ⟨by
    refine HO1.out.kept HW2.out ?_
    obtain ⟨_, h2⟩ := HO1.out
    rcases h2 with ⟨rfl, _⟩ | ⟨g, cap, cur, rfl, hg, hh, _⟩
    · exact Or.inl rfl
    · right
      intro e
      have e2 : g = C := by simpa [Value.ownBlock] using e
      rw [e2, HC1.out] at hh
      injection hh with hh
      injection hh with _ h4
      cases h4⟩
  have HB2 : Sl (Below w0.heap.size w0 w2) := ⟨below_row HB1.out HW2.out hC⟩
  have HK2 : Sl (Kept9 W w2) := ⟨(Kept9.below (by rw [HW1.out]; exact (Below.refl _ _).alloc (Nat.le_refl _) _)).trans (Kept9.grown HW2.out (fun k hk => by injection hk with hk; subst hk; exact ⟨_, _, HC1.out, by decide⟩))⟩
  have HI2 : Sl (HI w0 C ⟨a, b, c, []⟩ w2) := ⟨⟨⟨v, HC2.out, HO2.out⟩, HB2.out⟩⟩
  have d0 : w2.cell? ⟨C, 0, none⟩ = some (.string a) := by rw [cell_of_row _ _ _ _ _ _ HC2.out]; rfl
  have d1 : w2.cell? ⟨C, 1, none⟩ = some (.string b) := by rw [cell_of_row _ _ _ _ _ _ HC2.out]; rfl
  have d2 : w2.cell? ⟨C, 2, none⟩ = some (.string c) := by rw [cell_of_row _ _ _ _ _ _ HC2.out]; rfl
  clear HC1 HO1 HB1 HC2 HO2 HG2 HW2
  go_wp2_with fail
  refine (HF.out _).mono ?_
  rintro e w3 ⟨rfl, HB3⟩
  have HI3 : Sl (HI w0 C ⟨a, b, c, []⟩ w3) := ⟨HI2.out.below HB3.out⟩
  have HK3 : Sl (Kept9 W w3) := ⟨HK2.out.trans (Kept9.below HB3.out)⟩
  go_wp2
  go_ret
  exact ⟨rfl, HI3, HK3⟩

/-- A first line: what it leaves if it may be; else it is told to be wrong. -/
theorem line1_any (w0 : World) (C : Nat) (line : ByteArray) (W : World) (hg : Globs w0) (hC : w0.heap.size ≤ C) (hi : HI w0 C ⟨e0, e0, e0, []⟩ W) (hs : line.size ≤ 1000000) :
    Calls Tryz.prog 111 #[.string line, .pointer (some ⟨C, 0, none⟩)] W fun e w' => e = .returned (.bool (ok1 (bytes line)).isNone) ∧ Sl (Below w0.heap.size w0 w') ∧ Sl (Kept9 W w') ∧ Sl (∀ p, ok1 (bytes line) = some p → ∃ a b c, (bytes a, bytes b, bytes c) = p ∧ a.size ≤ 1000000 ∧ b.size ≤ 1000000 ∧ c.size ≤ 1000000 ∧ HI w0 C ⟨a, b, c, []⟩ w') := by
  obtain ⟨m, hm⟩ := (hg.of hi.b).m
  have HS := Tryz.strings_SplitN line { data := #[32] } 3 m W (by omega) hm (by decide) (by decide) (by decide)
  have H3 := three_pieces line _ rfl
  have HSZ : ∀ x ∈ Lib.splitB { data := #[32] } 0 (min 3 (line.size + 1) - 1) line, x.size ≤ line.size := fun x hx => piece_size _ _ _ _ hx
  generalize Lib.splitB { data := #[32] } 0 (min 3 (line.size + 1) - 1) line = P at *
  rcases H3 with ⟨h1, h2⟩ | ⟨a, b, c, h1, h2⟩
  · have e : ok1 (bytes line) = none := by unfold ok1; rw [h2]; rfl
    refine (line1_few w0 C line W P _ hC hi HS h1).mono fun _ _ ⟨he, hb, hk⟩ => ⟨by rw [he, e]; rfl, hb, hk, ⟨fun p hp => by rw [e] at hp; cases hp⟩⟩
  · subst h1
    have sa := HSZ a (by simp)
    have sb := HSZ b (by simp)
    have sc := HSZ c (by simp)
    have e : ok1 (bytes line) = if firstB a b c = true then some (bytes a, bytes b, bytes c) else none := by unfold ok1; rw [h2]; rfl
    refine (line1_three w0 C line W a b c _ hC hi HS (by unfold maxLen; omega) (by unfold maxLen; omega) (by unfold maxLen; omega)).mono fun _ w' ⟨he, hb, hk⟩ => ⟨?_, ⟨hb.out.b⟩, hk, ⟨fun p hp => ?_⟩⟩
    · rw [he, e]
      cases firstB a b c <;> rfl
    · rw [e] at hp
      split at hp
      · injection hp with hp
        exact ⟨a, b, c, hp, by omega, by omega, by omega, hb.out⟩
      · cases hp

theorem info48 : ∃ i, Tryz.prog.info? 60 = some i ∧ i.zero = some (.agg #[.string ByteArray.empty, .string ByteArray.empty]) ∧ i.size = 2 ∧ i.bytes = 32 := by
  have h5 : (Tryz.prog.info? 60).map (fun i => (i.zero, i.size, i.bytes)) = some (some (.agg #[.string ByteArray.empty, .string ByteArray.empty]), 2, 32) := by kernel_rfl
  cases hi : Tryz.prog.info? 60 with
  | none => rw [hi] at h5; cases h5
  | some i =>
    rw [hi] at h5
    simp only [Option.map_some, Option.some.injEq, Prod.mk.injEq] at h5
    exact ⟨i, rfl, h5.1, h5.2.1, h5.2.2⟩
theorem agg_setCell {W : World} {C : Nat} {a b c : ByteArray} {v : Value} (v' : Value) (hC : W.heap[C]? = some (.cells #[.string a, .string b, .string c, v] 25 (0, 0))) :
    (W.setCell ⟨C, 3, none⟩ v').heap[C]? = some (.cells #[.string a, .string b, .string c, v'] 25 (0, 0)) := by
  rw [heap_setCell_same _ _ _ _ _ _ hC]; rfl

set_option maxHeartbeats 1000000 in
set_option maxRecDepth 100000 in
/-- A field's line, of the name n and the value x, as they are read. -/
theorem lineF_run (w0 : World) (C : Nat) (line : ByteArray) (W : World) (h : HdV) (n x y : ByteArray) (found : Bool) (hg : Globs w0) (hC : w0.heap.size ≤ C) (hi : HI w0 C h W) (hlen : h.fs.length ≤ 100000)
    (hcut : Calls Tryz.prog 114 #[.string line, .string { data := #[58] }] W fun e w' => e = .returned (.tuple #[.string n, .string x, .bool found]) ∧ ∃ m, w' = W.drewN m)
    (htrim : ∀ V : World, Calls Tryz.prog 115 #[.string x, .string { data := #[32, 9] }] V fun e w' => e = .returned (.string y) ∧ Below V.heap.size V w') (hn : n.size ≤ maxLen) (hy : y.size ≤ maxLen) :
    Calls Tryz.prog 113 #[.string line, .pointer (some ⟨C, 0, none⟩)] W fun e w' => e = .returned (.bool (!(found && fieldB n y))) ∧ Sl (HI w0 C ⟨h.a, h.b, h.c, h.fs ++ [(n, y)]⟩ w') ∧ Sl (Kept9 W w') := by
  obtain ⟨i0, hi0, hz0, hz1, hz2⟩ := info48
  have HI0 := Sl.mk hi0
  have HZ0 := Sl.mk hz0
  have HZ1 := Sl.mk hz1
  have HZ2 := Sl.mk hz2
  have HH := Sl.mk hi
  have HCUT := Sl.mk hcut
  have HTR := Sl.mk htrim
  have HF : Sl (∀ V : World, Below w0.heap.size w0 V → Calls Tryz.prog 105 #[.agg #[.string n, .string y]] V fun e w' => e = .returned (.bool (fieldB n y)) ∧ Sl (Below V.heap.size V w')) := ⟨fun V hb => field_any n y V (hg.of hb) hn hy⟩
  obtain ⟨q, hq⟩ : ∃ q, fieldB n y = q := ⟨_, rfl⟩
  rw [hq] at HF
  rw [hq]
  clear hi0 hz0 hz1 hz2 hi hcut htrim hg hn hy hq
  go_enter Tryz.func113, Tryz.ntmps113
  go_wp2_with fail
  refine HCUT.out.mono ?_
  rintro e w1 ⟨rfl, m, hw1⟩
  have HH1 : Sl (HI w0 C h w1) := ⟨HH.out.below (Still.below ⟨m, hw1⟩)⟩
  have HK1 : Sl (Kept9 W w1) := ⟨Kept9.below (Still.below ⟨m, hw1⟩)⟩
  clear hw1
  go_wp2_with fail
  refine (HTR.out _).mono ?_
  rintro e w2 ⟨rfl, hb2⟩
  have HH2 : Sl (HI w0 C h w2) := ⟨HH1.out.below hb2⟩
  have HK2 : Sl (Kept9 W w2) := ⟨HK1.out.trans (Kept9.below hb2)⟩
  obtain ⟨v, hc, ho⟩ := HH2.out.ex
  obtain ⟨av, nv, cv, rfl⟩ : ∃ a n c, v = .slice a n c := by
    obtain ⟨_, h2⟩ := ho
    rcases h2 with ⟨rfl, _⟩ | ⟨g, cap, cur, rfl, _⟩
    · exact ⟨_, _, _, rfl⟩
    · exact ⟨_, _, _, rfl⟩
  have HC2 := Sl.mk hc
  have HO2 := Sl.mk ho
  have c3 : (w2.alloc (.cells #[.string n, .string y] 60)).cell? ⟨C, 3, none⟩ = some (.slice av nv cv) := by
    rw [cell_of_row _ _ _ _ _ _ (show (w2.alloc (.cells #[.string n, .string y] 60)).heap[C]? = _ by rw [alloc_old _ _ _ (lt_of_block hc)]; exact hc)]; rfl
  clear hb2 HH1 HCUT HTR HH hc ho
  go_wp2_with (with_reducible refine wpList_append_own _ rfl (.tmp 19) (.tmp 21) 23 rfl w0.heap.size 60 i0 (.agg #[.string ByteArray.empty, .string ByteArray.empty]) 2 32 Tryz.underlying23 HI0.out HZ0.out HZ1.out HZ2.out rfl (by decide) (.slice av nv cv) h.fs.length (cellsF h.fs) rfl ((HO2.out.alloc _).alloc _) ⟨w2.heap.size + 1, 0, none⟩ 1 1 [.string n, .string y] rfl rfl ?c1 ?c2 ?c3 ?c4 ?c5 ?_)
  case c1 =>
    intro j u hu
    have hj : j < 2 := (List.getElem?_eq_some_iff.1 hu).1
    rw [Addr.add_mid, Nat.zero_add, cell_of_row _ _ _ _ _ _ (alloc_new _ _ _ (by rw [alloc_size])), ← hu]
    exact List.getElem?_toArray
  case c2 => intro u hu; simp at hu; rcases hu with rfl | rfl <;> rfl
  case c3 => unfold maxLen; omega
  case c4 => omega
  case c5 => rw [alloc_size, alloc_size]; have := HH2.out.b.size; omega
  intro v' w3 hown' hgrow _
  have hne : ∀ k cs t, w2.heap[k]? = some (.cells cs t (0, 0)) → t = 25 → (Value.slice av nv cv).ownBlock ≠ some k := fun k cs t hk ht e => by
    obtain ⟨_, h2⟩ := HO2.out
    rcases h2 with ⟨h3, _⟩ | ⟨g, cap, cur, h3, hg, hh, _⟩
    · rw [h3] at e; cases e
    · rw [h3] at e
      have e2 : g = k := by simpa [Value.ownBlock] using e
      rw [e2, hk] at hh
      injection hh with hh
      injection hh with _ h4
      rw [ht] at h4; cases h4
  have hltC := lt_of_block HC2.out
  have hgC : w3.heap[C]? = some (.cells #[.string h.a, .string h.b, .string h.c, .slice av nv cv] 25 (0, 0)) := by
    rw [hgrow.block C (by rw [alloc_size, alloc_size]; omega) (fun e => hne _ _ _ HC2.out rfl e.symm), alloc_old _ _ _ (by rw [alloc_size]; omega), alloc_old _ _ _ hltC]
    exact HC2.out
  have hgF : w3.heap[w2.heap.size]? = some (.cells #[.string n, .string y] 60 (0, 0)) := by
    rw [hgrow.block _ (by rw [alloc_size, alloc_size]; omega) (fun e => by
      obtain ⟨_, h2⟩ := HO2.out
      rcases h2 with ⟨h3, _⟩ | ⟨g, cap, cur, h3, hg, hh, _⟩
      · rw [h3] at e; cases e
      · rw [h3] at e
        have e2 : w2.heap.size = g := by simpa [Value.ownBlock] using e
        have := lt_of_block hh
        omega), alloc_old _ _ _ (by rw [alloc_size]; omega)]
    exact alloc_new _ _ _ rfl
  have HB3 : Sl (Below w0.heap.size w0 w3) := ⟨by
    exact ((HH2.out.b.alloc HH2.out.b.size _).alloc (by rw [alloc_size]; have := HH2.out.b.size; omega) _).grown hgrow (by rw [alloc_size, alloc_size]; have := HH2.out.b.size; omega) (fun k hk => (HO2.out.lt k hk).1)⟩
  obtain ⟨av', nv', cv', rfl⟩ : ∃ a n c, v' = .slice a n c := by
    obtain ⟨_, h2⟩ := hown'
    rcases h2 with ⟨rfl, _⟩ | ⟨g, cap, cur, rfl, _⟩
    · exact ⟨_, _, _, rfl⟩
    · exact ⟨_, _, _, rfl⟩
  have HO3 := Sl.mk hown'
  have HGC := Sl.mk hgC
  have d3 : w3.cell? ⟨C, 3, none⟩ = some (.slice av nv cv) := by rw [cell_of_row _ _ _ _ _ _ hgC]; rfl
  have f3 : w3.frozen? ⟨C, 3, none⟩ = false := frozen_of_row _ _ _ _ _ hgC
  have k0 : w3.cell? ⟨w2.heap.size, 0, none⟩ = some (.string n) := by rw [cell_of_row _ _ _ _ _ _ hgF]; rfl
  have k1 : w3.cell? ⟨w2.heap.size, 1, none⟩ = some (.string y) := by rw [cell_of_row _ _ _ _ _ _ hgF]; rfl
  have hn1 : ¬ w2.heap.size = C := by omega
  have hn2 : ¬ C = w2.heap.size := by omega
  have q0 : (w3.setCell ⟨C, 3, none⟩ (.slice av' nv' cv')).cell? ⟨w2.heap.size, 0, none⟩ = some (.string n) := by
    rw [World.cell?_setCell_other _ _ _ _ (fun e => by injection e with e1 _; exact hn2 e1)]; exact k0
  have q1 : (w3.setCell ⟨C, 3, none⟩ (.slice av' nv' cv')).cell? ⟨w2.heap.size, 1, none⟩ = some (.string y) := by
    rw [World.cell?_setCell_other _ _ _ _ (fun e => by injection e with e1 _; exact hn2 e1)]; exact k1
  have HI4 : Sl (HI w0 C ⟨h.a, h.b, h.c, h.fs ++ [(n, y)]⟩ (w3.setCell ⟨C, 3, none⟩ (.slice av' nv' cv'))) := ⟨⟨⟨_, agg_setCell _ HGC.out, by
    rw [List.length_append, cellsF_append]
    refine ownsRow_setCell_other HO3.out (fun e => ?_) _
    obtain ⟨_, h2⟩ := HO3.out
    rcases h2 with ⟨h3, _⟩ | ⟨g, cap, cur, h3, hg, hh, _⟩
    · rw [h3] at e; cases e
    · rw [h3] at e
      have e2 : g = C := by simpa [Value.ownBlock] using e
      rw [e2, HGC.out] at hh
      injection hh with hh
      injection hh with _ h4
      cases h4⟩, HB3.out.setCell hC _⟩⟩
  have HK4 : Sl (Kept9 W (w3.setCell ⟨C, 3, none⟩ (.slice av' nv' cv'))) := ⟨by
    refine HK2.out.trans (Kept9.trans ?_ (Kept9.trans (Kept9.grown hgrow ?_) (Kept9.grown (grown_setCell w3 C 3 _) (fun k hk => by injection hk with hk; subst hk; exact ⟨_, _, hgC, by decide⟩))))
    · exact Kept9.below (((Below.refl _ _).alloc (Nat.le_refl _) _).alloc (by rw [alloc_size]; omega) _)
    · intro k hk
      obtain ⟨_, h2⟩ := HO2.out
      rcases h2 with ⟨h3, _⟩ | ⟨g, cap, cur, h3, hg, hh, _⟩
      · rw [h3] at hk; cases hk
      · rw [h3] at hk
        have e2 : g = k := by simpa [Value.ownBlock] using hk
        subst e2
        exact ⟨cur, 60, by rw [alloc_old _ _ _ (by rw [alloc_size]; have := lt_of_block hh; omega), alloc_old _ _ _ (lt_of_block hh)]; exact hh, by decide⟩⟩
  clear hown' hgrow hne hgC hgF
  cases found with
  | false =>
    go_wp2
    go_ret
    exact ⟨rfl, HI4, HK4⟩
  | true =>
    go_wp2_with fail
    refine (HF.out _ HI4.out.b).mono ?_
    rintro e w5 ⟨rfl, HB5⟩
    have HI5 := Sl.mk (HI4.out.below HB5.out)
    have HK5 : Sl (Kept9 W w5) := ⟨HK4.out.trans (Kept9.below HB5.out)⟩
    go_wp2
    go_ret
    exact ⟨by simp, HI5, HK5⟩
theorem trim_laid (x : ByteArray) (V : World) (hx : x.size ≤ maxLen) : Calls Tryz.prog 115 #[.string x, .string { data := #[32, 9] }] V fun e w' => e = .returned (.string ⟨(Lib.trimS x.data.toList [32, 9]).toArray⟩) ∧ Below V.heap.size V w' :=
  Any.strings_Trim_laid Tryz.lays160 (by kernel_rfl) x { data := #[32, 9] } V (by unfold maxLen at hx; omega) (by decide) (ascii_of_all (by decide))
theorem trimS_le (l cs : List UInt8) : (Lib.trimS l cs).length ≤ l.length := by
  unfold Lib.trimS Lib.trimLeftS Lib.trimRightS
  refine Nat.le_trans (dropWhile_le _ _) ?_
  rw [List.length_reverse]
  refine Nat.le_trans (dropWhile_le _ _) ?_
  rw [List.length_reverse]; exact Nat.le_refl _
theorem cut_le (l : List UInt8) : (Lib.cut l [58]).1.length ≤ l.length ∧ (Lib.cut l [58]).2.1.length ≤ l.length := by
  unfold Lib.cut
  split
  · simp only [List.length_take, List.length_drop]; omega
  · simp
/-- A field's line: what it leaves if it may be; else it is told to be wrong. -/
theorem lineF_any (w0 : World) (C : Nat) (line : ByteArray) (W : World) (h : HdV) (hg : Globs w0) (hC : w0.heap.size ≤ C) (hi : HI w0 C h W) (hs : line.size ≤ 1000000) (hlen : h.fs.length ≤ 100000) :
    Calls Tryz.prog 113 #[.string line, .pointer (some ⟨C, 0, none⟩)] W fun e w' => e = .returned (.bool (okF (bytes line)).isNone) ∧ Sl (Below w0.heap.size w0 w') ∧ Sl (Kept9 W w') ∧ Sl (∀ f, okF (bytes line) = some f → ∃ g : FV, fN g = f ∧ g.1.size ≤ 1000000 ∧ g.2.size ≤ 1000000 ∧ HI w0 C ⟨h.a, h.b, h.c, h.fs ++ [g]⟩ w') := by
  obtain ⟨m, hm⟩ := (hg.of hi.b).m
  have hc := Tryz.strings_Cut line { data := #[58] } m W (by omega) hm
  have hl := libcut line.data.toList
  have hle := cut_le line.data.toList
  have hsz : line.data.toList.length = line.size := by rw [Array.length_toList]; rfl
  rw [hsz] at hle
  have hb : (⟨(Lib.cut line.data.toList [58]).1.toArray⟩ : ByteArray).size = (Lib.cut line.data.toList [58]).1.length := rfl
  have hb2 : (⟨(Lib.cut line.data.toList [58]).2.1.toArray⟩ : ByteArray).size = (Lib.cut line.data.toList [58]).2.1.length := rfl
  have hb3 : (⟨(Lib.trimS (Lib.cut line.data.toList [58]).2.1 [32, 9]).toArray⟩ : ByteArray).size = (Lib.trimS (Lib.cut line.data.toList [58]).2.1 [32, 9]).length := rfl
  have hb4 := trimS_le (Lib.cut line.data.toList [58]).2.1 [32, 9]
  refine (lineF_run w0 C line W h ⟨(Lib.cut line.data.toList [58]).1.toArray⟩ ⟨(Lib.cut line.data.toList [58]).2.1.toArray⟩ ⟨(Lib.trimS (Lib.cut line.data.toList [58]).2.1 [32, 9]).toArray⟩ (Lib.cut line.data.toList [58]).2.2 hg hC hi hlen hc (fun V => trim_laid _ V (by rw [hb2]; unfold maxLen; omega)) (by rw [hb]; unfold maxLen; omega) (by rw [hb3]; unfold maxLen; omega)).mono ?_
  rintro e w' ⟨rfl, hh, hk9⟩
  have hok : okF (bytes line) = if ((Lib.cut line.data.toList [58]).2.2 && fieldB ⟨(Lib.cut line.data.toList [58]).1.toArray⟩ ⟨(Lib.trimS (Lib.cut line.data.toList [58]).2.1 [32, 9]).toArray⟩) = true then some (fN (⟨(Lib.cut line.data.toList [58]).1.toArray⟩, ⟨(Lib.trimS (Lib.cut line.data.toList [58]).2.1 [32, 9]).toArray⟩)) else none := by
    unfold okF rdF fieldB fN
    rw [bytes_toN line]
    simp only [bytes_mk, libtrim]
    cases h58 : cut 58 (toN line.data.toList) with
    | none =>
      rw [h58] at hl
      simp only at hl
      rw [hl]
      rfl
    | some p =>
      rw [h58] at hl
      simp only at hl
      obtain ⟨h1, h2, h3⟩ := hl
      rw [h1, h2, h3]
      simp only [Option.map_some, Option.bind_some, Bool.true_and]
  refine ⟨?_, ⟨hh.out.b⟩, hk9, ⟨fun f hf => ?_⟩⟩
  · rw [hok]
    cases ((Lib.cut line.data.toList [58]).2.2 && fieldB ⟨(Lib.cut line.data.toList [58]).1.toArray⟩ ⟨(Lib.trimS (Lib.cut line.data.toList [58]).2.1 [32, 9]).toArray⟩) <;> rfl
  · rw [hok] at hf
    split at hf
    · injection hf with hf
      exact ⟨_, hf, by rw [hb]; omega, by rw [hb3]; omega, hh.out⟩
    · cases hf
end Go.Proofs.YthlagngpllahkaaGreatDoor
/- readLines: the head of lines. -/
namespace Go.Proofs.YthlagngpllahkaaGreatDoor
open Go.RowKit HeadPlain

theorem okFs_app (a b : List (List Nat)) : okFs (a ++ b) = (okFs a).bind fun x => (okFs b).map fun y => x ++ y := by
  induction a with
  | nil => simp only [List.nil_append, okFs, Option.bind_some]; cases okFs b <;> rfl
  | cons l a ih =>
    rw [List.cons_append, okFs, okFs, ih]
    cases okF l with
    | none => rfl
    | some f =>
      simp only [Option.bind_some]
      cases okFs a with
      | none => rfl
      | some x =>
        simp only [Option.bind_some, Option.map_some]
        cases okFs b <;> rfl
theorem okL_bad {a : List (List Nat)} {l : List Nat} {r : List (List Nat)} (ha : a ≠ []) (h : okF l = none) : okL (a ++ l :: r) = none := by
  obtain ⟨x, t, rfl⟩ := List.exists_cons_of_ne_nil ha
  rw [List.cons_append, okL, okFs_app, okFs, h]
  cases ok1 x with
  | none => rfl
  | some p => simp only [Option.bind_some]; cases okFs t <;> rfl
theorem okL_bad1 {l : List Nat} {r : List (List Nat)} (h : ok1 l = none) : okL (l :: r) = none := by rw [okL, h]; rfl
/-- The strings of a head are no longer than that. -/
structure HdV.Siz (h : HdV) : Prop where
  a : h.a.size ≤ 1000000
  b : h.b.size ≤ 1000000
  c : h.c.size ≤ 1000000
  f : ∀ f ∈ h.fs, f.1.size ≤ 1000000 ∧ f.2.size ≤ 1000000
def hZ : HdV := ⟨e0, e0, e0, []⟩
/-- What the loop of readLines holds to. -/
structure RL (w0 : World) (C PB : Nat) (ls : List ByteArray) (k : Nat) (f : Value) (wr : World) : Prop where
  p : wr.heap[PB]? = some (.cells (ls.map Value.string).toArray 9 (0, 0))
  c : (k = 0 ∧ f = .func (.func 111) #[] #[.pointer (some ⟨C, 0, none⟩)] ∧ HI w0 C hZ wr) ∨
    (1 ≤ k ∧ f = .func (.func 113) #[] #[.pointer (some ⟨C, 0, none⟩)] ∧ ∃ h, HI w0 C h wr ∧ okL ((ls.take k).map bytes) = some h.hd ∧ h.Siz ∧ h.fs.length < k)

theorem ret_head {fn : Func} {p u : Tmp} (h : fn.results = #[.cell p 25, .tmp u]) (tmps : Array Value) (w : World) (g : Nat) (t : TypeId) (cs : Array Value) (fr : Nat × Nat)
    (hp : tmps.getD p undef = .pointer (some ⟨g, 0, none⟩)) (hg : w.heap[g]? = some (.cells cs t fr)) (hs : cs.size = 4) :
    (results fn tmps).run Tryz.prog w = .ok (.tuple #[.agg cs, tmps.getD u undef]) w := by
  have hi : (Tryz.prog.info? 25).map (·.size) = some cs.size := by rw [hs]; kernel_rfl
  rw [results_cell_tmp h, hp]
  simp [asAddr, Result.andThen, run_loadVar_row (P := Tryz.prog) w g t 25 cs fr _ hg Tryz.underlying25 rfl hi]

theorem four_cells (w : World) (g : Nat) (a b c : ByteArray) (v v0 v1 v2 v3 : Value) (h : w.heap[g]? = some (.cells #[v0, v1, v2, v3] 25 (0, 0))) :
    ((((w.setCell ⟨g, 0, none⟩ (.string a)).setCell ⟨g, 1, none⟩ (.string b)).setCell ⟨g, 2, none⟩ (.string c)).setCell ⟨g, 3, none⟩ v).heap[g]? = some (.cells #[.string a, .string b, .string c, v] 25 (0, 0)) := by
  rw [heap_setCell_same _ _ _ _ _ _ (heap_setCell_same _ _ _ _ _ _ (heap_setCell_same _ _ _ _ _ _ (heap_setCell_same _ _ _ _ _ _ h)))]
  rfl
theorem okL_take {ls : List ByteArray} {k : Nat} {x : ByteArray} (hk : k < ls.length) (h1 : 1 ≤ k) (hx : ls.getD k ByteArray.empty = x) (h : HdV) (hO : okL ((ls.take k).map bytes) = some h.hd) :
    okL ((ls.take (k + 1)).map bytes) = (okF (bytes x)).map fun f => ⟨h.hd.a, h.hd.b, h.hd.c, h.hd.fs ++ [f]⟩ := by
  have e : ls.getD k ByteArray.empty = ls[k] := by simp [List.getD_eq_getElem?_getD, List.getElem?_eq_getElem hk]
  rw [List.take_succ_eq_append_getElem hk, List.map_append, ← e, hx]
  have hne : (ls.take k).map bytes ≠ [] := by
    intro e2
    have := congrArg List.length e2
    rw [List.length_map, List.length_take] at this
    simp only [List.length_nil] at this
    omega
  obtain ⟨y, t, ht⟩ := List.exists_cons_of_ne_nil hne
  rw [ht] at hO ⊢
  rw [show List.map bytes [x] = [bytes x] from rfl, okL_snoc, hO]
  rfl
theorem okL_no {ls : List ByteArray} {k : Nat} {x : ByteArray} (hk : k < ls.length) (h1 : 1 ≤ k) (hx : ls.getD k ByteArray.empty = x) (hF : okF (bytes x) = none) : okL (ls.map bytes) = none := by
  have e : ls.getD k ByteArray.empty = ls[k] := by simp [List.getD_eq_getElem?_getD, List.getElem?_eq_getElem hk]
  have e2 : ls = ls.take k ++ x :: ls.drop (k + 1) := by
    conv => lhs; rw [← List.take_append_drop k ls, List.drop_eq_getElem_cons hk, ← e, hx]
  rw [e2, List.map_append, List.map_cons]
  refine okL_bad ?_ hF
  intro e3
  have := congrArg List.length e3
  rw [List.length_map, List.length_take] at this
  simp only [List.length_nil] at this
  omega
/-- What readLines answers. -/
def LinesR (W w' : World) (l : List (List Nat)) (e : Ending) : Prop :=
  (okL l = none ∧ e = .returned (.tuple #[.agg #[.string e0, .string e0, .string e0, .slice none 0 0], .bool false])) ∨
  (∃ (h : HdV) (v : Value), okL l = some h.hd ∧ e = .returned (.tuple #[.agg #[.string h.a, .string h.b, .string h.c, v], .bool true]) ∧ h.Siz ∧ w'.ownsRow W.heap.size 60 2 v h.fs.length (cellsF h.fs) ∧ h.fs.length < 100000)

set_option maxHeartbeats 2000000 in
set_option maxRecDepth 100000 in
theorem lines_run (s : ByteArray) (ls : List ByteArray) (W : World) (hg : Globs W) (hne : ls ≠ []) (hlen : ls.length ≤ 100000) (hsz : ∀ x ∈ ls, x.size ≤ 1000000)
    (hsp : ∀ V : World, Below W.heap.size W V → Calls Tryz.prog 116 #[.string s, .string { data := #[13, 10] }] V fun e w' => e = .returned (.slice (some ⟨V.heap.size, 0, none⟩) ls.length ls.length) ∧ w' = V.alloc (.cells (ls.map Value.string).toArray 9)) :
    Calls Tryz.prog 64 #[.string s] W fun e w' => Sl (Below W.heap.size W w') ∧ Sl (LinesR W w' (ls.map bytes) e) := by
  have HG := Sl.mk hg
  have HSP := Sl.mk hsp
  have HNE := Sl.mk hne
  have HSZ := Sl.mk hsz
  obtain ⟨n, hn⟩ : ∃ n, ls.length = n := ⟨_, rfl⟩
  have HN := Sl.mk hn
  rw [hn] at HSP hlen
  clear hg hsp hne hsz hn
  have HS2 : Sl (Calls Tryz.prog 116 #[.string s, .string { data := #[13, 10] }] ((W.alloc (.cells #[.string { data := #[] }, .string { data := #[] }, .string { data := #[] }, .slice none 0 0] 25)).alloc (.cells #[.string { data := #[] }, .string { data := #[] }, .string { data := #[] }, .slice none 0 0] 25)) fun e w' => e = .returned (.slice (some ⟨(W.alloc (.cells #[.string { data := #[] }, .string { data := #[] }, .string { data := #[] }, .slice none 0 0] 25)).heap.size + 1, 0, none⟩) n n) ∧ w' = ((W.alloc (.cells #[.string { data := #[] }, .string { data := #[] }, .string { data := #[] }, .slice none 0 0] 25)).alloc (.cells #[.string { data := #[] }, .string { data := #[] }, .string { data := #[] }, .slice none 0 0] 25)).alloc (.cells (ls.map Value.string).toArray 9)) := ⟨by
    have h := HSP.out ((W.alloc (.cells #[.string { data := #[] }, .string { data := #[] }, .string { data := #[] }, .slice none 0 0] 25)).alloc (.cells #[.string { data := #[] }, .string { data := #[] }, .string { data := #[] }, .slice none 0 0] 25)) (((Below.refl _ _).alloc (Nat.le_refl _) _).alloc (by rw [alloc_size]; omega) _)
    rw [alloc_size] at h
    exact h⟩
  clear HSP
  obtain ⟨w0, hw0⟩ : ∃ w0, W.alloc (.cells #[.string { data := #[] }, .string { data := #[] }, .string { data := #[] }, .slice none 0 0] 25) = w0 := ⟨_, rfl⟩
  have HW0 : Sl (w0.heap.size = W.heap.size + 1) := ⟨by rw [← hw0, alloc_size]⟩
  have HR0 : Sl (w0.heap[W.heap.size]? = some (.cells #[.string { data := #[] }, .string { data := #[] }, .string { data := #[] }, .slice none 0 0] 25 (0, 0))) := ⟨by rw [← hw0]; exact alloc_new _ _ _ rfl⟩
  have HBW : Sl (Below W.heap.size W w0) := ⟨by rw [← hw0]; exact (Below.refl _ _).alloc (Nat.le_refl _) _⟩
  have HG0 : Sl (Globs w0) := ⟨HG.out.of HBW.out⟩
  rw [hw0] at HS2
  have HL0 : Sl (RL w0 w0.heap.size (w0.heap.size + 1) ls 0 (.func (.func 111) #[] #[.pointer (some ⟨w0.heap.size, 0, none⟩)]) ((w0.alloc (.cells #[.string { data := #[] }, .string { data := #[] }, .string { data := #[] }, .slice none 0 0] 25)).alloc (.cells (ls.map Value.string).toArray 9))) := ⟨⟨alloc_new _ _ _ (by rw [alloc_size]), Or.inl ⟨rfl, rfl, ⟨⟨_, by rw [alloc_old _ _ _ (by rw [alloc_size]; omega)]; exact alloc_new _ _ _ rfl, World.ownsRow_nil _ _ _ _⟩, ((Below.refl _ _).alloc (Nat.le_refl _) _).alloc (by rw [alloc_size]; omega) _⟩⟩⟩⟩
  go_enter Tryz.func64, Tryz.ntmps64
  go_wp2_with fail
  refine HS2.out.mono ?_
  rintro e w3 ⟨rfl, hw3⟩
  rw [← hw3] at HL0
  clear HS2 hw3 hw0
  go_wp2
  go_loopw [7, 16] (fun f i wr => ∃ k : Nat, k ≤ n ∧ i = .int .i64 k ∧ RL w0 w0.heap.size (w0.heap.size + 1) ls k f wr) (fun _ i _ => n - (intOf i).toNat)
  case atStart => exact ⟨0, Nat.zero_le _, rfl, HL0.out⟩
  case round =>
    obtain ⟨k, hk, rfl, hrel⟩ := hrel
    have HRL := Sl.mk hrel
    clear hrel HL0
    by_cases hlt : k < n
    · obtain ⟨x, hx⟩ : ∃ x, ls.getD k ByteArray.empty = x := ⟨_, rfl⟩
      have HX := Sl.mk hx
      have HXM : Sl (x.size ≤ 1000000) := ⟨HSZ.out x (by rw [← hx, List.getD_eq_getElem?_getD, List.getElem?_eq_getElem (by rw [HN.out]; exact hlt)]; exact List.getElem_mem _)⟩
      have hcx : wr.cell? ⟨w0.heap.size + 1, k, none⟩ = some (.string x) := by
        rw [cell_of_row _ _ _ _ _ _ HRL.out.p, List.getElem?_toArray, List.getElem?_map, List.getElem?_eq_getElem (by rw [HN.out]; exact hlt), ← hx, List.getD_eq_getElem?_getD, List.getElem?_eq_getElem (by rw [HN.out]; exact hlt)]
        rfl
      have hk0 : (0 : Int) ≤ (k : Int) := by omega
      have hk1 : (k : Int) < (n : Int) := by omega
      clear hx
      rcases HRL.out.c with ⟨rfl, rfl, hI⟩ | ⟨hk2, rfl, h, hI, hO, hSz, hFl⟩
      · have HI0 := Sl.mk hI
        clear hI
        go_wp2_with fail
        refine (line1_any w0 w0.heap.size x _ HG0.out (Nat.le_refl _) HI0.out HXM.out).mono ?_
        rintro e w4 ⟨rfl, HB4, HK4, HP4⟩
        have HPB : Sl (w4.heap[w0.heap.size + 1]? = some (.cells (ls.map Value.string).toArray 9 (0, 0))) := ⟨HK4.out _ _ HRL.out.p⟩
        have HR4 : Sl (w4.heap[W.heap.size]? = some (.cells #[.string { data := #[] }, .string { data := #[] }, .string { data := #[] }, .slice none 0 0] 25 (0, 0))) := ⟨by rw [HB4.out.block _ (by rw [HW0.out]; omega)]; exact HR0.out⟩
        have HBW4 : Sl (Below W.heap.size W w4) := ⟨below_trans HBW.out HB4.out⟩
        clear hcx HRL HI0
        cases hok : ok1 (bytes x) with
        | none =>
          have HNO : Sl (okL (ls.map bytes) = none) := ⟨by
            match ls, HN.out with
            | [], hl => simp at hl; omega
            | y :: r, _ =>
              have e : y = x := HX.out
              subst e
              exact okL_bad1 hok⟩
          have d0 : w4.cell? ⟨W.heap.size, 0, none⟩ = some (.string { data := #[] }) := by rw [cell_of_row _ _ _ _ _ _ HR4.out]; rfl
          have d1 : w4.cell? ⟨W.heap.size, 1, none⟩ = some (.string { data := #[] }) := by rw [cell_of_row _ _ _ _ _ _ HR4.out]; rfl
          have d2 : w4.cell? ⟨W.heap.size, 2, none⟩ = some (.string { data := #[] }) := by rw [cell_of_row _ _ _ _ _ _ HR4.out]; rfl
          have d3 : w4.cell? ⟨W.heap.size, 3, none⟩ = some (.slice none 0 0) := by rw [cell_of_row _ _ _ _ _ _ HR4.out]; rfl
          have f0 : w4.frozen? ⟨W.heap.size, 0, none⟩ = false := frozen_of_row _ _ _ _ _ HR4.out
          have f1 : w4.frozen? ⟨W.heap.size, 1, none⟩ = false := frozen_of_row _ _ _ _ _ HR4.out
          have f2 : w4.frozen? ⟨W.heap.size, 2, none⟩ = false := frozen_of_row _ _ _ _ _ HR4.out
          have f3 : w4.frozen? ⟨W.heap.size, 3, none⟩ = false := frozen_of_row _ _ _ _ _ HR4.out
          go_wp2
          refine bodyPost_ret (ret_head rfl _ _ W.heap.size 25 _ (0, 0) rfl (four_cells w4 _ _ _ _ _ _ _ _ _ HR4.out) rfl) rfl ?_
          exact ⟨⟨(((HBW4.out.setCell (Nat.le_refl _) _).setCell (Nat.le_refl _) _).setCell (Nat.le_refl _) _).setCell (Nat.le_refl _) _⟩, ⟨Or.inl ⟨HNO.out, rfl⟩⟩⟩
        | some p =>
          obtain ⟨a, b, c, hp, sa, sb, sc, hI4⟩ := HP4.out p hok
          have HRL4 : Sl (RL w0 w0.heap.size (w0.heap.size + 1) ls (0 + 1) (.func (.func 113) #[] #[.pointer (some ⟨w0.heap.size, 0, none⟩)]) w4) := ⟨⟨HPB.out, Or.inr ⟨Nat.le_refl _, rfl, ⟨a, b, c, []⟩, hI4, by
            match ls, HN.out with
            | [], hl => simp at hl; omega
            | y :: r, _ =>
              have e : y = x := HX.out
              subst e
              show okL [bytes y] = _
              rw [okL, hok, ← hp]
              rfl, ⟨sa, sb, sc, fun f hf => by cases hf⟩, Nat.zero_lt_one⟩⟩⟩
          clear hI4 hp sa sb sc HP4
          go_wp2
          refine ⟨⟨0 + 1, by omega, by go_num, HRL4.out⟩, by simp [intOf]; omega⟩
      · have HI0 := Sl.mk hI
        have HO := Sl.mk hO
        have HSz := Sl.mk hSz
        have HFl := Sl.mk hFl
        clear hI hO hSz hFl
        go_wp2_with fail
        refine (lineF_any w0 w0.heap.size x _ h HG0.out (Nat.le_refl _) HI0.out HXM.out (by have := HFl.out; omega)).mono ?_
        rintro e w4 ⟨rfl, HB4, HK4, HP4⟩
        have HPB : Sl (w4.heap[w0.heap.size + 1]? = some (.cells (ls.map Value.string).toArray 9 (0, 0))) := ⟨HK4.out _ _ HRL.out.p⟩
        have HR4 : Sl (w4.heap[W.heap.size]? = some (.cells #[.string { data := #[] }, .string { data := #[] }, .string { data := #[] }, .slice none 0 0] 25 (0, 0))) := ⟨by rw [HB4.out.block _ (by rw [HW0.out]; omega)]; exact HR0.out⟩
        have HBW4 : Sl (Below W.heap.size W w4) := ⟨below_trans HBW.out HB4.out⟩
        clear hcx HRL HI0
        cases hok : okF (bytes x) with
        | none =>
          have HNO : Sl (okL (ls.map bytes) = none) := ⟨okL_no (by rw [HN.out]; exact hlt) hk2 HX.out hok⟩
          have d0 : w4.cell? ⟨W.heap.size, 0, none⟩ = some (.string { data := #[] }) := by rw [cell_of_row _ _ _ _ _ _ HR4.out]; rfl
          have d1 : w4.cell? ⟨W.heap.size, 1, none⟩ = some (.string { data := #[] }) := by rw [cell_of_row _ _ _ _ _ _ HR4.out]; rfl
          have d2 : w4.cell? ⟨W.heap.size, 2, none⟩ = some (.string { data := #[] }) := by rw [cell_of_row _ _ _ _ _ _ HR4.out]; rfl
          have d3 : w4.cell? ⟨W.heap.size, 3, none⟩ = some (.slice none 0 0) := by rw [cell_of_row _ _ _ _ _ _ HR4.out]; rfl
          have f0 : w4.frozen? ⟨W.heap.size, 0, none⟩ = false := frozen_of_row _ _ _ _ _ HR4.out
          have f1 : w4.frozen? ⟨W.heap.size, 1, none⟩ = false := frozen_of_row _ _ _ _ _ HR4.out
          have f2 : w4.frozen? ⟨W.heap.size, 2, none⟩ = false := frozen_of_row _ _ _ _ _ HR4.out
          have f3 : w4.frozen? ⟨W.heap.size, 3, none⟩ = false := frozen_of_row _ _ _ _ _ HR4.out
          go_wp2
          refine bodyPost_ret (ret_head rfl _ _ W.heap.size 25 _ (0, 0) rfl (four_cells w4 _ _ _ _ _ _ _ _ _ HR4.out) rfl) rfl ?_
          exact ⟨⟨(((HBW4.out.setCell (Nat.le_refl _) _).setCell (Nat.le_refl _) _).setCell (Nat.le_refl _) _).setCell (Nat.le_refl _) _⟩, ⟨Or.inl ⟨HNO.out, rfl⟩⟩⟩
        | some f =>
          obtain ⟨g, hgf, sa, sb, hI4⟩ := HP4.out f hok
          have HRL4 : Sl (RL w0 w0.heap.size (w0.heap.size + 1) ls (k + 1) (.func (.func 113) #[] #[.pointer (some ⟨w0.heap.size, 0, none⟩)]) w4) := ⟨⟨HPB.out, Or.inr ⟨by omega, rfl, ⟨h.a, h.b, h.c, h.fs ++ [g]⟩, hI4, by
            rw [okL_take (by rw [HN.out]; exact hlt) hk2 HX.out h HO.out, hok, ← hgf]
            simp [HdV.hd], ⟨HSz.out.a, HSz.out.b, HSz.out.c, fun f hf => by
              rcases List.mem_append.1 hf with hf | hf
              · exact HSz.out.f f hf
              · simp at hf; subst hf; exact ⟨sa, sb⟩⟩, by
              show (h.fs ++ [g]).length < k + 1
              rw [List.length_append]
              have := HFl.out
              simp only [List.length_cons, List.length_nil]
              omega⟩⟩⟩
          clear hI4 hgf sa sb HP4
          go_wp2
          refine ⟨⟨k + 1, by omega, by go_num, HRL4.out⟩, by simp [intOf]; omega⟩
    · have hge : ((k : Int) < (n : Int)) = False := eq_false (by omega)
      obtain rfl : k = n := by omega
      rcases HRL.out.c with ⟨rfl, _, _⟩ | ⟨hk2, rfl, h, hI, hO, hSz, hFl⟩
      · exfalso
        apply HNE.out
        exact List.eq_nil_of_length_eq_zero HN.out
      · obtain ⟨v, hc, ho⟩ := hI.ex
        obtain ⟨av, nv, cv, rfl⟩ : ∃ a n c, v = .slice a n c := by
          obtain ⟨_, h2⟩ := ho
          rcases h2 with ⟨rfl, _⟩ | ⟨g, cap, cur, rfl, _⟩
          · exact ⟨_, _, _, rfl⟩
          · exact ⟨_, _, _, rfl⟩
        have HO : Sl (okL (ls.map bytes) = some h.hd) := ⟨by
          rw [← hO, List.take_of_length_le (by rw [HN.out]; exact Nat.le_refl _)]⟩
        have HOW := Sl.mk ho
        have HSz := Sl.mk hSz
        have HFl := Sl.mk hFl
        have HR4 : Sl (wr.heap[W.heap.size]? = some (.cells #[.string { data := #[] }, .string { data := #[] }, .string { data := #[] }, .slice none 0 0] 25 (0, 0))) := ⟨by rw [hI.b.block _ (by rw [HW0.out]; omega)]; exact HR0.out⟩
        have HBW4 : Sl (Below W.heap.size W wr) := ⟨below_trans HBW.out hI.b⟩
        have q0 : wr.cell? ⟨w0.heap.size, 0, none⟩ = some (.string h.a) := by rw [cell_of_row _ _ _ _ _ _ hc]; rfl
        have q1 : wr.cell? ⟨w0.heap.size, 1, none⟩ = some (.string h.b) := by rw [cell_of_row _ _ _ _ _ _ hc]; rfl
        have q2 : wr.cell? ⟨w0.heap.size, 2, none⟩ = some (.string h.c) := by rw [cell_of_row _ _ _ _ _ _ hc]; rfl
        have q3 : wr.cell? ⟨w0.heap.size, 3, none⟩ = some (.slice av nv cv) := by rw [cell_of_row _ _ _ _ _ _ hc]; rfl
        clear hI hc ho hO hSz hFl
        have d0 : wr.cell? ⟨W.heap.size, 0, none⟩ = some (.string { data := #[] }) := by rw [cell_of_row _ _ _ _ _ _ HR4.out]; rfl
        have d1 : wr.cell? ⟨W.heap.size, 1, none⟩ = some (.string { data := #[] }) := by rw [cell_of_row _ _ _ _ _ _ HR4.out]; rfl
        have d2 : wr.cell? ⟨W.heap.size, 2, none⟩ = some (.string { data := #[] }) := by rw [cell_of_row _ _ _ _ _ _ HR4.out]; rfl
        have d3 : wr.cell? ⟨W.heap.size, 3, none⟩ = some (.slice none 0 0) := by rw [cell_of_row _ _ _ _ _ _ HR4.out]; rfl
        have f0 : wr.frozen? ⟨W.heap.size, 0, none⟩ = false := frozen_of_row _ _ _ _ _ HR4.out
        have f1 : wr.frozen? ⟨W.heap.size, 1, none⟩ = false := frozen_of_row _ _ _ _ _ HR4.out
        have f2 : wr.frozen? ⟨W.heap.size, 2, none⟩ = false := frozen_of_row _ _ _ _ _ HR4.out
        have f3 : wr.frozen? ⟨W.heap.size, 3, none⟩ = false := frozen_of_row _ _ _ _ _ HR4.out
        go_wp2
        refine bodyPost_ret (ret_head rfl _ _ W.heap.size 25 _ (0, 0) rfl (four_cells wr _ _ _ _ _ _ _ _ _ HR4.out) rfl) rfl ?_
        refine ⟨⟨(((HBW4.out.setCell (Nat.le_refl _) _).setCell (Nat.le_refl _) _).setCell (Nat.le_refl _) _).setCell (Nat.le_refl _) _⟩, ⟨Or.inr ⟨h, _, HO.out, rfl, HSz.out, ?_, by have := HFl.out; omega⟩⟩⟩
        have hbl : (Value.slice av nv cv).ownBlock ≠ some W.heap.size := fun e => by
          have := (HOW.out.lt _ e).1
          have := HW0.out
          omega
        have h0 : wr.ownsRow W.heap.size 60 2 (.slice av nv cv) h.fs.length (cellsF h.fs) := by
          obtain ⟨h1, h2⟩ := HOW.out
          refine ⟨h1, ?_⟩
          rcases h2 with h2 | ⟨g, cap, cur, h3, hg, r⟩
          · exact Or.inl h2
          · exact Or.inr ⟨g, cap, cur, h3, by have := HW0.out; omega, r⟩
        exact ownsRow_setCell_other (ownsRow_setCell_other (ownsRow_setCell_other (ownsRow_setCell_other h0 hbl _) hbl _) hbl _) hbl _
end Go.Proofs.YthlagngpllahkaaGreatDoor
/- Read of package head: what it answers is what the chapter tells. -/
namespace Go.Proofs.YthlagngpllahkaaGreatDoor
open Go.RowKit HeadPlain

theorem splitK_count : ∀ (n : Nat) (l : List UInt8), l.length ≤ n → (Lib.splitK [13, 10] 0 (Lib.count l [13, 10]) l).length = Lib.count l [13, 10] + 1
  | n, l, hn => by
    cases he : eol (toN l) with
    | none =>
      have hi : Lib.index l [13, 10] = -1 := by rw [index2, he]; rfl
      rw [Lib.count_miss hi]
      rfl
    | some i =>
      have hi : Lib.index l [13, 10] = (i : Int) := by rw [index2, he]; rfl
      have hl : i + 2 ≤ l.length := by
        have h3 := (eol_drop he).1
        unfold two at h3
        have := congrArg List.length (beq_iff_eq.1 h3)
        rw [List.length_take, List.length_drop, toN_length] at this
        simp only [List.length_cons, List.length_nil] at this
        omega
      have hm : ¬ (Lib.index l [13, 10] == -1) = true := by rw [hi]; simp
      have hc : Lib.count l [13, 10] = Lib.count (l.drop (i + 2)) [13, 10] + 1 := by
        rw [Lib.count_hit (by simp) hi, Nat.add_comm]; rfl
      rw [hc, Lib.splitK, if_neg hm, hi]
      cases n with
      | zero => omega
      | succ n =>
        have ih := splitK_count n (l.drop (i + 2)) (by rw [List.length_drop]; omega)
        rw [List.length_cons]
        simp only [Int.toNat_natCast, List.length_cons, List.length_nil, Nat.reduceAdd]
        rw [ih]
theorem lines_any (s : ByteArray) (W : World) (hg : Globs W) (hs : s.size ≤ 90000) :
    Calls Tryz.prog 64 #[.string s] W fun e w' => Sl (Below W.heap.size W w') ∧ Sl (LinesR W w' (lines (bytes s ++ [13, 10])) e) := by
  have hsz : s.data.toList.length = s.size := by rw [Array.length_toList]; rfl
  have e1 : (Lib.splitB { data := #[13, 10] } 0 (Lib.countB s { data := #[13, 10] }) s).map bytes = lines (bytes s ++ [13, 10]) := by
    rw [splitB_bytes]
    exact split_lines _ s.data.toList (Nat.le_refl _)
  have e2 : (Lib.splitB { data := #[13, 10] } 0 (Lib.countB s { data := #[13, 10] }) s).length = Lib.countB s { data := #[13, 10] } + 1 := by
    have := splitK_count _ s.data.toList (Nat.le_refl _)
    have e3 := congrArg List.length (splitB_bytes { data := #[13, 10] } s (Lib.countB s { data := #[13, 10] }))
    rw [List.length_map, List.length_map] at e3
    rw [e3]
    exact this
  have e4 : Lib.countB s { data := #[13, 10] } ≤ s.size + 1 := by
    have := Lib.count_le s.data.toList [13, 10]
    rw [hsz] at this
    exact this
  rw [← e1]
  refine lines_run s _ W hg (fun h => by rw [h] at e2; simp at e2) (by rw [e2]; omega) (fun x hx => by have := piece_size _ _ _ _ hx; omega) (fun V hb => ?_)
  obtain ⟨m, hm⟩ := (hg.of hb).m
  rw [e2]
  exact Tryz.strings_Split s { data := #[13, 10] } m V (by omega) hm (by decide)

theorem rd_none' {s : List Nat} (h : fnd (s.take 2048) = none) : rd s = if s.length < 2048 then .more else .long := by
  unfold rd
  cases hf : fnd s with
  | none =>
    simp only
    by_cases h1 : s.length < 2048
    · rw [if_pos h1, if_neg (by omega)]
    · rw [if_neg h1, if_pos (by omega)]
  | some n =>
    have h1 := fnd_take_none h hf
    have h2 := (fnd_length hf).1
    simp only
    rw [if_pos h1, if_neg (by omega)]
theorem rd_some' {s : List Nat} {n : Nat} (h : fnd (s.take 2048) = some n) :
    rd s = match okL (lines (s.take n ++ [13, 10])) with | none => .form | some h => if 32 < h.fs.length then .long else .ok h (n + 4) := by
  obtain ⟨h1, h2⟩ := fnd_take_some h
  obtain ⟨h3, h4⟩ := fnd_length h1
  have e : s.take (n + 2) = s.take n ++ [13, 10] := by
    rw [List.take_add]
    congr 1
    unfold four at h4
    have := beq_iff_eq.1 h4
    have h5 := congrArg (List.take 2) this
    rw [List.take_take] at h5
    exact h5
  unfold rd
  rw [h1]
  simp only
  rw [if_neg (by omega), okL_eq]
  unfold rdAt
  rw [e]
  cases rdL (lines (s.take n ++ [13, 10])) with
  | none => rfl
  | some g =>
    simp only [Option.bind_some]
    by_cases hg : formB g = true
    · rw [if_pos hg, if_pos hg]
    · rw [if_neg hg, if_neg hg]

theorem fieldsAt_owns {w : World} {base : Nat} {v : Value} {fs : List FV} (ho : w.ownsRow base 60 2 v fs.length (cellsF fs)) (hs : ∀ f ∈ fs, f.1.size ≤ 1000000 ∧ f.2.size ≤ 1000000) (hl : fs.length < 100000) : FieldsAt w v fs := by
  obtain ⟨h1, h2⟩ := ho
  rcases h2 with ⟨rfl, hz⟩ | ⟨g, cap, cur, rfl, hg, hh, hc1, hc2, hsz, htk⟩
  · refine ⟨none, 0, 0, 0, by rw [hz], by omega, by omega, fun h => by omega, fun i hi => by omega⟩
  · refine ⟨some ⟨g, 0, none⟩, cap, g, 0, rfl, hc1, by unfold maxLen; omega, fun _ => rfl, fun i hi => ?_⟩
    have hmem := hs (fs.getD i f0) (by rw [List.getD_eq_getElem?_getD, List.getElem?_eq_getElem hi]; exact List.getElem_mem _)
    have key : ∀ (l : List FV) (i : Nat), i < l.length → (cellsF l)[i * 2]? = some (.string (l.getD i f0).1) ∧ (cellsF l)[i * 2 + 1]? = some (.string (l.getD i f0).2) := by
      intro l
      induction l with
      | nil => intro i hi; simp at hi
      | cons f l ih =>
        intro i hi
        rw [show cellsF (f :: l) = [.string f.1, .string f.2] ++ cellsF l from rfl]
        cases i with
        | zero => exact ⟨rfl, rfl⟩
        | succ i =>
          have := ih i (by simpa using hi)
          rw [show (i + 1) * 2 = i * 2 + 2 from by omega, show i * 2 + 2 + 1 = (i * 2 + 1) + 2 from by omega]
          rw [List.getElem?_append_right (by simp), List.getElem?_append_right (by simp)]
          simpa using this
    obtain ⟨k1, k2⟩ := key fs i hi
    have cell : ∀ j u, (cellsF fs)[j]? = some u → w.cell? ⟨g, j, none⟩ = some u := fun j u hu => by
      rw [cell_of_row _ _ _ _ _ _ hh]
      rw [← htk] at hu
      have hj : j < (cur.toList.take (fs.length * 2)).length := (List.getElem?_eq_some_iff.1 hu).1
      rw [List.length_take] at hj
      rw [List.getElem?_take_of_lt (by omega)] at hu
      simpa using hu
    refine ⟨?_, ?_, by have := hmem.1; unfold maxLen; omega, by have := hmem.2; unfold maxLen; omega⟩
    · rw [Nat.zero_add]; exact cell _ _ k1
    · rw [Nat.zero_add]; exact cell _ _ k2
/-- What Read answers. -/
def ReadR (w' : World) (s : List Nat) (e : Ending) : Prop :=
  match rd s with
  | .more => e = .returned (.tuple #[.agg #[.string e0, .string e0, .string e0, .slice none 0 0], .int .i64 0, .int .i64 50])
  | .long => e = .returned (.tuple #[.agg #[.string e0, .string e0, .string e0, .slice none 0 0], .int .i64 0, .int .i64 51])
  | .form => e = .returned (.tuple #[.agg #[.string e0, .string e0, .string e0, .slice none 0 0], .int .i64 0, .int .i64 52])
  | .ok hd n => ∃ (h : HdV) (v : Value), h.hd = hd ∧ e = .returned (.tuple #[.agg #[.string h.a, .string h.b, .string h.c, v], .int .i64 (n : Nat), .int .i64 0]) ∧ h.Siz ∧ FieldsAt w' v h.fs
theorem ret_head3 {fn : Func} {p u x : Tmp} (h : fn.results = #[.cell p 25, .tmp u, .tmp x]) (tmps : Array Value) (w : World) (g : Nat) (t : TypeId) (cs : Array Value) (fr : Nat × Nat)
    (hp : tmps.getD p undef = .pointer (some ⟨g, 0, none⟩)) (hg : w.heap[g]? = some (.cells cs t fr)) (hs : cs.size = 4) :
    (results fn tmps).run Tryz.prog w = .ok (.tuple #[.agg cs, tmps.getD u undef, tmps.getD x undef]) w := by
  have hi : (Tryz.prog.info? 25).map (·.size) = some cs.size := by rw [hs]; kernel_rfl
  have hp' : tmps[p]?.getD undef = .pointer (some ⟨g, 0, none⟩) := by simpa using hp
  simp only [results, h]
  simp [Result.andThen, hp', asAddr, run_loadVar_row (P := Tryz.prog) w g t 25 cs fr _ hg Tryz.underlying25 rfl hi]

theorem zero_cells {w : World} {g : Nat} (h : w.heap[g]? = some (.cells #[.string { data := #[] }, .string { data := #[] }, .string { data := #[] }, .slice none 0 0] 25 (0, 0))) :
    (w.cell? ⟨g, 0, none⟩ = some (.string { data := #[] }) ∧ w.cell? ⟨g, 1, none⟩ = some (.string { data := #[] }) ∧ w.cell? ⟨g, 2, none⟩ = some (.string { data := #[] }) ∧ w.cell? ⟨g, 3, none⟩ = some (.slice none 0 0)) ∧
    (w.frozen? ⟨g, 0, none⟩ = false ∧ w.frozen? ⟨g, 1, none⟩ = false ∧ w.frozen? ⟨g, 2, none⟩ = false ∧ w.frozen? ⟨g, 3, none⟩ = false) :=
  ⟨⟨by rw [cell_of_row _ _ _ _ _ _ h]; rfl, by rw [cell_of_row _ _ _ _ _ _ h]; rfl, by rw [cell_of_row _ _ _ _ _ _ h]; rfl, by rw [cell_of_row _ _ _ _ _ _ h]; rfl⟩,
   ⟨frozen_of_row _ _ _ _ _ h, frozen_of_row _ _ _ _ _ h, frozen_of_row _ _ _ _ _ h, frozen_of_row _ _ _ _ _ h⟩⟩

set_option maxHeartbeats 2000000 in
set_option maxRecDepth 100000 in
theorem read_any (s : List Nat) (v : Value) (W : World) (hg : Globs W) (hv : SrcS W v s) (hs : Small 256 s) (hL : s.length ≤ 100000) :
    Calls Tryz.prog 33 #[v] W fun e w' => Sl (ReadR w' s e) ∧ Sl (Below W.heap.size W w') := by
  have HG := Sl.mk hg
  have HV := Sl.mk hv
  have HSM := Sl.mk hs
  have HLN : Sl (∀ V : World, Below W.heap.size W V → Calls Tryz.prog 63 #[v] V fun e w' => e = .returned (.tuple #[.int .i64 (lenR s).1, .int .i64 ((lenR s).2 : Nat)]) ∧ Sl (Below V.heap.size V w')) := ⟨fun V hb => length_any s v V (hg.of hb) (hv.below hb) hs hL⟩
  have HLR : Sl (lenR s = match fnd (s.take 2048) with | some n => (((n + 4 : Nat) : Int), 0) | none => if s.length < 2048 then (0, 50) else (0, 51)) := ⟨rfl⟩
  cases hf : fnd (s.take 2048) with
  | none =>
    rw [hf] at HLR
    simp only at HLR
    obtain ⟨E, hE, hR⟩ : ∃ E : Nat, lenR s = (0, E) ∧ ((E = 50 ∧ rd s = .more) ∨ (E = 51 ∧ rd s = .long)) := by
      rw [HLR.out, rd_none' hf]
      by_cases h1 : s.length < 2048
      · rw [if_pos h1, if_pos h1]; exact ⟨50, rfl, Or.inl ⟨rfl, rfl⟩⟩
      · rw [if_neg h1, if_neg h1]; exact ⟨51, rfl, Or.inr ⟨rfl, rfl⟩⟩
    have HRR := Sl.mk hR
    rw [hE] at HLN
    have hE1 : ((E : Int) == 0) = false := by simp; omega
    clear hf hE hR hg hv hs hL
    go_enter Tryz.func33, Tryz.ntmps33
    go_wp2_with fail
    refine (HLN.out _ ((Below.refl _ _).alloc (Nat.le_refl _) _)).mono ?_
    rintro e w2 ⟨rfl, HB2⟩
    have HB3 : Sl (Below W.heap.size W w2) := ⟨below_trans ((Below.refl _ _).alloc (Nat.le_refl _) _) HB2.out⟩
    have HR4 : Sl (w2.heap[W.heap.size]? = some (.cells #[.string { data := #[] }, .string { data := #[] }, .string { data := #[] }, .slice none 0 0] 25 (0, 0))) := ⟨by
      rw [HB2.out.block _ (by rw [alloc_size]; omega)]; exact alloc_new _ _ _ rfl⟩
    obtain ⟨⟨d0, d1, d2, d3⟩, ⟨f0, f1, f2, f3⟩⟩ := zero_cells HR4.out
    clear HB2 HLN
    go_wp2
    refine bodyPost_ret (ret_head3 rfl _ _ W.heap.size 25 _ (0, 0) rfl (four_cells w2 _ _ _ _ _ _ _ _ _ HR4.out) rfl) rfl ?_
    refine ⟨⟨?_⟩, ⟨(((HB3.out.setCell (Nat.le_refl _) _).setCell (Nat.le_refl _) _).setCell (Nat.le_refl _) _).setCell (Nat.le_refl _) _⟩⟩
    unfold ReadR
    rcases HRR.out with ⟨rfl, hr⟩ | ⟨rfl, hr⟩
    · rw [hr]; rfl
    · rw [hr]; rfl
  | some n =>
    rw [hf] at HLR
    simp only at HLR
    have hrd := rd_some' hf
    have hfl := (fnd_length hf).1
    rw [List.length_take] at hfl
    obtain ⟨t, ht⟩ : ∃ t, strOf (s.take n) = t := ⟨_, rfl⟩
    have hbt : bytes t = s.take n := by rw [← ht]; exact bytes_strOf _ (hs.take n)
    have hts : t.size = n := by rw [← ht, strOf_size, List.length_take]; omega
    have HLI : Sl (∀ V : World, Below W.heap.size W V → Calls Tryz.prog 64 #[.string t] V fun e w' => Sl (Below V.heap.size V w') ∧ Sl (LinesR V w' (lines (s.take n ++ [13, 10])) e)) := ⟨fun V hb => by
      have := lines_any t V (hg.of hb) (by omega)
      rw [hbt] at this
      exact this⟩
    have HRD := Sl.mk hrd
    have HNN : Sl (n + 4 ≤ s.length ∧ n + 4 ≤ 2048) := ⟨by omega⟩
    obtain ⟨cap, sb, so, rfl, hcap, hcell⟩ := hv
    have HCV : Sl (∀ V : World, Below W.heap.size W V → (convert 53 9 (.slice (some ⟨sb, so, none⟩) n cap)).run Tryz.prog V = .ok (.string t) V) := ⟨fun V hb => by
      rw [← ht]
      refine run_convert_bytes_arg _ 53 5 Tryz.underlying53 Tryz.underlying5 sb so n cap ((s.take n).map fun (n : Nat) => (n : Int)) (by rw [List.length_map, List.length_take]; omega) (fun i hi => ?_) 9 Tryz.underlying9
      have hi' : i < n := hi
      have h1 := hcell i (by omega)
      rw [hb.cell (p := ⟨sb, so + i, none⟩) (block_lt_of_cell h1), h1]
      congr 2
      have hi2 : i < s.length := by omega
      simp only [List.getD_eq_getElem?_getD, List.getElem?_map]
      rw [List.getElem?_take_of_lt hi', List.getElem?_eq_getElem hi2]
      rfl⟩
    rw [HLR.out] at HLN
    obtain ⟨L, hl⟩ : ∃ L, s.length = L := ⟨_, rfl⟩
    rw [hl] at HNN hcap HLN hL
    have hn1 := HNN.out.1
    have hn2 := HNN.out.2
    rw [hl]
    clear hf hg hs hrd hfl ht hbt hts hcell hl
    go_enter Tryz.func33, Tryz.ntmps33
    go_wp2_with fail
    refine (HLN.out _ ((Below.refl _ _).alloc (Nat.le_refl _) _)).mono ?_
    rintro e w2 ⟨rfl, HB2⟩
    have HB3 : Sl (Below W.heap.size W w2) := ⟨below_trans ((Below.refl _ _).alloc (Nat.le_refl _) _) HB2.out⟩
    have HR2 : Sl (w2.heap[W.heap.size]? = some (.cells #[.string { data := #[] }, .string { data := #[] }, .string { data := #[] }, .slice none 0 0] 25 (0, 0))) := ⟨by
      rw [HB2.out.block _ (by rw [alloc_size]; omega)]; exact alloc_new _ _ _ rfl⟩
    have hcv := HCV.out w2 HB3.out
    have hw1 : ((((n + 4 : Nat) : Int)) - 4) = (n : Int) := by omega
    clear HB2 HLN
    go_wp2_with fail
    refine (HLI.out _ HB3.out).mono ?_
    rintro e w3 ⟨HB4, HLS⟩
    have HB5 : Sl (Below W.heap.size W w3) := ⟨below_trans HB3.out HB4.out⟩
    have HR3 : Sl (w3.heap[W.heap.size]? = some (.cells #[.string { data := #[] }, .string { data := #[] }, .string { data := #[] }, .slice none 0 0] 25 (0, 0))) := ⟨by
      rw [HB4.out.block _ (lt_of_block HR2.out)]; exact HR2.out⟩
    have HRL : Sl (W.heap.size < w2.heap.size) := ⟨lt_of_block HR2.out⟩
    clear HR2 HB3 HCV hcv HLI
    rcases HLS.out with ⟨hO, rfl⟩ | ⟨h, v, hO, rfl, hSz, hOw, hFl⟩
    · have HRR : Sl (rd s = .form) := ⟨by rw [HRD.out, hO]⟩
      have HR4 : Sl ((w3.alloc (.cells #[.string e0, .string e0, .string e0, .slice none 0 0] 25)).heap[W.heap.size]? = some (.cells #[.string { data := #[] }, .string { data := #[] }, .string { data := #[] }, .slice none 0 0] 25 (0, 0))) := ⟨by
        rw [alloc_old _ _ _ (lt_of_block HR3.out)]; exact HR3.out⟩
      obtain ⟨⟨d0, d1, d2, d3⟩, ⟨f0, f1, f2, f3⟩⟩ := zero_cells HR4.out
      have HB6 : Sl (Below W.heap.size W (w3.alloc (.cells #[.string e0, .string e0, .string e0, .slice none 0 0] 25))) := ⟨HB5.out.alloc HB5.out.size _⟩
      clear HLS hO HR3
      go_wp2
      refine bodyPost_ret (ret_head3 rfl _ _ W.heap.size 25 _ (0, 0) rfl (four_cells _ _ _ _ _ _ _ _ _ _ HR4.out) rfl) rfl ?_
      refine ⟨⟨?_⟩, ⟨(((HB6.out.setCell (Nat.le_refl _) _).setCell (Nat.le_refl _) _).setCell (Nat.le_refl _) _).setCell (Nat.le_refl _) _⟩⟩
      unfold ReadR
      rw [HRR.out]; rfl
    · obtain ⟨av, nv, cv, hvv, hnv⟩ : ∃ a n c, v = .slice a n c ∧ n = h.fs.length := by
        obtain ⟨_, h2⟩ := hOw
        rcases h2 with ⟨rfl, hz⟩ | ⟨g, cap, cur, rfl, _⟩
        · exact ⟨_, _, _, rfl, hz.symm⟩
        · exact ⟨_, _, _, rfl, rfl⟩
      subst hvv
      subst hnv
      have HR4 : Sl ((w3.alloc (.cells #[.string h.a, .string h.b, .string h.c, .slice av h.fs.length cv] 25)).heap[W.heap.size]? = some (.cells #[.string { data := #[] }, .string { data := #[] }, .string { data := #[] }, .slice none 0 0] 25 (0, 0))) := ⟨by
        rw [alloc_old _ _ _ (lt_of_block HR3.out)]; exact HR3.out⟩
      obtain ⟨⟨d0, d1, d2, d3⟩, ⟨f0, f1, f2, f3⟩⟩ := zero_cells HR4.out
      have HB6 : Sl (Below W.heap.size W (w3.alloc (.cells #[.string h.a, .string h.b, .string h.c, .slice av h.fs.length cv] 25))) := ⟨HB5.out.alloc HB5.out.size _⟩
      have HOW := Sl.mk hOw
      have HOL : Sl ((Value.slice av h.fs.length cv).ownBlock ≠ some W.heap.size) := ⟨fun e => by
        have h1 := (hOw.lt _ e).1
        have h2 := HRL.out
        omega⟩
      have HSz := Sl.mk hSz
      have HFl := Sl.mk hFl
      clear HLS hOw hSz hFl HR3
      by_cases h32 : 32 < h.fs.length
      · have h32' : (h.fs.length : Int) > 32 := by omega
        have HRR : Sl (rd s = .long) := ⟨by
          rw [HRD.out, hO]
          have e : h.hd.fs.length = h.fs.length := List.length_map _
          simp only [e]
          rw [if_pos h32]⟩
        clear hO
        go_wp2
        refine bodyPost_ret (ret_head3 rfl _ _ W.heap.size 25 _ (0, 0) rfl (four_cells _ _ _ _ _ _ _ _ _ _ HR4.out) rfl) rfl ?_
        refine ⟨⟨?_⟩, ⟨(((HB6.out.setCell (Nat.le_refl _) _).setCell (Nat.le_refl _) _).setCell (Nat.le_refl _) _).setCell (Nat.le_refl _) _⟩⟩
        unfold ReadR
        rw [HRR.out]; rfl
      · have h32' : ((h.fs.length : Int) > 32) = False := eq_false (by omega)
        have HRR : Sl (rd s = .ok h.hd (n + 4)) := ⟨by
          rw [HRD.out, hO]
          have e : h.hd.fs.length = h.fs.length := List.length_map _
          simp only [e]
          rw [if_neg h32]⟩
        clear hO
        go_wp2
        refine bodyPost_ret (ret_head3 rfl _ _ W.heap.size 25 _ (0, 0) rfl (four_cells _ _ _ _ _ _ _ _ _ _ HR4.out) rfl) rfl ?_
        refine ⟨⟨?_⟩, ⟨(((HB6.out.setCell (Nat.le_refl _) _).setCell (Nat.le_refl _) _).setCell (Nat.le_refl _) _).setCell (Nat.le_refl _) _⟩⟩
        unfold ReadR
        rw [HRR.out]
        refine ⟨h, _, rfl, rfl, HSz.out, ?_⟩
        exact fieldsAt_owns (ownsRow_setCell_other (ownsRow_setCell_other (ownsRow_setCell_other (ownsRow_setCell_other (HOW.out.alloc _) HOL.out _) HOL.out _) HOL.out _) HOL.out _) HSz.out.f HFl.out
end Go.Proofs.YthlagngpllahkaaGreatDoor
