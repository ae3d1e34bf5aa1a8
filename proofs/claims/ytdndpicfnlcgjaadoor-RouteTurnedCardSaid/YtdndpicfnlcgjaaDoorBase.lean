/- What all texts of this seat use: facts that the walk does not see, rows of bytes, strings by their bytes, worlds that grow, copy, rows made new, regions that draw their order. -/
import Derived.Test.YtdndpicfnlcgjaaDoorRows
import Derived.WalkKit
import Derived.WalkSpells
import Derived.WalkLawsBesides
import Derived.Deep.WholeRow
import Derived.Deep.MidRow
import Derived.Deep.QuietTactic
import Derived.BigQuiet
import Derived.BigRegion
import Derived.Lib.Hide
import Derived.StillTailTactics
import Derived.Laws.BitsAllLaws
import Derived.IntWalk
import Derived.Laws.CopyOwn
import Derived.Laws.IdiomStrings
import Derived.Laws.BytesArg
import Derived.Lib.SlBytesConst
import Derived.Deep.RegionHeld3
namespace Go.Proofs.YtdndpicfnlcgjaaDoor
open Go.RowKit

/-- A fact that the walk does not see. -/
structure Sl (p : Prop) : Prop where
  out : p

/-- A row of bytes as cells. -/
def v8 (n : Nat) : Value := .int .u8 (n : Int)
def u8s (l : List Nat) : List Value := l.map v8
@[simp] theorem u8s_length (l : List Nat) : (u8s l).length = l.length := by simp [u8s]
theorem u8s_get (l : List Nat) (i : Nat) (h : i < l.length) : (u8s l)[i]? = some (.int .u8 ((l.getD i 0 : Nat) : Int)) := by
  simp [u8s, v8, List.getElem?_eq_getElem h]
theorem u8s_one (l : List Nat) : ∀ v ∈ u8s l, v.oneCell' = true := by
  intro v hv; simp [u8s, v8] at hv; obtain ⟨n, _, rfl⟩ := hv; rfl
theorem u8s_append (a b : List Nat) : u8s (a ++ b) = u8s a ++ u8s b := by simp [u8s]

/-- Each number of a row is below b. -/
def Small (b : Nat) (l : List Nat) : Prop := ∀ x ∈ l, x < b
theorem Small.append {b : Nat} {l m : List Nat} (h : Small b l) (k : Small b m) : Small b (l ++ m) := fun x hx => by
  rcases List.mem_append.1 hx with hx | hx
  · exact h x hx
  · exact k x hx
theorem Small.take {b : Nat} {l : List Nat} (h : Small b l) (n : Nat) : Small b (l.take n) := fun x hx => h x (List.mem_of_mem_take hx)
theorem Small.drop {b : Nat} {l : List Nat} (h : Small b l) (n : Nat) : Small b (l.drop n) := fun x hx => h x (List.mem_of_mem_drop hx)
theorem Small.getD {b : Nat} {l : List Nat} (h : Small b l) (hb : 0 < b) (i : Nat) : l.getD i 0 < b := by
  by_cases hi : i < l.length
  · simpa [List.getD, List.getElem?_eq_getElem hi] using h _ (List.getElem_mem hi)
  · simpa [List.getD, List.getElem?_eq_none (Nat.le_of_not_lt hi)] using hb

theorem alloc_new (w : World) (o : Obj) (k : Nat) (h : k = w.heap.size) : (w.alloc o).heap[k]? = some o := by
  subst h; show (w.heap.push o)[w.heap.size]? = _; simp
theorem alloc_size (w : World) (o : Obj) : (w.alloc o).heap.size = w.heap.size + 1 := by show (w.heap.push o).size = _; simp
theorem ret_bool {a b : Bool} (h : a = b) : Ending.returned (.bool a) = .returned (.bool b) := by rw [h]
theorem ret_int {k : IntKind} {a b : Int} (h : a = b) : Ending.returned (.int k a) = .returned (.int k b) := by rw [h]

theorem alloc_old (w : World) (o : Obj) (k : Nat) (h : k < w.heap.size) : (w.alloc o).heap[k]? = w.heap[k]? := Below.heap_alloc w o k h
/-- A string's bytes. -/
def bytes (s : ByteArray) : List Nat := s.data.toList.map (·.toNat)
theorem bytes_length (s : ByteArray) : (bytes s).length = s.size := by unfold bytes; rw [List.length_map, Array.length_toList]; rfl
theorem bytes_small (s : ByteArray) : Small 256 (bytes s) := fun x hx => by
  simp only [bytes, List.mem_map] at hx
  obtain ⟨b, _, rfl⟩ := hx
  exact b.toNat_lt
theorem bytes_append (a b : ByteArray) : bytes (a ++ b) = bytes a ++ bytes b := by simp [bytes]
theorem bytes_getD (s : ByteArray) (i : Nat) (hi : i < s.size) : (bytes s).getD i 0 = (s.data[i]'hi).toNat := by
  have hi' : i < s.data.size := hi
  simp only [bytes, List.getD, List.getElem?_map, Array.getElem?_toList, Array.getElem?_eq_getElem hi']
  rfl
theorem bytes_inj {a b : ByteArray} (h : bytes a = bytes b) : a = b := by
  unfold bytes at h
  have h2 : a.data.toList = b.data.toList := by
    have := (List.map_inj_right (fun x y (e : UInt8.toNat x = UInt8.toNat y) => UInt8.toNat_inj.1 e)).1 h
    exact this
  cases a; cases b
  simp at h2
  simp [h2]
theorem bytes_extract (s : ByteArray) (i j : Nat) : bytes (s.extract i j) = ((bytes s).take j).drop i := by
  unfold bytes
  rw [ByteArray.data_extract, Array.toList_extract, List.extract_eq_take_drop, ← List.map_take, ← List.map_drop]
  congr 1
  rw [List.drop_take]

theorem toList_bytes (x : ByteArray) : bytes x = x.toList.map (·.toNat) := by rw [ByteArray.toList_eq]; rfl
theorem toNat_inj_map {a b : List UInt8} (h : a.map (·.toNat) = b.map (·.toNat)) : a = b := (List.map_inj_right (fun x y (e : UInt8.toNat x = UInt8.toNat y) => UInt8.toNat_inj.1 e)).1 h
/-- Strings are compared by their bytes. -/
theorem beq_bytes (a : ByteArray) (l : List UInt8) : (a.toList == l) = decide (bytes a = l.map (·.toNat)) := by
  rw [Bool.eq_iff_iff, toList_bytes]
  simp only [beq_iff_eq, decide_eq_true_eq]
  exact ⟨fun h => by rw [h], toNat_inj_map⟩
theorem beq_bytes2 (a b : ByteArray) : (a.toList == b.toList) = decide (bytes a = bytes b) := by rw [beq_bytes, ← toList_bytes]
/-- Bytes as a string. -/
def strOf (l : List Nat) : ByteArray := strOfNums (l.map fun (n : Nat) => (n : Int))
theorem strOf_size (l : List Nat) : (strOf l).size = l.length := by unfold strOf; rw [strOfNums_size]; simp
theorem bytes_strOf (l : List Nat) (h : Small 256 l) : bytes (strOf l) = l := by
  unfold bytes strOf
  rw [strOfNums_data, List.map_map, List.map_map]
  conv => rhs; rw [← List.map_id l]
  refine List.map_congr_left (fun x hx => ?_)
  have := h x hx
  simp only [Function.comp_def, Int.toNat_natCast, id]
  exact UInt8.toNat_ofNat_of_lt' this
theorem strOf_bytes (s : ByteArray) : strOf (bytes s) = s := bytes_inj (bytes_strOf _ (bytes_small s))
/-- The bytes bs lie behind the slice v. -/
def SrcAt (w : World) (v : Value) (bs : List Nat) : Prop :=
  ∃ (a : Option Addr) (cap sb so : Nat), v = .slice a bs.length cap ∧ bs.length ≤ cap ∧ (0 < bs.length → a = some ⟨sb, so, none⟩) ∧
    ∀ i, i < bs.length → w.cell? ⟨sb, so + i, none⟩ = some (.int .u8 ((bs.getD i 0 : Nat) : Int))

/-- A slice that is the whole of a new block. -/
theorem src_new (w : World) (bs : List Nat) (vs : Array Value) (t : TypeId) (fr : Nat × Nat) (h : vs = (u8s bs).toArray) : SrcAt (w.alloc (.cells vs t fr)) (.slice (some ⟨w.heap.size, 0, none⟩) bs.length bs.length) bs :=
  ⟨_, _, w.heap.size, 0, rfl, Nat.le_refl _, fun _ => rfl, fun i hi => by
    rw [Nat.zero_add, cell_of_row _ _ _ _ _ _ (alloc_new _ _ _ rfl), h, List.getElem?_toArray]; exact u8s_get bs i hi⟩
/-- The bytes of a string, made new. -/
theorem conv_str (s : ByteArray) (W : World) : ∃ cap w', (convert 9 77 (.string s)).run Tryd.prog W = .ok (.slice (some ⟨W.heap.size, 0, none⟩) s.size cap) w' ∧
    Sl (SrcAt w' (.slice (some ⟨W.heap.size, 0, none⟩) s.size cap) (bytes s)) ∧ Sl (Below W.heap.size W w') := by
  refine ⟨_, _, run_bytes_of_string (P := Tryd.prog) W 9 77 5 s Tryd.underlying9 Tryd.underlying77 Tryd.underlying5, ⟨?_⟩, ⟨((Below.refl _ _).drew).alloc (Nat.le_refl _) _⟩⟩
  refine ⟨some ⟨W.heap.size, 0, none⟩, _, W.heap.size, 0, by rw [bytes_length], by rw [bytes_length]; exact grownCap_ge _ _ _ _, fun _ => rfl, fun i hi => ?_⟩
  rw [bytes_length] at hi
  rw [Nat.zero_add]
  have h := World.cell?_alloc_mark W.drew (bytesRow s (grownCap W s.size 0 5)) 5 ((bytesRow s (grownCap W s.size 0 5)).size, (bytesRow s (grownCap W s.size 0 5)).size + 1) i
  rw [show W.drew.heap.size = W.heap.size from rfl] at h
  rw [h, bytesRow_at s _ i hi, bytes_getD s i hi]
theorem grown_below {w w' : World} (h : Below w.heap.size w w') (r : Option Nat) : w.grownBy w' r := ⟨h.os, h.tape, h.output, h.size, fun k hk _ => h.block k hk⟩
theorem own_below {w w' : World} {base : Nat} {e : TypeId} {size : Nat} {v : Value} {n : Nat} {xs : List Value} (h : w.ownsRow base e size v n xs) (hb : Below w.heap.size w w') : w'.ownsRow base e size v n xs :=
  h.kept (grown_below hb none) (by cases h2 : v.ownBlock with | none => exact .inl rfl | some k => exact .inr (fun e => by cases e))
theorem below_grown {base : Nat} {w0 W w' : World} {v : Value} {e : TypeId} {n : Nat} {xs : List Value} (hb : Below base w0 W) (hown : W.ownsRow base e 1 v n xs) (hg : W.grownBy w' v.ownBlock) (hbase : base ≤ W.heap.size) : Below base w0 w' :=
  hb.grown hg hbase (fun k hk => (hown.lt k hk).1)
theorem range_setRow (w : World) {g : Nat} {old : Array Value} {t : TypeId} {fr : Nat × Nat} (l : List Value) (h : w.heap[g]? = some (.cells old t fr)) : (w.setRow g l.toArray).rangeAt g 0 l := fun j v hv => by
  rw [Nat.zero_add, cell_of_row _ _ _ _ _ _ (setRow_heap _ _ _ _ _ _ h)]
  simpa using hv
theorem grown_refl (w : World) (r : Option Nat) : w.grownBy w r := ⟨rfl, rfl, rfl, Nat.le_refl _, fun _ _ _ => rfl⟩
theorem grown_trans {a b c : World} {r : Option Nat} (h : a.grownBy b r) (k : b.grownBy c r) : a.grownBy c r :=
  ⟨k.os.trans h.os, k.tape.trans h.tape, k.output.trans h.output, Nat.le_trans h.size k.size, fun i hi hr => (k.block i (Nat.lt_of_lt_of_le hi h.size) hr).trans (h.block i hi hr)⟩
theorem grown_setCell (w : World) (b i : Nat) (v : Value) : w.grownBy (w.setCell ⟨b, i, none⟩ v) (some b) :=
  ⟨rfl, rfl, rfl, by simp [World.setCell], fun k _ hr => heap_setCell_other _ _ _ _ (fun e => hr (by rw [e]))⟩
theorem grown_setCells (b : Nat) : ∀ (vs : List Value) (o : Nat) (w : World), w.grownBy (w.setCells b o vs) (some b)
  | [], _, w => grown_refl w _
  | v :: r, o, w => by rw [World.setCells]; exact grown_trans (grown_setCell w b o v) (grown_setCells b r (o + 1) _)
/-- The row l with c in place of its cells from i on. -/
def splice (l : List Nat) (i : Nat) (c : List Nat) : List Nat := l.take i ++ c ++ l.drop (i + c.length)
theorem splice_length (l c : List Nat) (i : Nat) (h : i + c.length ≤ l.length) : (splice l i c).length = l.length := by
  simp only [splice, List.length_append, List.length_take, List.length_drop]; omega
theorem splice_get (l c : List Nat) (i k : Nat) (h : i + c.length ≤ l.length) : (splice l i c).getD k 0 = if i ≤ k ∧ k < i + c.length then c.getD (k - i) 0 else l.getD k 0 := by
  unfold splice
  have hl : (l.take i).length = i := by rw [List.length_take]; omega
  simp only [List.getD_eq_getElem?_getD]
  by_cases h1 : k < i
  · rw [if_neg (by omega), List.append_assoc, List.getElem?_append_left (by omega), List.getElem?_take, if_pos h1]
  · by_cases h2 : k < i + c.length
    · rw [if_pos ⟨by omega, h2⟩, List.append_assoc, List.getElem?_append_right (by omega), List.getElem?_append_left (by omega), hl]
    · rw [if_neg (by omega), List.getElem?_append_right (by rw [List.length_append]; omega), List.getElem?_drop, List.length_append, hl]
      congr 2; omega
theorem ext_getD {a b : List Nat} (hl : a.length = b.length) (h : ∀ i, i < a.length → a.getD i 0 = b.getD i 0) : a = b := by
  apply List.ext_getElem hl
  intro i h1 h2
  have := h i h1
  simpa [List.getD_eq_getElem?_getD, List.getElem?_eq_getElem h1, List.getElem?_eq_getElem h2] using this
theorem getD_append_left' {a b : List Nat} {i : Nat} (h : i < a.length) : (a ++ b).getD i 0 = a.getD i 0 := by
  simp only [List.getD_eq_getElem?_getD]; rw [List.getElem?_append_left h]
theorem getD_append_right' {a b : List Nat} {i : Nat} (h : a.length ≤ i) : (a ++ b).getD i 0 = b.getD (i - a.length) 0 := by
  simp only [List.getD_eq_getElem?_getD]; rw [List.getElem?_append_right h]
section
variable {P : Program} {md : Region.Mode} {ops : Array Oper} {Q : Exit → Act → World → Prop} {S : World → Prop}

/-- What an operation is, without its place and its edges. -/
def opIsG (ops : Array Oper) (i : Nat) (d : Option Tmp) (op : Op) (g : Option (Nat × Bool)) : Prop := (ops[i]?).map (fun o => (o.dst, o.op, o.guard)) = some (d, op, g)
theorem op_ofG {i : Nat} {d : Option Tmp} {op : Op} {g : Option (Nat × Bool)} (h : opIsG ops i d op g) : ∃ o, ops[i]? = some o ∧ o.dst = d ∧ o.op = op ∧ o.guard = g := by
  unfold opIsG at h
  cases ho : ops[i]? with
  | none => rw [ho] at h; cases h
  | some o =>
    rw [ho] at h
    simp only [Option.map_some, Option.some.injEq, Prod.mk.injEq] at h
    exact ⟨o, rfl, h.1, h.2.1, h.2.2⟩
/-- The guard lets the operation run. -/
def lets (ops : Array Oper) (a : Act) : Option (Nat × Bool) → Bool
  | none => true
  | some (j, want) => yielded ops a.tmps j == some want
theorem wanted_of {o : Oper} {a : Act} {g : Option (Nat × Bool)} (hg : o.guard = g) (h : lets ops a g = true) : Region.wanted o (yielded ops a.tmps) = true := by
  unfold Region.wanted
  rw [hg]
  cases g with
  | none => rfl
  | some p => exact h
theorem heldTake {fuel : Nat} {listed : Array Bool} {a : Act} {w : World} {d : Option Tmp} {op : Op} {g : Option (Nat × Bool)} (i : Nat) (v : Value) (hi : opIsG ops i d op g) (hw : lets ops a g = true)
    (hs : Region.noSelect ops = true) (hf : Region.free md ops listed i = true) (hr : (Region.ready md ops listed).contains i = true)
    (hy : ∀ o : Oper, o.op = op → ∀ w, S w → (execOp a.eval o).run P w = .ok (.value v) w) (hS : S w)
    (h : wpAnyH P md ops (NoPanic Q) S fuel (listed.setIfInBounds i true) (a.put d v) w) : wpAnyH P md ops (NoPanic Q) S (fuel + 1) listed a w := by
  obtain ⟨o, ho, hd, hop, hg⟩ := op_ofG hi
  refine wpAnyH_take ho hs hf hr (fun _ _ _ h => h) (Or.inl ⟨wanted_of hg hw, hy o hop⟩) hS ?_
  rw [hd]; exact h
/-- What every operation keeps may become more on the way. -/
theorem heldMore {S' : World → Prop} (hs : ∀ W, S' W → S W) : ∀ (fuel : Nat) (listed : Array Bool) (a : Act) (w : World), wpAnyH P md ops Q S' fuel listed a w → wpAnyH P md ops Q S fuel listed a w
  | 0, _, _, _, h => h
  | fuel + 1, listed, _, _, h => ⟨h.1, fun i hi => wpOp_mono (fun a w k => ⟨hs _ k.1, heldMore hs fuel (listed.setIfInBounds i true) a w k.2⟩) (h.2 i hi)⟩
/-- One that its guard passes over. -/
theorem heldSkip {fuel : Nat} {listed : Array Bool} {a : Act} {w : World} {d : Option Tmp} {op : Op} {g : Option (Nat × Bool)} (i : Nat) (hi : opIsG ops i d op g) (hw : lets ops a g = false)
    (hs : Region.noSelect ops = true) (hf : Region.free md ops listed i = true) (hr : (Region.ready md ops listed).contains i = true) (hS : S w)
    (h : wpAnyH P md ops (NoPanic Q) S fuel (listed.setIfInBounds i true) (a.put d undef) w) : wpAnyH P md ops (NoPanic Q) S (fuel + 1) listed a w := by
  obtain ⟨o, ho, hd, hop, hg⟩ := op_ofG hi
  have hwf : Region.wanted o (yielded ops a.tmps) = false := by
    unfold Region.wanted
    rw [hg]
    cases g with
    | none => cases hw
    | some p => exact hw
  refine wpAnyH_take ho hs hf hr (fun _ _ _ h => h) (Or.inr ⟨hwf, rfl⟩) hS ?_
  rw [hd]; exact h
theorem heldRun {fuel : Nat} {listed : Array Bool} {a : Act} {w : World} {d : Option Tmp} {op : Op} {g : Option (Nat × Bool)} (i : Nat) (v : Value) (w' : World) (hi : opIsG ops i d op g) (hw : lets ops a g = true)
    (hr : Region.ready md ops listed = [i]) (hy : ∀ o : Oper, o.op = op → (execOp a.eval o).run P w = .ok (.value v) w') (hS : S w')
    (h : wpAnyH P md ops Q S fuel (listed.setIfInBounds i true) (a.put d v) w') : wpAnyH P md ops Q S (fuel + 1) listed a w := by
  obtain ⟨o, ho, hd, hop, hg⟩ := op_ofG hi
  refine wpAnyH_all hr (by simp) (fun k hk => ?_)
  rw [List.mem_singleton] at hk
  subst hk
  refine wpOp_step ho (fun K hK => ?_)
  rw [if_pos (wanted_of hg hw)]
  unfold Oper.wp
  rw [hy o hop, Oper.upon_value, hd]
  exact hK _ _ ⟨hS, h⟩
theorem heldCall {fuel : Nat} {listed : Array Bool} {a : Act} {w : World} {d : Option Tmp} {op : Op} {g : Option (Nat × Bool)} (i : Nat) (f : FuncId) (args : Array Value) (hi : opIsG ops i d op g) (hw : lets ops a g = true)
    (hr : Region.ready md ops listed = [i]) (hy : ∀ o : Oper, o.op = op → (execOp a.eval o).run P w = .ok (.enter f args) w)
    (h : Calls P f args w fun e w' => ∃ v, e = .returned v ∧ S w' ∧ wpAnyH P md ops Q S fuel (listed.setIfInBounds i true) (a.put d v) w') : wpAnyH P md ops Q S (fuel + 1) listed a w := by
  obtain ⟨o, ho, hd, hop, hg⟩ := op_ofG hi
  refine wpAnyH_all hr (by simp) (fun k hk => ?_)
  rw [List.mem_singleton] at hk
  subst hk
  refine wpOp_step ho (fun K hK => ?_)
  rw [if_pos (wanted_of hg hw)]
  unfold Oper.wp
  rw [hy o hop, Oper.upon_enter]
  refine h.mono ?_
  rintro e w' ⟨v, rfl, hS, h'⟩
  rw [hd]
  exact hK _ _ ⟨hS, h'⟩
/-- A call and an operation that makes memory, neither of which waits for the other: in either order. -/
theorem heldBoth {fuel : Nat} {listed : Array Bool} {a : Act} {w : World} {di dj : Nat} {opi opj : Op} {gi gj : Option (Nat × Bool)} (i j : Nat) (f : FuncId) (args : Array Value) (vi : Value) (T : Value → World → Prop)
    (hi : opIsG ops i (some di) opi gi) (hj : opIsG ops j (some dj) opj gj) (hwi : lets ops a gi = true) (hwi' : ∀ v, lets ops (a.put (some dj) v) gi = true) (hwj : lets ops a gj = true) (hwj' : lets ops (a.put (some di) vi) gj = true)
    (hne : di ≠ dj) (hij : i ≠ j) (hr : Region.ready md ops listed = [i, j]) (hri : Region.ready md ops (listed.setIfInBounds i true) = [j]) (hrj : Region.ready md ops (listed.setIfInBounds j true) = [i])
    (yi : ∀ o : Oper, o.op = opi → ∀ W, (execOp a.eval o).run P W = .ok (.enter f args) W) (yi' : ∀ v, ∀ o : Oper, o.op = opi → ∀ W, (execOp (a.put (some dj) v).eval o).run P W = .ok (.enter f args) W)
    (keepS : ∀ W w', S W → Below W.heap.size W w' → S w') (keepT : ∀ v W w', T v W → Below W.heap.size W w' → T v w')
    (ci : ∀ W, S W → Calls P f args W fun e w' => e = .returned vi ∧ Below W.heap.size W w')
    (yj : ∀ W, ∃ v w', (∀ o : Oper, o.op = opj → (execOp a.eval o).run P W = .ok (.value v) w') ∧ (∀ o : Oper, o.op = opj → (execOp (a.put (some di) vi).eval o).run P W = .ok (.value v) w') ∧ Below W.heap.size W w' ∧ T v w')
    (hS : S w) (tail : ∀ v W, S W → T v W → wpAnyH P md ops Q S fuel ((listed.setIfInBounds i true).setIfInBounds j true) ((a.put (some di) vi).put (some dj) v) W) :
    wpAnyH P md ops Q S (fuel + 2) listed a w := by
  refine wpAnyH_all hr (by simp) (fun k hk => ?_)
  simp only [List.mem_cons, List.not_mem_nil, or_false] at hk
  rcases hk with rfl | rfl
  · obtain ⟨o, ho, hd, hop, hg⟩ := op_ofG hi
    refine wpOp_step ho (fun K hK => ?_)
    rw [if_pos (wanted_of hg hwi)]
    unfold Oper.wp
    rw [yi o hop, Oper.upon_enter]
    refine (ci w hS).mono ?_
    rintro e w1 ⟨rfl, hb1⟩
    rw [hd]
    have hS1 := keepS _ _ hS hb1
    refine hK _ _ ⟨hS1, ?_⟩
    obtain ⟨v, w2, _, y2, hb2, hT⟩ := yj w1
    exact heldRun j v w2 hj hwj' hri y2 (keepS _ _ hS1 hb2) (tail v w2 (keepS _ _ hS1 hb2) hT)
  · obtain ⟨v, w1, y1, _, hb1, hT⟩ := yj w
    obtain ⟨o, ho, hd, hop, hg⟩ := op_ofG hj
    refine wpOp_step ho (fun K hK => ?_)
    rw [if_pos (wanted_of hg hwj)]
    unfold Oper.wp
    rw [y1 o hop, Oper.upon_value, hd]
    have hS1 := keepS _ _ hS hb1
    refine hK _ _ ⟨hS1, ?_⟩
    refine heldCall i f args hi (hwi' v) hrj (fun o ho => yi' v o ho w1) ?_
    refine (ci w1 hS1).mono ?_
    rintro e w2 ⟨rfl, hb2⟩
    refine ⟨_, rfl, keepS _ _ hS1 hb2, ?_⟩
    have ht := tail v w2 (keepS _ _ hS1 hb2) (keepT _ _ _ hT hb2)
    rw [Array.setIfInBounds_comm _ _ hij, Act.put_comm a vi v (by simpa using Ne.symm hne)] at ht
    exact ht
end
theorem u8s_splice (l c : List Nat) (i : Nat) : Go.splice (u8s l) i (u8s c) = u8s (splice l i c) := by
  simp [Go.splice, splice, u8s]
theorem grown_setRow (w : World) (g : Nat) (cs : Array Value) : w.grownBy (w.setRow g cs) (some g) :=
  ⟨rfl, rfl, rfl, by simp [World.setRow], fun k _ hr => setRow_other w g k cs (fun e => hr (by rw [e]))⟩
section
variable {P : Program} {w : World} {ops : Array Oper} {rest : List Oper} {o : Oper} {a : Act} {Q : Exit → Act → World → Prop}
/-- Bytes are copied into a row of bytes: k of them, cs, to the place off. -/
theorem copy_into (hgd : o.guard = none) (d s : Operand) (dT sT : TypeId)
    (ho : o.op = .call { callee := .builtin .copy, args := #[d, s], argTypes := #[dT, sT] }) (elem : TypeId) (hu : P.underlying dT = some (.slice elem)) (hsz : (P.info? elem).map (·.size) = some 1)
    (dp sp : Option Addr) (dLen dCap sLen sCap : Nat) (hd : a.eval d = .slice dp dLen dCap) (hs : a.eval s = .slice sp sLen sCap)
    (g off k : Nat) (cur cs : List Nat) (t : TypeId) (hg : w.heap[g]? = some (.cells (u8s cur).toArray t (0, 0))) (hk : k = cs.length) (hn : cs.length = min sLen dLen)
    (hpos : 0 < cs.length → dp = some ⟨g, off, none⟩ ∧ ∃ sb so, sp = some ⟨sb, so, none⟩ ∧ ∀ j, j < cs.length → w.cell? ⟨sb, so + j, none⟩ = some (.int .u8 ((cs.getD j 0 : Nat) : Int)))
    (hfit : off + cs.length ≤ cur.length)
    (h : ∀ w', Sl (w'.heap[g]? = some (.cells (u8s (splice cur off cs)).toArray t (0, 0))) → Sl (w.grownBy w' (some g)) → wpList P ops Q rest (a.put o.dst (goInt k)) w') :
    wpList P ops Q (o :: rest) a w := by
  subst hk
  by_cases h0 : cs.length = 0
  · obtain rfl : cs = [] := List.eq_nil_of_length_eq_zero h0
    refine wpList_copy_nothing hgd d s dT sT ho elem hu hsz dp sp dLen dCap sLen sCap hd hs (by simpa using hn.symm) ?_
    exact h w ⟨by simpa [splice] using hg⟩ ⟨grown_refl _ _⟩
  · obtain ⟨rfl, sb, so, rfl, hsrc⟩ := hpos (by omega)
    have hl : (u8s cs).length = cs.length := u8s_length _
    refine wpList_copy_own hgd d s dT sT ho elem hu hsz g off dLen dCap _ sLen sCap hd hs (u8s cur).toArray t hg (u8s cs) (by rw [hl, hn]) (fun j v hv => ?_) (by simpa using hfit) (u8s_one cs) ?_
    · have hj : j < cs.length := by have := (List.getElem?_eq_some_iff.1 hv).1; rwa [hl] at this
      rw [u8s_get _ _ hj] at hv
      injection hv with hv
      subst hv
      rw [Addr.add_mid]
      exact hsrc j hj
    · rw [hl]
      refine h _ ⟨?_⟩ ⟨grown_setRow _ _ _⟩
      have e := u8s_splice cur cs off
      unfold Go.splice at e
      rw [hl] at e
      have e2 := setRow_heap w g (u8s cur).toArray ((u8s cur).toArray.toList.take off ++ (u8s cs ++ (u8s cur).toArray.toList.drop (off + cs.length))).toArray t _ hg
      rw [e2]
      simp only [e]
end
def zs (n : Nat) : List Nat := List.replicate n 0
@[simp] theorem zs_length (n : Nat) : (zs n).length = n := by simp [zs]
theorem zs_small (n : Nat) : Small 256 (zs n) := fun x hx => by simp only [zs, List.mem_replicate] at hx; omega
theorem info5 : (Tryd.prog.info? 5).map (fun i => (i.zero, i.size, i.bytes)) = some (some (.int .u8 0), 1, 1) := by kernel_rfl
theorem size5 : (Tryd.prog.info? 5).map (·.size) = some 1 := by kernel_rfl
theorem made_u8 (n : Nat) : madeCells (Value.int .u8 0).cells (n * 1) = (u8s (zs n)).toArray := by
  apply Array.ext_getElem?
  intro i
  by_cases h : i < n <;> simp [madeCells, Value.cells, u8s, v8, zs, Nat.mod_one, h]
theorem make_u8 (X : Int) (n : Nat) (hX : X = (n : Int)) (hn : n ≤ 1000000) (w : World) :
    (Instr.makeSlice 77 (.int .i64 X) (.int .i64 X)).run Tryd.prog w = .ok (.slice (some ⟨w.heap.size, 0, none⟩) n n) (w.alloc (.cells (u8s (zs n)).toArray 5)) := by
  subst hX
  have h5 := info5
  cases hi : Tryd.prog.info? 5 with
  | none => rw [hi] at h5; cases h5
  | some i =>
    rw [hi] at h5
    simp only [Option.map_some, Option.some.injEq, Prod.mk.injEq] at h5
    obtain ⟨hz, h1, h2⟩ := h5
    have := run_make (P := Tryd.prog) w 77 5 i (.int .u8 0) Tryd.underlying77 hi hz .i64 .i64 (n : Int) (n : Int) (by omega) (by omega) (by rw [h2]; omega) (by omega)
    rw [h1] at this
    rw [show ((n : Int).toNat) = n from by omega, made_u8] at this
    exact this
/-- The bytes bs lie behind the slice v, outside block b. -/
def SrcN (w : World) (b : Nat) (v : Value) (bs : List Nat) : Prop :=
  ∃ (a : Option Addr) (cap sb so : Nat), v = .slice a bs.length cap ∧ bs.length ≤ cap ∧ (0 < bs.length → a = some ⟨sb, so, none⟩) ∧ (0 < bs.length → sb ≠ b) ∧
    ∀ i, i < bs.length → w.cell? ⟨sb, so + i, none⟩ = some (.int .u8 ((bs.getD i 0 : Nat) : Int))
/-- Of what was there nothing has changed but two blocks. -/
structure Two (w w' : World) (b p : Nat) : Prop where
  os : w'.os = w.os
  tape : w'.tape = w.tape
  output : w'.output = w.output
  size : w.heap.size ≤ w'.heap.size
  block : ∀ k, k < w.heap.size → k ≠ b → k ≠ p → w'.heap[k]? = w.heap[k]?
theorem Two.refl (w : World) (b p : Nat) : Two w w b p := ⟨rfl, rfl, rfl, Nat.le_refl _, fun _ _ _ _ => rfl⟩
theorem Two.trans {u v w : World} {b p : Nat} (h : Two u v b p) (k : Two v w b p) : Two u w b p :=
  ⟨k.os.trans h.os, k.tape.trans h.tape, k.output.trans h.output, Nat.le_trans h.size k.size, fun i hi h1 h2 => (k.block i (Nat.lt_of_lt_of_le hi h.size) h1 h2).trans (h.block i hi h1 h2)⟩
theorem Two.left {w w' : World} {b p : Nat} (h : w.grownBy w' (some b)) : Two w w' b p := ⟨h.os, h.tape, h.output, h.size, fun k hk h1 _ => h.block k hk (fun e => h1 (by injection e))⟩
theorem Two.right {w w' : World} {b p : Nat} (h : w.grownBy w' (some p)) : Two w w' b p := ⟨h.os, h.tape, h.output, h.size, fun k hk _ h1 => h.block k hk (fun e => h1 (by injection e))⟩
theorem Two.ofBelow {w w' : World} {b p : Nat} (h : Below w.heap.size w w') : Two w w' b p := ⟨h.os, h.tape, h.output, h.size, fun k hk _ _ => h.block k hk⟩
theorem Two.below {w0 w w' : World} {b p : Nat} (h : Two w w' b p) (hb : Below w0.heap.size w0 w) (h1 : w0.heap.size ≤ b) (h2 : w0.heap.size ≤ p) : Below w0.heap.size w0 w' :=
  ⟨h.os.trans hb.os, h.tape.trans hb.tape, h.output.trans hb.output, Nat.le_trans hb.size h.size, fun k hk => (h.block k (Nat.lt_of_lt_of_le hk hb.size) (by omega) (by omega)).trans (hb.block k hk)⟩
/-- A row of bytes of its own: block g is just these bytes. -/
def RowB (w : World) (g : Nat) (bs : List Nat) : Prop := w.heap[g]? = some (.cells (u8s bs).toArray 5 (0, 0))

theorem RowB.below {w w' : World} {g : Nat} {bs : List Nat} (h : RowB w g bs) (k : Below w.heap.size w w') : RowB w' g bs := by
  unfold RowB at *; rw [k.block _ (Array.getElem?_eq_some_iff.1 h).1]; exact h
theorem RowB.two {w w' : World} {g b p : Nat} {bs : List Nat} (h : RowB w g bs) (k : Two w w' b p) (h1 : g ≠ b) (h2 : g ≠ p) : RowB w' g bs := by
  unfold RowB at *; rw [k.block _ (Array.getElem?_eq_some_iff.1 h).1 h1 h2]; exact h
theorem RowB.lt {w : World} {g : Nat} {bs : List Nat} (h : RowB w g bs) : g < w.heap.size := (Array.getElem?_eq_some_iff.1 h).1
theorem RowB.src {w : World} {g : Nat} {bs : List Nat} (h : RowB w g bs) : SrcAt w (.slice (some ⟨g, 0, none⟩) bs.length bs.length) bs :=
  ⟨_, _, g, 0, rfl, Nat.le_refl _, fun _ => rfl, fun i hi => by rw [Nat.zero_add, cell_of_row _ _ _ _ _ _ h, List.getElem?_toArray]; exact u8s_get bs i hi⟩
theorem RowB.str {w : World} {g k : Nat} {bs : List Nat} (h : RowB w g bs) (hk : bs.length = k) : (convert 77 9 (.slice (some ⟨g, 0, none⟩) k k)).run Tryd.prog w = .ok (.string (strOf bs)) w := by
  subst hk
  refine run_convert_bytes_arg _ 77 5 Tryd.underlying77 Tryd.underlying5 g 0 bs.length bs.length (bs.map fun (n : Nat) => (n : Int)) (by simp) (fun i hi => ?_) 9 Tryd.underlying9
  have hi' : i < bs.length := by simpa using hi
  rw [Nat.zero_add, cell_of_row _ _ _ _ _ _ h, List.getElem?_toArray, u8s_get bs i hi']
  simp [List.getD, List.getElem?_eq_getElem hi']
theorem SrcAt.off {w : World} {v : Value} {bs : List Nat} (h : SrcAt w v bs) {b : Nat} (hb : w.heap.size ≤ b) : SrcN w b v bs := by
  obtain ⟨a, cap, sb, so, h0, h1, h3, h5⟩ := h
  refine ⟨a, cap, sb, so, h0, h1, h3, fun hp => ?_, h5⟩
  have := block_lt_of_cell (h5 0 hp)
  intro e; simp only at this; omega
theorem SrcAt.offs {w : World} {g n c : Nat} {bs : List Nat} (h : SrcAt w (.slice (some ⟨g, 0, none⟩) n c) bs) {b : Nat} (hb : b < g) : SrcN w b (.slice (some ⟨g, 0, none⟩) n c) bs := by
  obtain ⟨a, cap, sb, so, h0, h1, h3, h5⟩ := h
  refine ⟨a, cap, sb, so, h0, h1, h3, fun hp => ?_, h5⟩
  have e := h3 hp
  injection h0 with h0
  rw [e] at h0
  injection h0 with h0
  injection h0 with h0
  omega

/-- The string of a row of bytes, in every world that has it. -/
theorem RowB.strs {g k : Nat} {bs : List Nat} (hk : bs.length = k) (W : World) (h : RowB W g bs) : (convert 77 9 (.slice (some ⟨g, 0, none⟩) k k)).run Tryd.prog W = .ok (.string (strOf bs)) W := h.str hk

/-- A row of bytes that may be written to, at its first n cells. -/
def RowW (w : World) (g n : Nat) : Prop := ∀ i, i < n → (∃ x : Nat, w.cell? ⟨g, i, none⟩ = some (.int .u8 (x : Int))) ∧ w.frozen? ⟨g, i, none⟩ = false
theorem RowW.set {w : World} {g n i b : Nat} (h : RowW w g n) (hi : i < n) : RowW (w.setCell ⟨g, i, none⟩ (.int .u8 (b : Int))) g n := fun j hj => by
  refine ⟨?_, by rw [World.frozen?_setCell]; exact (h j hj).2⟩
  by_cases e : j = i
  · subst e
    obtain ⟨x, hx⟩ := (h j hj).1
    exact ⟨b, World.cell?_setCell_same' _ _ _ (by rw [hx]; rfl)⟩
  · have hna : (⟨g, i, none⟩ : Addr) ≠ ⟨g, j, none⟩ := fun e2 => e (by injection e2 with _ e3; exact e3.symm)
    rw [World.cell?_setCell_other (h := hna)]
    exact (h j hj).1
theorem RowW.two {w w' : World} {g n b p : Nat} (h : RowW w g n) (k : Two w w' b p) (h1 : g ≠ b) (h2 : g ≠ p) : RowW w' g n := fun i hi => by
  obtain ⟨⟨x, hx⟩, hf⟩ := h i hi
  have hb := k.block g (block_lt_of_cell hx) h1 h2
  exact ⟨⟨x, by rw [World.cell?_of_block (w := w) hb]; exact hx⟩, by rw [World.frozen?_of_block (w := w) hb]; exact hf⟩
theorem RowB.rw {w : World} {g : Nat} {bs : List Nat} (h : RowB w g bs) : RowW w g bs.length := fun i hi =>
  ⟨⟨bs.getD i 0, by rw [cell_of_row _ _ _ _ _ _ h, List.getElem?_toArray]; exact u8s_get bs i hi⟩, frozen_of_row _ _ _ _ _ h⟩
/-- The bytes of a string, made new, in memory that may be written. -/
theorem conv_rw (s : ByteArray) (W : World) : ∃ cap w', (convert 9 77 (.string s)).run Tryd.prog W = .ok (.slice (some ⟨W.heap.size, 0, none⟩) s.size cap) w' ∧
    Sl (SrcAt w' (.slice (some ⟨W.heap.size, 0, none⟩) s.size cap) (bytes s)) ∧ Sl (RowW w' W.heap.size s.size) ∧ Sl (Below W.heap.size W w') := by
  have hg : ∀ cap, s.size ≤ cap → ∀ j, j < s.size → (W.drew.alloc (.cells (bytesRow s cap) 5 ((bytesRow s cap).size, (bytesRow s cap).size + 1))).cell? ⟨W.heap.size, j, none⟩ = some (.int .u8 (((bytes s).getD j 0 : Nat) : Int)) := fun cap _ j hj => by
    have h := World.cell?_alloc_mark W.drew (bytesRow s cap) 5 ((bytesRow s cap).size, (bytesRow s cap).size + 1) j
    rw [show W.drew.heap.size = W.heap.size from rfl] at h
    rw [h, bytesRow_at s _ j hj, bytes_getD s j hj]
  refine ⟨_, _, run_bytes_of_string (P := Tryd.prog) W 9 77 5 s Tryd.underlying9 Tryd.underlying77 Tryd.underlying5, ⟨?_⟩, ⟨fun j hj => ⟨⟨_, hg _ (grownCap_ge _ _ _ _) j hj⟩, ?_⟩⟩, ⟨((Below.refl _ _).drew).alloc (Nat.le_refl _) _⟩⟩
  · refine ⟨some ⟨W.heap.size, 0, none⟩, _, W.heap.size, 0, by rw [bytes_length], by rw [bytes_length]; exact grownCap_ge _ _ _ _, fun _ => rfl, fun i hi => ?_⟩
    rw [bytes_length] at hi
    rw [Nat.zero_add]
    exact hg _ (grownCap_ge _ _ _ _) i hi
  · generalize hcap : grownCap W s.size 0 5 = cap
    have hge : s.size ≤ cap := by rw [← hcap]; exact grownCap_ge _ _ _ _
    have hsz : (bytesRow s cap).size = cap := by
      have : s.data.size = s.size := rfl
      simp [bytesRow, this]; omega
    rw [hsz]
    have hn : (W.drew.alloc (.cells (bytesRow s cap) 5 (cap, cap + 1))).heap[W.heap.size]? = some (.cells (bytesRow s cap) 5 (cap, cap + 1)) := alloc_new _ _ _ rfl
    simp only [World.frozen?, hn]
    simp; omega
theorem beq_str (bs : List Nat) (h : Small 256 bs) (l : List UInt8) (r : Bool) (hr : decide (bs = l.map (·.toNat)) = r) : ((strOf bs).toList == l) = r := by
  rw [beq_bytes, bytes_strOf bs h, hr]
end Go.Proofs.YtdndpicfnlcgjaaDoor
