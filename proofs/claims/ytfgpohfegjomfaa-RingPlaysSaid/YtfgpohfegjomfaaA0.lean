/- What all texts of this seat use: facts that the walk does not see, rows of bytes, strings by their bytes, worlds that grow. -/
import Derived.Test.YtfgpohfegjomfaaRows
import Derived.Test.YtfgpohfegjomfaaPlain
import Derived.WalkKit
import Derived.WalkSpells
import Derived.WalkLawsBesides
import Derived.Deep.WholeRow
import Derived.Deep.MidRow
import Derived.Deep.QuietTactic
import Derived.BigQuiet
import Derived.BigRegion
import Derived.Lib.Hide
import Derived.StillTailTactics
import Derived.Laws.BitsAllLaws
import Derived.IntWalk
import Derived.Laws.CopyOwn
import Derived.Laws.IdiomStrings
import Derived.Laws.BytesArg
import Derived.Lib.SlBytesConst
import Derived.Deep.RegionHeld3
namespace Go.Proofs.Ytfgpohfegjomfaa
open Go.RowKit

/-- A fact that the walk does not see. -/
structure Sl (p : Prop) : Prop where
  out : p

/-- A row of bytes as cells. -/
def v8 (n : Nat) : Value := .int .u8 (n : Int)
def u8s (l : List Nat) : List Value := l.map v8
@[simp] theorem u8s_length (l : List Nat) : (u8s l).length = l.length := by simp [u8s]
theorem u8s_get (l : List Nat) (i : Nat) (h : i < l.length) : (u8s l)[i]? = some (.int .u8 ((l.getD i 0 : Nat) : Int)) := by
  simp [u8s, v8, List.getElem?_eq_getElem h]
theorem u8s_one (l : List Nat) : ∀ v ∈ u8s l, v.oneCell' = true := by
  intro v hv; simp [u8s, v8] at hv; obtain ⟨n, _, rfl⟩ := hv; rfl
theorem u8s_append (a b : List Nat) : u8s (a ++ b) = u8s a ++ u8s b := by simp [u8s]

/-- Each number of a row is below b. -/
def Small (b : Nat) (l : List Nat) : Prop := ∀ x ∈ l, x < b
theorem Small.append {b : Nat} {l m : List Nat} (h : Small b l) (k : Small b m) : Small b (l ++ m) := fun x hx => by
  rcases List.mem_append.1 hx with hx | hx
  · exact h x hx
  · exact k x hx
theorem Small.take {b : Nat} {l : List Nat} (h : Small b l) (n : Nat) : Small b (l.take n) := fun x hx => h x (List.mem_of_mem_take hx)
theorem Small.drop {b : Nat} {l : List Nat} (h : Small b l) (n : Nat) : Small b (l.drop n) := fun x hx => h x (List.mem_of_mem_drop hx)
theorem Small.getD {b : Nat} {l : List Nat} (h : Small b l) (hb : 0 < b) (i : Nat) : l.getD i 0 < b := by
  by_cases hi : i < l.length
  · simpa [List.getD, List.getElem?_eq_getElem hi] using h _ (List.getElem_mem hi)
  · simpa [List.getD, List.getElem?_eq_none (Nat.le_of_not_lt hi)] using hb

theorem alloc_new (w : World) (o : Obj) (k : Nat) (h : k = w.heap.size) : (w.alloc o).heap[k]? = some o := by
  subst h; show (w.heap.push o)[w.heap.size]? = _; simp
theorem alloc_size (w : World) (o : Obj) : (w.alloc o).heap.size = w.heap.size + 1 := by show (w.heap.push o).size = _; simp
theorem ret_bool {a b : Bool} (h : a = b) : Ending.returned (.bool a) = .returned (.bool b) := by rw [h]
theorem ret_int {k : IntKind} {a b : Int} (h : a = b) : Ending.returned (.int k a) = .returned (.int k b) := by rw [h]

theorem alloc_old (w : World) (o : Obj) (k : Nat) (h : k < w.heap.size) : (w.alloc o).heap[k]? = w.heap[k]? := Below.heap_alloc w o k h
/-- A string's bytes. -/
def bytes (s : ByteArray) : List Nat := s.data.toList.map (·.toNat)
theorem bytes_length (s : ByteArray) : (bytes s).length = s.size := by unfold bytes; rw [List.length_map, Array.length_toList]; rfl
theorem bytes_small (s : ByteArray) : Small 256 (bytes s) := fun x hx => by
  simp only [bytes, List.mem_map] at hx
  obtain ⟨b, _, rfl⟩ := hx
  exact b.toNat_lt
theorem bytes_append (a b : ByteArray) : bytes (a ++ b) = bytes a ++ bytes b := by simp [bytes]
theorem bytes_getD (s : ByteArray) (i : Nat) (hi : i < s.size) : (bytes s).getD i 0 = (s.data[i]'hi).toNat := by
  have hi' : i < s.data.size := hi
  simp only [bytes, List.getD, List.getElem?_map, Array.getElem?_toList, Array.getElem?_eq_getElem hi']
  rfl
theorem bytes_inj {a b : ByteArray} (h : bytes a = bytes b) : a = b := by
  unfold bytes at h
  have h2 : a.data.toList = b.data.toList := by
    have := (List.map_inj_right (fun x y (e : UInt8.toNat x = UInt8.toNat y) => UInt8.toNat_inj.1 e)).1 h
    exact this
  cases a; cases b
  simp at h2
  simp [h2]
theorem bytes_extract (s : ByteArray) (i j : Nat) : bytes (s.extract i j) = ((bytes s).take j).drop i := by
  unfold bytes
  rw [ByteArray.data_extract, Array.toList_extract, List.extract_eq_take_drop, ← List.map_take, ← List.map_drop]
  congr 1
  rw [List.drop_take]

theorem toList_bytes (x : ByteArray) : bytes x = x.toList.map (·.toNat) := by rw [ByteArray.toList_eq]; rfl
theorem toNat_inj_map {a b : List UInt8} (h : a.map (·.toNat) = b.map (·.toNat)) : a = b := (List.map_inj_right (fun x y (e : UInt8.toNat x = UInt8.toNat y) => UInt8.toNat_inj.1 e)).1 h
/-- Strings are compared by their bytes. -/
theorem beq_bytes (a : ByteArray) (l : List UInt8) : (a.toList == l) = decide (bytes a = l.map (·.toNat)) := by
  rw [Bool.eq_iff_iff, toList_bytes]
  simp only [beq_iff_eq, decide_eq_true_eq]
  exact ⟨fun h => by rw [h], toNat_inj_map⟩
theorem beq_bytes2 (a b : ByteArray) : (a.toList == b.toList) = decide (bytes a = bytes b) := by rw [beq_bytes, ← toList_bytes]
/-- Bytes as a string. -/
def strOf (l : List Nat) : ByteArray := strOfNums (l.map fun (n : Nat) => (n : Int))
theorem strOf_size (l : List Nat) : (strOf l).size = l.length := by unfold strOf; rw [strOfNums_size]; simp
theorem bytes_strOf (l : List Nat) (h : Small 256 l) : bytes (strOf l) = l := by
  unfold bytes strOf
  rw [strOfNums_data, List.map_map, List.map_map]
  conv => rhs; rw [← List.map_id l]
  refine List.map_congr_left (fun x hx => ?_)
  have := h x hx
  simp only [Function.comp_def, Int.toNat_natCast, id]
  exact UInt8.toNat_ofNat_of_lt' this
theorem strOf_bytes (s : ByteArray) : strOf (bytes s) = s := bytes_inj (bytes_strOf _ (bytes_small s))
/-- The bytes bs lie behind the slice v. -/
def SrcAt (w : World) (v : Value) (bs : List Nat) : Prop :=
  ∃ (a : Option Addr) (cap sb so : Nat), v = .slice a bs.length cap ∧ bs.length ≤ cap ∧ (0 < bs.length → a = some ⟨sb, so, none⟩) ∧
    ∀ i, i < bs.length → w.cell? ⟨sb, so + i, none⟩ = some (.int .u8 ((bs.getD i 0 : Nat) : Int))

/-- A slice that is the whole of a new block. -/
theorem src_new (w : World) (bs : List Nat) (vs : Array Value) (t : TypeId) (fr : Nat × Nat) (h : vs = (u8s bs).toArray) : SrcAt (w.alloc (.cells vs t fr)) (.slice (some ⟨w.heap.size, 0, none⟩) bs.length bs.length) bs :=
  ⟨_, _, w.heap.size, 0, rfl, Nat.le_refl _, fun _ => rfl, fun i hi => by
    rw [Nat.zero_add, cell_of_row _ _ _ _ _ _ (alloc_new _ _ _ rfl), h, List.getElem?_toArray]; exact u8s_get bs i hi⟩
/-- The bytes of a string, made new. -/
theorem conv_str (s : ByteArray) (W : World) : ∃ cap w', (convert 9 33 (.string s)).run Try.prog W = .ok (.slice (some ⟨W.heap.size, 0, none⟩) s.size cap) w' ∧
    Sl (SrcAt w' (.slice (some ⟨W.heap.size, 0, none⟩) s.size cap) (bytes s)) ∧ Sl (Below W.heap.size W w') := by
  refine ⟨_, _, run_bytes_of_string (P := Try.prog) W 9 33 5 s Try.underlying9 Try.underlying33 Try.underlying5, ⟨?_⟩, ⟨((Below.refl _ _).drew).alloc (Nat.le_refl _) _⟩⟩
  refine ⟨some ⟨W.heap.size, 0, none⟩, _, W.heap.size, 0, by rw [bytes_length], by rw [bytes_length]; exact grownCap_ge _ _ _ _, fun _ => rfl, fun i hi => ?_⟩
  rw [bytes_length] at hi
  rw [Nat.zero_add]
  have h := World.cell?_alloc_mark W.drew (bytesRow s (grownCap W s.size 0 5)) 5 ((bytesRow s (grownCap W s.size 0 5)).size, (bytesRow s (grownCap W s.size 0 5)).size + 1) i
  rw [show W.drew.heap.size = W.heap.size from rfl] at h
  rw [h, bytesRow_at s _ i hi, bytes_getD s i hi]
theorem grown_below {w w' : World} (h : Below w.heap.size w w') (r : Option Nat) : w.grownBy w' r := ⟨h.os, h.tape, h.output, h.size, fun k hk _ => h.block k hk⟩
theorem own_below {w w' : World} {base : Nat} {e : TypeId} {size : Nat} {v : Value} {n : Nat} {xs : List Value} (h : w.ownsRow base e size v n xs) (hb : Below w.heap.size w w') : w'.ownsRow base e size v n xs :=
  h.kept (grown_below hb none) (by cases h2 : v.ownBlock with | none => exact .inl rfl | some k => exact .inr (fun e => by cases e))
theorem below_grown {base : Nat} {w0 W w' : World} {v : Value} {e : TypeId} {n : Nat} {xs : List Value} (hb : Below base w0 W) (hown : W.ownsRow base e 1 v n xs) (hg : W.grownBy w' v.ownBlock) (hbase : base ≤ W.heap.size) : Below base w0 w' :=
  hb.grown hg hbase (fun k hk => (hown.lt k hk).1)
theorem range_setRow (w : World) {g : Nat} {old : Array Value} {t : TypeId} {fr : Nat × Nat} (l : List Value) (h : w.heap[g]? = some (.cells old t fr)) : (w.setRow g l.toArray).rangeAt g 0 l := fun j v hv => by
  rw [Nat.zero_add, cell_of_row _ _ _ _ _ _ (setRow_heap _ _ _ _ _ _ h)]
  simpa using hv
theorem grown_refl (w : World) (r : Option Nat) : w.grownBy w r := ⟨rfl, rfl, rfl, Nat.le_refl _, fun _ _ _ => rfl⟩
theorem grown_trans {a b c : World} {r : Option Nat} (h : a.grownBy b r) (k : b.grownBy c r) : a.grownBy c r :=
  ⟨k.os.trans h.os, k.tape.trans h.tape, k.output.trans h.output, Nat.le_trans h.size k.size, fun i hi hr => (k.block i (Nat.lt_of_lt_of_le hi h.size) hr).trans (h.block i hi hr)⟩
theorem grown_setCell (w : World) (b i : Nat) (v : Value) : w.grownBy (w.setCell ⟨b, i, none⟩ v) (some b) :=
  ⟨rfl, rfl, rfl, by simp [World.setCell], fun k _ hr => heap_setCell_other _ _ _ _ (fun e => hr (by rw [e]))⟩
theorem grown_setCells (b : Nat) : ∀ (vs : List Value) (o : Nat) (w : World), w.grownBy (w.setCells b o vs) (some b)
  | [], _, w => grown_refl w _
  | v :: r, o, w => by rw [World.setCells]; exact grown_trans (grown_setCell w b o v) (grown_setCells b r (o + 1) _)
end Go.Proofs.Ytfgpohfegjomfaa
