/- Parts of a line, and whether a text may be one: word, text; a token. -/
import Derived.Test.YtdndpicfnlcgjaaDoorHdA
import Derived.Test.YtdndpicfnlcgjaaDoorShelf
import Derived.WalkMore
import Derived.Lib.AppendStr
import Derived.WalkSmall
set_option maxRecDepth 100000
namespace Go.Proofs.YtdndpicfnlcgjaaDoor
open Go.RowKit HeadPlain

theorem bytes_mk (l : List UInt8) : bytes ⟨l.toArray⟩ = toN l := rfl
theorem bytes_toN (s : ByteArray) : bytes s = toN s.data.toList := rfl
def wordB (l : List Nat) : Bool := !l.isEmpty && plainB 33 l
theorem empty_iff (s : ByteArray) : (bytes s).isEmpty = decide (s.size = 0) := by
  rw [← bytes_length]
  cases bytes s <;> simp

theorem tokB_span (c : Nat) : tokB c = (spanB c || marks.contains c) := rfl
theorem index_span (k : Nat) (hk : k < 3) (W : World) : (Instr.index 75 (.agg spans.toArray) (.int .i64 (k : Int))).run Tryd.prog W = .ok (.agg #[.int .u8 ((([97, 65, 48] : List Nat).getD k 0 : Nat) : Int), .int .u8 ((([122, 90, 57] : List Nat).getD k 0 : Nat) : Int)]) W := by
  match k, hk with
  | 0, _ => show _ = _; kernel_rfl
  | 1, _ => show _ = _; kernel_rfl
  | 2, _ => show _ = _; kernel_rfl
def spanTo (c k : Nat) : Prop := ∀ j, j < k → ¬ (([97, 65, 48] : List Nat).getD j 0 ≤ c ∧ c ≤ ([122, 90, 57] : List Nat).getD j 0)
theorem spanTo_three {c : Nat} (h : spanTo c 3) : spanB c = false := by
  have h0 := h 0 (by decide)
  have h1 := h 1 (by decide)
  have h2 := h 2 (by decide)
  simp only [List.getD_cons_zero, List.getD_cons_succ] at h0 h1 h2
  unfold spanB
  simp only [Bool.or_eq_false_iff, Bool.and_eq_false_iff, decide_eq_false_iff_not]
  omega
theorem span_hit {c k : Nat} (hk : k < 3) (h : ([97, 65, 48] : List Nat).getD k 0 ≤ c ∧ c ≤ ([122, 90, 57] : List Nat).getD k 0) : spanB c = true := by
  unfold spanB
  simp only [Bool.or_eq_true, Bool.and_eq_true, decide_eq_true_eq]
  match k, hk with
  | 0, _ => simp at h; omega
  | 1, _ => simp at h; omega
  | 2, _ => simp at h; omega

set_option maxHeartbeats 1000000 in
set_option maxRecDepth 100000 in
/-- Whether a text is a token. -/
theorem token_any (s : ByteArray) (W : World) (hg : Globs W) (hs : s.size ≤ maxLen) : Calls Tryd.prog 48 #[.string s] W fun e w' => e = .returned (.bool (token (bytes s))) ∧ Sl (Below W.heap.size W w') := by
  unfold maxLen at hs
  have HG := Sl.mk hg
  clear hg
  have HI62 : Sl ((Tryd.prog.info? 75).map (·.size) = some spans.length) := ⟨by kernel_rfl⟩
  go_enter Tryd.func48, Tryd.ntmps48
  go_wp2
  go_step3
  go_wp2
  go_step3
  go_wp2
  go_loopw [8] (fun i wr => ∃ k : Nat, k ≤ s.size ∧ i = .int .i64 k ∧ Sl (Below W.heap.size W wr) ∧ Sl (∀ j, j < k → tokB ((bytes s).getD j 0) = true)) (fun i _ => s.size - (intOf i).toNat)
  case atStart => exact ⟨0, by omega, rfl, ⟨Below.refl _ _⟩, ⟨fun j hj => by omega⟩⟩
  case round =>
    rename World => W0
    obtain ⟨k, hk, rfl, HB, HA⟩ := hrel
    by_cases hlt : k < s.size
    · obtain ⟨c, hc⟩ : ∃ c, (s[k]'hlt).toNat = c := ⟨_, rfl⟩
      have HC : Sl ((bytes s).getD k 0 = c) := ⟨by rw [bytes_getD s k hlt, ← hc]; rfl⟩
      have HG2 : Sl (Globs W0) := ⟨HG.out.of HB.out⟩
      go_wp2_with (first | (refine wpList_load_mid rfl 75 (.global 0) rfl 0 0 rfl spans (.array 3 74) HG2.out.t Tryd.underlying75 rfl HI62.out ?_))
      have HIB : Sl (∀ V : World, Calls Tryd.prog 57 #[.string { data := #[33, 35, 36, 37, 38, 39, 42, 43, 45, 46, 94, 95, 96, 124, 126] }, .int .u8 (c : Int)] V fun e w' => e = .returned (.int .i64 (Lib.indexByte [33, 35, 36, 37, 38, 39, 42, 43, 45, 46, 94, 95, 96, 124, 126] (c : Int).toNat.toUInt8)) ∧ w' = V) := ⟨fun V => Tryd.strings_IndexByte _ _ V⟩
      obtain ⟨z, hz⟩ : ∃ z, Lib.indexByte [33, 35, 36, 37, 38, 39, 42, 43, 45, 46, 94, 95, 96, 124, 126] (c : Int).toNat.toUInt8 = z := ⟨_, rfl⟩
      have hc256 : c < 256 := by rw [← hc]; exact UInt8.toNat_lt _
      have HZ : Sl (decide (z < 0) = !marks.contains c) := ⟨by
        rw [← hz, indexByte_mem]
        rw [show ((c : Int).toNat.toUInt8).toNat = c from by rw [Int.toNat_natCast]; exact UInt8.toNat_ofNat_of_lt' hc256]
        rfl⟩
      rw [hz] at HIB
      clear hz
      go_loopw [12] (fun i wr => ∃ m : Nat, m ≤ 3 ∧ i = .int .i64 m ∧ Sl (Below W.heap.size W wr) ∧ Sl (spanTo c m)) (fun i _ => 3 - (intOf i).toNat)
      case atStart => exact ⟨0, by omega, rfl, HB, ⟨fun j hj => by omega⟩⟩
      case round =>
        obtain ⟨m, hm, rfl, HB2, HS⟩ := hrel
        by_cases hlm : m < 3
        · have hidx := index_span m hlm
          obtain ⟨x, hx⟩ : ∃ x, ([97, 65, 48] : List Nat).getD m 0 = x := ⟨_, rfl⟩
          obtain ⟨y, hy⟩ : ∃ y, ([122, 90, 57] : List Nat).getD m 0 = y := ⟨_, rfl⟩
          have HXY : Sl (([97, 65, 48] : List Nat).getD m 0 = x ∧ ([122, 90, 57] : List Nat).getD m 0 = y) := ⟨hx, hy⟩
          rw [hx, hy] at hidx
          clear hx hy
          by_cases h1 : x ≤ c
          · have h1' : decide ((x : Int) ≤ (c : Int)) = true := decide_eq_true (by omega)
            by_cases h2 : c ≤ y
            · have h2' : decide ((c : Int) ≤ (y : Int)) = true := decide_eq_true (by omega)
              have HSP : Sl (spanB c = true) := ⟨span_hit hlm (by rw [HXY.out.1, HXY.out.2]; exact ⟨h1, h2⟩)⟩
              have HTK : Sl (tokB c = true) := ⟨by rw [tokB_span, HSP.out]; rfl⟩
              go_wp2
              go_quiet (fail)
              go_wp2
              refine ⟨⟨k + 1, by omega, by go_num, ⟨?_⟩, ⟨fun j hj => ?_⟩⟩, by simp [intOf]; omega⟩
              · exact ((HB2.out.alloc HB2.out.size _).trans ((Still.below ⟨_, rfl⟩).mono (by rw [alloc_size]; have := HB2.out.size; omega)))
              · by_cases e : j = k
                · subst e; rw [HC.out]; exact HTK.out
                · exact HA.out j (by omega)
            · have h2' : decide ((c : Int) ≤ (y : Int)) = false := decide_eq_false (by omega)
              go_wp2
              go_quiet (fail)
              go_wp2
              refine ⟨⟨m + 1, by omega, by go_num, ⟨?_⟩, ⟨fun j hj => ?_⟩⟩, by simp [intOf]; omega⟩
              · exact ((HB2.out.alloc HB2.out.size _).trans ((Still.below ⟨_, rfl⟩).mono (by rw [alloc_size]; have := HB2.out.size; omega)))
              · by_cases e : j = m
                · subst e; rw [HXY.out.1, HXY.out.2]; omega
                · exact HS.out j (by omega)
          · have h1' : decide ((x : Int) ≤ (c : Int)) = false := decide_eq_false (by omega)
            go_wp2
            go_quiet (fail)
            go_wp2
            refine ⟨⟨m + 1, by omega, by go_num, ⟨?_⟩, ⟨fun j hj => ?_⟩⟩, by simp [intOf]; omega⟩
            · exact ((HB2.out.alloc HB2.out.size _).trans ((Still.below ⟨_, rfl⟩).mono (by rw [alloc_size]; have := HB2.out.size; omega)))
            · by_cases e : j = m
              · subst e; rw [HXY.out.1, HXY.out.2]; omega
              · exact HS.out j (by omega)
        · have hge : ((m : Int) < 3) = False := eq_false (by omega)
          have HSP : Sl (spanB c = false) := ⟨by
            obtain rfl : m = 3 := by omega
            exact spanTo_three HS.out⟩
          have HTK : Sl (tokB c = marks.contains c) := ⟨by rw [tokB_span, HSP.out]; rfl⟩
          by_cases hz0 : z < 0
          · have HTF : Sl (tokB c = false) := ⟨by
              have := HZ.out
              rw [decide_eq_true hz0] at this
              rw [HTK.out]
              cases h : marks.contains c with
              | false => rfl
              | true => rw [h] at this; cases this⟩
            go_wp2_with fail
            refine (HIB.out _).mono ?_
            rintro e w2 ⟨rfl, rfl⟩
            go_wp2
            rw [Exit.noGoto_ret]
            go_ret
            exact ⟨ret_bool (token_no k hlt (by rw [HC.out]; exact HTF.out)).symm, HB2⟩
          · have HTF : Sl (tokB c = true) := ⟨by
              have := HZ.out
              rw [decide_eq_false hz0] at this
              rw [HTK.out]
              cases h : marks.contains c with
              | false => rw [h] at this; cases this
              | true => rfl⟩
            go_wp2_with fail
            refine (HIB.out _).mono ?_
            rintro e w2 ⟨rfl, rfl⟩
            go_wp2
            refine ⟨⟨k + 1, by omega, by go_num, HB2, ⟨fun j hj => ?_⟩⟩, by simp [intOf]; omega⟩
            by_cases e : j = k
            · subst e; rw [HC.out]; exact HTF.out
            · exact HA.out j (by omega)
    · have hge : ((k : Int) < (s.size : Int)) = False := eq_false (by omega)
      have HT : Sl (token (bytes s) = decide (0 < s.size)) := ⟨token_yes (fun j hj => HA.out j (by omega))⟩
      have hq : (s.toList == []) = !decide (0 < s.size) := by
        rw [beq_bytes, ← bytes_length]
        cases h : bytes s <;> simp
      by_cases h0 : 0 < s.size
      · rw [decide_eq_true h0] at hq HT
        go_wp2
        rw [Exit.noGoto_ret]
        go_ret
        exact ⟨ret_bool (by rw [HT.out]), HB⟩
      · rw [decide_eq_false h0] at hq HT
        go_wp2
        rw [Exit.noGoto_ret]
        go_ret
        exact ⟨ret_bool (by rw [HT.out]), HB⟩
end Go.Proofs.YtdndpicfnlcgjaaDoor
/- A first line's three parts, and a field, whether they may be; slices of fields in memory. -/
namespace Go.Proofs.YtdndpicfnlcgjaaDoor
open Go.RowKit HeadPlain

def fieldB (n v : ByteArray) : Bool := token (bytes n) && valueB (bytes v)
def firstB (a b c : ByteArray) : Bool := wordB (bytes a) && (wordB (bytes b) && valueB (bytes c))

theorem below_trans {u v w : World} (h : Below u.heap.size u v) (k : Below v.heap.size v w) : Below u.heap.size u w := h.trans (k.mono h.size)

end Go.Proofs.YtdndpicfnlcgjaaDoor
/- Heads as values: their fields in memory; what is told of a head, piece by piece, over whatever the closure keeps. -/
namespace Go.Proofs.YtdndpicfnlcgjaaDoor
open Go.RowKit HeadPlain

/-- A field: its name, its value. -/
abbrev FV := ByteArray × ByteArray
def f0 : FV := (ByteArray.empty, ByteArray.empty)
/-- The two cells of a field lie at the place. -/
def FAt (W : World) (b o : Nat) (x : FV) : Prop :=
  W.cell? ⟨b, o, none⟩ = some (.string x.1) ∧ W.cell? ⟨b, o + 1, none⟩ = some (.string x.2) ∧ x.1.size ≤ maxLen ∧ x.2.size ≤ maxLen
/-- The fields l are the elements of the slice v. -/
def FieldsAt (W : World) (v : Value) (l : List FV) : Prop :=
  ∃ (a : Option Addr) (cap sb so : Nat), v = .slice a l.length cap ∧ l.length ≤ cap ∧ l.length ≤ maxLen ∧ (0 < l.length → a = some ⟨sb, so, none⟩) ∧ ∀ i, i < l.length → FAt W sb (so + i * 2) (l.getD i f0)
theorem FieldsAt.below {w w' : World} {v : Value} {l : List FV} (h : FieldsAt w v l) (hb : Below w.heap.size w w') : FieldsAt w' v l := by
  obtain ⟨a, cap, sb, so, h1, hc, h2, h3, h4⟩ := h
  refine ⟨a, cap, sb, so, h1, hc, h2, h3, fun i hi => ?_⟩
  obtain ⟨g1, g2, g3, g4⟩ := h4 i hi
  have k0 := block_lt_of_cell g1
  exact ⟨by rw [hb.cell (p := ⟨sb, so + i * 2, none⟩) k0]; exact g1, by rw [hb.cell (p := ⟨sb, so + i * 2 + 1, none⟩) k0]; exact g2, g3, g4⟩
/-- A head: its first line's parts, its fields. -/
structure HdV where
  a : ByteArray
  b : ByteArray
  c : ByteArray
  fs : List FV
def fN (f : FV) : List Nat × List Nat := (bytes f.1, bytes f.2)
def HdV.hd (h : HdV) : Hd := ⟨bytes h.a, bytes h.b, bytes h.c, h.fs.map fN⟩
/-- Its value, the fields behind the slice v. -/
def HdV.val (h : HdV) (v : Value) : Value := .agg #[.string h.a, .string h.b, .string h.c, v]
structure HdV.Fit (h : HdV) : Prop where
  a : h.a.size ≤ maxLen
  b : h.b.size ≤ maxLen
  c : h.c.size ≤ maxLen

/-- What is told by the k-th field. -/
def told (h : HdV) (k : Nat) : List Nat := join (line1 h.hd :: ((h.fs.take k).map fN).map lineF)
theorem told_zero (h : HdV) : told h 0 = bytes h.a ++ 32 :: (bytes h.b ++ 32 :: (bytes h.c ++ [13, 10])) := by
  simp [told, line1, HdV.hd]
theorem told_succ (h : HdV) (k : Nat) (hk : k < h.fs.length) : told h (k + 1) = told h k ++ (bytes (h.fs.getD k f0).1 ++ 58 :: 32 :: (bytes (h.fs.getD k f0).2 ++ [13, 10])) := by
  unfold told
  rw [List.take_succ_eq_append_getElem hk, List.map_append, List.map_append, ← List.cons_append, join_append]
  have e : h.fs.getD k f0 = h.fs[k] := by simp [List.getD_eq_getElem?_getD, List.getElem?_eq_getElem hk]
  rw [e]
  simp [lineF, fN]
theorem told_all (h : HdV) : told h h.fs.length ++ [13, 10] = text h.hd := by
  unfold told text HdV.hd
  rw [List.take_of_length_le (Nat.le_refl _)]
theorem told_mono (h : HdV) (k : Nat) (hk : k ≤ h.fs.length) : (told h k).length ≤ (text h.hd).length := by
  have key : ∀ d, d ≤ h.fs.length → (told h (h.fs.length - d)).length ≤ (told h h.fs.length).length := by
    intro d
    induction d with
    | zero => intro _; exact Nat.le_refl _
    | succ d ih =>
      intro hd
      have := ih (by omega)
      have e : h.fs.length - d = (h.fs.length - (d + 1)) + 1 := by omega
      rw [e, told_succ h _ (by omega), List.length_append] at this
      omega
  have := key (h.fs.length - k) (by omega)
  rw [show h.fs.length - (h.fs.length - k) = k from by omega] at this
  rw [← told_all, List.length_append]
  omega
def s32 : ByteArray := { data := #[32] }
def s1310 : ByteArray := { data := #[13, 10] }
def s58 : ByteArray := { data := #[58, 32] }

end Go.Proofs.YtdndpicfnlcgjaaDoor
/- What Check's and Show's closures keep of the pieces that they are told. -/
namespace Go.Proofs.YtdndpicfnlcgjaaDoor
open Go.RowKit HeadPlain

/-- What Check's closure keeps: how many bytes so far. -/
structure CntI (w0 : World) (C : Nat) (acc : List Nat) (W : World) : Prop where
  c : W.heap[C]? = some (.cells #[.int .i64 (acc.length : Int)] 3 (0, 0))
  b : Below w0.heap.size w0 W
/-- What Show's closure keeps: the bytes so far. -/
structure ShowI (w0 : World) (C : Nat) (acc : List Nat) (W : World) : Prop where
  ex : ∃ v, W.heap[C]? = some (.cells #[v] 77 (0, 0)) ∧ W.ownsRow w0.heap.size 5 1 v acc.length (u8s acc)
  b : Below w0.heap.size w0 W

theorem strCells_bytes (s : ByteArray) : Lib.strCells s = u8s (bytes s) := by
  unfold Lib.strCells u8s bytes
  rw [List.map_map]
  rfl
theorem infoU8 : ∃ i, Tryd.prog.info? 5 = some i ∧ i.zero = some (.int .u8 0) ∧ i.size = 1 ∧ i.bytes = 1 := by
  have h5 := info5
  cases hi : Tryd.prog.info? 5 with
  | none => rw [hi] at h5; cases h5
  | some i =>
    rw [hi] at h5
    simp only [Option.map_some, Option.some.injEq, Prod.mk.injEq] at h5
    exact ⟨i, rfl, h5.1, h5.2.1, h5.2.2⟩

end Go.Proofs.YtdndpicfnlcgjaaDoor
/- Check: whether a head may be. -/
namespace Go.Proofs.YtdndpicfnlcgjaaDoor
open Go.RowKit HeadPlain

theorem formB_eq (h : HdV) : formB h.hd = (firstB h.a h.b h.c && h.fs.all fun f => fieldB f.1 f.2) := by
  unfold formB firstB wordB HdV.hd fieldB
  simp only [List.all_map, Bool.and_assoc]
  rfl
/-- Check's answer. -/
def chk (h : HdV) : Nat := if formB h.hd = true then (if 32 < h.fs.length ∨ 2048 < (text h.hd).length then 51 else 0) else 52

end Go.Proofs.YtdndpicfnlcgjaaDoor
/- Show: a head as bytes. -/
namespace Go.Proofs.YtdndpicfnlcgjaaDoor
open Go.RowKit HeadPlain

theorem text_le (h : HdV) (hc : chk h = 0) : formB h.hd = true ∧ h.fs.length ≤ 32 ∧ (text h.hd).length ≤ 2048 := by
  unfold chk at hc
  by_cases h1 : formB h.hd = true
  · rw [if_pos h1] at hc
    by_cases h2 : 32 < h.fs.length ∨ 2048 < (text h.hd).length
    · rw [if_pos h2] at hc; cases hc
    · exact ⟨h1, by omega, by omega⟩
  · rw [if_neg h1] at hc; cases hc

/-- What Show answers: nothing and the error, or a row of its own that holds the bytes. -/
def ShowR (w0 w' : World) (h : HdV) (e : Ending) : Prop :=
  (chk h ≠ 0 ∧ e = .returned (.tuple #[.slice none 0 0, .int .i64 (chk h : Nat)])) ∨
  (chk h = 0 ∧ ∃ v, e = .returned (.tuple #[v, .int .i64 0]) ∧ w'.ownsRow w0.heap.size 5 1 v (text h.hd).length (u8s (text h.hd)))

end Go.Proofs.YtdndpicfnlcgjaaDoor
