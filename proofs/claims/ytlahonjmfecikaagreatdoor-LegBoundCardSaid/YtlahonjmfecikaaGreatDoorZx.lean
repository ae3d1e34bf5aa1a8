/- The texts below, joined. -/
import Derived.Test.YtlahonjmfecikaaGreatDoorZk
import Derived.WalkMore
import Derived.Lib.AppendStr
import Derived.WalkSmall
import Derived.OwnWalk
import Derived.Lib.BufferWrite
import Derived.Lib.UnsafeStr
import Derived.Deep.DeepCutAuto
import Derived.StillTailTactics
import Derived.Deep.Strs
import Derived.Maps.OwnSet
import Derived.Carry
import Derived.Shelf.Strings.Shaped
import Derived.Shelf.LaysM
import Derived.Test.YtlahonjmfecikaaGreatDoorProg
import Derived.HandedShaped
import Derived.Lay
import Derived.ProofKit
import Derived.LaidMore
import Derived.Lib.LaidTab
import Derived.Stop.Joined
import Derived.Stop.LaidErr
import Derived.OpenShut
import Derived.Laws.IdiomArrays
import Derived.ChangeArms
import Derived.ChangeSlices
set_option maxRecDepth 100000
set_option linter.unusedVariables false
set_option linter.unusedSimpArgs false
set_option maxRecDepth 100000
namespace Go.Proofs.YtlahonjmfecikaaGreatDoor
open Go.RowKit HeadPlain
theorem tokB_span (c : Nat) : tokB c = (spanB c || marks.contains c) := rfl
theorem index_span (k : Nat) (hk : k < 3) (W : World) : (Instr.index 200 (.agg spans.toArray) (.int .i64 (k : Int))).run Tryz.prog W = .ok (.agg #[.int .u8 ((([97, 65, 48] : List Nat).getD k 0 : Nat) : Int), .int .u8 ((([122, 90, 57] : List Nat).getD k 0 : Nat) : Int)]) W := by
  match k, hk with
  | 0, _ => show _ = _; kernel_rfl
  | 1, _ => show _ = _; kernel_rfl
  | 2, _ => show _ = _; kernel_rfl
def spanTo (c k : Nat) : Prop := ∀ j, j < k → ¬ (([97, 65, 48] : List Nat).getD j 0 ≤ c ∧ c ≤ ([122, 90, 57] : List Nat).getD j 0)
theorem spanTo_three {c : Nat} (h : spanTo c 3) : spanB c = false := by
  have h0 := h 0 (by decide)
  have h1 := h 1 (by decide)
  have h2 := h 2 (by decide)
  simp only [List.getD_cons_zero, List.getD_cons_succ] at h0 h1 h2
  unfold spanB
  simp only [Bool.or_eq_false_iff, Bool.and_eq_false_iff, decide_eq_false_iff_not]
  omega
theorem span_hit {c k : Nat} (hk : k < 3) (h : ([97, 65, 48] : List Nat).getD k 0 ≤ c ∧ c ≤ ([122, 90, 57] : List Nat).getD k 0) : spanB c = true := by
  unfold spanB
  simp only [Bool.or_eq_true, Bool.and_eq_true, decide_eq_true_eq]
  match k, hk with
  | 0, _ => simp at h; omega
  | 1, _ => simp at h; omega
  | 2, _ => simp at h; omega
set_option maxHeartbeats 1000000 in
set_option maxRecDepth 100000 in
theorem token_any (s : ByteArray) (W : World) (hg : Globs W) (hs : s.size ≤ maxLen) : Calls Tryz.prog 130 #[.string s] W fun e w' => e = .returned (.bool (token (bytes s))) ∧ Sl (Below W.heap.size W w') := by
  unfold maxLen at hs
  have HG := Sl.mk hg
  clear hg
  have HI62 : Sl ((Tryz.prog.info? 200).map (·.size) = some spans.length) := ⟨by kernel_rfl⟩
  go_enter Tryz.func130, Tryz.ntmps130
  go_wp2
  go_step3
  go_wp2
  go_step3
  go_wp2
  go_loopw [8] (fun i wr => ∃ k : Nat, k ≤ s.size ∧ i = .int .i64 k ∧ Sl (Below W.heap.size W wr) ∧ Sl (∀ j, j < k → tokB ((bytes s).getD j 0) = true)) (fun i _ => s.size - (intOf i).toNat)
  case atStart => exact ⟨0, by omega, rfl, ⟨Below.refl _ _⟩, ⟨fun j hj => by omega⟩⟩
  case round =>
    rename World => W0
    obtain ⟨k, hk, rfl, HB, HA⟩ := hrel
    by_cases hlt : k < s.size
    · obtain ⟨c, hc⟩ : ∃ c, (s[k]'hlt).toNat = c := ⟨_, rfl⟩
      have HC : Sl ((bytes s).getD k 0 = c) := ⟨by rw [bytes_getD s k hlt, ← hc]; rfl⟩
      have HG2 : Sl (Globs W0) := ⟨HG.out.of HB.out⟩
      go_wp2_with (first | (refine wpList_load_mid rfl 200 (.global 0) rfl 0 0 rfl spans (.array 3 199) HG2.out.t Tryz.underlying200 rfl HI62.out ?_))
      have HIB : Sl (∀ V : World, Calls Tryz.prog 154 #[.string { data := #[33, 35, 36, 37, 38, 39, 42, 43, 45, 46, 94, 95, 96, 124, 126] }, .int .u8 (c : Int)] V fun e w' => e = .returned (.int .i64 (Lib.indexByte [33, 35, 36, 37, 38, 39, 42, 43, 45, 46, 94, 95, 96, 124, 126] (c : Int).toNat.toUInt8)) ∧ w' = V) := ⟨fun V => Tryz.strings_IndexByte _ _ V⟩
      obtain ⟨z, hz⟩ : ∃ z, Lib.indexByte [33, 35, 36, 37, 38, 39, 42, 43, 45, 46, 94, 95, 96, 124, 126] (c : Int).toNat.toUInt8 = z := ⟨_, rfl⟩
      have hc256 : c < 256 := by rw [← hc]; exact UInt8.toNat_lt _
      have HZ : Sl (decide (z < 0) = !marks.contains c) := ⟨by
        rw [← hz, indexByte_mem]
        rw [show ((c : Int).toNat.toUInt8).toNat = c from by rw [Int.toNat_natCast]; exact UInt8.toNat_ofNat_of_lt' hc256]
        rfl⟩
      rw [hz] at HIB
      clear hz
      go_loopw [12] (fun i wr => ∃ m : Nat, m ≤ 3 ∧ i = .int .i64 m ∧ Sl (Below W.heap.size W wr) ∧ Sl (spanTo c m)) (fun i _ => 3 - (intOf i).toNat)
      case atStart => exact ⟨0, by omega, rfl, HB, ⟨fun j hj => by omega⟩⟩
      case round =>
        obtain ⟨m, hm, rfl, HB2, HS⟩ := hrel
        by_cases hlm : m < 3
        · have hidx := index_span m hlm
          obtain ⟨x, hx⟩ : ∃ x, ([97, 65, 48] : List Nat).getD m 0 = x := ⟨_, rfl⟩
          obtain ⟨y, hy⟩ : ∃ y, ([122, 90, 57] : List Nat).getD m 0 = y := ⟨_, rfl⟩
          have HXY : Sl (([97, 65, 48] : List Nat).getD m 0 = x ∧ ([122, 90, 57] : List Nat).getD m 0 = y) := ⟨hx, hy⟩
          rw [hx, hy] at hidx
          clear hx hy
          by_cases h1 : x ≤ c
          · have h1' : decide ((x : Int) ≤ (c : Int)) = true := decide_eq_true (by omega)
            by_cases h2 : c ≤ y
            · have h2' : decide ((c : Int) ≤ (y : Int)) = true := decide_eq_true (by omega)
              have HSP : Sl (spanB c = true) := ⟨span_hit hlm (by rw [HXY.out.1, HXY.out.2]; exact ⟨h1, h2⟩)⟩
              have HTK : Sl (tokB c = true) := ⟨by rw [tokB_span, HSP.out]; rfl⟩
              go_wp2
              go_quiet (fail)
              go_wp2
              refine ⟨⟨k + 1, by omega, by go_num, ⟨?_⟩, ⟨fun j hj => ?_⟩⟩, by simp [intOf]; omega⟩
              · exact ((HB2.out.alloc HB2.out.size _).trans ((Still.below ⟨_, rfl⟩).mono (by rw [alloc_size]; have := HB2.out.size; omega)))
              · by_cases e : j = k
                · subst e; rw [HC.out]; exact HTK.out
                · exact HA.out j (by omega)
            · have h2' : decide ((c : Int) ≤ (y : Int)) = false := decide_eq_false (by omega)
              go_wp2
              go_quiet (fail)
              go_wp2
              refine ⟨⟨m + 1, by omega, by go_num, ⟨?_⟩, ⟨fun j hj => ?_⟩⟩, by simp [intOf]; omega⟩
              · exact ((HB2.out.alloc HB2.out.size _).trans ((Still.below ⟨_, rfl⟩).mono (by rw [alloc_size]; have := HB2.out.size; omega)))
              · by_cases e : j = m
                · subst e; rw [HXY.out.1, HXY.out.2]; omega
                · exact HS.out j (by omega)
          · have h1' : decide ((x : Int) ≤ (c : Int)) = false := decide_eq_false (by omega)
            go_wp2
            go_quiet (fail)
            go_wp2
            refine ⟨⟨m + 1, by omega, by go_num, ⟨?_⟩, ⟨fun j hj => ?_⟩⟩, by simp [intOf]; omega⟩
            · exact ((HB2.out.alloc HB2.out.size _).trans ((Still.below ⟨_, rfl⟩).mono (by rw [alloc_size]; have := HB2.out.size; omega)))
            · by_cases e : j = m
              · subst e; rw [HXY.out.1, HXY.out.2]; omega
              · exact HS.out j (by omega)
        · have hge : ((m : Int) < 3) = False := eq_false (by omega)
          have HSP : Sl (spanB c = false) := ⟨by
            obtain rfl : m = 3 := by omega
            exact spanTo_three HS.out⟩
          have HTK : Sl (tokB c = marks.contains c) := ⟨by rw [tokB_span, HSP.out]; rfl⟩
          by_cases hz0 : z < 0
          · have HTF : Sl (tokB c = false) := ⟨by
              have := HZ.out
              rw [decide_eq_true hz0] at this
              rw [HTK.out]
              cases h : marks.contains c with
              | false => rfl
              | true => rw [h] at this; cases this⟩
            go_wp2_with fail
            refine (HIB.out _).mono ?_
            rintro e w2 ⟨rfl, rfl⟩
            go_wp2
            rw [Exit.noGoto_ret]
            go_ret
            exact ⟨ret_bool (token_no k hlt (by rw [HC.out]; exact HTF.out)).symm, HB2⟩
          · have HTF : Sl (tokB c = true) := ⟨by
              have := HZ.out
              rw [decide_eq_false hz0] at this
              rw [HTK.out]
              cases h : marks.contains c with
              | false => rw [h] at this; cases this
              | true => rfl⟩
            go_wp2_with fail
            refine (HIB.out _).mono ?_
            rintro e w2 ⟨rfl, rfl⟩
            go_wp2
            refine ⟨⟨k + 1, by omega, by go_num, HB2, ⟨fun j hj => ?_⟩⟩, by simp [intOf]; omega⟩
            by_cases e : j = k
            · subst e; rw [HC.out]; exact HTF.out
            · exact HA.out j (by omega)
    · have hge : ((k : Int) < (s.size : Int)) = False := eq_false (by omega)
      have HT : Sl (token (bytes s) = decide (0 < s.size)) := ⟨token_yes (fun j hj => HA.out j (by omega))⟩
      have hq : (s.toList == []) = !decide (0 < s.size) := by
        rw [beq_bytes, ← bytes_length]
        cases h : bytes s <;> simp
      by_cases h0 : 0 < s.size
      · rw [decide_eq_true h0] at hq HT
        go_wp2
        rw [Exit.noGoto_ret]
        go_ret
        exact ⟨ret_bool (by rw [HT.out]), HB⟩
      · rw [decide_eq_false h0] at hq HT
        go_wp2
        rw [Exit.noGoto_ret]
        go_ret
        exact ⟨ret_bool (by rw [HT.out]), HB⟩
end Go.Proofs.YtlahonjmfecikaaGreatDoor
namespace Go.Proofs.YtlahonjmfecikaaGreatDoor
open Go.RowKit HeadPlain
end Go.Proofs.YtlahonjmfecikaaGreatDoor
namespace Go.Proofs.YtlahonjmfecikaaGreatDoor
open Go.RowKit HeadPlain
abbrev FV := ByteArray × ByteArray
def f0 : FV := (ByteArray.empty, ByteArray.empty)
def FAt (W : World) (b o : Nat) (x : FV) : Prop :=
  W.cell? ⟨b, o, none⟩ = some (.string x.1) ∧ W.cell? ⟨b, o + 1, none⟩ = some (.string x.2) ∧ x.1.size ≤ maxLen ∧ x.2.size ≤ maxLen
def FieldsAt (W : World) (v : Value) (l : List FV) : Prop :=
  ∃ (a : Option Addr) (cap sb so : Nat), v = .slice a l.length cap ∧ l.length ≤ cap ∧ l.length ≤ maxLen ∧ (0 < l.length → a = some ⟨sb, so, none⟩) ∧ ∀ i, i < l.length → FAt W sb (so + i * 2) (l.getD i f0)
theorem FieldsAt.below {w w' : World} {v : Value} {l : List FV} (h : FieldsAt w v l) (hb : Below w.heap.size w w') : FieldsAt w' v l := by
  obtain ⟨a, cap, sb, so, h1, hc, h2, h3, h4⟩ := h
  refine ⟨a, cap, sb, so, h1, hc, h2, h3, fun i hi => ?_⟩
  obtain ⟨g1, g2, g3, g4⟩ := h4 i hi
  have k0 := block_lt_of_cell g1
  exact ⟨by rw [hb.cell (p := ⟨sb, so + i * 2, none⟩) k0]; exact g1, by rw [hb.cell (p := ⟨sb, so + i * 2 + 1, none⟩) k0]; exact g2, g3, g4⟩
structure HdV where
  a : ByteArray
  b : ByteArray
  c : ByteArray
  fs : List FV
def fN (f : FV) : List Nat × List Nat := (bytes f.1, bytes f.2)
def HdV.hd (h : HdV) : Hd := ⟨bytes h.a, bytes h.b, bytes h.c, h.fs.map fN⟩
def HdV.val (h : HdV) (v : Value) : Value := .agg #[.string h.a, .string h.b, .string h.c, v]
structure HdV.Fit (h : HdV) : Prop where
  a : h.a.size ≤ maxLen
  b : h.b.size ≤ maxLen
  c : h.c.size ≤ maxLen
def told (h : HdV) (k : Nat) : List Nat := join (line1 h.hd :: ((h.fs.take k).map fN).map lineF)
end Go.Proofs.YtlahonjmfecikaaGreatDoor
namespace Go.Proofs.YtlahonjmfecikaaGreatDoor
open Go.RowKit HeadPlain
end Go.Proofs.YtlahonjmfecikaaGreatDoor
namespace Go.Proofs.YtlahonjmfecikaaGreatDoor
open Go.RowKit HeadPlain
def chk (h : HdV) : Nat := if formB h.hd = true then (if 32 < h.fs.length ∨ 2048 < (text h.hd).length then 51 else 0) else 52
end Go.Proofs.YtlahonjmfecikaaGreatDoor
namespace Go.Proofs.YtlahonjmfecikaaGreatDoor
open Go.RowKit HeadPlain
theorem text_le (h : HdV) (hc : chk h = 0) : formB h.hd = true ∧ h.fs.length ≤ 32 ∧ (text h.hd).length ≤ 2048 := by
  unfold chk at hc
  by_cases h1 : formB h.hd = true
  · rw [if_pos h1] at hc
    by_cases h2 : 32 < h.fs.length ∨ 2048 < (text h.hd).length
    · rw [if_pos h2] at hc; cases hc
    · exact ⟨h1, by omega, by omega⟩
  · rw [if_neg h1] at hc; cases hc
end Go.Proofs.YtlahonjmfecikaaGreatDoor
set_option maxRecDepth 100000
namespace Go.Proofs.YtlahonjmfecikaaGreatDoor.Rou
open Go.RowKit
open HeadPlain (toN)
open RoutePlain (Rt stem stem_cons stem_take stem_at below better)
theorem index_list (l : List UInt8) : Lib.indexByte l 63 = if (stem (l.map (·.toNat))).length < l.length then ((stem (l.map (·.toNat))).length : Int) else -1 := by
  induction l with
  | nil => rfl
  | cons x r ih =>
    unfold Lib.indexByte
    rw [List.map_cons, stem_cons]
    by_cases h : x = 63
    · subst h; simp
    · have h2 : (x == 63) = false := by rw [beq_eq_false_iff_ne]; exact h
      have h3 : ¬ x.toNat = 63 := fun e => h (UInt8.toNat_inj.1 e)
      rw [h2, if_neg (by simp), if_neg h3, ih, List.length_cons, List.length_cons]
      by_cases h4 : (stem (r.map (·.toNat))).length < r.length
      · rw [if_pos h4, if_pos (Nat.succ_lt_succ h4)]
        have : (((stem (r.map (·.toNat))).length : Int) == -1) = false := by rw [beq_eq_false_iff_ne]; omega
        rw [this]; simp
      · rw [if_neg h4, if_neg (fun h => h4 (Nat.lt_of_succ_lt_succ h))]; rfl
theorem head_slash (l : List UInt8) : Lib.hasPrefix l [47] = decide ((l.map (·.toNat)).getD 0 0 = 47) := by
  unfold Lib.hasPrefix
  cases l with
  | nil => rfl
  | cons x r =>
    rw [Bool.eq_iff_iff, List.isPrefixOf_iff_prefix, decide_eq_true_eq]
    simp only [List.map_cons, List.getD_cons_zero, List.cons_prefix_cons, List.nil_prefix, and_true]
    exact ⟨fun e => by rw [← e]; rfl, fun e => (UInt8.toNat_inj.1 e).symm⟩
end Go.Proofs.YtlahonjmfecikaaGreatDoor.Rou
set_option maxRecDepth 100000
namespace Go.Proofs.YtlahonjmfecikaaGreatDoor.Rou
open Go.RowKit
open RoutePlain (Rt stem stem_cons stem_take stem_at below better)
theorem byte_at {s : ByteArray} {k c : Nat} (hk : k < s.size) (hc : (s[k]'hk).toNat = c) : (bytes s).getD k 0 = c := by rw [bytes_getD s k hk, ← hc]; rfl
def seenB (l : List Nat) : Bool := l.all fun x => decide (33 ≤ x) && decide (x ≤ 126)
theorem seen_no {l : List Nat} {k : Nat} (hk : k < l.length) (h : ¬ (33 ≤ l.getD k 0 ∧ l.getD k 0 ≤ 126)) : seenB l = false := by
  unfold seenB
  rw [List.all_eq_false]
  refine ⟨l.getD k 0, by rw [List.getD_eq_getElem?_getD, List.getElem?_eq_getElem hk]; exact List.getElem_mem _, ?_⟩
  simpa using h
theorem seen_yes {l : List Nat} (h : ∀ k, k < l.length → 33 ≤ l.getD k 0 ∧ l.getD k 0 ≤ 126) : seenB l = true := by
  unfold seenB
  rw [List.all_eq_true]
  intro x hx
  obtain ⟨k, hk, rfl⟩ := List.getElem_of_mem hx
  have := h k hk
  rw [List.getD_eq_getElem?_getD, List.getElem?_eq_getElem hk] at this
  simpa using this
theorem seen_any (s : ByteArray) (W : World) (hs : s.size ≤ maxLen) (r : Bool) (hr : seenB (bytes s) = r) : Calls Tryz.prog 128 #[.string s] W fun e w' => e = .returned (.bool r) ∧ W = w' := by
  unfold maxLen at hs
  have HR := Sl.mk hr
  clear hr
  go_enter Tryz.func128, Tryz.ntmps128
  go_wp2
  go_loopw [6] (fun i wr => ∃ k : Nat, k ≤ s.size ∧ i = .int .i64 k ∧ W = wr ∧ Sl (∀ j, j < k → 33 ≤ (bytes s).getD j 0 ∧ (bytes s).getD j 0 ≤ 126)) (fun i _ => s.size - (intOf i).toNat)
  case atStart => exact ⟨0, Nat.zero_le _, rfl, rfl, ⟨fun j hj => by omega⟩⟩
  case round =>
    obtain ⟨k, hk, rfl, rfl, HK⟩ := hrel
    by_cases hlt : k < s.size
    · obtain ⟨c, hc⟩ : ∃ c, (s[k]'hlt).toNat = c := ⟨_, rfl⟩
      have HC := Sl.mk (byte_at hlt hc)
      by_cases h1 : c < 33
      · have h1' : ((c : Int) < 33) = True := eq_true (by omega)
        have HF : Sl (r = false) := ⟨by rw [← HR.out]; exact seen_no (k := k) (by rw [bytes_length]; exact hlt) (by rw [HC.out]; omega)⟩
        go_wp2
        go_ret
        exact ⟨ret_bool HF.out.symm, rfl⟩
      · have h1' : ((c : Int) < 33) = False := eq_false (by omega)
        by_cases h2 : c > 126
        · have h2' : ((c : Int) > 126) = True := eq_true (by omega)
          have HF : Sl (r = false) := ⟨by rw [← HR.out]; exact seen_no (k := k) (by rw [bytes_length]; exact hlt) (by rw [HC.out]; omega)⟩
          go_wp2
          go_ret
          exact ⟨ret_bool HF.out.symm, rfl⟩
        · have h2' : ((c : Int) > 126) = False := eq_false (by omega)
          go_wp2
          refine ⟨⟨k + 1, by omega, by go_num, trivial, ⟨fun j hj => ?_⟩⟩, by simp [intOf]; omega⟩
          by_cases e : j = k
          · subst e; rw [HC.out]; omega
          · exact HK.out j (by omega)
    · have hge : ((k : Int) < (s.size : Int)) = False := eq_false (by omega)
      have HT : Sl (r = true) := ⟨by rw [← HR.out]; exact seen_yes (fun j hj => HK.out j (by rw [bytes_length] at hj; omega))⟩
      go_wp2
      go_ret
      exact ⟨ret_bool HT.out.symm, rfl⟩
def plainB (l : List Nat) : Bool := seenB l && decide (0 < l.length)
end Go.Proofs.YtlahonjmfecikaaGreatDoor.Rou
set_option maxRecDepth 100000
namespace Go.Proofs.YtlahonjmfecikaaGreatDoor.Rou
open Go.RowKit
open HeadPlain (token)
open RoutePlain (Rt stem stem_cons stem_take stem_no stem_at below better)
theorem below_key {w w' : World} {g : Nat} {o : Obj} (h : w.heap[g]? = some o) (k : Below w.heap.size w w') : w'.heap[g]? = some o := by
  rw [k.block g (Array.getElem?_eq_some_iff.1 h).1]; exact h
theorem nil_beq (s : ByteArray) : (s.toList == ([] : List UInt8)) = decide (bytes s = []) := beq_bytes s []
theorem nil_emp (s : ByteArray) : s.toList.isEmpty = decide (bytes s = []) := by rw [← nil_beq]; cases s.toList <;> rfl
theorem nil_yes {s : ByteArray} (h : decide (bytes s = []) = true) : (s.toList == ([] : List UInt8)) = true ∧ s.toList.isEmpty = true ∧ (s.toList = []) = True := by
  refine ⟨by rw [nil_beq, h], by rw [nil_emp, h], eq_true ?_⟩
  have := nil_beq s
  rw [h] at this
  exact eq_of_beq this
theorem nil_no {s : ByteArray} (h : decide (bytes s = []) = false) : (s.toList == ([] : List UInt8)) = false ∧ s.toList.isEmpty = false ∧ (s.toList = []) = False := by
  refine ⟨by rw [nil_beq, h], by rw [nil_emp, h], eq_false ?_⟩
  intro e
  have := nil_beq s
  rw [h, e] at this
  cases this
theorem nil_str {s : ByteArray} (h : s.size = 0) : s = { data := #[] } := ByteArray.ext (Array.eq_empty_of_size_eq_zero h)
theorem newClone_any (s : ByteArray) (w : World) (hm : s.size ≤ 1000000) : Calls Tryz.prog 91 #[.string s] w fun e w' => e = .returned (.string s) ∧ Sl (Below w.heap.size w w') := by
  by_cases h0 : s.size = 0
  · obtain rfl := nil_str h0
    clear h0 hm
    go_enter Tryz.func91, Tryz.ntmps91
    go_wp2
    go_ret
    exact ⟨rfl, ⟨Below.refl _ _⟩⟩
  · have hq : (((s.size : Nat) : Int) == 0) = false := beq_eq_false_iff_ne.2 (by omega)
    have hi5 : (Tryz.prog.info? 5).map (·.size) = some 1 := size5
    have hc5 : Tryz.prog.cellsOf 5 = 1 := by kernel_rfl
    have mk := make_u8 (s.size : Int) s.size rfl hm
    obtain ⟨M, hM⟩ : ∃ M, (u8s (zs s.size)).toArray = M := ⟨_, rfl⟩
    rw [hM] at mk
    have hMs : M.size = s.size := by rw [← hM, List.size_toArray, u8s_length]; simp [zs]
    obtain ⟨wa, hwa⟩ : ∃ w1, w.alloc (.cells M 5) = w1 := ⟨_, rfl⟩
    have ha : wa.heap[w.heap.size]? = some (.cells M 5 (0, 0)) := by rw [← hwa]; exact alloc_new _ _ _ rfl
    have hmk : (Instr.makeSlice 49 (.int .i64 (s.size : Int)) (.int .i64 (s.size : Int))).run Tryz.prog w = .ok (.slice (some ⟨w.heap.size, 0, none⟩) s.size s.size) wa := by rw [← hwa]; exact mk w
    have hcp := Lib.run_copy_row_string (P := Tryz.prog) wa 49 9 3 5 w.heap.size 0 s.size s.size s M 5 Tryz.underlying49 hi5 ha (Nat.le_refl _) (by omega)
    rw [List.take_zero, List.nil_append, List.drop_of_length_le (by rw [Array.length_toList]; omega), List.append_nil] at hcp
    obtain ⟨wb, hwb⟩ : ∃ w1, wa.setRow w.heap.size (Lib.byteCells s.data.toList).toArray = w1 := ⟨_, rfl⟩
    rw [hwb] at hcp
    have hb : wb.heap[w.heap.size]? = some (.cells (Lib.byteCells s.data.toList).toArray 5 (0, 0)) := by rw [← hwb]; exact setRow_heap _ _ M _ 5 (0, 0) ha
    have hne : s.data.toList ≠ [] := fun e => h0 (by rw [Lib.size_eq, e]; rfl)
    have hus := Lib.run_unsafeString_row (P := Tryz.prog) wb 176 3 9 5 Tryz.underlying176 hc5 w.heap.size s.size (by unfold World.shape?; rw [hb]; simp [Lib.byteCells_length]) s.data.toList hne (by rw [← Lib.size_eq]; omega) (by rw [← Lib.size_eq]; omega)
      (fun j x hx => by
        rw [Addr.add_mid, Nat.zero_add, cell_of_row _ _ _ _ _ _ hb, List.getElem?_toArray]
        simp [Lib.byteCells, hx])
    rw [← Lib.size_eq] at hus
    have HB : Sl (Below w.heap.size w (wb.freeze ⟨w.heap.size, 0, none⟩ s.size)) := ⟨by
      refine Lib.below_freeze (p := ⟨w.heap.size, 0, none⟩) ?_ (Nat.le_refl _) _
      have h1 : Below w.heap.size w wa := by rw [← hwa]; exact (Below.refl _ _).alloc (Nat.le_refl _) _
      refine h1.trans ?_
      rw [← hwb]
      exact ⟨rfl, rfl, rfl, by simp, fun k hk => setRow_other _ _ _ _ (by omega)⟩⟩
    clear hwa hwb ha hb hM hMs mk hne
    go_enter Tryz.func91, Tryz.ntmps91
    go_wp2
    go_ret
    exact ⟨rfl, HB⟩
theorem clone_any (s : ByteArray) (w : World) (hm : s.size ≤ 1000000) : Calls Tryz.prog 59 #[.string s] w fun e w' => e = .returned (.string s) ∧ Sl (Below w.heap.size w w') := by
  have C := newClone_any s w hm
  clear hm
  go_enter Tryz.func59, Tryz.ntmps59
  go_wp2_with fail
  refine C.mono ?_
  rintro e w1 ⟨rfl, HB⟩
  clear C
  go_wp2
  go_ret
  exact ⟨rfl, HB⟩
theorem box_of (W : World) (a b c : ByteArray) : ∃ V, W.alloc (.cells #[.string a, .string b, .string c] 72) = V ∧ Sl (Below W.heap.size W V) ∧ V.heap[W.heap.size]? = some (.cells #[.string a, .string b, .string c] 72 (0, 0)) :=
  ⟨_, rfl, ⟨(Below.refl _ _).alloc (Nat.le_refl _) _⟩, alloc_new _ _ _ rfl⟩
end Go.Proofs.YtlahonjmfecikaaGreatDoor.Rou
set_option maxRecDepth 100000
namespace Go.Proofs.YtlahonjmfecikaaGreatDoor.Rou
open Go.RowKit
open HeadPlain (token)
open RoutePlain (Rt stem stem_cons stem_take stem_no stem_at below better)
theorem has_mark (s : ByteArray) : decide (0 ≤ Lib.indexByte s.data.toList 63) = decide (63 ∈ bytes s) := by
  rw [index_list]
  change decide (0 ≤ if (stem (bytes s)).length < s.data.toList.length then ((stem (bytes s)).length : Int) else -1) = _
  have hl : s.data.toList.length = (bytes s).length := by unfold bytes; rw [List.length_map]
  rw [hl]
  by_cases h : (stem (bytes s)).length < (bytes s).length
  · rw [if_pos h, decide_eq_true (by omega), decide_eq_true]
    rw [← stem_at _ h, List.getD_eq_getElem?_getD, List.getElem?_eq_getElem h]
    exact List.getElem_mem _
  · rw [if_neg h, decide_eq_false (by omega), decide_eq_false]
    intro hm
    have hs : stem (bytes s) = bytes s := by rw [stem_take, List.take_of_length_le (by omega)]
    rw [← hs] at hm
    exact stem_no _ _ hm rfl
def okB (r : Rb) : Bool := (decide ((bytes r.pre).getD 0 0 = 47) && (seenB (bytes r.pre) && !decide (63 ∈ bytes r.pre))) && ((decide (bytes r.pro = []) || token (bytes r.pro)) && (!decide (bytes r.dst = []) && seenB (bytes r.dst)))
set_option maxHeartbeats 4000000 in
theorem maybe_any (a b c : ByteArray) (W : World) (hg : Globs W) (ha : a.size ≤ maxLen) (hb : b.size ≤ maxLen) (hc : c.size ≤ maxLen) (r : Bool) (hr : okB ⟨a, b, c⟩ = r) :
    Calls Tryz.prog 98 #[.agg #[.string a, .string b, .string c]] W fun en w' => en = .returned (.bool r) ∧ Sl (Below W.heap.size W w') := by
  unfold okB at hr
  simp only at hr
  obtain ⟨wa, hwa, HBa, hx⟩ := box_of W a b c
  obtain ⟨g, hgg⟩ : ∃ g, W.heap.size = g := ⟨_, rfl⟩
  have HG0 : Sl (g ≤ wa.heap.size) := ⟨by rw [← hgg]; exact HBa.out.size⟩
  have HGL : Sl (Globs wa) := ⟨hg.of HBa.out⟩
  rw [hgg] at HBa hx ⊢
  have HX := Sl.mk hx
  clear hx hg
  have P1 : Sl (∀ V, Calls Tryz.prog 127 #[.string a, .string { data := #[47] }] V fun e w' => e = .returned (.bool (decide ((bytes a).getD 0 0 = 47))) ∧ V = w') := ⟨fun V => (Tryz.strings_HasPrefix a { data := #[47] } V).mono fun e w' ⟨h1, h2⟩ => ⟨h1.trans (by rw [show ({ data := #[47] } : ByteArray).data.toList = [47] from rfl, head_slash]; rfl), h2.symm⟩⟩
  have P2 : Sl (∀ V r, seenB (bytes a) = r → Calls Tryz.prog 128 #[.string a] V fun e w' => e = .returned (.bool r) ∧ V = w') := ⟨fun V r h => seen_any a V ha r h⟩
  have P3 : Sl (∀ V, Calls Tryz.prog 129 #[.string a, .string { data := #[63] }] V fun e w' => e = .returned (.bool (decide (63 ∈ bytes a))) ∧ V = w') := ⟨fun V => (Tryz.strings_Contains_one a 63 V).mono fun e w' ⟨h1, h2⟩ => ⟨h1.trans (by rw [has_mark]), h2.symm⟩⟩
  have P5 : Sl (∀ V, Globs V → Calls Tryz.prog 130 #[.string b] V fun e w' => e = .returned (.bool (token (bytes b))) ∧ Sl (Below V.heap.size V w')) := ⟨fun V h => token_any b V h hb⟩
  have P7 : Sl (∀ V r, seenB (bytes c) = r → Calls Tryz.prog 128 #[.string c] V fun e w' => e = .returned (.bool r) ∧ V = w') := ⟨fun V r h => seen_any c V hc r h⟩
  clear ha hb hc
  obtain ⟨p1, e1⟩ : ∃ p, decide ((bytes a).getD 0 0 = 47) = p := ⟨_, rfl⟩
  obtain ⟨p2, e2⟩ : ∃ p, seenB (bytes a) = p := ⟨_, rfl⟩
  obtain ⟨p3, e3⟩ : ∃ p, decide (63 ∈ bytes a) = p := ⟨_, rfl⟩
  obtain ⟨p4, e4⟩ : ∃ p, decide (bytes b = []) = p := ⟨_, rfl⟩
  obtain ⟨p5, e5⟩ : ∃ p, token (bytes b) = p := ⟨_, rfl⟩
  obtain ⟨p6, e6⟩ : ∃ p, decide (bytes c = []) = p := ⟨_, rfl⟩
  obtain ⟨p7, e7⟩ : ∃ p, seenB (bytes c) = p := ⟨_, rfl⟩
  rw [e1] at P1 hr
  rw [e2] at hr
  have Q2 : Sl (∀ V, Calls Tryz.prog 128 #[.string a] V fun e w' => e = .returned (.bool p2) ∧ V = w') := ⟨fun V => P2.out V p2 e2⟩
  rw [e3] at P3 hr
  rw [e5] at P5 hr
  rw [e4, e6, e7] at hr
  have Q7 : Sl (∀ V, Calls Tryz.prog 128 #[.string c] V fun e w' => e = .returned (.bool p7) ∧ V = w') := ⟨fun V => P7.out V p7 e7⟩
  have E4 := Sl.mk e4
  have E6 := Sl.mk e6
  clear P2 P7 e1 e2 e3 e4 e5 e6 e7
  obtain ⟨q1, hq1⟩ : ∃ q, (p1 && (p2 && !p3)) = q := ⟨_, rfl⟩
  obtain ⟨q2, hq2⟩ : ∃ q, (p4 || p5) = q := ⟨_, rfl⟩
  rw [hq1, hq2] at hr
  have H1 := Sl.mk hq1
  have H2 := Sl.mk hq2
  have HR := Sl.mk hr
  clear hq1 hq2 hr
  go_enter Tryz.func98, Tryz.ntmps98
  go_upto_region 1 with fail
  (try rw [hwa])
  (try rw [hgg])
  clear hwa hgg
  go_cut [3] (fun s3 wx => s3 = .bool q1 ∧ wa = wx)
  case first =>
    obtain ⟨c0, c1, c2⟩ := rt_cells HX.out
    cases p1 with
    | false =>
      go_wp2_with fail
      refine (P1.out _).mono ?_
      rintro e w1 ⟨rfl, rfl⟩
      go_wp2_with fail
      go_meet
      exact ⟨by rw [← H1.out]; rfl, rfl⟩
    | true =>
      go_wp2_with fail
      refine (P1.out _).mono ?_
      rintro e w1 ⟨rfl, rfl⟩
      cases p2 with
      | false =>
        go_wp2_with fail
        refine (Q2.out _).mono ?_
        rintro e w2 ⟨rfl, rfl⟩
        go_wp2_with fail
        go_meet
        exact ⟨by rw [← H1.out]; rfl, rfl⟩
      | true =>
        go_wp2_with fail
        refine (Q2.out _).mono ?_
        rintro e w2 ⟨rfl, rfl⟩
        go_wp2_with fail
        refine (P3.out _).mono ?_
        rintro e w3 ⟨rfl, rfl⟩
        cases p3 <;> (go_wp2_with fail; go_meet; exact ⟨by rw [← H1.out]; rfl, rfl⟩)
  case rest =>
    obtain ⟨rfl, rfl⟩ := hcut
    clear P1 Q2 P3 H1
    go_upto_region 2 with fail
    go_cut [4] (fun s4 wx => s4 = .bool q2 ∧ Sl (Below g W wx) ∧ Sl (wx.heap[g]? = some (.cells #[.string a, .string b, .string c] 72 (0, 0))))
    case first =>
      obtain ⟨c0, c1, c2⟩ := rt_cells HX.out
      cases p4 with
      | true =>
        obtain ⟨n1, n2, n3⟩ := nil_yes E4.out
        go_wp2_with fail
        go_meet
        exact ⟨by rw [← H2.out]; rfl, HBa, HX⟩
      | false =>
        obtain ⟨n1, n2, n3⟩ := nil_no E4.out
        go_wp2_with fail
        refine (P5.out _ HGL.out).mono ?_
        rintro e w4 ⟨rfl, HB4⟩
        go_wp2_with fail
        go_meet
        exact ⟨by rw [← H2.out]; rfl, ⟨HBa.out.trans (HB4.out.mono HG0.out)⟩, ⟨below_key HX.out HB4.out⟩⟩
    case rest =>
      obtain ⟨rfl, HB5, HX5⟩ := hcut
      clear P5 H2 HX HBa HGL
      obtain ⟨c0, c1, c2⟩ := rt_cells HX5.out
      cases q1 with
      | false =>
        go_wp2
        go_ret
        exact ⟨ret_bool HR.out, HB5⟩
      | true =>
        cases q2 with
        | false =>
          go_wp2
          go_ret
          exact ⟨ret_bool HR.out, HB5⟩
        | true =>
          cases p6 with
          | true =>
            obtain ⟨n1, n2, n3⟩ := nil_yes E6.out
            go_wp2
            go_ret
            exact ⟨ret_bool HR.out, HB5⟩
          | false =>
            obtain ⟨n1, n2, n3⟩ := nil_no E6.out
            go_wp2_with fail
            refine (Q7.out _).mono ?_
            rintro e w6 ⟨rfl, rfl⟩
            go_wp2
            go_ret
            exact ⟨ret_bool HR.out, HB5⟩
theorem same_any (a b c d e f : ByteArray) (W : World) (g : Nat) (hg : W.heap[g]? = some (.cells #[.string d, .string e, .string f] 72 (0, 0))) (r : Bool) (hr : same3 a b c d e f = r) :
    Calls Tryz.prog 97 #[.agg #[.string a, .string b, .string c], .pointer (some ⟨g, 0, none⟩)] W fun en w' => en = .returned (.bool r) ∧ Sl (Below W.heap.size W w') := by
  have EQ := eq_rt a b c d e f
  rw [hr] at EQ
  obtain ⟨wa, hwa, HBa, hx⟩ := box_of W a b c
  have HX := Sl.mk hx
  have hg2 := below_key hg HBa.out
  obtain ⟨c0, c1, c2⟩ := rt_cells hg2
  obtain ⟨d0, d1, d2⟩ := rt_cells hx
  have hne : g ≠ W.heap.size := Nat.ne_of_lt (Array.getElem?_eq_some_iff.1 hg).1
  clear hg hg2 hx
  go_enter Tryz.func97, Tryz.ntmps97
  go_upto_region 1 with fail
  (try rw [hwa])
  go_wp2
  go_ret
  exact ⟨rfl, HBa⟩
end Go.Proofs.YtlahonjmfecikaaGreatDoor.Rou
set_option maxRecDepth 100000
namespace Go.Proofs.YtlahonjmfecikaaGreatDoor.Nam
open Go.RowKit Go.Maps Go.ChangeMaps Go.MapKept
def lit (s : ByteArray) : Lit := .string s.data.toList
def Sd (l : List ByteArray) : DataW Unit := setOf (.agg []) (l.map lit)
def SetAt (w : World) (b : Nat) (l : List ByteArray) : Prop := w.ownsMap Tryz.prog 9 (unitElem (H := Unit)) b l.length (Sd l)
theorem SetAt.below {w w' : World} {b : Nat} {l : List ByteArray} (h : SetAt w b l) (hb : Below w.heap.size w w') : SetAt w' b l :=
  h.kept (grown_below hb none) (by simp)
def fewB (l : List ByteArray) : Bool := (l.all fun s => decide (s.size ≤ 300)) && decide (l.length ≤ 30)
theorem getD_mem {l : List ByteArray} {k : Nat} (hk : k < l.length) : l.getD k ByteArray.empty ∈ l := by
  rw [List.getD_eq_getElem?_getD, List.getElem?_eq_getElem hk]; exact List.getElem_mem _
set_option maxHeartbeats 800000 in
theorem few_any (l : List ByteArray) (v : Value) (W : World) (hv : StrA W v l) (hl : l.length ≤ maxLen) (hs : ∀ s ∈ l, s.size ≤ maxLen) : Calls Tryz.prog 36 #[v] W fun e w' => e = .returned (.bool (fewB l)) ∧ W = w' := by
  obtain ⟨ad, ca, sa, oa, rfl, hca, haa, hcell⟩ := hv
  unfold maxLen at hl hs
  have HA := Sl.mk hcell
  have HAA := Sl.mk haa
  have HSZ := Sl.mk hs
  clear hcell haa hca hs
  obtain ⟨n, hn⟩ : ∃ n, l.length = n := ⟨_, rfl⟩
  have HN := Sl.mk hn
  rw [hn] at hl ⊢
  clear hn
  go_enter Tryz.func36, Tryz.ntmps36
  go_wp2
  go_loop [3] (fun i => ∃ k : Nat, k ≤ n ∧ i = .int .i64 k ∧ Sl (∀ j, j < k → (l.getD j ByteArray.empty).size ≤ 300)) (fun i => n - (intOf i).toNat)
  case atStart => exact ⟨0, Nat.zero_le _, rfl, ⟨fun j hj => by omega⟩⟩
  case round =>
    obtain ⟨k, hk, rfl, HE⟩ := hrel
    by_cases hlt : k < n
    · obtain rfl := HAA.out (by rw [HN.out]; omega)
      obtain ⟨p, hp⟩ : ∃ p, l.getD k ByteArray.empty = p := ⟨_, rfl⟩
      have HP := Sl.mk hp
      have hps : p.size ≤ 2 ^ 63 - 1 := HSZ.out p (by rw [← hp]; exact getD_mem (by rw [HN.out]; exact hlt))
      have e0 : W.cell? ⟨sa, oa + k, none⟩ = some (.string p) := by rw [HA.out k (by rw [HN.out]; omega), hp]
      have hk0 : (0 : Int) ≤ (k : Int) := by omega
      have hk1 : (k : Int) < (n : Int) := by omega
      clear hp
      by_cases h3 : p.size ≤ 300
      · have h3' : ((300 : Int) < (p.size : Int)) = False := eq_false (by omega)
        go_wp2
        go_round
        case rel =>
          refine ⟨k + 1, by omega, by go_num, ⟨fun j hj => ?_⟩⟩
          by_cases e : j = k
          · subst e; rw [HP.out]; exact h3
          · exact HE.out j (by omega)
        case measure => simp [intOf]; omega
      · have h3' : ((300 : Int) < (p.size : Int)) = True := eq_true (by omega)
        go_wp2
        go_ret
        refine ⟨ret_bool ?_, rfl⟩
        unfold fewB
        rw [show (l.all fun s => decide (s.size ≤ 300)) = false from by
          rw [List.all_eq_false]
          exact ⟨p, by rw [← HP.out]; exact getD_mem (by rw [HN.out]; exact hlt), by simpa using h3⟩]
        rfl
    · have hge : ((k : Int) < (n : Int)) = False := eq_false (by omega)
      have HALL : Sl ((l.all fun s => decide (s.size ≤ 300)) = true) := ⟨by
        rw [List.all_eq_true]
        intro s hs
        obtain ⟨j, hj, rfl⟩ := List.mem_iff_getElem.1 hs
        have := HE.out j (by rw [HN.out] at hj; omega)
        rw [List.getD_eq_getElem?_getD, List.getElem?_eq_getElem hj] at this
        exact decide_eq_true this⟩
      go_wp2
      go_ret
      refine ⟨ret_bool ?_, rfl⟩
      unfold fewB
      rw [HALL.out, Bool.true_and, HN.out, Bool.eq_iff_iff]
      simp
      omega
end Go.Proofs.YtlahonjmfecikaaGreatDoor.Nam
namespace Go.Proofs.YtlahonjmfecikaaGreatDoor
open Go.RowKit
end Go.Proofs.YtlahonjmfecikaaGreatDoor
set_option maxRecDepth 100000
namespace Go.Proofs.YtlahonjmfecikaaGreatDoor.Rou
open Go.RowKit
open HeadPlain (token)
open RoutePlain (Rt)
def oneOf (l : List Rb) (r : Rb) : Bool := l.any fun x => same3 x.pre x.pro x.dst r.pre r.pro r.dst
theorem oneOf_hit {l : List Rb} {r : Rb} {k : Nat} (hk : k < l.length) (h : same3 (l.getD k Rb0).pre (l.getD k Rb0).pro (l.getD k Rb0).dst r.pre r.pro r.dst = true) : oneOf l r = true := by
  unfold oneOf
  rw [List.any_eq_true]
  exact ⟨_, by rw [List.getD_eq_getElem?_getD, List.getElem?_eq_getElem hk]; exact List.getElem_mem _, h⟩
theorem oneOf_miss {l : List Rb} {r : Rb} (h : ∀ k, k < l.length → same3 (l.getD k Rb0).pre (l.getD k Rb0).pro (l.getD k Rb0).dst r.pre r.pro r.dst = false) : oneOf l r = false := by
  unfold oneOf
  rw [List.any_eq_false]
  intro x hx
  obtain ⟨k, hk, rfl⟩ := List.getElem_of_mem hx
  have := h k hk
  rw [List.getD_eq_getElem?_getD, List.getElem?_eq_getElem hk] at this
  rw [Bool.not_eq_true]; exact this
def IdxT (b : Bool) (e : Ending) : Prop := ∃ z : Int, e = .returned (.int .i64 z) ∧ decide (0 ≤ z) = b
set_option maxHeartbeats 1000000 in
theorem rif_any (l : List Rb) (v : Value) (W : World) (hv : RtsAt W v l) (hl : l.length ≤ 1000000) (d e f : ByteArray) (g : Nat) (hg : W.heap[g]? = some (.cells #[.string d, .string e, .string f] 72 (0, 0))) (r : Bool) (hr : oneOf l ⟨d, e, f⟩ = r) :
    Calls Tryz.prog 131 #[v, .func (.func 97) #[] #[.pointer (some ⟨g, 0, none⟩)]] W fun en w' => IdxT r en ∧ Sl (Below W.heap.size W w') := by
  have HR := Sl.mk hr
  have HGG := Sl.mk hg
  obtain ⟨a, cap, rfl⟩ := hv.slice
  have HV := Sl.mk hv
  obtain ⟨n, hn⟩ : ∃ n, l.length = n := ⟨_, rfl⟩
  have HN := Sl.mk hn
  rw [hn] at HV hl ⊢
  clear hv hn hr hg
  go_enter Tryz.func131, Tryz.ntmps131
  go_wp2
  go_loopw [8] (fun i wr => ∃ k : Nat, k ≤ n ∧ i = .int .i64 k ∧ Sl (Below W.heap.size W wr) ∧ Sl (∀ j, j < k → same3 (l.getD j Rb0).pre (l.getD j Rb0).pro (l.getD j Rb0).dst d e f = false)) (fun i _ => n - (intOf i).toNat)
  case atStart => exact ⟨0, Nat.zero_le _, rfl, ⟨Below.refl _ _⟩, ⟨fun j hj => by omega⟩⟩
  case round =>
    obtain ⟨k, hk, rfl, HB, HA⟩ := hrel
    by_cases hlt : k < n
    · have hq : ((k : Int) < (n : Int)) = True := eq_true (by omega)
      have hkl : k < l.length := by rw [HN.out]; exact hlt
      obtain ⟨sb, so, rfl⟩ := HV.out.cap.2.2 (by omega)
      obtain ⟨x, y, z, he⟩ : ∃ x y z, l.getD k Rb0 = ⟨x, y, z⟩ := ⟨_, _, _, rfl⟩
      have HE := Sl.mk he
      obtain ⟨c0, c1, c2⟩ := (HV.out.below HB.out).at3 k hkl he
      obtain ⟨p, hp⟩ : ∃ p, same3 x y z d e f = p := ⟨_, rfl⟩
      have HP := Sl.mk hp
      have HS := same_any x y z d e f wr g (below_key HGG.out HB.out) p hp
      clear he hp
      go_wp2_with fail
      refine (HS).mono ?_
      rintro e w2 ⟨rfl, HB2⟩
      clear HS
      have HB3 : Sl (Below W.heap.size W w2) := ⟨HB.out.trans (HB2.out.mono HB.out.size)⟩
      cases p with
      | true =>
        have HH : Sl (r = true) := ⟨by rw [← HR.out]; exact oneOf_hit hkl (by rw [HE.out]; exact HP.out)⟩
        go_wp2
        go_ret
        exact ⟨⟨_, rfl, by rw [HH.out]; exact decide_eq_true (by omega)⟩, HB3⟩
      | false =>
        go_wp2
        refine ⟨⟨k + 1, by omega, by go_num, HB3, ⟨fun j hj => ?_⟩⟩, by simp [intOf]; omega⟩
        by_cases e : j = k
        · subst e; rw [HE.out]; exact HP.out
        · exact HA.out j (by omega)
    · obtain rfl : k = n := by omega
      have hge : ((k : Int) < (k : Int)) = False := eq_false (by omega)
      have HH : Sl (r = false) := ⟨by rw [← HR.out]; exact oneOf_miss (fun j hj => HA.out j (by rw [HN.out] at hj; exact hj))⟩
      go_wp2
      go_ret
      exact ⟨⟨_, rfl, by rw [HH.out]; rfl⟩, HB⟩
theorem rcf_any (l : List Rb) (v : Value) (W : World) (hv : RtsAt W v l) (hl : l.length ≤ 1000000) (d e f : ByteArray) (g : Nat) (hg : W.heap[g]? = some (.cells #[.string d, .string e, .string f] 72 (0, 0))) (r : Bool) (hr : oneOf l ⟨d, e, f⟩ = r) :
    Calls Tryz.prog 99 #[v, .func (.func 97) #[] #[.pointer (some ⟨g, 0, none⟩)]] W fun en w' => en = .returned (.bool r) ∧ Sl (Below W.heap.size W w') := by
  have HX := Sl.mk (rif_any l v W hv hl d e f g hg r hr)
  clear hv hr hg
  go_enter Tryz.func99, Tryz.ntmps99
  go_wp2_with fail
  refine HX.out.mono ?_
  rintro e w2 ⟨⟨z, rfl, hz⟩, HB2⟩
  have HZ := Sl.mk hz
  clear hz HX
  go_wp2
  go_ret
  exact ⟨ret_bool HZ.out, HB2⟩
def okAt (l : List Rb) (i : Nat) : Bool := okB (l.getD i Rb0) && !oneOf (l.take i) (l.getD i Rb0)
def okRs (l : List Rb) : Bool := decide (1 ≤ l.length) && (decide (l.length ≤ 16) && (List.range l.length).all (okAt l))
theorem okRs_no {l : List Rb} {k : Nat} (hk : k < l.length) (h : okAt l k = false) : okRs l = false := by
  unfold okRs
  rw [show (List.range l.length).all (okAt l) = false from by rw [List.all_eq_false]; exact ⟨k, List.mem_range.2 hk, by rw [h]; decide⟩, Bool.and_false, Bool.and_false]
theorem okRs_yes {l : List Rb} (h1 : 1 ≤ l.length) (h2 : l.length ≤ 16) (h : ∀ k, k < l.length → okAt l k = true) : okRs l = true := by
  unfold okRs
  rw [decide_eq_true h1, decide_eq_true h2, Bool.true_and, Bool.true_and, List.all_eq_true]
  exact fun k hk => h k (List.mem_range.1 hk)
theorem okRs_few {l : List Rb} (h : ¬ (1 ≤ l.length ∧ l.length ≤ 16)) : okRs l = false := by
  unfold okRs
  by_cases h1 : 1 ≤ l.length
  · rw [decide_eq_false (show ¬ l.length ≤ 16 by omega), Bool.false_and, Bool.and_false]
  · rw [decide_eq_false h1, Bool.false_and]
set_option maxHeartbeats 2000000 in
theorem allmay_any (l : List Rb) (v : Value) (W : World) (hg : Globs W) (hv : RtsAt W v l) (ok : ∀ r ∈ l, RbOk r) (hl : l.length ≤ 1000000) (r : Bool) (hr : okRs l = r) :
    Calls Tryz.prog 70 #[v] W fun en w' => en = .returned (.bool r) ∧ Sl (Below W.heap.size W w') := by
  have HR := Sl.mk hr
  have HG := Sl.mk hg
  have HOK := Sl.mk ok
  obtain ⟨a, cap, rfl⟩ := hv.slice
  have HV := Sl.mk hv
  obtain ⟨n, hn⟩ : ∃ n, l.length = n := ⟨_, rfl⟩
  have HN := Sl.mk hn
  rw [hn] at HV hl ⊢
  have hcap : n ≤ cap := HV.out.cap.2.1
  clear hv hn hr hg ok
  by_cases h1 : n < 1
  · have h1' : ((n : Int) < 1) = True := eq_true (by omega)
    have HF : Sl (false = r) := ⟨by rw [← HR.out]; exact (okRs_few (by rw [HN.out]; omega)).symm⟩
    go_enter Tryz.func70, Tryz.ntmps70
    go_wp2
    go_ret
    exact ⟨ret_bool HF.out, ⟨Below.refl _ _⟩⟩
  have h1' : ((n : Int) < 1) = False := eq_false (by omega)
  by_cases h2 : n > 16
  · have h2' : ((n : Int) > 16) = True := eq_true (by omega)
    have HF : Sl (false = r) := ⟨by rw [← HR.out]; exact (okRs_few (by rw [HN.out]; omega)).symm⟩
    go_enter Tryz.func70, Tryz.ntmps70
    go_wp2
    go_ret
    exact ⟨ret_bool HF.out, ⟨Below.refl _ _⟩⟩
  have h2' : ((n : Int) > 16) = False := eq_false (by omega)
  go_enter Tryz.func70, Tryz.ntmps70
  go_wp2
  go_loopw [16] (fun i wr => ∃ k : Nat, k ≤ n ∧ i = .int .i64 k ∧ Sl (Below W.heap.size W wr) ∧ Sl (∀ j, j < k → okAt l j = true)) (fun i _ => n - (intOf i).toNat)
  case atStart => exact ⟨0, Nat.zero_le _, rfl, ⟨Below.refl _ _⟩, ⟨fun j hj => by omega⟩⟩
  case round =>
    obtain ⟨k, hk, rfl, HB, HA⟩ := hrel
    by_cases hlt : k < n
    · have hq : ((k : Int) < (n : Int)) = True := eq_true (by omega)
      have hkl : k < l.length := by rw [HN.out]; exact hlt
      obtain ⟨sb, so, rfl⟩ := HV.out.cap.2.2 (by omega)
      obtain ⟨x, y, z, he⟩ : ∃ x y z, l.getD k Rb0 = ⟨x, y, z⟩ := ⟨_, _, _, rfl⟩
      have HE := Sl.mk he
      have hok : RbOk ⟨x, y, z⟩ := by
        rw [← he]; refine HOK.out _ ?_
        rw [List.getD_eq_getElem?_getD, List.getElem?_eq_getElem hkl]; exact List.getElem_mem _
      obtain ⟨c0, c1, c2⟩ := (HV.out.below HB.out).at3 k hkl he
      obtain ⟨wa, hwa, HBa, hx⟩ := box_rt wr
      obtain ⟨wb, hwb, HBb, HX⟩ := set_rt hx HBa.out (Nat.le_refl _) #[.string x, .string y, .string z]
      have HI : (Tryz.prog.info? 72).map (·.size) = some (#[Value.string x, .string y, .string z] : Array Value).size := rt_info rfl
      have HB0 : Sl (Below W.heap.size W wb) := ⟨HB.out.trans (HBb.out.mono HB.out.size)⟩
      obtain ⟨p, hp⟩ : ∃ p, okB ⟨x, y, z⟩ = p := ⟨_, rfl⟩
      have HP := Sl.mk hp
      have MB := Sl.mk (maybe_any x y z wb (HG.out.of HB0.out) hok.p hok.q hok.t p hp)
      obtain ⟨q, hq2⟩ : ∃ q, oneOf (l.take k) ⟨x, y, z⟩ = q := ⟨_, rfl⟩
      have HQ := Sl.mk hq2
      have HV2 := Sl.mk (HV.out.below HB0.out)
      have hk3 : (k : Int) ≤ (cap : Int) := by omega
      have hk4 : (0 : Int) ≤ (k : Int) := by omega
      clear he hp hq2 hok
      go_upto_region 6 with (refine wpList_store_row rfl 72 (.tmp 4) (.tmp 20) rfl wr.heap.size #[.string x, .string y, .string z] rfl rfl 72 #[.string { data := #[] }, .string { data := #[] }, .string { data := #[] }] hx HI rfl (rt_all _ _ _) ?_)
      (try rw [hwb])
      clear hwa hwb hx HBa HBb c0 c1 c2
      obtain ⟨g, hgg⟩ : ∃ g, wr.heap.size = g := ⟨_, rfl⟩
      rw [hgg] at HX
      (try rw [hgg])
      obtain ⟨d0, d1, d2⟩ := rt_cells HX.out
      go_wp2_with fail
      refine (MB.out).mono ?_
      rintro e w2 ⟨rfl, HB2⟩
      clear MB d0 d1 d2
      have HB3 : Sl (Below W.heap.size W w2) := ⟨HB0.out.trans (HB2.out.mono HB0.out.size)⟩
      cases p with
      | false =>
        have HF : Sl (false = r) := ⟨by rw [← HR.out, okRs_no hkl (by unfold okAt; rw [HE.out, HP.out]; rfl)]⟩
        go_wp2
        go_ret
        exact ⟨ret_bool HF.out, HB3⟩
      | true =>
        have HC := Sl.mk (rcf_any (l.take k) (.slice (some ⟨sb, so, none⟩) k cap) w2 ((HV2.out.below HB2.out).to (Nat.le_of_lt hlt) (by omega)) (by rw [List.length_take]; omega) x y z g (below_key HX.out HB2.out) q HQ.out)
        go_wp2_with fail
        refine (HC.out).mono ?_
        rintro e w4 ⟨rfl, HB4⟩
        clear HC
        have HB5 : Sl (Below W.heap.size W w4) := ⟨HB3.out.trans (HB4.out.mono HB3.out.size)⟩
        cases q with
        | true =>
          have HF : Sl (false = r) := ⟨by rw [← HR.out, okRs_no hkl (by unfold okAt; rw [HE.out, HQ.out, Bool.not_true, Bool.and_false])]⟩
          go_wp2
          go_ret
          exact ⟨ret_bool HF.out, HB5⟩
        | false =>
          go_wp2
          refine ⟨⟨k + 1, by omega, by go_num, HB5, ⟨fun j hj => ?_⟩⟩, by simp [intOf]; omega⟩
          by_cases e : j = k
          · subst e; unfold okAt; rw [HE.out, HP.out, HQ.out]; rfl
          · exact HA.out j (by omega)
    · obtain rfl : k = n := by omega
      have hge : ((k : Int) < (k : Int)) = False := eq_false (by omega)
      have HT : Sl (true = r) := ⟨by rw [← HR.out, okRs_yes (by rw [HN.out]; omega) (by rw [HN.out]; omega) (fun j hj => HA.out j (by rw [HN.out] at hj; exact hj))]⟩
      go_wp2
      go_ret
      exact ⟨ret_bool HT.out, HB⟩
end Go.Proofs.YtlahonjmfecikaaGreatDoor.Rou
set_option maxRecDepth 100000
namespace Go.Proofs.YtlahonjmfecikaaGreatDoor.Rou
open Go.RowKit
open HeadPlain (token)
open RoutePlain (Rt)
structure Sp where
  n : Int
  least : Int
  most : Int
def outB (s : Sp) : Bool := decide (s.n < s.least) || decide (s.most < s.n)
def sc (s : Sp) : List Value := [.int .i64 s.n, .int .i64 s.least, .int .i64 s.most]
def scs (l : List Sp) : List Value := l.flatMap sc
def Sp0 : Sp := ⟨0, 0, 0⟩
theorem scs_get : ∀ (es : List Sp) (i : Nat), i < es.length → ∀ j, j < 3 → (scs es)[i * 3 + j]? = (sc (es.getD i Sp0))[j]?
  | [], i, hi, _, _ => by simp at hi
  | e :: es, 0, _, j, hj => by
    rw [show scs (e :: es) = sc e ++ scs es from rfl, Nat.zero_mul, Nat.zero_add, List.getElem?_append_left (by simpa [sc] using hj)]; rfl
  | e :: es, i + 1, hi, j, hj => by
    rw [show scs (e :: es) = sc e ++ scs es from rfl, show (i + 1) * 3 + j = i * 3 + j + 3 from by omega, List.getElem?_append_right (by simp [sc])]
    have := scs_get es i (by simpa using hi) j hj
    simpa [sc] using this
theorem sp_at {W : World} {g k : Nat} {l : List Sp} {t : TypeId} (h : W.heap[g]? = some (.cells (scs l).toArray t (0, 0))) (hk : k < l.length) {n a b : Int} (he : l.getD k Sp0 = ⟨n, a, b⟩) :
    W.cell? ⟨g, 0 + k * 3, none⟩ = some (.int .i64 n) ∧ W.cell? ⟨g, 0 + k * 3 + 1, none⟩ = some (.int .i64 a) ∧ W.cell? ⟨g, 0 + k * 3 + 2, none⟩ = some (.int .i64 b) := by
  have key : ∀ j, j < 3 → W.cell? ⟨g, 0 + k * 3 + j, none⟩ = (sc ⟨n, a, b⟩)[j]? := fun j hj => by
    rw [Nat.zero_add, cell_of_row _ _ _ _ _ _ h, List.getElem?_toArray, scs_get l k hk j hj, he]
  exact ⟨key 0 (by decide), key 1 (by decide), key 2 (by decide)⟩
theorem outside_any (n a b : Int) (W : World) (r : Bool) (hr : outB ⟨n, a, b⟩ = r) : Calls Tryz.prog 69 #[.agg #[.int .i64 n, .int .i64 a, .int .i64 b]] W fun en w' => en = .returned (.bool r) ∧ Sl (Below W.heap.size W w') := by
  have HB : ∀ o, Sl (Below W.heap.size W (W.alloc o)) := fun o => ⟨(Below.refl _ _).alloc (Nat.le_refl _) _⟩
  unfold outB at hr
  simp only at hr
  by_cases h1 : n < a
  · have h1' : (n < a) = True := eq_true h1
    have HR : Sl (true = r) := ⟨by rw [← hr, decide_eq_true h1]; rfl⟩
    clear hr h1
    go_enter Tryz.func69, Tryz.ntmps69
    go_wp2
    go_ret
    exact ⟨ret_bool HR.out, HB _⟩
  · have h1' : (n < a) = False := eq_false h1
    have h1a : a ≤ n := by omega
    have HR0 : Sl (decide (b < n) = r) := ⟨by rw [← hr, decide_eq_false h1]; rfl⟩
    clear hr
    by_cases h2 : b < n
    · have h2' : (n > b) = True := eq_true h2
      have HR : Sl (true = r) := ⟨by rw [← HR0.out, decide_eq_true h2]⟩
      clear h2 HR0
      go_enter Tryz.func69, Tryz.ntmps69
      go_wp2
      go_ret
      exact ⟨ret_bool HR.out, HB _⟩
    · have h2' : (n > b) = False := eq_false h2
      have h2a : n ≤ b := by omega
      have HR : Sl (false = r) := ⟨by rw [← HR0.out, decide_eq_false h2]⟩
      clear h2 HR0
      go_enter Tryz.func69, Tryz.ntmps69
      go_wp2
      go_ret
      exact ⟨ret_bool HR.out, HB _⟩
set_option maxHeartbeats 1000000 in
theorem sif_any (l : List Sp) (W : World) (hl : l.length ≤ 1000000) (g : Nat) (hg : W.heap[g]? = some (.cells (scs l).toArray 112 (0, 0))) (r : Bool) (hr : l.any outB = r) :
    Calls Tryz.prog 100 #[.slice (some ⟨g, 0, none⟩) l.length l.length, .func (.func 69) #[] #[]] W fun en w' => IdxT r en ∧ Sl (Below W.heap.size W w') := by
  have HR := Sl.mk hr
  have HGG := Sl.mk hg
  obtain ⟨n, hn⟩ : ∃ n, l.length = n := ⟨_, rfl⟩
  have HN := Sl.mk hn
  rw [hn] at hl ⊢
  clear hn hr hg
  go_enter Tryz.func100, Tryz.ntmps100
  go_wp2
  go_loopw [8] (fun i wr => ∃ k : Nat, k ≤ n ∧ i = .int .i64 k ∧ Sl (Below W.heap.size W wr) ∧ Sl (∀ j, j < k → outB (l.getD j Sp0) = false)) (fun i _ => n - (intOf i).toNat)
  case atStart => exact ⟨0, Nat.zero_le _, rfl, ⟨Below.refl _ _⟩, ⟨fun j hj => by omega⟩⟩
  case round =>
    obtain ⟨k, hk, rfl, HB, HA⟩ := hrel
    by_cases hlt : k < n
    · have hq : ((k : Int) < (n : Int)) = True := eq_true (by omega)
      have hkl : k < l.length := by rw [HN.out]; exact hlt
      obtain ⟨x, y, z, he⟩ : ∃ x y z, l.getD k Sp0 = ⟨x, y, z⟩ := ⟨_, _, _, rfl⟩
      have HE := Sl.mk he
      obtain ⟨c0, c1, c2⟩ := sp_at (below_key HGG.out HB.out) hkl he
      rw [Nat.zero_add] at c0 c1 c2
      obtain ⟨p, hp⟩ : ∃ p, outB ⟨x, y, z⟩ = p := ⟨_, rfl⟩
      have HP := Sl.mk hp
      have HS := outside_any x y z wr p hp
      clear he hp
      go_wp2_with fail
      refine (HS).mono ?_
      rintro e w2 ⟨rfl, HB2⟩
      clear HS
      have HB3 : Sl (Below W.heap.size W w2) := ⟨HB.out.trans (HB2.out.mono HB.out.size)⟩
      cases p with
      | true =>
        have HH : Sl (r = true) := ⟨by
          rw [← HR.out, List.any_eq_true]
          exact ⟨l.getD k Sp0, by rw [List.getD_eq_getElem?_getD, List.getElem?_eq_getElem hkl]; exact List.getElem_mem _, by rw [HE.out]; exact HP.out⟩⟩
        go_wp2
        go_ret
        exact ⟨⟨_, rfl, by rw [HH.out]; exact decide_eq_true (by omega)⟩, HB3⟩
      | false =>
        go_wp2
        refine ⟨⟨k + 1, by omega, by go_num, HB3, ⟨fun j hj => ?_⟩⟩, by simp [intOf]; omega⟩
        by_cases e : j = k
        · subst e; rw [HE.out]; exact HP.out
        · exact HA.out j (by omega)
    · obtain rfl : k = n := by omega
      have hge : ((k : Int) < (k : Int)) = False := eq_false (by omega)
      have HH : Sl (r = false) := ⟨by
        rw [← HR.out, List.any_eq_false]
        intro x hx
        obtain ⟨j, hj, rfl⟩ := List.getElem_of_mem hx
        have := HA.out j (by rw [HN.out] at hj; exact hj)
        rw [List.getD_eq_getElem?_getD, List.getElem?_eq_getElem hj] at this
        rw [Bool.not_eq_true]; exact this⟩
      go_wp2
      go_ret
      exact ⟨⟨_, rfl, by rw [HH.out]; rfl⟩, HB⟩
theorem scf_any (l : List Sp) (W : World) (hl : l.length ≤ 1000000) (g : Nat) (hg : W.heap[g]? = some (.cells (scs l).toArray 112 (0, 0))) (r : Bool) (hr : l.any outB = r) :
    Calls Tryz.prog 71 #[.slice (some ⟨g, 0, none⟩) l.length l.length, .func (.func 69) #[] #[]] W fun en w' => en = .returned (.bool r) ∧ Sl (Below W.heap.size W w') := by
  have HX := Sl.mk (sif_any l W hl g hg r hr)
  clear hr hg
  go_enter Tryz.func71, Tryz.ntmps71
  go_wp2_with fail
  refine HX.out.mono ?_
  rintro e w2 ⟨⟨z, rfl, hz⟩, HB2⟩
  have HZ := Sl.mk hz
  clear hz HX
  go_wp2
  go_ret
  exact ⟨ret_bool HZ.out, HB2⟩
def spansL (tb ms fr ct bs ot sh id po cl : Int) : List Sp := [⟨tb, 1, 64⟩, ⟨ms, 1, 65536⟩, ⟨fr, 1, 65536⟩, ⟨ct, 1, 1024⟩, ⟨bs, ms, 4194304⟩, ⟨ot, 1, 65536⟩, ⟨sh, 1, 1073741824⟩, ⟨id, 1, 1073741824⟩, ⟨po, 1, 1073741824⟩, ⟨cl, 1, 1073741824⟩]
theorem spans_any (a1 : Option Addr) (n1 c1 : Nat) (a2 : Option Addr) (n2 c2 : Nat) (tb ms fr ct bs ot sh id po cl : Int) (W : World) :
    Calls Tryz.prog 72 #[.agg #[.slice a1 n1 c1, .slice a2 n2 c2, .int .i64 tb, .int .i64 ms, .int .i64 fr, .int .i64 ct, .int .i64 bs, .int .i64 ot, .int .i64 sh, .int .i64 id, .int .i64 po, .int .i64 cl]] W fun en w' => ∃ g, en = .returned (.slice (some ⟨g, 0, none⟩) 10 10) ∧ Sl (w'.heap[g]? = some (.cells (scs (spansL tb ms fr ct bs ot sh id po cl)).toArray 112 (0, 0))) ∧ Sl (Below W.heap.size W w') := by
  go_enter Tryz.func72, Tryz.ntmps72
  go_wp2
  go_ret
  exact ⟨_, rfl, ⟨alloc_new _ _ _ (by rw [alloc_size])⟩, ⟨((Below.refl _ _).alloc (Nat.le_refl _) _).alloc (by rw [alloc_size]; omega) _⟩⟩
def checkB (rs : List Rb) (no : Nat) (tb ms fr ct bs ot sh id po cl : Int) : Bool := okRs rs && (decide (no ≤ 16) && !(spansL tb ms fr ct bs ot sh id po cl).any outB)
def errOf (b : Bool) : Int := if b = true then 0 else 150
theorem cfg_box (W : World) (cs : Array Value) : ∃ V, W.alloc (.cells cs 25) = V ∧ Sl (Below W.heap.size W V) ∧ V.heap[W.heap.size]? = some (.cells cs 25 (0, 0)) :=
  ⟨_, rfl, ⟨(Below.refl _ _).alloc (Nat.le_refl _) _⟩, alloc_new _ _ _ rfl⟩
theorem cell_at {W : World} {g : Nat} {cs : Array Value} {t : TypeId} (h : W.heap[g]? = some (.cells cs t (0, 0))) (i : Nat) (v : Value) (hi : cs[i]? = some v) : W.cell? ⟨g, i, none⟩ = some v := by rw [cell_of_row _ _ _ _ _ _ h]; exact hi
set_option maxHeartbeats 4000000 in
theorem check_any (rs : List Rb) (a1 : Option Addr) (n1 c1 : Nat) (a2 : Option Addr) (n2 c2 : Nat) (tb ms fr ct bs ot sh id po cl : Int) (W : World) (hg : Globs W) (hv : RtsAt W (.slice a1 n1 c1) rs) (ok : ∀ r ∈ rs, RbOk r) (hl : rs.length ≤ 1000000) (r : Bool) (hr : checkB rs n2 tb ms fr ct bs ot sh id po cl = r) :
    Calls Tryz.prog 37 #[.agg #[.slice a1 n1 c1, .slice a2 n2 c2, .int .i64 tb, .int .i64 ms, .int .i64 fr, .int .i64 ct, .int .i64 bs, .int .i64 ot, .int .i64 sh, .int .i64 id, .int .i64 po, .int .i64 cl]] W fun en w' => en = .returned (.int .i64 (errOf r)) ∧ Sl (Below W.heap.size W w') := by
  unfold checkB at hr
  obtain ⟨wa, hwa, HBa, hx⟩ := cfg_box W #[.slice a1 n1 c1, .slice a2 n2 c2, .int .i64 tb, .int .i64 ms, .int .i64 fr, .int .i64 ct, .int .i64 bs, .int .i64 ot, .int .i64 sh, .int .i64 id, .int .i64 po, .int .i64 cl]
  obtain ⟨g, hgg⟩ : ∃ g, W.heap.size = g := ⟨_, rfl⟩
  have HG1 := Sl.mk (hg.of HBa.out)
  have HV1 := Sl.mk (hv.below HBa.out)
  obtain ⟨p, hp⟩ : ∃ p, okRs rs = p := ⟨_, rfl⟩
  have AM := Sl.mk (allmay_any rs (.slice a1 n1 c1) wa HG1.out HV1.out ok hl p hp)
  have SP : Sl (∀ V, Calls Tryz.prog 72 #[.agg #[.slice a1 n1 c1, .slice a2 n2 c2, .int .i64 tb, .int .i64 ms, .int .i64 fr, .int .i64 ct, .int .i64 bs, .int .i64 ot, .int .i64 sh, .int .i64 id, .int .i64 po, .int .i64 cl]] V fun en w' => ∃ g, en = .returned (.slice (some ⟨g, 0, none⟩) 10 10) ∧ Sl (w'.heap[g]? = some (.cells (scs (spansL tb ms fr ct bs ot sh id po cl)).toArray 112 (0, 0))) ∧ Sl (Below V.heap.size V w')) := ⟨fun V => spans_any a1 n1 c1 a2 n2 c2 tb ms fr ct bs ot sh id po cl V⟩
  obtain ⟨L, hL⟩ : ∃ L, spansL tb ms fr ct bs ot sh id po cl = L := ⟨_, rfl⟩
  have HLL : Sl (L.length = 10) := ⟨by rw [← hL]; rfl⟩
  rw [hL] at SP hr
  rw [hp] at hr
  obtain ⟨q, hq⟩ : ∃ q, L.any outB = q := ⟨_, rfl⟩
  have HQ := Sl.mk hq
  rw [hq] at hr
  have HR := Sl.mk hr
  rw [hgg] at HBa hx ⊢
  have HX := Sl.mk hx
  have HLT : Sl (g ≤ wa.heap.size) := ⟨by rw [← hgg]; exact HBa.out.size⟩
  clear hr hq hL hp hg hv ok HG1 HV1 hx
  go_enter Tryz.func37, Tryz.ntmps37
  go_upto_region 1 with fail
  (try rw [hwa])
  (try rw [hgg])
  clear hwa hgg
  have c0 := cell_at HX.out 0 _ rfl
  have d1 := cell_at HX.out 1 _ rfl
  go_wp2_with fail
  refine (AM.out).mono ?_
  rintro e w2 ⟨rfl, HB2⟩
  clear AM c0 d1
  have HX2 := Sl.mk (below_key HX.out HB2.out)
  have HB3 : Sl (Below g W w2) := ⟨HBa.out.trans (HB2.out.mono HLT.out)⟩
  have k0 := cell_at HX2.out 0 _ rfl
  have k1 := cell_at HX2.out 1 _ rfl
  have k2 := cell_at HX2.out 2 _ rfl
  have k3 := cell_at HX2.out 3 _ rfl
  have k4 := cell_at HX2.out 4 _ rfl
  have k5 := cell_at HX2.out 5 _ rfl
  have k6 := cell_at HX2.out 6 _ rfl
  have k7 := cell_at HX2.out 7 _ rfl
  have k8 := cell_at HX2.out 8 _ rfl
  have k9 := cell_at HX2.out 9 _ rfl
  have k10 := cell_at HX2.out 10 _ rfl
  have k11 := cell_at HX2.out 11 _ rfl
  cases p with
  | false =>
    have HF : Sl (errOf r = 150) := ⟨by rw [← HR.out]; rfl⟩
    go_wp2
    go_ret
    exact ⟨ret_int HF.out.symm, HB3⟩
  | true =>
    by_cases hn : n2 > 16
    · have hn' : ((n2 : Int) > 16) = True := eq_true (by omega)
      have HF : Sl (errOf r = 150) := ⟨by rw [← HR.out, decide_eq_false (by omega)]; rfl⟩
      go_wp2
      go_ret
      exact ⟨ret_int HF.out.symm, HB3⟩
    · have hn' : ((n2 : Int) > 16) = False := eq_false (by omega)
      have HR2 : Sl ((!q) = r) := ⟨by rw [← HR.out, decide_eq_true (by omega), Bool.true_and, Bool.true_and]⟩
      clear hn
      go_wp2_with fail
      refine (SP.out _).mono ?_
      rintro e w3 ⟨x, rfl, HS3, HB4⟩
      clear SP
      have HB5 : Sl (Below g W w3) := ⟨HB3.out.trans (HB4.out.mono (Nat.le_trans HLT.out HB2.out.size))⟩
      have SC := Sl.mk (scf_any L w3 (by rw [HLL.out]; omega) x HS3.out q HQ.out)
      rw [HLL.out] at SC
      go_wp2_with fail
      refine (SC.out).mono ?_
      rintro e w4 ⟨rfl, HB6⟩
      clear SC
      have HB7 : Sl (Below g W w4) := ⟨HB5.out.trans (HB6.out.mono (Nat.le_trans (Nat.le_trans HLT.out HB2.out.size) HB4.out.size))⟩
      cases q with
      | true =>
        have HF : Sl (errOf r = 150) := ⟨by rw [← HR2.out]; rfl⟩
        go_wp2
        go_ret
        exact ⟨ret_int HF.out.symm, HB7⟩
      | false =>
        have HF : Sl (errOf r = 0) := ⟨by rw [← HR2.out]; rfl⟩
        go_wp2
        go_ret
        exact ⟨ret_int HF.out.symm, HB7⟩
end Go.Proofs.YtlahonjmfecikaaGreatDoor.Rou
set_option maxRecDepth 100000
namespace Go.Proofs.YtlahonjmfecikaaGreatDoor.Leg
open Go.RowKit Stm
open FramePlain (Fr Fr0)
open LegPlain (Cf Lg)
open Msg (Kept MacS Mine)
open LegPlain (Inv CfOk Good came evs errs react bound feed fail L0)
open MsgPlain (Ev Ms M0)
theorem leg_box (W : World) (cs : Array Value) : ∃ V, W.alloc (.cells cs 80) = V ∧ Below W.heap.size W V ∧ V.heap[W.heap.size]? = some (.cells cs 80 (0, 0)) :=
  ⟨_, rfl, (Below.refl _ _).alloc (Nat.le_refl _) _, alloc_new _ _ _ rfl⟩
theorem set_kept (W : World) (L i : Nat) (u : Value) : Kept (fun j => j = L) W (W.setCell ⟨L, i, none⟩ u) := Kept.grown (grown_setCell W L i u) (fun j e => by injection e with e; exact e.symm)
set_option maxHeartbeats 4000000 in
theorem lnew_no (rs : List Rou.Rb) (a1 : Option Addr) (n1 c1 : Nat) (a2 : Option Addr) (n2 c2 : Nat) (tb ms fr ct bs ot sh id po cl : Int) (masked : Bool) (d : Nat) (W : World) (hg : _root_.Go.Proofs.YtlahonjmfecikaaGreatDoor.Globs W) (hv : Rou.RtsAt W (.slice a1 n1 c1) rs) (ok : ∀ r ∈ rs, Rou.RbOk r) (hl : rs.length ≤ 1000000) (hr : Rou.checkB rs n2 tb ms fr ct bs ot sh id po cl = false) :
    Calls Tryz.prog 13 #[.agg #[.slice a1 n1 c1, .slice a2 n2 c2, .int .i64 tb, .int .i64 ms, .int .i64 fr, .int .i64 ct, .int .i64 bs, .int .i64 ot, .int .i64 sh, .int .i64 id, .int .i64 po, .int .i64 cl], .bool masked, .int .u32 (d : Int)] W fun e w' => e = .returned (.tuple #[.pointer none, .int .i64 160]) ∧ Sl (Below W.heap.size W w') := by
  obtain ⟨wa, hwa, HBa, hx⟩ := Rou.cfg_box W #[.slice a1 n1 c1, .slice a2 n2 c2, .int .i64 tb, .int .i64 ms, .int .i64 fr, .int .i64 ct, .int .i64 bs, .int .i64 ot, .int .i64 sh, .int .i64 id, .int .i64 po, .int .i64 cl]
  have CK := Rou.check_any rs a1 n1 c1 a2 n2 c2 tb ms fr ct bs ot sh id po cl wa (hg.of HBa.out) (hv.below HBa.out) ok hl false hr
  obtain ⟨g, hgg⟩ : ∃ g, W.heap.size = g := ⟨_, rfl⟩
  rw [hgg] at HBa hx ⊢
  have HLT : Sl (g ≤ wa.heap.size) := ⟨by rw [← hgg]; exact HBa.out.size⟩
  have k0 := Rou.cell_at hx 0 _ rfl
  have k1 := Rou.cell_at hx 1 _ rfl
  have k2 := Rou.cell_at hx 2 _ rfl
  have k3 := Rou.cell_at hx 3 _ rfl
  have k4 := Rou.cell_at hx 4 _ rfl
  have k5 := Rou.cell_at hx 5 _ rfl
  have k6 := Rou.cell_at hx 6 _ rfl
  have k7 := Rou.cell_at hx 7 _ rfl
  have k8 := Rou.cell_at hx 8 _ rfl
  have k9 := Rou.cell_at hx 9 _ rfl
  have k10 := Rou.cell_at hx 10 _ rfl
  have k11 := Rou.cell_at hx 11 _ rfl
  clear hg hv ok hl hr hx
  go_enter Tryz.func13, Tryz.ntmps13
  go_upto_region 1 with fail
  (try rw [hwa])
  (try rw [hgg])
  clear hwa hgg
  go_wp2_with fail
  refine CK.mono ?_
  rintro e wb ⟨rfl, HB2⟩
  clear CK
  go_wp2
  go_ret2
  exact ⟨rfl, ⟨HBa.out.trans (HB2.out.mono HLT.out)⟩⟩
set_option maxHeartbeats 8000000 in
theorem lnew_yes (rs : List Rou.Rb) (a1 : Option Addr) (n1 c1 : Nat) (a2 : Option Addr) (n2 c2 : Nat) (tb ct bs sh id po cl : Int) (c : Cf) (d : Nat) (hd : d < 4294967296) (w0 W : World) (hB : Below w0.heap.size w0 W) (hg : _root_.Go.Proofs.YtlahonjmfecikaaGreatDoor.Globs W) (hv : Rou.RtsAt W (.slice a1 n1 c1) rs) (ok : ∀ r ∈ rs, Rou.RbOk r) (hl : rs.length ≤ 1000000) (hc : CfOk c) (hr : Rou.checkB rs n2 tb (c.msg : Int) (c.frm : Int) ct bs (c.out : Int) sh id po cl = true) :
    Calls Tryz.prog 13 #[.agg #[.slice a1 n1 c1, .slice a2 n2 c2, .int .i64 tb, .int .i64 (c.msg : Int), .int .i64 (c.frm : Int), .int .i64 ct, .int .i64 bs, .int .i64 (c.out : Int), .int .i64 sh, .int .i64 id, .int .i64 po, .int .i64 cl], .bool c.masked, .int .u32 (d : Int)] W fun e w' => ∃ L sb mb rb rp, e = .returned (.tuple #[.pointer (some ⟨L, 0, none⟩), .int .i64 0]) ∧ Sl (LegF w0 w' L sb mb rb rp (.slice none 0 0) (.slice none 0 0) (.slice none 0 0) (.slice none 0 0) (.slice none 0 0) (.pointer none) c (L0 d)) ∧ Sl (Below W.heap.size W w') ∧ Sl (W.heap.size ≤ L ∧ W.heap.size ≤ sb ∧ W.heap.size ≤ mb ∧ W.heap.size ≤ rb ∧ W.heap.size ≤ rp) := by
  obtain ⟨wa, hwa, HBa, hx⟩ := Rou.cfg_box W #[.slice a1 n1 c1, .slice a2 n2 c2, .int .i64 tb, .int .i64 (c.msg : Int), .int .i64 (c.frm : Int), .int .i64 ct, .int .i64 bs, .int .i64 (c.out : Int), .int .i64 sh, .int .i64 id, .int .i64 po, .int .i64 cl]
  have CK := Rou.check_any rs a1 n1 c1 a2 n2 c2 tb (c.msg : Int) (c.frm : Int) ct bs (c.out : Int) sh id po cl wa (hg.of HBa.out) (hv.below HBa.out) ok hl true hr
  obtain ⟨g, hgg⟩ : ∃ g, W.heap.size = g := ⟨_, rfl⟩
  have HLW : Sl (w0.heap.size ≤ g) := ⟨by rw [← hgg]; exact hB.size⟩
  have HBW := Sl.mk hB
  rw [hgg] at HBa hx ⊢
  have HLT : Sl (g ≤ wa.heap.size) := ⟨by rw [← hgg]; exact HBa.out.size⟩
  have HX := Sl.mk hx
  have HC := Sl.mk hc
  have HD := Sl.mk hd
  have k0 := Rou.cell_at hx 0 _ rfl
  have k1 := Rou.cell_at hx 1 _ rfl
  have k2 := Rou.cell_at hx 2 _ rfl
  have k3 := Rou.cell_at hx 3 _ rfl
  have k4 := Rou.cell_at hx 4 _ rfl
  have k5 := Rou.cell_at hx 5 _ rfl
  have k6 := Rou.cell_at hx 6 _ rfl
  have k7 := Rou.cell_at hx 7 _ rfl
  have k8 := Rou.cell_at hx 8 _ rfl
  have k9 := Rou.cell_at hx 9 _ rfl
  have k10 := Rou.cell_at hx 10 _ rfl
  have k11 := Rou.cell_at hx 11 _ rfl
  clear hg hv ok hl hr hx hB hc hd
  go_enter Tryz.func13, Tryz.ntmps13
  go_upto_region 1 with fail
  (try rw [hwa])
  (try rw [hgg])
  clear hwa hgg
  go_wp2_with fail
  refine CK.mono ?_
  rintro e wb ⟨rfl, HB2⟩
  clear CK
  have HXb := Sl.mk (below_key HX.out HB2.out)
  have HGb : Sl (g < wb.heap.size) := ⟨(Array.getElem?_eq_some_iff.1 HXb.out).1⟩
  clear HX
  clear k0 k1 k2 k3 k4 k5 k6 k7 k8 k9 k10 k11
  have k3 := Rou.cell_at HXb.out 3 _ rfl
  have k4 := Rou.cell_at HXb.out 4 _ rfl
  obtain ⟨w1, hw1, HB3, hL⟩ := leg_box wb #[.int .i64 (c.msg : Int), .int .i64 (c.frm : Int), .pointer none, .pointer none, .pointer none, .slice none 0 0, .slice none 0 0, .slice none 0 0, .bool (!c.masked), .int .u32 (d : Int), .int .i64 0, .bool false]
  obtain ⟨L, hLL⟩ : ∃ L, wb.heap.size = L := ⟨_, rfl⟩
  rw [hLL] at HB3 hL HGb
  have HBL : Sl (Below g W wb) := ⟨HBa.out.trans (HB2.out.mono HLT.out)⟩
  have HB1 : Sl (Below g W w1) := ⟨HBL.out.trans (HB3.mono (Nat.le_of_lt HGb.out))⟩
  have HX1 := Sl.mk (below_key HXb.out (hLL ▸ HB3))
  have HL1 := Sl.mk hL
  have HLs : Sl (L < w1.heap.size) := ⟨(Array.getElem?_eq_some_iff.1 hL).1⟩
  clear HXb HBa HB2 HLT HB3 hL HBL
  go_upto_region 4 with fail
  (try rw [hw1])
  (try rw [hLL])
  clear hw1 hLL k3 k4
  have k3 := Rou.cell_at HX1.out 3 _ rfl
  have hfz : w1.frozen? ⟨L, 2, none⟩ = false := frozen_of_row _ _ _ _ _ HL1.out
  have hmx : (max 125 (c.msg : Int)) = (bound c : Int) := by unfold LegPlain.bound; omega
  have SN := Stm.new_yes c.masked (bound c : Int) w0 w1 (HBW.out.trans (HB1.out.mono HLW.out)) (by unfold LegPlain.bound; have := HC.out.m2; omega)
  have l0 := Rou.cell_at HL1.out 2 _ rfl
  go_wp2_with fail
  refine SN.mono ?_
  rintro e w2 ⟨rfl, HS2, HB2⟩
  clear SN k3 hfz l0
  obtain ⟨sb, hsb⟩ : ∃ b, w1.heap.size = b := ⟨_, rfl⟩
  rw [hsb] at HS2 HB2 HLs ⊢
  have HXC : Sl (w2.heap[g]? = _) := ⟨below_key HX1.out (hsb ▸ HB2.out)⟩
  have HLC : Sl (w2.heap[L]? = _) := ⟨below_key HL1.out (hsb ▸ HB2.out)⟩
  have hfz : w2.frozen? ⟨L, 2, none⟩ = false := frozen_of_row _ _ _ _ _ HLC.out
  have l0 := Rou.cell_at HLC.out 2 _ rfl
  obtain ⟨V2, hV2⟩ : ∃ V, w2.setCell ⟨L, 2, none⟩ (.pointer (some ⟨sb, 0, none⟩)) = V := ⟨_, rfl⟩
  have HK2 : Sl (Kept (fun j => j = L) w2 V2) := ⟨by rw [← hV2]; exact set_kept _ _ _ _⟩
  have HLV : Sl (V2.heap[L]? = some (.cells #[.int .i64 (c.msg : Int), .int .i64 (c.frm : Int), .pointer (some ⟨sb, 0, none⟩), .pointer none, .pointer none, .slice none 0 0, .slice none 0 0, .slice none 0 0, .bool (!c.masked), .int .u32 (d : Int), .int .i64 0, .bool false] 80 (0, 0))) := ⟨by rw [← hV2, heap_setCell_same _ _ _ _ _ _ HLC.out]; rfl⟩
  have HXV : Sl (V2.heap[g]? = _) := ⟨(HK2.out.block g (Array.getElem?_eq_some_iff.1 HXC.out).1 (fun e => by have := HGb.out; omega)).trans HXC.out⟩
  have HB3 : Sl (Below g W V2) := ⟨HK2.out.up (HB1.out.trans (HB2.out.mono (by have := HGb.out; have := HLs.out; omega))) (fun j e => by have := HGb.out; omega) (by have := HGb.out; have := HLs.out; have := HB2.out.size; rw [hsb] at this; omega)⟩
  have HSs : Sl (sb < w2.heap.size) := ⟨HS2.out.lt⟩
  clear HX1 HL1 HB1 HB2 HXC HLC
  go_upto_region 5 with fail
  (try rw [hV2])
  clear hV2 hfz l0
  have k3 := Rou.cell_at HXV.out 3 _ rfl
  have hLow2 : Below w0.heap.size w0 V2 := HBW.out.trans (HB3.out.mono HLW.out)
  have hV2s : w2.heap.size ≤ V2.heap.size := HK2.out.size
  have MN := Msg.new_yes (c.msg : Int) w0 V2 hLow2 (by have := HC.out.m1; have := HC.out.m2; omega)
  have HS3 : Sl (StrmAt w0 V2 sb c.masked (bound c : Int) [] 0 (.slice none 0 0)) := ⟨Cut.strm_kept HS2.out HK2.out (fun e => by have := HLs.out; omega) (fun g e => by cases e) hLow2⟩
  clear HS2 HK2
  go_wp2_with fail
  refine MN.mono ?_
  rintro e w3 ⟨rfl, HM3, HB4⟩
  clear MN k3
  obtain ⟨mb, hmb⟩ : ∃ b, V2.heap.size = b := ⟨_, rfl⟩
  have HMs : Sl (sb < mb) := ⟨by have := HSs.out; omega⟩
  have HS4 : Sl (StrmAt w0 w3 sb c.masked (bound c : Int) [] 0 (.slice none 0 0)) := ⟨HS3.out.below HB4.out⟩
  have HLC := Sl.mk (below_key HLV.out HB4.out)
  have HXC := Sl.mk (below_key HXV.out HB4.out)
  rw [hmb] at HM3 HB4 hV2s ⊢
  have hfz : w3.frozen? ⟨L, 3, none⟩ = false := frozen_of_row _ _ _ _ _ HLC.out
  have l0 := Rou.cell_at HLC.out 3 _ rfl
  obtain ⟨V3, hV3⟩ : ∃ V, w3.setCell ⟨L, 3, none⟩ (.pointer (some ⟨mb, 0, none⟩)) = V := ⟨_, rfl⟩
  have HK3 : Sl (Kept (fun j => j = L) w3 V3) := ⟨by rw [← hV3]; exact set_kept _ _ _ _⟩
  have HLW3 : Sl (V3.heap[L]? = some (.cells #[.int .i64 (c.msg : Int), .int .i64 (c.frm : Int), .pointer (some ⟨sb, 0, none⟩), .pointer (some ⟨mb, 0, none⟩), .pointer none, .slice none 0 0, .slice none 0 0, .slice none 0 0, .bool (!c.masked), .int .u32 (d : Int), .int .i64 0, .bool false] 80 (0, 0))) := ⟨by rw [← hV3, heap_setCell_same _ _ _ _ _ _ HLC.out]; rfl⟩
  have HXW3 := Sl.mk ((HK3.out.block g (Array.getElem?_eq_some_iff.1 HXC.out).1 (fun e => by have := HGb.out; omega)).trans HXC.out)
  have HMl : Sl (mb < w3.heap.size) := ⟨(HM3.out.m.own (.inl rfl)).2⟩
  have HB5 : Sl (Below g W V3) := ⟨HK3.out.up (HB3.out.trans (HB4.out.mono (by have := HGb.out; have := HLs.out; have := HMs.out; omega))) (fun j e => by have := HGb.out; omega) (by have := HGb.out; have := HLs.out; have := HMs.out; have := HMl.out; omega)⟩
  have hLow3 : Below w0.heap.size w0 V3 := HBW.out.trans (HB5.out.mono HLW.out)
  have HS5 : Sl (StrmAt w0 V3 sb c.masked (bound c : Int) [] 0 (.slice none 0 0)) := ⟨Cut.strm_kept HS4.out HK3.out (fun e => by have := HLs.out; omega) (fun g e => by cases e) hLow3⟩
  have HM5 : Sl (MacS w0 V3 mb (c.msg : Int) M0 (.slice none 0 0) (.pointer none)) := ⟨HM3.out.apart HK3.out (fun k e e2 => by have := Msg.mine_zero e; have := HLs.out; have := HMs.out; omega) hLow3⟩
  have HMv : Sl (mb < V3.heap.size) := ⟨(HM5.out.m.own (.inl rfl)).2⟩
  clear HLV HXV HS3 HS4 HM3 HB4 HLC HXC HK3 hmb hV2s hLow2
  go_upto_region 6 with fail
  (try rw [hV3])
  clear hV3 hfz l0
  have k7 := Rou.cell_at HXW3.out 7 _ rfl
  have RN := Rng.new_ex w0 V3 c.out HC.out.o1 HC.out.o2 hLow3
  clear hLow3
  go_wp2_with fail
  refine RN.mono ?_
  rintro e w4 ⟨rfl, HR4, HB6, -⟩
  clear RN k7
  have HLC := Sl.mk (below_key HLW3.out HB6.out)
  have HS6 : Sl (StrmAt w0 w4 sb c.masked (bound c : Int) [] 0 (.slice none 0 0)) := ⟨HS5.out.below HB6.out⟩
  have HM6 : Sl (MacS w0 w4 mb (c.msg : Int) M0 (.slice none 0 0) (.pointer none)) := ⟨HM5.out.below HB6.out⟩
  obtain ⟨rp, hrp⟩ : ∃ b, V3.heap.size = b := ⟨_, rfl⟩
  rw [hrp] at HR4 HB6 HMv ⊢
  have hfz : w4.frozen? ⟨L, 4, none⟩ = false := frozen_of_row _ _ _ _ _ HLC.out
  have l0 := Rou.cell_at HLC.out 4 _ rfl
  obtain ⟨V4, hV4⟩ : ∃ V, w4.setCell ⟨L, 4, none⟩ (.pointer (some ⟨(rp + 1), 0, none⟩)) = V := ⟨_, rfl⟩
  have HK4 : Sl (Kept (fun j => j = L) w4 V4) := ⟨by rw [← hV4]; exact set_kept _ _ _ _⟩
  have HLW4 : Sl (V4.heap[L]? = some (.cells #[.int .i64 (c.msg : Int), .int .i64 (c.frm : Int), .pointer (some ⟨sb, 0, none⟩), .pointer (some ⟨mb, 0, none⟩), .pointer (some ⟨(rp + 1), 0, none⟩), .slice none 0 0, .slice none 0 0, .slice none 0 0, .bool (!c.masked), .int .u32 (d : Int), .int .i64 0, .bool false] 80 (0, 0))) := ⟨by rw [← hV4, heap_setCell_same _ _ _ _ _ _ HLC.out]; rfl⟩
  have HB7 : Sl (Below g W V4) := ⟨HK4.out.up (HB5.out.trans (HB6.out.mono (by have := HGb.out; have := HLs.out; have := HMs.out; have := HMv.out; omega))) (fun j e => by have := HGb.out; omega) (by have := HGb.out; have := HLs.out; have := HMs.out; have := HMv.out; have := HR4.out.blt; omega)⟩
  have HFN : Sl (LegF w0 V4 L sb mb (rp + 1) rp (.slice none 0 0) (.slice none 0 0) (.slice none 0 0) (.slice none 0 0) (.slice none 0 0) (.pointer none) c (L0 d)) := by
    have hLow4 : Below w0.heap.size w0 V4 := HBW.out.trans (HB7.out.mono HLW.out)
    have a1 := HGb.out
    have a2 := HLs.out
    have a3 := HMs.out
    have a4 := HMv.out
    have a5 := HLW.out
    refine ⟨⟨HLW4.out, ring_same HR4.out (HK4.out.block (rp + 1) HR4.out.blt (fun e => by omega)) (HK4.out.block rp HR4.out.plt (fun e => by omega)), tail_nil _ _, frow_nil _ _, frow_nil _ _, ⟨by omega, by omega, by omega⟩, fun k e => (by cases e), fun k e => (by cases e), HD.out, hLow4⟩, ?_, ?_, fun k e => ?_, fun k e => ?_⟩
    · exact Cut.strm_kept HS6.out HK4.out (fun e => by omega) (fun g e => by cases e) hLow4
    · exact HM6.out.apart HK4.out (fun k e e2 => by have := Msg.mine_zero e; omega) hLow4
    · refine ⟨fun e2 => ?_, fun e2 => (by cases e2), fun e2 => ?_⟩
      · rcases e with e | e | e | e | e | e
        · omega
        · omega
        · omega
        · cases e
        · cases e
        · cases e
      · have := Msg.mine_zero e2
        rcases e with e | e | e | e | e | e
        · omega
        · omega
        · omega
        · cases e
        · cases e
        · cases e
    · have := Msg.mine_zero e
      exact ⟨by omega, fun e2 => (by cases e2)⟩
  have HGE : Sl (g ≤ L ∧ g ≤ sb ∧ g ≤ mb ∧ g ≤ rp + 1 ∧ g ≤ rp) := ⟨by
    have a1 := HGb.out
    have a2 := HLs.out
    have a3 := HMs.out
    have a4 := HMv.out
    omega⟩
  clear HS5 HS6 HM5 HM6 HK4 HLC HLW3 HLW4 HXW3 HR4 HB6
  go_wp2
  (try rw [hV4])
  go_ret2
  exact ⟨_, _, _, _, _, rfl, HFN, HB7, HGE⟩
end Go.Proofs.YtlahonjmfecikaaGreatDoor.Leg
set_option maxRecDepth 100000
namespace Go.Proofs.YtlahonjmfecikaaGreatDoor.Leg
open Go.RowKit Stm
open FramePlain (Fr Fr0)
open LegPlain (Cf Lg)
open Msg (Kept MacS Mine)
open LegPlain (Inv Few CfOk Good came evs errs react bound feed fail L0)
open MsgPlain (Ev Ms M0)
open Evt
structure LegH (w0 W : World) (L : Nat) (S : Nat → Prop) (c : Cf) (l : Lg) (k : Nat) : Prop where
  ex : ∃ sb mb rb rp tv kv qv sv mv mp, LegF w0 W L sb mb rb rp tv kv qv sv mv mp c l ∧ S = All L rb rp sb mb tv kv qv sv mv mp
  good : LegPlain.Good c l k
  cf : CfOk c
  k : k ≤ 1000
  g : Mas.Globs w0 ∧ Utf.Globs w0
section
variable {w0 W W' : World} {L : Nat} {S S' S2 : Nat → Prop} {c : Cf} {l : Lg} {k : Nat}
theorem LegH.low (h : LegH w0 W L S c l k) : Below w0.heap.size w0 W := by
  obtain ⟨_, _, _, _, _, _, _, _, _, _, h1, _⟩ := h.ex; exact h1.low
theorem LegH.own (h : LegH w0 W L S c l k) {j : Nat} (e : S j) : w0.heap.size ≤ j ∧ j < W.heap.size := by
  obtain ⟨_, _, _, _, _, _, _, _, _, _, h1, rfl⟩ := h.ex; exact h1.own e
theorem LegH.stay (h : LegH w0 W L S c l k) (hk : Kept S2 W W') (hn : ∀ j, S j → ¬ S2 j) (hL : Below w0.heap.size w0 W') : LegH w0 W' L S c l k := by
  obtain ⟨⟨_, _, _, _, _, _, _, _, _, _, h1, rfl⟩, a, b, d, e⟩ := h
  exact ⟨⟨_, _, _, _, _, _, _, _, _, _, h1.stay hk hn hL, rfl⟩, a, b, d, e⟩
theorem LegH.below (h : LegH w0 W L S c l k) (hb : Below W.heap.size W W') : LegH w0 W' L S c l k := by
  obtain ⟨⟨_, _, _, _, _, _, _, _, _, _, h1, rfl⟩, a, b, d, e⟩ := h
  exact ⟨⟨_, _, _, _, _, _, _, _, _, _, h1.below hb, rfl⟩, a, b, d, e⟩
theorem LegH.mono (h : LegH w0 W L S c l k) {j : Nat} (hj : k ≤ j) (hk : j ≤ 1000) : LegH w0 W L S c l j := ⟨h.ex, h.good.mono hj, h.cf, hk, h.g⟩
theorem FGoes.apart {T : Nat → Prop} (g : FGoes W W' S S') (h : ∀ j, S j → ¬ T j) (ht : ∀ j, T j → j < W.heap.size) : ∀ j, S' j → ¬ T j := fun j e e2 => by
  rcases g.mine j e with h1 | h1
  · exact h j h1 e2
  · have := ht j e2; omega
theorem FGoes.up (g : FGoes W W' S S') {V : World} {B : Nat} (hB : Below B V W) (hS : ∀ j, S j → B ≤ j) (hs : B ≤ W.heap.size) : Below B V W' := g.kept.up hB hS hs
theorem LegH.up (h : LegH w0 W L S c l k) (g : FGoes W W' S S') : Below w0.heap.size w0 W' := g.kept.up h.low (fun _ e => (h.own e).1) h.low.size
theorem ogoes_f {sb mb rb rp : Nat} {tv kv qv sv mv mp tv' kv' qv' : Value} {m : Lg} (h : LegF w0 W L sb mb rb rp tv kv qv sv mv mp c l) (hA : LegAt w0 W' L sb mb rb rp tv' kv' qv' c m) (g : OGoes W W' L rb rp tv kv qv tv' kv' qv') (hk : LegPlain.Keep l m) :
    LegF w0 W' L sb mb rb rp tv' kv' qv' sv mv mp c m ∧ FGoes W W' (All L rb rp sb mb tv kv qv sv mv mp) (All L rb rp sb mb tv' kv' qv' sv mv mp) := h.out hA g hk.buf hk.serr hk.ms
theorem free_ex (h : LegH w0 W L S c l k) (r : Bool) (hr : LegPlain.free l = r) : Calls Tryz.prog 35 #[.pointer (some ⟨L, 0, none⟩)] W fun e w' => e = .returned (.bool r) ∧ W = w' := by
  obtain ⟨⟨_, _, _, _, _, _, _, _, _, _, h1, rfl⟩, a, b, d, e⟩ := h
  refine free_any h1.A _ rfl _ ?_
  rw [← hr, a.free]
  cases l.rest with
  | nil => rfl
  | cons x y => simp; omega
theorem sent_ex (h : LegH w0 W L S c l k) (r : Bool) (hr : l.sent = r) : Calls Tryz.prog 28 #[.pointer (some ⟨L, 0, none⟩)] W fun e w' => e = .returned (.bool r) ∧ W = w' := by
  obtain ⟨⟨_, _, _, _, _, _, _, _, _, _, h1, rfl⟩, a, b, d, e⟩ := h
  rw [← hr]; exact sent_any h1.A
theorem wrong_ex (h : LegH w0 W L S c l k) (r : Int) (hr : (l.wrong : Int) = r) : Calls Tryz.prog 30 #[.pointer (some ⟨L, 0, none⟩)] W fun e w' => e = .returned (.int .i64 r) ∧ W = w' := by
  obtain ⟨⟨_, _, _, _, _, _, _, _, _, _, h1, rfl⟩, a, b, d, e⟩ := h
  rw [← hr]; exact wrong_any h1.A
theorem got_ex (h : LegH w0 W L S c l k) (r : Bool) (hr : l.got = r) : Calls Tryz.prog 31 #[.pointer (some ⟨L, 0, none⟩)] W fun e w' => e = .returned (.bool r) ∧ W = w' := by
  obtain ⟨⟨_, _, _, _, _, _, _, _, _, _, h1, rfl⟩, a, b, d, e⟩ := h
  rw [← hr, a.gm]; exact got_any h1.A h1.M
theorem quiet_ex (h : LegH w0 W L S c l k) (r : Bool) (hr : decide (l.ring = []) = r) : Calls Tryz.prog 27 #[.pointer (some ⟨L, 0, none⟩)] W fun e w' => e = .returned (.bool r) ∧ W = w' := by
  obtain ⟨⟨_, _, _, _, _, _, _, _, _, _, h1, rfl⟩, a, b, d, e⟩ := h
  refine quiet_any h1.A _ rfl _ ?_
  rw [← hr]
  cases l.ring with
  | nil => rfl
  | cons x y => simp; omega
theorem kept_ex (h : LegH w0 W L S c l k) (n : Nat) (hn : l.buf.length + l.ms.text.length = n) (hl : n ≤ 10000000) : Calls Tryz.prog 34 #[.pointer (some ⟨L, 0, none⟩)] W fun e w' => e = .returned (.int .i64 (n : Int)) ∧ Sl (Below W.heap.size W w') := by
  obtain ⟨⟨_, _, _, _, _, _, _, _, _, _, h1, rfl⟩, a, b, d, e⟩ := h
  exact kept_any h1.A h1.S h1.M _ _ n rfl rfl hn hl
theorem peek_ex (h : LegH w0 W L S c l k) (z : Int) (out : List Nat) (ho : l.ring.take z.toNat = out) (n : Nat) (hn : out.length = n) : Calls Tryz.prog 33 #[.pointer (some ⟨L, 0, none⟩), .int .i64 z] W fun e w' => e = .returned (.slice (some ⟨W.heap.size, 0, none⟩) n n) ∧ Sl (RowB w' W.heap.size out) ∧ Sl (Below W.heap.size W w') := by
  obtain ⟨⟨_, _, _, _, _, _, _, _, _, _, h1, rfl⟩, a, b, d, e⟩ := h
  exact peek_any h1.A z out ho n hn
theorem take_ex (h : LegH w0 W L S c l k) (z : Int) (out : List Nat) (ho : l.ring.take z.toNat = out) (n : Nat) (hn : out.length = n) (m : Lg) (hm : (LegPlain.takeN c l z).1 = m) : Calls Tryz.prog 24 #[.pointer (some ⟨L, 0, none⟩), .int .i64 z] W fun e w' => ∃ S', e = .returned (.slice (some ⟨W.heap.size, 0, none⟩) n n) ∧ Sl (RowB w' W.heap.size out) ∧ Sl (LegH w0 w' L S' c m k) ∧ Sl (FGoes W w' S S') := by
  obtain ⟨⟨_, _, _, _, _, _, _, _, _, _, h1, rfl⟩, a, b, d, e⟩ := h
  subst ho
  refine (ltake_any h1.A e.1 a.few d b z n hn).mono ?_
  rintro x w' ⟨_, _, _, rfl, hR, hA, hG⟩
  obtain ⟨q1, q2⟩ := ogoes_f h1 hA.out hG.out (LegPlain.take_keep c l z)
  subst hm
  exact ⟨_, rfl, hR, ⟨⟨⟨_, _, _, _, _, _, _, _, _, _, q1, rfl⟩, LegPlain.good_take b a z, b, d, e⟩⟩, ⟨q2⟩⟩
theorem ping_ex (h : LegH w0 W L S c l k) (s : ByteArray) (hs : s.size ≤ 1000000) (hk : k + 1 ≤ 1000) (m : Lg) (r : Bool) (hm : LegPlain.ping c l (bytes s) = (m, r)) : Calls Tryz.prog 22 #[.pointer (some ⟨L, 0, none⟩), .string s] W fun e w' => ∃ S', e = .returned (.bool r) ∧ Sl (LegH w0 w' L S' c m (k + 1)) ∧ Sl (FGoes W w' S S') := by
  obtain ⟨⟨_, _, _, _, _, _, _, _, _, _, h1, rfl⟩, a, b, d, e⟩ := h
  refine (lping_any h1.A e.1 a.few d b a.op s hs).mono ?_
  rintro x w' ⟨_, _, _, rfl, hA, hG⟩
  obtain ⟨q1, q2⟩ := ogoes_f h1 hA.out hG.out (LegPlain.ping_keep c l _)
  have q3 := LegPlain.good_ping b a (bytes s) (bytes_small s)
  rw [hm] at q1 q3 ⊢
  exact ⟨_, rfl, ⟨⟨⟨_, _, _, _, _, _, _, _, _, _, q1, rfl⟩, q3, b, hk, e⟩⟩, ⟨q2⟩⟩
theorem close_ex (h : LegH w0 W L S c l k) (code : Int) (s : ByteArray) (m : Lg) (r : Bool) (hm : LegPlain.close c l code (bytes s) = (m, r)) : Calls Tryz.prog 23 #[.pointer (some ⟨L, 0, none⟩), .int .i64 code, .string s] W fun e w' => ∃ S', e = .returned (.bool r) ∧ Sl (LegH w0 w' L S' c m k) ∧ Sl (FGoes W w' S S') := by
  obtain ⟨⟨_, _, _, _, _, _, _, _, _, _, h1, rfl⟩, a, b, d, e⟩ := h
  refine (lclose_any h1.A e.1 a.few d b e.2 code s).mono ?_
  rintro x w' ⟨_, _, _, rfl, hA, hG⟩
  obtain ⟨q1, q2⟩ := ogoes_f h1 hA.out hG.out (LegPlain.close_keep c l code _)
  have q3 := LegPlain.good_close b a code (bytes s) (bytes_small s)
  rw [hm] at q1 q3 ⊢
  exact ⟨_, rfl, ⟨⟨⟨_, _, _, _, _, _, _, _, _, _, q1, rfl⟩, q3, b, d, e⟩⟩, ⟨q2⟩⟩
theorem send_ex (h : LegH w0 W L S c l k) (o q : Int) (s : ByteArray) (m : Lg) (r : Bool) (hm : LegPlain.send c l o (bytes s) = (m, r)) : Calls Tryz.prog 21 #[.pointer (some ⟨L, 0, none⟩), .agg #[.int .i64 o, .int .i64 q, .string s]] W fun e w' => ∃ S', e = .returned (.bool r) ∧ Sl (LegH w0 w' L S' c m k) ∧ Sl (FGoes W w' S S') := by
  obtain ⟨⟨_, _, _, _, _, _, _, _, _, _, h1, rfl⟩, a, b, d, e⟩ := h
  refine (lsend_any h1.A e.1 a.few d b a.op o q s).mono ?_
  rintro x w' ⟨_, _, _, rfl, hA, hG⟩
  obtain ⟨q1, q2⟩ := ogoes_f h1 hA.out hG.out (LegPlain.send_keep c l o _)
  have q3 := LegPlain.good_send b a o (bytes s) (bytes_small s)
  rw [hm] at q1 q3 ⊢
  exact ⟨_, rfl, ⟨⟨⟨_, _, _, _, _, _, _, _, _, _, q1, rfl⟩, q3, b, d, e⟩⟩, ⟨q2⟩⟩
theorem feed_ex (h : LegH w0 W L S c l k) (v : Value) (b : List Nat) (hv : SrcAt W v b) (hb : Small 256 b) (hl : b.length ≤ 30000) (m : Lg) (es : List Ev) (hm : feed c l b = (m, es)) : Calls Tryz.prog 20 #[.pointer (some ⟨L, 0, none⟩), v] W fun e w' => ∃ S' rv, e = .returned rv ∧ Sl (OwnE w' W.heap.size rv es) ∧ Sl (LegH w0 w' L S' c m k) ∧ Sl (FGoes W w' S S') ∧ Sl (∀ j, rv.ownBlock = some j → ¬ S' j) := by
  obtain ⟨⟨_, _, _, _, _, _, _, _, _, _, h1, rfl⟩, a, x, d, e⟩ := h
  refine (lfeed_any h1 e.1 e.2 a d x v b hv hb hl).mono ?_
  rintro y w' ⟨_, _, _, _, _, _, rv, rfl, hO, hA, hG, hN⟩
  have q3 := LegPlain.good_feed x a b hb
  rw [hm] at hO hA q3
  exact ⟨_, rv, rfl, hO, ⟨⟨⟨_, _, _, _, _, _, _, _, _, _, hA.out, rfl⟩, q3, x, d, e⟩⟩, hG, hN⟩
end
theorem new_ex (rs : List Rou.Rb) (a1 : Option Addr) (n1 c1 : Nat) (a2 : Option Addr) (n2 c2 : Nat) (tb ct bs sh id po cl : Int) (c : Cf) (d : Nat) (hd : d < 4294967296) (w0 W : World) (hB : Below w0.heap.size w0 W) (hG : Mas.Globs w0 ∧ Utf.Globs w0) (hg : _root_.Go.Proofs.YtlahonjmfecikaaGreatDoor.Globs W) (hv : Rou.RtsAt W (.slice a1 n1 c1) rs) (ok : ∀ r ∈ rs, Rou.RbOk r) (hl : rs.length ≤ 1000000) (hc : CfOk c) (hr : Rou.checkB rs n2 tb (c.msg : Int) (c.frm : Int) ct bs (c.out : Int) sh id po cl = true) :
    Calls Tryz.prog 13 #[.agg #[.slice a1 n1 c1, .slice a2 n2 c2, .int .i64 tb, .int .i64 (c.msg : Int), .int .i64 (c.frm : Int), .int .i64 ct, .int .i64 bs, .int .i64 (c.out : Int), .int .i64 sh, .int .i64 id, .int .i64 po, .int .i64 cl], .bool c.masked, .int .u32 (d : Int)] W fun e w' => ∃ L S, e = .returned (.tuple #[.pointer (some ⟨L, 0, none⟩), .int .i64 0]) ∧ Sl (LegH w0 w' L S c (L0 d) 0) ∧ Sl (Below W.heap.size W w') ∧ Sl (∀ j, S j → W.heap.size ≤ j) := by
  refine (lnew_yes rs a1 n1 c1 a2 n2 c2 tb ct bs sh id po cl c d hd w0 W hB hg hv ok hl hc hr).mono ?_
  rintro x w' ⟨L, sb, mb, rb, rp, rfl, hL, hb, hge⟩
  obtain ⟨g1, g2, g3, g4, g5⟩ := hge.out
  refine ⟨L, _, rfl, ⟨⟨⟨_, _, _, _, _, _, _, _, _, _, hL.out, rfl⟩, LegPlain.good_zero c d, hc, by decide, hG⟩⟩, hb, ⟨fun j e => ?_⟩⟩
  rcases e with e | (e | e) | e
  · rcases e with e | e | e | e | e | e
    · omega
    · omega
    · omega
    · cases e
    · cases e
    · cases e
  · omega
  · cases e
  · have := Msg.mine_zero e; omega
end Go.Proofs.YtlahonjmfecikaaGreatDoor.Leg
set_option maxRecDepth 100000
namespace Go.Proofs.YtlahonjmfecikaaGreatDoor.Leg
open Go.RowKit Stm
open FramePlain (Fr Fr0)
open LegPlain (Cf Lg)
open Msg (Kept MacS Mine)
open LegPlain (Inv Few CfOk Good came evs errs react bound feed fail L0 takeN pend)
open MsgPlain (Ev Ms M0)
open Evt
def rb1 : Rou.Rb := ⟨{ data := #[47] }, { data := #[] }, { data := #[120] }⟩
theorem rb1_ok : ∀ r ∈ [rb1], Rou.RbOk r := fun r hr => by
  rw [List.mem_singleton] at hr
  subst hr
  exact ⟨by decide, by decide, by decide⟩
theorem rb1_rs : Rou.okRs [rb1] = true := by decide +kernel
def cfL (a b o : Nat) (masked : Bool) : Cf := ⟨1 + o, 1 + a, 1 + b, masked⟩
theorem cfL_ok {a b o : Nat} (ha : a < 256) (hb : b < 256) (ho : o < 256) (m : Bool) : CfOk (cfL a b o m) := by
  refine ⟨?_, ?_, ?_, ?_, ?_, ?_⟩ <;> (simp only [cfL]; omega)
theorem check_L {a b o : Nat} (ha : a < 256) (hb : b < 256) (ho : o < 256) : Rou.checkB [rb1] 0 4 ((1 + a : Nat) : Int) ((1 + b : Nat) : Int) 3 300 ((1 + o : Nat) : Int) 5 9 3 4 = true := by
  unfold Rou.checkB
  rw [rb1_rs, show (Rou.spansL 4 ((1 + a : Nat) : Int) ((1 + b : Nat) : Int) 3 300 ((1 + o : Nat) : Int) 5 9 3 4).any Rou.outB = false from by
    rw [List.any_eq_false]
    intro x hx
    unfold Rou.spansL at hx
    simp only [List.mem_cons, List.not_mem_nil, or_false] at hx
    unfold Rou.outB
    rcases hx with rfl | rfl | rfl | rfl | rfl | rfl | rfl | rfl | rfl | rfl <;> simp <;> omega]
  rfl
theorem rts_one {W : World} {g : Nat} (h : W.heap[g]? = some (.cells #[.string { data := #[47] }, .string { data := #[] }, .string { data := #[120] }] 72 (0, 0))) : Rou.RtsAt W (.slice (some ⟨g, 0, none⟩) 1 1) [rb1] := by
  refine ⟨_, 1, g, 0, rfl, Nat.le_refl _, fun _ => rfl, fun i hi j hj => ?_⟩
  obtain rfl : i = 0 := by simpa using hi
  rw [cell_of_row _ _ _ _ _ _ h]
  have h3 : j = 0 ∨ j = 1 ∨ j = 2 := by omega
  rcases h3 with rfl | rfl | rfl <;> rfl
theorem ret_cfg {fn : Func} {p : Tmp} (h : fn.results = #[.cell p 25]) (tmps : Array Value) (w : World) (g : Nat) (cs : Array Value)
    (hp : tmps.getD p undef = .pointer (some ⟨g, 0, none⟩)) (hg : w.heap[g]? = some (.cells cs 25 (0, 0))) (hs : cs.size = 12) :
    (results fn tmps).run Tryz.prog w = .ok (.agg cs) w := by
  have hi : (Tryz.prog.info? 25).map (·.size) = some cs.size := by rw [hs]; kernel_rfl
  have hp' : tmps[p]?.getD undef = .pointer (some ⟨g, 0, none⟩) := by simpa using hp
  simp only [results, h]
  simp [Result.andThen, hp', asAddr, run_loadVar_row (P := Tryz.prog) w g 25 25 cs (0, 0) _ hg Tryz.underlying25 rfl hi]
set_option maxHeartbeats 4000000 in
theorem cfg_any (a b o : Nat) (ha : a < 256) (hb : b < 256) (ho : o < 256) (W : World) :
    Calls Tryz.prog 19 #[.int .u8 (a : Int), .int .u8 (b : Int), .int .u8 (o : Int)] W fun e w' => ∃ g, e = .returned (.agg #[.slice (some ⟨g, 0, none⟩) 1 1, .slice none 0 0, .int .i64 4, .int .i64 ((1 + a : Nat) : Int), .int .i64 ((1 + b : Nat) : Int), .int .i64 3, .int .i64 300, .int .i64 ((1 + o : Nat) : Int), .int .i64 5, .int .i64 9, .int .i64 3, .int .i64 4]) ∧ Sl (w'.heap[g]? = some (.cells #[.string { data := #[47] }, .string { data := #[] }, .string { data := #[120] }] 72 (0, 0)) ∧ W.heap.size ≤ g) ∧ Sl (Below W.heap.size W w') := by
  have q1 : ((1 + a : Nat) : Int) = 1 + (a : Int) := by omega
  have q2 : ((1 + b : Nat) : Int) = 1 + (b : Int) := by omega
  have q3 : ((1 + o : Nat) : Int) = 1 + (o : Int) := by omega
  rw [q1, q2, q3]
  clear q1 q2 q3
  go_enter Tryz.func19, Tryz.ntmps19
  go_wp2
  (try simp only [Exit.inBlock, Exit.then])
  refine bodyPost_ret (ret_cfg rfl _ _ W.heap.size _ rfl (below_key (alloc_new W _ _ rfl) ((Below.refl _ _).alloc (Nat.le_refl _) _)) rfl) rfl ?_
  exact ⟨W.heap.size + 1, rfl, ⟨(by have := alloc_new (W.alloc (.cells #[.slice (some ⟨W.heap.size + 1, 0, none⟩) 1 1, .slice none 0 0, .int .i64 4, .int .i64 (1 + (a : Int)), .int .i64 (1 + (b : Int)), .int .i64 3, .int .i64 300, .int .i64 (1 + (o : Int)), .int .i64 5, .int .i64 9, .int .i64 3, .int .i64 4] 25)) (.cells #[.string { data := #[47] }, .string { data := #[] }, .string { data := #[120] }] 72) (W.heap.size + 1) (by simp); exact this), Nat.le_succ _⟩, ⟨((Below.refl _ _).alloc (Nat.le_refl _) _).alloc (by simp) _⟩⟩
set_option maxHeartbeats 2000000 in
theorem few_any (kind op code n : Int) (s : ByteArray) (W : World) (r : Bool) (hr : decide (s.size ≤ 300) = r) :
    Calls Tryz.prog 16 #[(.agg #[.int .i64 kind, .int .i64 op, .int .i64 code, .int .i64 n, .string s])] W fun e w' => e = .returned (.bool r) ∧ Sl (Below W.heap.size W w') := by
  subst hr
  obtain ⟨wa, hwa, HB, hx⟩ : ∃ V, W.alloc (.cells #[.int .i64 kind, .int .i64 op, .int .i64 code, .int .i64 n, .string s] 40) = V ∧ Below W.heap.size W V ∧ V.heap[W.heap.size]? = some (.cells #[.int .i64 kind, .int .i64 op, .int .i64 code, .int .i64 n, .string s] 40 (0, 0)) := ⟨_, rfl, (Below.refl _ _).alloc (Nat.le_refl _) _, alloc_new _ _ _ rfl⟩
  have k4 := Rou.cell_at hx 4 _ rfl
  have hq : decide ((s.size : Int) ≤ 300) = decide (s.size ≤ 300) := by
    by_cases h : s.size ≤ 300
    · rw [decide_eq_true h, decide_eq_true (by omega)]
    · rw [decide_eq_false h, decide_eq_false (by omega)]
  go_enter Tryz.func16, Tryz.ntmps16
  go_upto_region 1 with fail
  (try rw [hwa])
  clear hwa
  go_wp2
  go_ret
  exact ⟨by rw [← hq]; rfl, ⟨HB⟩⟩
end Go.Proofs.YtlahonjmfecikaaGreatDoor.Leg
set_option maxRecDepth 100000
namespace Go.Proofs.YtlahonjmfecikaaGreatDoor.Leg
open Go.RowKit Stm
open FramePlain (Fr Fr0)
open LegPlain (Cf Lg)
open Msg (Kept MacS Mine)
open LegPlain (Inv Few CfOk Good came evs errs react bound feed fail L0 takeN pend)
open MsgPlain (Ev Ms M0)
open Evt
structure G3 (w : World) : Prop where
  h : _root_.Go.Proofs.YtlahonjmfecikaaGreatDoor.Globs w
  m : Mas.Globs w
  u : Utf.Globs w
theorem FGoes.ge {W W' : World} {S S' : Nat → Prop} (g : FGoes W W' S S') {B : Nat} (h : ∀ j, S j → B ≤ j) (hB : B ≤ W.heap.size) : ∀ j, S' j → B ≤ j := fun j e => by
  rcases g.mine j e with h1 | h1
  · exact h j h1
  · omega
theorem cfg_L {a b o : Nat} (ha : a < 256) (hb : b < 256) (ho : o < 256) {i1 i2 i3 : Int} (h1 : ((1 + a : Nat) : Int) = i1) (h2 : ((1 + b : Nat) : Int) = i2) (h3 : ((1 + o : Nat) : Int) = i3) {x1 x2 x3 : Int} (e1 : (a : Int) = x1) (e2 : (b : Int) = x2) (e3 : (o : Int) = x3) (W : World) :
    Calls Tryz.prog 19 #[.int .u8 x1, .int .u8 x2, .int .u8 x3] W fun e w' => ∃ g, e = .returned (.agg #[.slice (some ⟨g, 0, none⟩) 1 1, .slice none 0 0, .int .i64 4, .int .i64 i1, .int .i64 i2, .int .i64 3, .int .i64 300, .int .i64 i3, .int .i64 5, .int .i64 9, .int .i64 3, .int .i64 4]) ∧ Sl (w'.heap[g]? = some (.cells #[.string { data := #[47] }, .string { data := #[] }, .string { data := #[120] }] 72 (0, 0)) ∧ W.heap.size ≤ g) ∧ Sl (Below W.heap.size W w') := by
  subst h1 h2 h3 e1 e2 e3; exact cfg_any a b o ha hb ho W
theorem new_L {a b o : Nat} (ha : a < 256) (hb : b < 256) (ho : o < 256) {i1 i2 i3 : Int} (h1 : ((1 + a : Nat) : Int) = i1) (h2 : ((1 + b : Nat) : Int) = i2) (h3 : ((1 + o : Nat) : Int) = i3) (masked : Bool) (d : Nat) (hd : d < 4294967296) {x : Int} (hx : (d : Int) = x) {w0 W : World} (hG : G3 w0) (hB : Below w0.heap.size w0 W) {g : Nat} (hv : Rou.RtsAt W (.slice (some ⟨g, 0, none⟩) 1 1) [rb1]) :
    Calls Tryz.prog 13 #[.agg #[.slice (some ⟨g, 0, none⟩) 1 1, .slice none 0 0, .int .i64 4, .int .i64 i1, .int .i64 i2, .int .i64 3, .int .i64 300, .int .i64 i3, .int .i64 5, .int .i64 9, .int .i64 3, .int .i64 4], .bool masked, .int .u32 x] W fun e w' => ∃ L S, e = .returned (.tuple #[.pointer (some ⟨L, 0, none⟩), .int .i64 0]) ∧ Sl (LegH w0 w' L S (cfL a b o masked) (L0 d) 0) ∧ Sl (Below W.heap.size W w') ∧ Sl (∀ j, S j → W.heap.size ≤ j) := by
  subst h1 h2 h3 hx
  exact new_ex [rb1] _ 1 1 none 0 0 4 3 300 5 9 3 4 (cfL a b o masked) d hd w0 W hB ⟨hG.m, hG.u⟩ (hG.h.of hB) hv rb1_ok (by decide) (cfL_ok ha hb ho masked) (check_L ha hb ho)
def ca : Cf := cfL 99 49 99 true
theorem wk1 : LegPlain.free (L0 7) = true := by decide +kernel
theorem wk2 : feed ca (L0 7) [129, 0] = ((feed ca (L0 7) [129, 0]).1, []) := Prod.ext rfl (show (feed ca (L0 7) [129, 0]).2 = [] by decide +kernel)
def la : Lg := (feed ca (L0 7) [129, 0]).1
def lb : Lg := (takeN ca la 100).1
theorem wk3 : la.ring.take (100 : Int).toNat = [136, 2, 3, 234] := by decide +kernel
theorem wk4 : (lb.wrong : Int) = 100 := by decide +kernel
theorem wk5 : lb.sent = true := by decide +kernel
theorem wk6 : lb.got = false := by decide +kernel
theorem wk7 : decide (lb.ring = []) = true := by decide +kernel
theorem wk8 : lb.buf.length + lb.ms.text.length = 0 := by decide +kernel
theorem wk9 (o : Int) (d : List Nat) : LegPlain.send ca lb o d = (lb, false) := by
  unfold LegPlain.send
  rw [if_neg (fun e => absurd e.1 (by decide +kernel))]
theorem wk10 (d : List Nat) : LegPlain.ping ca lb d = (lb, false) := by
  unfold LegPlain.ping
  rw [if_pos (.inl wk5)]
theorem wk11 (k : Int) (d : List Nat) : LegPlain.close ca lb k d = (lb, false) := by
  unfold LegPlain.close
  rw [if_pos (.inl wk5)]
theorem wk12 : lb.ring.take (9 : Int).toNat = [] := by decide +kernel
theorem wk13 : strOf [136, 2, 3, 234] = ⟨#[136, 2, 3, 234]⟩ := by decide +kernel
set_option maxHeartbeats 16000000 in
theorem awake_any {w0 : World} (W : World) (hG : G3 w0) (hB : Below w0.heap.size w0 W) : Calls Tryz.prog 11 #[] W fun e w' => e = .returned (.bool true) ∧ Sl (Below W.heap.size W w') := by
  obtain ⟨i1, h1⟩ : ∃ i : Int, ((1 + 99 : Nat) : Int) = i := ⟨_, rfl⟩
  obtain ⟨i2, h2⟩ : ∃ i : Int, ((1 + 49 : Nat) : Int) = i := ⟨_, rfl⟩
  have CF := cfg_L (a := 99) (b := 49) (o := 99) (by decide) (by decide) (by decide) h1 h2 h1 (x1 := 99) (x2 := 49) (x3 := 99) rfl rfl rfl W
  have NW : Sl (∀ V g, Below w0.heap.size w0 V → Rou.RtsAt V (.slice (some ⟨g, 0, none⟩) 1 1) [rb1] → Calls Tryz.prog 13 #[.agg #[.slice (some ⟨g, 0, none⟩) 1 1, .slice none 0 0, .int .i64 4, .int .i64 i1, .int .i64 i2, .int .i64 3, .int .i64 300, .int .i64 i1, .int .i64 5, .int .i64 9, .int .i64 3, .int .i64 4], .bool true, .int .u32 7] V fun e w' => ∃ L S, e = .returned (.tuple #[.pointer (some ⟨L, 0, none⟩), .int .i64 0]) ∧ Sl (LegH w0 w' L S ca (L0 7) 0) ∧ Sl (Below V.heap.size V w') ∧ Sl (∀ j, S j → V.heap.size ≤ j)) := ⟨fun V g hV hv => new_L (a := 99) (b := 49) (o := 99) (by decide) (by decide) (by decide) h1 h2 h1 true 7 (by decide) rfl hG hV hv⟩
  have HB := Sl.mk hB
  obtain ⟨B, hBB⟩ : ∃ b, W.heap.size = b := ⟨_, rfl⟩
  have HBB := Sl.mk hBB
  clear h1 h2 hG hB hBB
  go_enter Tryz.func11, Tryz.ntmps11
  go_wp2_with fail
  refine CF.mono ?_
  rintro e w1 ⟨g, rfl, HV, HB1⟩
  have NW1 := NW.out w1 g (HB.out.trans (HB1.out.mono HB.out.size)) (rts_one HV.out.1)
  clear CF NW
  go_wp2_with fail
  refine NW1.mono ?_
  rintro e w2 ⟨L, S, rfl, HL, HB2, HS⟩
  clear NW1
  have HB3 : Sl (Below B W w2) := ⟨by rw [← HBB.out]; exact HB1.out.trans (HB2.out.mono HB1.out.size)⟩
  have HS3 : Sl ((∀ j, S j → B ≤ j) ∧ B ≤ w2.heap.size) := ⟨fun j e => by have := HS.out j e; have := HB1.out.size; have := HBB.out; omega, by have := HB3.out.size; have := HBB.out; omega⟩
  clear HB1 HB2 HV HS
  have FR := free_ex HL.out true wk1
  go_wp2_with fail
  refine FR.mono ?_
  rintro e w2' ⟨rfl, rfl⟩
  clear FR
  obtain ⟨X, hX⟩ : ∃ V, w2.alloc (.cells #[.int .u8 129, .int .u8 0] 5) = V := ⟨_, rfl⟩
  have hXB : Below w2.heap.size w2 X := by rw [← hX]; exact (Below.refl _ _).alloc (Nat.le_refl _) _
  have hXR : RowB X w2.heap.size [129, 0] := by rw [← hX]; exact alloc_new _ _ _ rfl
  have FD := feed_ex (HL.out.below hXB) (.slice (some ⟨w2.heap.size, 0, none⟩) 2 2) [129, 0] hXR.src (by intro y hy; simp at hy; rcases hy with rfl | rfl <;> decide) (by decide) _ _ wk2
  have HB4 : Sl (Below B W X) := ⟨HB3.out.trans (hXB.mono HS3.out.2)⟩
  have HS4 : Sl ((∀ j, S j → B ≤ j) ∧ B ≤ X.heap.size) := ⟨HS3.out.1, Nat.le_trans HS3.out.2 hXB.size⟩
  clear hXB hXR HB3 HS3 HL
  go_wp2_with fail
  (try rw [hX])
  refine FD.mono ?_
  rintro e w3 ⟨S3, rv, rfl, HO3, HL3, HG3, -⟩
  clear FD hX
  obtain ⟨fa, fc, rfl⟩ : ∃ a c, rv = .slice a 0 c := by obtain ⟨a, c, e⟩ := HO3.out.slice; exact ⟨a, c, e⟩
  have HB5 : Sl (Below B W w3) := ⟨HG3.out.up HB4.out HS4.out.1 HS4.out.2⟩
  have HS5 : Sl ((∀ j, S3 j → B ≤ j) ∧ B ≤ w3.heap.size) := ⟨HG3.out.ge HS4.out.1 HS4.out.2, Nat.le_trans HS4.out.2 HG3.out.kept.size⟩
  clear HB4 HS4 HG3 HO3
  have TK := take_ex HL3.out 100 [136, 2, 3, 234] wk3 4 rfl lb rfl
  go_wp2_with fail
  refine TK.mono ?_
  rintro e w4 ⟨S4, rfl, HR4, HL4, HG4⟩
  clear TK HL3
  have HB6 : Sl (Below B W w4) := ⟨HG4.out.up HB5.out HS5.out.1 HS5.out.2⟩
  have HS6 : Sl ((∀ j, S4 j → B ≤ j) ∧ B ≤ w4.heap.size) := ⟨HG4.out.ge HS5.out.1 HS5.out.2, Nat.le_trans HS5.out.2 HG4.out.kept.size⟩
  clear HB5 HS5 HG4
  have CV := HR4.out.str (k := 4) rfl
  rw [wk13] at CV
  have C1 := wrong_ex HL4.out 100 wk4
  go_wp2_with fail
  refine C1.mono ?_
  rintro e w5 ⟨rfl, rfl⟩
  clear C1 CV HR4
  have C1 := sent_ex HL4.out true wk5
  go_wp2_with fail
  refine C1.mono ?_
  rintro e w5 ⟨rfl, rfl⟩
  clear C1
  have C1 := got_ex HL4.out false wk6
  go_wp2_with fail
  refine C1.mono ?_
  rintro e w5 ⟨rfl, rfl⟩
  clear C1
  have C1 := quiet_ex HL4.out true wk7
  go_wp2_with fail
  refine C1.mono ?_
  rintro e w5 ⟨rfl, rfl⟩
  clear C1
  have C1 := kept_ex HL4.out 0 wk8 (by decide)
  go_wp2_with fail
  refine C1.mono ?_
  rintro e w5 ⟨rfl, HB7⟩
  clear C1
  have HL5 := Sl.mk (HL4.out.below HB7.out)
  have HB8 : Sl (Below B W w5) := ⟨HB6.out.trans (HB7.out.mono HS6.out.2)⟩
  have HS8 : Sl ((∀ j, S4 j → B ≤ j) ∧ B ≤ w5.heap.size) := ⟨HS6.out.1, Nat.le_trans HS6.out.2 HB7.out.size⟩
  clear HL4 HB6 HS6 HB7
  have C1 := send_ex HL5.out 1 0 { data := #[] } lb false (wk9 _ _)
  go_wp2_with fail
  refine C1.mono ?_
  rintro e w6 ⟨S6, rfl, HL6, HG6⟩
  clear C1 HL5
  have HB9 : Sl (Below B W w6) := ⟨HG6.out.up HB8.out HS8.out.1 HS8.out.2⟩
  have HS9 : Sl ((∀ j, S6 j → B ≤ j) ∧ B ≤ w6.heap.size) := ⟨HG6.out.ge HS8.out.1 HS8.out.2, Nat.le_trans HS8.out.2 HG6.out.kept.size⟩
  clear HB8 HS8 HG6
  have C1 := ping_ex HL6.out { data := #[] } (by decide) (by decide) lb false (wk10 _)
  go_wp2_with fail
  refine C1.mono ?_
  rintro e w7 ⟨S7, rfl, HL7, HG7⟩
  clear C1 HL6
  have HB10 : Sl (Below B W w7) := ⟨HG7.out.up HB9.out HS9.out.1 HS9.out.2⟩
  have HS10 : Sl ((∀ j, S7 j → B ≤ j) ∧ B ≤ w7.heap.size) := ⟨HG7.out.ge HS9.out.1 HS9.out.2, Nat.le_trans HS9.out.2 HG7.out.kept.size⟩
  clear HB9 HS9 HG7
  have C1 := close_ex HL7.out 1000 { data := #[] } lb false (wk11 _ _)
  go_wp2_with fail
  refine C1.mono ?_
  rintro e w8 ⟨S8, rfl, HL8, HG8⟩
  clear C1 HL7
  have HB11 : Sl (Below B W w8) := ⟨HG8.out.up HB10.out HS10.out.1 HS10.out.2⟩
  have HS11 : Sl ((∀ j, S8 j → B ≤ j) ∧ B ≤ w8.heap.size) := ⟨HG8.out.ge HS10.out.1 HS10.out.2, Nat.le_trans HS10.out.2 HG8.out.kept.size⟩
  clear HB10 HS10 HG8
  have C1 := peek_ex HL8.out 9 [] wk12 0 rfl
  go_wp2_with fail
  refine C1.mono ?_
  rintro e w9 ⟨rfl, -, HB12⟩
  clear C1 HL8
  go_wp2
  go_ret
  exact ⟨rfl, ⟨by rw [HBB.out]; exact HB11.out.trans (HB12.out.mono HS11.out.2)⟩⟩
end Go.Proofs.YtlahonjmfecikaaGreatDoor.Leg
set_option maxRecDepth 100000
set_option maxRecDepth 100000
namespace Go.Proofs
open Go.Shelf
def Tryz.laysM144_ren : Go.Shelf.Ren := ⟨fun | 144 => 129 | 143 => 153 | 219 => 167 | 217 => 168 | 225 => 174 | 224 => 175 | 267 => 176 | 266 => 177 | 314 => 179 | n => n, fun | 9 => 9 | 4 => 4 | 3 => 3 | 5 => 5 | 46 => 150 | 146 => 222 | 51 => 26 | n => n, fun | 1 => 2 | n => n⟩
theorem Tryz.laysM144 : Go.Proofs.LaysM.n144 Tryz.prog Tryz.laysM144_ren := {
  mixed := by kernel_rfl
  f143 := Tryz.func153.trans (congrArg some (by kernel_rfl))
  f144 := Tryz.func129.trans (congrArg some (by kernel_rfl))
  f217 := Tryz.func168.trans (congrArg some (by kernel_rfl))
  f219 := Tryz.func167.trans (congrArg some (by kernel_rfl))
  f224 := Tryz.func175.trans (congrArg some (by kernel_rfl))
  f225 := Tryz.func174.trans (congrArg some (by kernel_rfl))
  f266 := Tryz.func177.trans (congrArg some (by kernel_rfl))
  f267 := Tryz.func176.trans (congrArg some (by kernel_rfl))
  f314 := Tryz.func179.trans (congrArg some (by kernel_rfl))
  t3 := Tryz.underlying3
  a3 := Tryz.isAgg3
  z3 := Tryz.sizeOf3
  v3 := Tryz.zeroValue3
  t4 := Tryz.underlying4
  a4 := Tryz.isAgg4
  z4 := Tryz.sizeOf4
  v4 := Tryz.zeroValue4
  t5 := Tryz.underlying5
  a5 := Tryz.isAgg5
  z5 := Tryz.sizeOf5
  v5 := Tryz.zeroValue5
  t9 := Tryz.underlying9
  a9 := Tryz.isAgg9
  z9 := Tryz.sizeOf9
  v9 := Tryz.zeroValue9
  t46 := Tryz.underlying150
  a46 := Tryz.isAgg150
  z46 := Tryz.sizeOf150
  v46 := Tryz.zeroValue150
  t51 := Tryz.underlying26
  a51 := Tryz.isAgg26
  z51 := Tryz.sizeOf26
  v51 := Tryz.zeroValue26
  t146 := Tryz.underlying222
  a146 := Tryz.isAgg222
  z146 := Tryz.sizeOf222
  v146 := Tryz.zeroValue222
  g1 := by kernel_rfl
  i3 := by kernel_rfl
  i4 := by kernel_rfl
  i5 := by kernel_rfl
  i9 := by kernel_rfl
  i46 := by kernel_rfl
  i51 := by kernel_rfl
  i146 := by kernel_rfl
  m1 := by kernel_rfl
  s1_3 := fun w h => Go.Proofs.cell_of_shapedOpen_int (zero := #[.int .i64 0]) (t := 3) h (of_decide_eq_true (by kernel_rfl)) (by kernel_rfl) rfl (by kernel_rfl) (by kernel_rfl) Tryz.underlying3 }
end Go.Proofs
set_option maxRecDepth 100000
namespace Go.Proofs.YtlahonjmfecikaaGreatDoor.LaidM
open Go.ChangeShapes Go.WideShapes Go.ChangeAt Go.RowKit Mas
def rowData (r : Row) : DataW Unit := .agg [.lit (.int .u8 (r.first : Int)), .lit (.int .i64 (r.behind : Int)), .lit (.int .u64 (r.least : Int)), .lit (.int .u64 (r.most : Int))]
theorem row_cells {enc : TypeId × Value → Unit} {w : World} {base : Nat} {sp : Nat → Bool} {held : Bool} {fuel : Nat} {cs : List Value} {r : Row} {p : List MemPlace}
    (h : DataW.trod enc Tryz.prog w base sp held fuel 214 cs = some (rowData r, p)) : cs = r.cells := by
  obtain ⟨xs, n, _, hx, hl, hlen, hf⟩ := DataW.trod_struct Tryz.underlying214 h
  have cw : Tryz.prog.cellsOf 214 = 4 := by kernel_rfl
  have cu : Tryz.prog.cellsOf 162 = 1 := by kernel_rfl
  have c3 : Tryz.prog.cellsOf 3 = 1 := by kernel_rfl
  have c5 : Tryz.prog.cellsOf 5 = 1 := by kernel_rfl
  rw [cw] at hl
  match xs, hlen with
  | [y0, y1, y2, y3], _ =>
    have h0 := hf 0 _ rfl
    have h1 := hf 1 _ rfl
    have h2 := hf 2 _ rfl
    have h3 := hf 3 _ rfl
    simp only [List.getElem?_cons_zero, List.getElem?_cons_succ] at h0 h1 h2 h3
    have hx1 := congrArg Prod.fst hx
    simp only [rowData, List.map_cons, List.map_nil, DataW.agg.injEq, List.cons.injEq, and_true] at hx1
    obtain ⟨e0, e1, e2, e3⟩ := hx1
    obtain ⟨d0, p0⟩ := y0
    obtain ⟨d1, p1⟩ := y1
    obtain ⟨d2, p2⟩ := y2
    obtain ⟨d3, p3⟩ := y3
    simp only at e0 e1 e2 e3
    subst e0 e1 e2 e3
    obtain ⟨z0, g0, hz0, _⟩ := DataW.trod_int Tryz.underlying5 h0
    obtain ⟨z1, g1, hz1, _⟩ := DataW.trod_int Tryz.underlying3 h1
    obtain ⟨z2, g2, hz2, _⟩ := DataW.trod_int Tryz.underlying162 h2
    obtain ⟨z3, g3, hz3, _⟩ := DataW.trod_int Tryz.underlying162 h3
    match cs, hl with
    | [a0, a1, a2, a3], _ =>
      simp [c3, c5, cu] at g0 g1 g2 g3 hz0 hz1 hz2 hz3
      subst g0 g1 g2 g3
      rw [← hz0.1, ← hz1.1, ← hz2.1, ← hz3.1]
      rfl
theorem table_cells {enc : TypeId × Value → Unit} {w : World} {base : Nat} {sp : Nat → Bool} {held : Bool} {fuel : Nat} {cs : List Value} {p : List MemPlace}
    (h : DataW.trod enc Tryz.prog w base sp held fuel 215 cs = some (.agg [rowData row0, rowData row1], p)) : cs = table := by
  obtain ⟨xs, n, _, hx, hl, hlen, hf⟩ := DataW.trod_array Tryz.underlying215 h
  have ct : Tryz.prog.cellsOf 215 = 8 := by kernel_rfl
  have cw : Tryz.prog.cellsOf 214 = 4 := by kernel_rfl
  rw [ct] at hl
  rw [cw] at hf
  have hx1 := congrArg Prod.fst hx
  simp only [DataW.agg.injEq] at hx1
  match xs, hlen with
  | [y0, y1], _ =>
    obtain ⟨d0, p0⟩ := y0
    obtain ⟨d1, p1⟩ := y1
    simp only [List.map_cons, List.map_nil, List.cons.injEq, and_true] at hx1
    obtain ⟨rfl, rfl⟩ := hx1
    have k0 := row_cells (hf 0 (by decide))
    have k1 := row_cells (hf 1 (by decide))
    simp only [Nat.zero_mul, Nat.one_mul, List.drop_zero] at k0 k1
    rw [← List.take_append_drop 4 cs, k0, ← List.take_of_length_le (l := cs.drop 4) (i := 4) (by rw [List.length_drop, hl]; decide), k1]
    rfl
end Go.Proofs.YtlahonjmfecikaaGreatDoor.LaidM
namespace Go.Proofs.YtlahonjmfecikaaGreatDoor.LaidU
open Go.ChangeShapes Go.WideShapes Go.ChangeAt Go.RowKit UtfPlain Utf
def rowData (r : Row) : DataW Unit := .agg [Lib.tabData .u8 [(r.lo : Int), (r.hi : Int)], .lit (.int .i64 (r.more : Int)), Lib.tabData .u8 [(r.slo : Int), (r.shi : Int)]]
theorem row_cells {enc : TypeId × Value → Unit} {w : World} {base : Nat} {sp : Nat → Bool} {held : Bool} {fuel : Nat} {cs : List Value} {r : Row} {p : List MemPlace}
    (h : DataW.trod enc Tryz.prog w base sp held fuel 220 cs = some (rowData r, p)) : cs = r.cells := by
  obtain ⟨xs, n, _, hx, hl, hlen, hf⟩ := DataW.trod_struct Tryz.underlying220 h
  have c51 : Tryz.prog.cellsOf 220 = 5 := by kernel_rfl
  have c43 : Tryz.prog.cellsOf 208 = 2 := by kernel_rfl
  have c3 : Tryz.prog.cellsOf 3 = 1 := by kernel_rfl
  have c5 : Tryz.prog.cellsOf 5 = 1 := by kernel_rfl
  rw [c51] at hl
  match xs, hlen with
  | [y0, y1, y2], _ =>
    have h0 := hf 0 _ rfl
    have h1 := hf 1 _ rfl
    have h2 := hf 2 _ rfl
    simp only [List.getElem?_cons_zero, List.getElem?_cons_succ] at h0 h1 h2
    have hx1 := congrArg Prod.fst hx
    simp only [rowData, List.map_cons, List.map_nil, DataW.agg.injEq, List.cons.injEq, and_true] at hx1
    obtain ⟨e0, e1, e2⟩ := hx1
    obtain ⟨d0, p0⟩ := y0
    obtain ⟨d1, p1⟩ := y1
    obtain ⟨d2, p2⟩ := y2
    simp only at e0 e1 e2
    subst e0 e1 e2
    have g0 := Lib.cells_of_tab Tryz.underlying208 Tryz.underlying5 c5 c43 h0
    have g2 := Lib.cells_of_tab Tryz.underlying208 Tryz.underlying5 c5 c43 h2
    obtain ⟨z, g1, hz, _⟩ := DataW.trod_int Tryz.underlying3 h1
    match cs, hl with
    | [a0, a1, a2, a3, a4], _ =>
      simp [c3] at g0 g1 g2 hz
      obtain ⟨rfl, rfl⟩ := g0
      obtain ⟨rfl, rfl⟩ := g2
      subst g1
      rw [← hz.1]
      rfl
theorem table_cells {enc : TypeId × Value → Unit} {w : World} {base : Nat} {sp : Nat → Bool} {held : Bool} {fuel : Nat} {cs : List Value} {p : List MemPlace}
    (h : DataW.trod enc Tryz.prog w base sp held fuel 221 cs = some (.agg (rows.map rowData), p)) : cs = table := by
  obtain ⟨xs, n, _, hx, hl, hlen, hf⟩ := DataW.trod_array Tryz.underlying221 h
  have c52 : Tryz.prog.cellsOf 221 = 45 := by kernel_rfl
  have c51 : Tryz.prog.cellsOf 220 = 5 := by kernel_rfl
  rw [c52] at hl
  rw [c51] at hf
  have hx1 := congrArg Prod.fst hx
  simp only [DataW.agg.injEq] at hx1
  have key : ∀ i, i < 9 → (cs.drop (i * 5)).take 5 = (row i).cells := by
    intro i hi
    have h1 := hf i hi
    have h2 : (xs.map (·.1))[i]? = some (rowData (row i)) := by
      rw [← hx1, List.getElem?_map]
      have : rows[i]? = some (row i) := by
        unfold row; rw [List.getD]; have hr : i < rows.length := hi
        rw [List.getElem?_eq_getElem hr]; rfl
      rw [this]; rfl
    rw [List.getElem?_map, Option.map_eq_some_iff] at h2
    obtain ⟨⟨d, q⟩, h3, h4⟩ := h2
    rw [h3] at h1
    simp only at h4
    subst h4
    exact row_cells h1
  have k0 := key 0 (by decide)
  have k1 := key 1 (by decide)
  have k2 := key 2 (by decide)
  have k3 := key 3 (by decide)
  have k4 := key 4 (by decide)
  have k5 := key 5 (by decide)
  have k6 := key 6 (by decide)
  have k7 := key 7 (by decide)
  have k8 := key 8 (by decide)
  have e : cs = cs.take 5 ++ ((cs.drop 5).take 5 ++ ((cs.drop 10).take 5 ++ ((cs.drop 15).take 5 ++ ((cs.drop 20).take 5 ++ ((cs.drop 25).take 5 ++ ((cs.drop 30).take 5 ++ ((cs.drop 35).take 5 ++ (cs.drop 40).take 5))))))) := by
    have st : ∀ k, cs.drop k = (cs.drop k).take 5 ++ cs.drop (k + 5) := fun k => by
      conv => lhs; rw [← List.take_append_drop 5 (cs.drop k)]
      rw [List.drop_drop]
    have l40 : (cs.drop 40).take 5 = cs.drop 40 := List.take_of_length_le (by rw [List.length_drop, hl]; decide)
    rw [l40, ← st 35, ← st 30, ← st 25, ← st 20, ← st 15, ← st 10, ← st 5, List.take_append_drop]
  simp only [Nat.zero_mul, Nat.one_mul, List.drop_zero, Nat.reduceMul] at k0 k1 k2 k3 k4 k5 k6 k7 k8
  rw [e, k0, k1, k2, k3, k4, k5, k6, k7, k8]
  rfl
end Go.Proofs.YtlahonjmfecikaaGreatDoor.LaidU
namespace Go.Proofs.YtlahonjmfecikaaGreatDoor
open Go.ChangeShapes Go.WideShapes Go.ChangeAt Go.RowKit
theorem ownKnobs : ownKnob Tryz.prog.godebug = none := by kernel_rfl
def laidList : List (String × DataW Unit) := Rows.legReadsRow.laid
theorem lay_met (os : Os) (args : Array Value) : laidMetH Tryz.prog laidList ((World.laidAll Tryz.prog os laidList).forCall (fun _ _ => 0) ⟨#[], args, []⟩).memory := by
  rw [MakeChecks.laidMetH_plain _ _ _ (by kernel_rfl)]
  exact laidMet_laidAll _ (by kernel_rfl) (by kernel_rfl)
theorem lay_shaped (os : Os) (args : Array Value) : ((World.laidAll Tryz.prog os laidList).forCall (fun _ _ => 0) ⟨#[], args, []⟩).Shaped Tryz.prog :=
  World.shaped_of_ZipB (by kernel_rfl) (by kernel_rfl)
def spanData : DataW Unit := .agg [Lib.tabData .u8 [97, 122], Lib.tabData .u8 [65, 90], Lib.tabData .u8 [48, 57]]
theorem span_cells {enc : TypeId × Value → Unit} {w : World} {base : Nat} {sp : Nat → Bool} {held : Bool} {fuel : Nat} {cs : List Value} {p : List MemPlace}
    (h : DataW.trod enc Tryz.prog w base sp held fuel 200 cs = some (spanData, p)) : cs = spans := by
  obtain ⟨xs, n, _, hx, hl, hlen, hf⟩ := DataW.trod_array Tryz.underlying200 h
  have c200 : Tryz.prog.cellsOf 200 = 6 := by kernel_rfl
  have c52 : Tryz.prog.cellsOf 199 = 2 := by kernel_rfl
  have c5 : Tryz.prog.cellsOf 5 = 1 := by kernel_rfl
  rw [c200] at hl
  rw [c52] at hf
  have hx1 := congrArg Prod.fst hx
  simp only [spanData, DataW.agg.injEq] at hx1
  match xs, hlen with
  | [y0, y1, y2], _ =>
    simp only [List.map_cons, List.map_nil, List.cons.injEq, and_true] at hx1
    obtain ⟨e0, e1, e2⟩ := hx1
    have h0 := hf 0 (by decide)
    have h1 := hf 1 (by decide)
    have h2 := hf 2 (by decide)
    simp only [List.getElem?_cons_zero, List.getElem?_cons_succ] at h0 h1 h2
    obtain ⟨d0, p0⟩ := y0
    obtain ⟨d1, p1⟩ := y1
    obtain ⟨d2, p2⟩ := y2
    simp only at e0 e1 e2
    subst e0 e1 e2
    have g0 := Lib.cells_of_tab Tryz.underlying199 Tryz.underlying5 c5 c52 h0
    have g1 := Lib.cells_of_tab Tryz.underlying199 Tryz.underlying5 c5 c52 h1
    have g2 := Lib.cells_of_tab Tryz.underlying199 Tryz.underlying5 c5 c52 h2
    match cs, hl with
    | [a0, a1, a2, a3, a4, a5], _ =>
      simp at g0 g1 g2
      obtain ⟨rfl, rfl⟩ := g0
      obtain ⟨rfl, rfl⟩ := g1
      obtain ⟨rfl, rfl⟩ := g2
      rfl
theorem globs_of_laid {W : World} (h : laidMetH Tryz.prog laidList W) (hsh : W.ShapedOpen Tryz.prog) : Leg.G3 W := by
  rw [MakeChecks.laidMetH_plain _ _ _ (by kernel_rfl)] at h
  have h2 := laidMet.tail h
  have h3 := laidMet.tail h2
  refine ⟨?_, ?_, ?_⟩
  · obtain ⟨ps, ⟨g', t', cs, fuel, p, q, hg', ht', hvar, hd, _⟩, _⟩ := h3
    obtain rfl := Option.some.inj ((show Tryz.prog.globalNamed "pendentive/head.tokenSpans" = some 0 by kernel_rfl).symm.trans hg')
    obtain rfl := Option.some.inj ((show (Tryz.prog.globals[0]?).map (·.type) = some 200 by kernel_rfl).symm.trans ht')
    have hc := span_cells hd
    refine ⟨fun j v hv => ?_, Tryz.laysM144.s1_3 W hsh⟩
    rw [Nat.zero_add, World.var?_cell hg' hvar j, ← hv, ← hc]
    simp
  · obtain ⟨ps, ⟨g', t', cs, fuel, p, q, hg', ht', hvar, hd, _, _⟩, _⟩ := h
    obtain rfl := Option.some.inj ((show Tryz.prog.globalNamed "pendentive/mask.wides" = some 1 by kernel_rfl).symm.trans hg')
    obtain rfl := Option.some.inj ((show (Tryz.prog.globals[1]?).map (·.type) = some 215 by kernel_rfl).symm.trans ht')
    have hc := LaidM.table_cells hd
    refine ⟨fun j v hv => ?_⟩
    rw [Nat.zero_add, World.var?_cell hg' hvar j, ← hv, ← hc]
    simp
  · obtain ⟨ps, ⟨g', t', cs, fuel, p, q, hg', ht', hvar, hd, _, _⟩, _⟩ := h2
    obtain rfl := Option.some.inj ((show Tryz.prog.globalNamed "pendentive/utf.starts" = some 3 by kernel_rfl).symm.trans hg')
    obtain rfl := Option.some.inj ((show (Tryz.prog.globals[3]?).map (·.type) = some 221 by kernel_rfl).symm.trans ht')
    have hc := LaidU.table_cells hd
    refine ⟨fun j v hv => ?_⟩
    rw [Nat.zero_add, World.var?_cell hg' hvar j, ← hv, ← hc]
    simp
theorem handed_leg {H : Type} {enc : TypeId × Value → H} {os : Os} {f : FuncId} {fn : Func} {s : ChangeSpec}
    (started : os.Started) (noInit : Tryz.prog.inits.idxOf? f = none) (hfn : Tryz.prog.funcs[f]? = some fn)
    (witness : ∃ (w : World) (tape : Tape) (i : Input), w.os = os ∧ (w.forCall tape i).Shaped Tryz.prog ∧ i.vars = [] ∧ Input.okWide Tryz.prog (w.forCall tape i) .any w.heap.size f i ∧
      ((s.pre enc Tryz.prog fn [] false (w.forCall tape i).memory i.args ∧ laidMetH Tryz.prog laidList (w.forCall tape i).memory) ∧ sizedMet enc Tryz.prog fn (OpenSpec.ofChange s) false (w.forCall tape i).memory i.args) ∧ ({} : Assume).holds Tryz.prog (lone (Frame.enter Tryz.prog f i.args .normal) [] (w.forCall tape i)))
    (contract : ∀ (W : World) (base : Nat) (args : Array Value) (ds gs : List (DataW H)) (before : List MemPlace),
      (∀ (j : Nat) t v, fn.params[j]? = some t → args[j]? = some v → Value.okWide Tryz.prog W .any base t v) →
      DataW.Whole enc Tryz.prog fn.params.toList s.vars false W args.toList ds gs before → Leg.G3 W →
      Calls Tryz.prog f args W fun e W' => ∃ v, e = .returned v ∧ s.post enc Tryz.prog fn false true false false W args v W') :
    ReturnsInHanded {} Tryz.checked os f .any (fun w args => (s.pre enc Tryz.prog fn [] false w args ∧ laidMetH Tryz.prog laidList w) ∧ sizedMet enc Tryz.prog fn (OpenSpec.ofChange s) false w args) (s.post enc Tryz.prog fn false true false false) := by
  refine returnsInHanded_of_calls (C := Tryz.checked) ownKnobs started noInit witness ?_
  intro w tape i _ hsh _ hok hpre _
  obtain ⟨_, _, _, fn', hfn', _, _, _, _, hval⟩ := hok
  have e : fn' = fn := Option.some.inj (hfn'.symm.trans hfn)
  subst e
  obtain ⟨⟨⟨ds, gs, before, hw, _⟩, hx⟩, _⟩ := hpre
  have hw' := DataW.Whole.of_heap (w' := w.forCall tape i) (by rfl) hw
  have hx' : laidMetH Tryz.prog laidList (w.forCall tape i) := hx.of_heap (by rfl)
  refine (contract (w.forCall tape i) w.heap.size i.args ds gs before hval hw' (globs_of_laid hx' hsh)).mono fun e W' ⟨v, he, hp⟩ => ?_
  subst he
  exact ChangeSpec.post_blind hp
end Go.Proofs.YtlahonjmfecikaaGreatDoor
set_option maxRecDepth 100000
namespace Go.Proofs.YtlahonjmfecikaaGreatDoor.Leg
open Go.RowKit Go.WideShapes Go.ChangeShapes Evt
theorem agg_of_cells8 {v : Value} {l : List Value} (h : v.cells.toList = l) (hl : l.length ≠ 1) : v = .agg l.toArray := by
  subst h
  cases v with
  | agg cs => simp [Value.cells]
  | _ => exact absurd rfl hl
theorem sizes_of_trod {H : Type} {enc : TypeId × Value → H} {W : World} {v : Value} {d : DataW H} {p : List MemPlace} (h : DataW.Trod enc Tryz.prog W 0 (fun _ => true) true 45 v d p) :
    ∃ a b o : Nat, v = .agg #[.int .u8 (a : Int), .int .u8 (b : Int), .int .u8 (o : Int)] ∧ a < 256 ∧ b < 256 ∧ o < 256 := by
  obtain ⟨fuel, hf⟩ := h
  obtain ⟨xs, n, _, hx, hl, hlen, hf⟩ := DataW.trod_array Tryz.underlying45 hf
  have c22 : Tryz.prog.cellsOf 45 = 3 := by kernel_rfl
  have c5 : Tryz.prog.cellsOf 5 = 1 := by kernel_rfl
  rw [c22] at hl
  rw [c5] at hf
  match hcs : v.cells.toList, hl with
  | [a0, a1, a2], _ =>
    have e := agg_of_cells8 hcs (by simp)
    match xs, hlen with
    | [y0, y1, y2], _ =>
      rw [hcs] at hf
      obtain ⟨z0, g0, _, w0⟩ := DataW.trod_int Tryz.underlying5 (hf 0 (by decide))
      obtain ⟨z1, g1, _, w1⟩ := DataW.trod_int Tryz.underlying5 (hf 1 (by decide))
      obtain ⟨z2, g2, _, w2⟩ := DataW.trod_int Tryz.underlying5 (hf 2 (by decide))
      simp at g0 g1 g2
      subst g0 g1 g2
      have b0 := bounds_u8 w0
      have b1 := bounds_u8 w1
      have b2 := bounds_u8 w2
      obtain ⟨n0, rfl⟩ := Int.eq_ofNat_of_zero_le b0.1
      obtain ⟨n1, rfl⟩ := Int.eq_ofNat_of_zero_le b1.1
      obtain ⟨n2, rfl⟩ := Int.eq_ofNat_of_zero_le b2.1
      exact ⟨n0, n1, n2, e, by omega, by omega, by omega⟩
end Go.Proofs.YtlahonjmfecikaaGreatDoor.Leg
namespace Go.Proofs.YtlahonjmfecikaaGreatDoor
open Go.RowKit Go.WideShapes Go.ChangeShapes
theorem bytesAt_of_trod {H : Type} {enc : TypeId × Value → H} {W : World} {ad : Option Addr} {len cap : Nat} {d : DataW H} {p : List MemPlace} (h : DataW.Trod enc Tryz.prog W 0 (fun _ => true) true 49 (.slice ad len cap) d p) :
    ∃ l, SrcAt W (.slice ad len cap) l ∧ Small 256 l ∧ l.length ≤ maxLen := by
  obtain ⟨fuel, hf⟩ := h
  rcases open_ints Tryz.underlying49 Tryz.underlying5 (by kernel_rfl) hf with ⟨hcs, _⟩ | ⟨a, len', cap', ss, hcs, _, hl, hm, hz, _, hcell, hws⟩
  · simp [Value.cells] at hcs
    obtain ⟨rfl, rfl, rfl⟩ := hcs
    exact ⟨[], ⟨none, 0, 0, 0, rfl, by simp, fun h => by simp at h, fun i hi => by simp at hi⟩, fun x hx => by simp at hx, by simp⟩
  · simp [Value.cells] at hcs
    obtain ⟨rfl, rfl, rfl⟩ := hcs
    obtain ⟨bs, hbs⟩ : ∃ bs : List Nat, bs = (ss.take len).map Int.toNat := ⟨_, rfl⟩
    have hlen : bs.length = len := by simp at hz; rw [hbs]; simp; omega
    have hpos : ∀ n ∈ ss, 0 ≤ n ∧ n < 256 := fun n hn => by
      have := bounds_u8 (hws n hn)
      exact ⟨this.1, by have := this.2; omega⟩
    have hg : ∀ i, i < len → ((bs.getD i 0 : Nat) : Int) = ss.getD i 0 := fun i hi => by
      have hi2 : i < ss.length := by simp at hz; omega
      have h1 := (hpos _ (List.getElem_mem hi2)).1
      rw [hbs]
      simp [List.getD, hi, hi2]
      omega
    refine ⟨bs, ⟨some a, cap, a.block, a.off, by rw [hlen], by rw [hlen]; omega, fun hp => ?_, fun i hi => ?_⟩, fun x hx => ?_, by rw [hlen]; omega⟩
    · rw [hlen] at hp
      have hc := hcell 0 (by simp at hz; omega)
      obtain ⟨b, off, spot⟩ := a
      have hspot : spot = none := by simpa [Addr.add] using World.cell?_spot hc
      rw [hspot]
    · rw [hlen] at hi
      have hc := hcell i (by simp at hz; omega)
      obtain ⟨b, off, spot⟩ := a
      have hspot : spot = none := by simpa [Addr.add] using World.cell?_spot (hcell 0 (by simp at hz; omega))
      subst hspot
      rw [Addr.add_mid] at hc
      rw [hg i hi, hc]
    · rw [hbs, List.mem_map] at hx
      obtain ⟨n, hn, rfl⟩ := hx
      have := hpos n (List.mem_of_mem_take hn)
      omega
end Go.Proofs.YtlahonjmfecikaaGreatDoor
