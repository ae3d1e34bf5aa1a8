/- length of package head: where a head's end is, among the first 2048 bytes. -/
import Derived.Test.YtcohecghibndhaaDoorD
namespace Go.Proofs.YtcohecghibndhaaDoor
open Go.RowKit HeadPlain

theorem bytesOf_ints (l : List Nat) (h : Small 256 l) : toN (Lib.bytesOf (l.map fun (n : Nat) => (n : Int))) = l := by
  have := bytes_strOf l h
  unfold strOf at this
  rw [bytes_toN, Lib.strOfNums_toBytes] at this
  exact this
/-- The end's place, or none, and the error. -/
def lenR (s : List Nat) : Int × Nat := match fnd (s.take 2048) with
  | some n => ((n + 4 : Nat), 0)
  | none => if s.length < 2048 then (0, 50) else (0, 51)
/-- The bytes bs lie behind the slice v, which is not nil. -/
def SrcS (w : World) (v : Value) (bs : List Nat) : Prop :=
  ∃ (cap sb so : Nat), v = .slice (some ⟨sb, so, none⟩) bs.length cap ∧ bs.length ≤ cap ∧ ∀ i, i < bs.length → w.cell? ⟨sb, so + i, none⟩ = some (.int .u8 ((bs.getD i 0 : Nat) : Int))
theorem SrcAt.srcS {w : World} {g o n c : Nat} {bs : List Nat} (h : SrcAt w (.slice (some ⟨g, o, none⟩) n c) bs) : SrcS w (.slice (some ⟨g, o, none⟩) n c) bs := by
  obtain ⟨a, cap, sb, so, h0, h1, h3, h5⟩ := h
  injection h0 with ha hn hc
  subst hc
  refine ⟨c, g, o, by rw [hn], h1, fun i hi => ?_⟩
  have := h3 (by omega)
  rw [← ha] at this
  injection this with this
  injection this with e1 e2
  rw [e1, e2]; exact h5 i hi
theorem SrcS.below {w w' : World} {v : Value} {bs : List Nat} (h : SrcS w v bs) (hb : Below w.heap.size w w') : SrcS w' v bs := by
  obtain ⟨cap, sb, so, h0, h1, h5⟩ := h
  exact ⟨cap, sb, so, h0, h1, fun i hi => by
    have := h5 i hi
    rw [hb.cell (p := ⟨sb, so + i, none⟩) (block_lt_of_cell this)]; exact this⟩
theorem index_end (s : List Nat) (hs : Small 256 s) : Lib.index (Lib.bytesOf ((s.take 2048).map fun (n : Nat) => (n : Int))) (Lib.bytesOf [13, 10, 13, 10]) = pos (fnd (s.take 2048)) := by
  have e : Lib.bytesOf [13, 10, 13, 10] = [13, 10, 13, 10] := rfl
  rw [e, index4, bytesOf_ints _ (hs.take 2048)]

set_option maxHeartbeats 1000000 in
theorem length_any (s : List Nat) (v : Value) (W : World) (hg : Globs W) (hv : SrcS W v s) (hs : Small 256 s) (hL : s.length ≤ 100000) :
    Calls Tryd.prog 35 #[v] W fun e w' => e = .returned (.tuple #[.int .i64 (lenR s).1, .int .i64 ((lenR s).2 : Nat)]) ∧ Sl (Below W.heap.size W w') := by
  obtain ⟨cap, sb, so, rfl, hcap, hcell⟩ := hv
  have kc := fun (w : World) (C : Array Value) (n c : Nat) => Lib.run_convert_bytes_const (P := Tryd.prog) w 28 5 C n c Tryd.underlying28 Tryd.underlying5
  have HG := Sl.mk hg
  have HCE := Sl.mk hcell
  have HSM := Sl.mk hs
  have HIX := Sl.mk (index_end s hs)
  have HLR : Sl (lenR s = match fnd (s.take 2048) with | some n => (((n + 4 : Nat) : Int), 0) | none => if s.length < 2048 then (0, 50) else (0, 51)) := ⟨rfl⟩
  obtain ⟨r, hr⟩ : ∃ r, fnd (s.take 2048) = r := ⟨_, rfl⟩
  have HFN := Sl.mk hr
  rw [hr] at HIX HLR
  clear hg hcell hs hr
  obtain ⟨n, hn⟩ : ∃ n, s.length = n := ⟨_, rfl⟩
  have HN := Sl.mk hn
  rw [hn] at hcap hL HLR
  rw [hn]
  have HK : Sl ((min (n : Int) 2048).toNat = min 2048 n) := ⟨by omega⟩
  clear hn
  have hcon : ∀ (o : Obj) (_ : o = .cells #[.int .u8 13, .int .u8 10, .int .u8 13, .int .u8 10] 5 (4, 5)), Sl (Calls Tryd.prog 47 #[.slice (some ⟨sb, so, none⟩) (min (n : Int) 2048).toNat cap, .slice (some ⟨W.heap.size, 0, none⟩) 4 4] (W.alloc o) fun e w' => e = .returned (.int .i64 (pos r)) ∧ ∃ q, w' = (W.alloc o).drewN q) := fun o ho => ⟨by
    obtain ⟨m, hm⟩ := (HG.out.of ((Below.refl W.heap.size W).alloc (Nat.le_refl _) o)).m
    rw [← HIX.out]
    refine Tryd.bytes_Index_at ⟨sb, so, none⟩ ⟨W.heap.size, 0, none⟩ _ cap 4 4 ((s.take 2048).map fun (n : Nat) => (n : Int)) [13, 10, 13, 10] m _ (by rw [List.length_map, List.length_take, HN.out, HK.out]) rfl ?_ ?_ ?_ ?_ ?_ ?_ (by decide) hm
    · intro x hx
      obtain ⟨y, hy, rfl⟩ := List.mem_map.1 hx
      have := HSM.out y (List.mem_of_mem_take hy)
      omega
    · intro y hy
      simp at hy
      rcases hy with rfl | rfl | rfl | rfl <;> decide
    · intro i hi
      rw [HK.out] at hi
      have h1 := HCE.out i (by rw [HN.out]; omega)
      rw [Addr.add_mid]
      have hb : Below W.heap.size W (W.alloc o) := (Below.refl _ _).alloc (Nat.le_refl _) _
      rw [hb.cell (p := ⟨sb, so + i, none⟩) (block_lt_of_cell h1), h1]
      congr 1
      have hi2 : i < s.length := by rw [HN.out]; omega
      simp only [List.getD_eq_getElem?_getD, List.getElem?_map]
      rw [List.getElem?_take_of_lt (by omega), List.getElem?_eq_getElem hi2]
      rfl
    · intro i hi
      subst ho
      rw [Addr.add_mid, Nat.zero_add, World.cell?_alloc_mark]
      match i, hi with
      | 0, _ => rfl
      | 1, _ => rfl
      | 2, _ => rfl
      | 3, _ => rfl
    · rw [HK.out]; omega
    · rw [HK.out]; omega⟩
  go_enter Tryd.func35, Tryd.ntmps35
  go_wp2_with fail
  refine (hcon _ rfl).out.mono ?_
  rintro e w2 ⟨rfl, q, hq⟩
  have HB2 : Sl (Below W.heap.size W w2) := ⟨by rw [hq]; exact below_trans ((Below.refl _ _).alloc (Nat.le_refl _) _) (Still.below ⟨q, rfl⟩)⟩
  clear hq hcon
  cases r with
  | some k =>
    have hk : (pos (some k) : Int) = (k : Int) := rfl
    have HKK : Sl (k ≤ 2048) := ⟨by
      have := (fnd_length HFN.out).1
      rw [List.length_take] at this
      omega⟩
    have hkk := HKK.out
    rw [hk]
    go_wp2
    go_ret2
    exact ⟨by rw [HLR.out]; rfl, HB2⟩
  | none =>
    have hk : (pos none : Int) = -1 := rfl
    rw [hk]
    by_cases h1 : n < 2048
    · have h1' : (n : Int) < 2048 := by omega
      rw [if_pos h1] at HLR
      go_wp2
      go_ret2
      exact ⟨by rw [HLR.out]; rfl, HB2⟩
    · have h1' : ((n : Int) < 2048) = False := eq_false (by omega)
      rw [if_neg h1] at HLR
      go_wp2
      go_ret2
      exact ⟨by rw [HLR.out]; rfl, HB2⟩
end Go.Proofs.YtcohecghibndhaaDoor
