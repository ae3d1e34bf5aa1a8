/- The contracts of Get and Has of package base, and of the closures that they hand to read. Conditions: at most 100000 letters. -/
import Derived.Test.YtdcgddoginaioaaDoorE
namespace Go.Proofs.YtdcgddoginaioaaDoor
open Go.RowKit

/-- What Get's closure keeps: the bytes so far. -/
structure GetI (w0 : World) (C : Nat) (acc : List Nat) (W : World) : Prop where
  ex : ∃ v, W.heap[C]? = some (.cells #[v] 24 (0, 0)) ∧ W.ownsRow w0.heap.size 5 1 v acc.length (u8s acc)
  b : Below w0.heap.size w0 W
/-- What Has's closure keeps: how many bytes so far. -/
structure HasI (w0 : World) (C : Nat) (acc : List Nat) (W : World) : Prop where
  c : W.heap[C]? = some (.cells #[.int .i64 (acc.length : Int)] 3 (0, 0))
  b : Below w0.heap.size w0 W

set_option maxHeartbeats 400000 in
theorem has1 (w0 : World) (C : Nat) (acc : List Nat) (b : Nat) (W : World) (h : HasI w0 C acc W) (hl : acc.length ≤ 200000) :
    Calls Tryd.prog 22 #[.int .u8 (b : Int), .pointer (some ⟨C, 0, none⟩)] W fun e w' => e = .returned (.tuple #[]) ∧ w' = W.setCell ⟨C, 0, none⟩ (.int .i64 ((acc.length : Int) + 1)) := by
  have hc := cell_of_one h.c
  have hf := free_of_one h.c
  clear h
  go_enter Tryd.func22, Tryd.ntmps22
  go_wp2
  go_end0
  exact ⟨rfl, rfl⟩
theorem iter_setCell {W : World} {C : Nat} {x : Value} {t : TypeId} (v : Value) (hC : W.heap[C]? = some (.cells #[x] t (0, 0))) : ∀ (k : Nat) (s : ByteArray) (p : Nat), W.heap[k]? = some (.stringIter s p) → (W.setCell ⟨C, 0, none⟩ v).heap[k]? = some (.stringIter s p) := fun k s p h => by
  rw [heap_setCell_other _ _ _ _ (fun e => by simp only at e; rw [e, hC] at h; cases h)]; exact h
theorem hasTells (w0 : World) (C : Nat) (hC : w0.heap.size ≤ C) : Tells 22 C w0.heap.size (HasI w0 C) where
  call := fun acc b W h _ hl => (has1 w0 C acc b W h hl).mono fun _ w' ⟨he, hw⟩ => by
    subst hw
    refine ⟨he, ⟨?_, h.b.setCell hC _⟩, iter_setCell _ h.c⟩
    rw [one_setCell h.c]; simp
  alloc := fun acc W s p h => ⟨by rw [World.iter, Below.heap_alloc _ _ _ (lt_of_block h.c)]; exact h.c, h.b.alloc h.b.size _⟩
  iter := fun acc W k s p p' h hk hB => ⟨by rw [Lib.iterAt_other _ _ _ _ _ (fun e => by rw [← e, h.c] at hk; cases hk)]; exact h.c, Lib.below_iterAt h.b hB _ _⟩
  base := fun acc W h => h.b.size
  enter := fun args W => by kernel_rfl

set_option maxHeartbeats 400000 in
theorem get1 (w0 : World) (C : Nat) (hC : w0.heap.size ≤ C) (acc : List Nat) (b : Nat) (W : World) (h : GetI w0 C acc W) (hl : acc.length ≤ 200000) :
    Calls Tryd.prog 21 #[.int .u8 (b : Int), .pointer (some ⟨C, 0, none⟩)] W fun e w' => e = .returned (.tuple #[]) ∧ GetI w0 C (acc ++ [b]) w' ∧ ∀ (k : Nat) (s : ByteArray) (p : Nat), W.heap[k]? = some (.stringIter s p) → w'.heap[k]? = some (.stringIter s p) := by
  obtain ⟨i0, hi, hz0, hz1, hz2⟩ := info_parts info5
  obtain ⟨v, hc, ho⟩ := h.ex
  have HI := Sl.mk hi
  have HZ0 := Sl.mk hz0
  have HZ1 := Sl.mk hz1
  have HZ2 := Sl.mk hz2
  have HC := Sl.mk hc
  have HO := Sl.mk ho
  have HB := Sl.mk h.b
  have cc := cell_of_one hc
  clear h hi hz0 hz1 hz2 hc ho
  go_enter Tryd.func21, Tryd.ntmps21
  go_wp2_with (at_builtin; refine wpList_append_own _ rfl (.tmp 3) (.tmp 5) 24 rfl w0.heap.size 5 i0 (.int .u8 0) 1 1 Tryd.underlying24 HI.out HZ0.out HZ1.out HZ2.out rfl (by decide) _ acc.length _ rfl (HO.out.alloc _) ⟨W.heap.size, 0, none⟩ 1 1 [.int .u8 (b : Int)] rfl rfl ?c1 ?c2 ?c3 ?c4 ?c5 ?_)
  case c1 => intro j u hu; match j, hu with | 0, hu => simpa [Addr.add_mid] using hu
  case c2 => intro u hu; simp at hu; subst hu; rfl
  case c3 => unfold maxLen; omega
  case c4 => omega
  case c5 => rw [alloc_size]; have := HB.out.size; omega
  intro v' w1 hown' hgrow _
  have hne : v.ownBlock ≠ some C := fun e => by
    obtain ⟨_, h2⟩ := HO.out
    rcases h2 with ⟨rfl, _⟩ | ⟨g, cap, cur, rfl, hg, hh, _⟩
    · cases e
    · have e2 : g = C := by simpa [Value.ownBlock] using e
      rw [e2, HC.out] at hh; cases hh
  have hlt := lt_of_block HC.out
  have hc1 : w1.heap[C]? = some (.cells #[v] 24 (0, 0)) := by
    rw [hgrow.block C (by rw [alloc_size]; omega) (fun e => hne e.symm), Below.heap_alloc _ _ _ hlt]; exact HC.out
  have HK1 : Sl (∀ (k : Nat) (s : ByteArray) (p : Nat), W.heap[k]? = some (.stringIter s p) → w1.heap[k]? = some (.stringIter s p)) := ⟨fun k s p hk => by
    have hkl := lt_of_block hk
    rw [hgrow.block k (by rw [alloc_size]; omega) (fun e => by
      obtain ⟨_, h2⟩ := HO.out
      rcases h2 with ⟨rfl, _⟩ | ⟨g, cap, cur, rfl, hg, hh, _⟩
      · cases e
      · have e2 : k = g := by simpa [Value.ownBlock] using e
        rw [← e2, hk] at hh; cases hh), Below.heap_alloc _ _ _ hkl]
    exact hk⟩
  have HB1 : Sl (Below w0.heap.size w0 w1) := ⟨below_grown (HB.out.alloc HB.out.size _) (HO.out.alloc _) hgrow (by rw [alloc_size]; have := HB.out.size; omega)⟩
  have HO1 := Sl.mk hown'
  have HC1 := Sl.mk hc1
  have cf1 := cell_of_one hc1
  have ff1 := free_of_one hc1
  obtain ⟨g', cap', rfl⟩ : ∃ g' cap', v' = .slice (some ⟨g', 0, none⟩) (acc.length + 1) cap' := by
    obtain ⟨_, h2⟩ := hown'
    rcases h2 with ⟨_, h3⟩ | ⟨g, cap, cur, rfl, _⟩
    · omega
    · exact ⟨g, cap, rfl⟩
  clear hown' hgrow hne hc1 cc
  go_wp2
  go_end0
  have hne' : (Value.slice (some ⟨g', 0, none⟩) (acc.length + 1) cap').ownBlock ≠ some (⟨C, 0, none⟩ : Addr).block := fun e => by
    obtain ⟨_, h2⟩ := HO1.out
    rcases h2 with ⟨h2, _⟩ | ⟨g, cap, cur, h2, hg, hh, _⟩
    · cases h2
    · cases h2
      have e2 : g' = C := by simpa [Value.ownBlock] using e
      rw [e2, HC1.out] at hh; cases hh
  refine ⟨rfl, ⟨⟨_, one_setCell HC1.out, ?_⟩, HB1.out.setCell hC _⟩, fun k s p hk => iter_setCell _ HC1.out k s p (HK1.out k s p hk)⟩
  rw [List.length_append, u8s_append]
  exact ownsRow_setCell_other HO1.out hne' _
theorem getTells (w0 : World) (C : Nat) (hC : w0.heap.size ≤ C) : Tells 21 C w0.heap.size (GetI w0 C) where
  call := fun acc b W h _ hl => get1 w0 C hC acc b W h hl
  alloc := fun acc W s p h => by
    obtain ⟨v, hc, ho⟩ := h.ex
    exact ⟨⟨v, by rw [World.iter, Below.heap_alloc _ _ _ (lt_of_block hc)]; exact hc, ho.alloc _⟩, h.b.alloc h.b.size _⟩
  iter := fun acc W k s p p' h hk hB => by
    obtain ⟨v, hc, ⟨h1, h2⟩⟩ := h.ex
    refine ⟨⟨v, by rw [Lib.iterAt_other _ _ _ _ _ (fun e => by rw [← e, hc] at hk; cases hk)]; exact hc, h1, ?_⟩, Lib.below_iterAt h.b hB _ _⟩
    rcases h2 with h2 | ⟨g, cap, cur, hv, hg, hh, r⟩
    · exact .inl h2
    · exact .inr ⟨g, cap, cur, hv, hg, by rw [Lib.iterAt_other _ _ _ _ _ (fun e => by rw [← e, hh] at hk; cases hk)]; exact hh, r⟩
  base := fun acc W h => h.b.size
  enter := fun args W => by kernel_rfl

set_option maxHeartbeats 400000 in
theorem get_any (s : ByteArray) (w : World) (hs : s.size ≤ 100000) :
    Calls Tryd.prog 13 #[.string s] w fun e w' => Below w.heap.size w w' ∧ (rd (bytes s) = none → e = .returned (.tuple #[.slice none 0 0, .int .i64 20])) ∧
      ∀ b, rd (bytes s) = some b → ∃ v, e = .returned (.tuple #[v, .int .i64 0]) ∧ w'.ownsRow w.heap.size 5 1 v b.length (u8s b) := by
  obtain ⟨i0, hi, hz0, hz1, hz2⟩ := info_parts info5
  obtain ⟨q, hq⟩ : ∃ q : Nat, q = s.size / 4 := ⟨_, rfl⟩
  have hq' : (s.size : Int) / 4 = (q : Int) := by omega
  obtain ⟨C, hC⟩ : ∃ C : Nat, C = q * 3 := ⟨_, rfl⟩
  have hC' : (q : Int) * 3 = (C : Int) := by omega
  have hq2 : q ≤ 100000 := by omega
  obtain ⟨w1, hmk, HOW, HGR⟩ := run_make_own (P := Tryd.prog) (w := w) w.heap.size 24 5 i0 (.int .u8 0) 1 Tryd.underlying24 hi hz0 hz1 .i64 .i64 C (by rw [hz2]; omega) (by unfold maxLen; omega) (Nat.le_refl _)
  have HB1 : Sl (Below w.heap.size w w1) := ⟨(Below.refl _ _).grown HGR (Nat.le_refl _) (fun k hk => by cases hk)⟩
  have HO1 := Sl.mk HOW
  have HG : Sl (GetI w w1.heap.size [] (w1.alloc (.cells #[.slice (some ⟨w.heap.size, 0, none⟩) 0 C] 24))) := ⟨⟨⟨_, alloc_new _ _ _ rfl, HOW.alloc _⟩, HB1.out.alloc HB1.out.size _⟩⟩
  have HCL : Sl (w.heap.size ≤ w1.heap.size) := ⟨HB1.out.size⟩
  have hmf : ∀ (fn : Fn) (first cap : Array Value) (w : World), (Instr.makeFunc fn first cap).run Tryd.prog w = .ok (.func fn first cap) w := fun _ _ _ _ => rfl
  clear HOW HGR hq hC hi hz0 hz1 hz2
  cases hr : rd (bytes s) with
  | none =>
    have HRD : Sl ((rd (bytes s)).isSome = false) := ⟨by rw [hr]; rfl⟩
    have HRE := Sl.mk hr
    clear hr
    go_enter Tryd.func13, Tryd.ntmps13
    go_wp2_with fail
    refine (read_any 21 w1.heap.size w.heap.size _ (getTells w w1.heap.size HCL.out) s _ HG.out hs).mono ?_
    rw [HRD.out]
    rintro e w2 ⟨rfl, acc, hI, _⟩
    have HI := Sl.mk hI
    clear hI
    go_wp2
    go_ret2
    exact ⟨HI.out.b, fun _ => rfl, (fun b hb => by cases hb)⟩
  | some b =>
    have HRD : Sl ((rd (bytes s)).isSome = true) := ⟨by rw [hr]; rfl⟩
    have HRE := Sl.mk hr
    clear hr
    go_enter Tryd.func13, Tryd.ntmps13
    go_wp2_with fail
    refine (read_any 21 w1.heap.size w.heap.size _ (getTells w w1.heap.size HCL.out) s _ HG.out hs).mono ?_
    rw [HRD.out]
    rintro e w2 ⟨rfl, acc, hI, hacc⟩
    obtain rfl := hacc b HRE.out
    obtain ⟨v, hc, ho⟩ := hI.ex
    have cc := cell_of_one hc
    have HO := Sl.mk ho
    have HI := Sl.mk hI
    clear hI hacc hc ho
    go_wp2
    go_ret2
    exact ⟨HI.out.b, (fun h => by cases h), fun b hb => by injection hb with hb; subst hb; exact ⟨v, rfl, HO.out⟩⟩

set_option maxHeartbeats 400000 in
theorem has_any (s : ByteArray) (n : Int) (w : World) (hs : s.size ≤ 100000) :
    Calls Tryd.prog 16 #[.string s, .int .i64 n] w fun e w' => e = .returned (.bool (match rd (bytes s) with | none => false | some b => decide ((b.length : Int) = n))) ∧ Below w.heap.size w w' := by
  have HG : Sl (HasI w w.heap.size [] (w.alloc (.cells #[.int .i64 0] 3))) := ⟨⟨alloc_new _ _ _ rfl, (Below.refl _ _).alloc (Nat.le_refl _) _⟩⟩
  have hmf : ∀ (fn : Fn) (first cap : Array Value) (w : World), (Instr.makeFunc fn first cap).run Tryd.prog w = .ok (.func fn first cap) w := fun _ _ _ _ => rfl
  cases hr : rd (bytes s) with
  | none =>
    have HRD : Sl ((rd (bytes s)).isSome = false) := ⟨by rw [hr]; rfl⟩
    clear hr
    simp only
    go_enter Tryd.func16, Tryd.ntmps16
    go_wp2_with fail
    refine (read_any 22 w.heap.size w.heap.size _ (hasTells w w.heap.size (Nat.le_refl _)) s _ HG.out hs).mono ?_
    rw [HRD.out]
    rintro e w2 ⟨rfl, acc, hI, _⟩
    have HI := Sl.mk hI
    clear hI
    go_wp2
    go_ret
    exact ⟨rfl, HI.out.b⟩
  | some b =>
    have HRD : Sl ((rd (bytes s)).isSome = true) := ⟨by rw [hr]; rfl⟩
    have HRE := Sl.mk hr
    clear hr
    simp only
    go_enter Tryd.func16, Tryd.ntmps16
    go_wp2_with fail
    refine (read_any 22 w.heap.size w.heap.size _ (hasTells w w.heap.size (Nat.le_refl _)) s _ HG.out hs).mono ?_
    rw [HRD.out]
    rintro e w2 ⟨rfl, acc, hI, hacc⟩
    obtain rfl := hacc b HRE.out
    have cc := cell_of_one hI.c
    have HI := Sl.mk hI
    clear hI hacc
    go_wp2
    go_ret
    exact ⟨ret_bool (by rw [Bool.eq_iff_iff]; simp), HI.out.b⟩
end Go.Proofs.YtdcgddoginaioaaDoor
