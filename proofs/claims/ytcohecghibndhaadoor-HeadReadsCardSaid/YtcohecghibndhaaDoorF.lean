/- What Check's and Show's closures keep of the pieces that they are told. -/
import Derived.Test.YtcohecghibndhaaDoorE
import Derived.Lib.AppendStr
import Derived.WalkSmall
namespace Go.Proofs.YtcohecghibndhaaDoor
open Go.RowKit HeadPlain

/-- What Check's closure keeps: how many bytes so far. -/
structure CntI (w0 : World) (C : Nat) (acc : List Nat) (W : World) : Prop where
  c : W.heap[C]? = some (.cells #[.int .i64 (acc.length : Int)] 3 (0, 0))
  b : Below w0.heap.size w0 W
/-- What Show's closure keeps: the bytes so far. -/
structure ShowI (w0 : World) (C : Nat) (acc : List Nat) (W : World) : Prop where
  ex : ∃ v, W.heap[C]? = some (.cells #[v] 28 (0, 0)) ∧ W.ownsRow w0.heap.size 5 1 v acc.length (u8s acc)
  b : Below w0.heap.size w0 W

theorem cnt1 (w0 : World) (C : Nat) (acc : List Nat) (s : ByteArray) (W : World) (h : CntI w0 C acc W) (hl : acc.length + s.size ≤ 10000000) :
    Calls Tryd.prog 34 #[.string s, .pointer (some ⟨C, 0, none⟩)] W fun e w' => e = .returned (.tuple #[]) ∧ w' = W.setCell ⟨C, 0, none⟩ (.int .i64 ((acc.length : Int) + (s.size : Int))) := by
  have hc := cell_of_one h.c
  have hf := free_of_one h.c
  clear h
  go_enter Tryd.func34, Tryd.ntmps34
  go_wp2
  go_end0
  exact ⟨rfl, rfl⟩
theorem keep_setCell {W : World} {C : Nat} {x : Value} {t : TypeId} (v : Value) (hC : W.heap[C]? = some (.cells #[x] t (0, 0))) (ht : t ≠ 25 ∧ t ≠ 48) : Keep W (W.setCell ⟨C, 0, none⟩ v) := fun k cs u hu h => by
  rw [heap_setCell_other _ _ _ _ (fun e => by
    simp only at e
    rw [e, hC] at h
    injection h with h
    injection h with _ h2
    rcases hu with rfl | rfl
    · exact ht.1 h2
    · exact ht.2 h2)]
  exact h
theorem cntTells (w0 : World) (C : Nat) (hC : w0.heap.size ≤ C) : Tells 34 C w0 (CntI w0 C) where
  call := fun acc s W h hl => (cnt1 w0 C acc s W h hl).mono fun _ w' ⟨he, hw⟩ => by
    subst hw
    refine ⟨he, ⟨?_, h.b.setCell hC _⟩, keep_setCell _ h.c ⟨by decide, by decide⟩⟩
    rw [one_setCell h.c]; simp [bytes_length]
  alloc := fun acc W o h => ⟨by rw [alloc_old _ _ _ (lt_of_block h.c)]; exact h.c, h.b.alloc h.b.size _⟩
  base := fun acc W h => h.b
  enter := fun args W => by kernel_rfl

theorem strCells_bytes (s : ByteArray) : Lib.strCells s = u8s (bytes s) := by
  unfold Lib.strCells u8s bytes
  rw [List.map_map]
  rfl
theorem infoU8 : ∃ i, Tryd.prog.info? 5 = some i ∧ i.zero = some (.int .u8 0) ∧ i.size = 1 ∧ i.bytes = 1 := by
  have h5 := info5
  cases hi : Tryd.prog.info? 5 with
  | none => rw [hi] at h5; cases h5
  | some i =>
    rw [hi] at h5
    simp only [Option.map_some, Option.some.injEq, Prod.mk.injEq] at h5
    exact ⟨i, rfl, h5.1, h5.2.1, h5.2.2⟩

set_option maxHeartbeats 400000 in
theorem show1 (w0 : World) (C : Nat) (hC : w0.heap.size ≤ C) (acc : List Nat) (s : ByteArray) (W : World) (h : ShowI w0 C acc W) (hl : acc.length + s.size ≤ 10000000) :
    Calls Tryd.prog 28 #[.string s, .pointer (some ⟨C, 0, none⟩)] W fun e w' => e = .returned (.tuple #[]) ∧ ShowI w0 C (acc ++ bytes s) w' ∧ Keep W w' := by
  obtain ⟨i0, hi, hz0, hz1, hz2⟩ := infoU8
  obtain ⟨v, hc, ho⟩ := h.ex
  have HI := Sl.mk hi
  have HZ0 := Sl.mk hz0
  have HZ1 := Sl.mk hz1
  have HZ2 := Sl.mk hz2
  have HC := Sl.mk hc
  have HO := Sl.mk ho
  have HB := Sl.mk h.b
  have cc := cell_of_one hc
  clear h hi hz0 hz1 hz2 hc ho
  go_enter Tryd.func28, Tryd.ntmps28
  go_wp2_with (at_builtin; refine Lib.wpList_append_own_string _ rfl (.tmp 3) (.tmp 4) 28 9 rfl w0.heap.size 5 i0 Tryd.underlying28 Tryd.underlying9 HI.out HZ0.out HZ1.out HZ2.out v acc.length (u8s acc) rfl HO.out s rfl ?c1 ?c2 ?c3 ?_)
  case c1 => unfold maxLen; omega
  case c2 => omega
  case c3 => exact HB.out.size
  intro v' w1 hown' hgrow _
  have hne : v.ownBlock ≠ some C := fun e => by
    obtain ⟨_, h2⟩ := HO.out
    rcases h2 with ⟨rfl, _⟩ | ⟨g, cap, cur, rfl, hg, hh, _⟩
    · cases e
    · have e2 : g = C := by simpa [Value.ownBlock] using e
      rw [e2, HC.out] at hh; cases hh
  have hlt := lt_of_block HC.out
  have hc1 : w1.heap[C]? = some (.cells #[v] 28 (0, 0)) := by
    rw [hgrow.block C hlt (fun e => hne e.symm)]; exact HC.out
  have HK1 : Sl (Keep W w1) := ⟨fun k cs t ht hk => by
    rw [hgrow.block k (lt_of_block hk) (fun e => by
      obtain ⟨_, h2⟩ := HO.out
      rcases h2 with ⟨rfl, _⟩ | ⟨g, cap, cur, rfl, hg, hh, _⟩
      · cases e
      · have e2 : k = g := by simpa [Value.ownBlock] using e
        rw [← e2, hk] at hh
        injection hh with hh
        injection hh with _ h3
        rcases ht with rfl | rfl
        · exact absurd h3 (by decide)
        · exact absurd h3 (by decide))]
    exact hk⟩
  have HB1 : Sl (Below w0.heap.size w0 w1) := ⟨below_grown HB.out HO.out hgrow HB.out.size⟩
  have HO1 := Sl.mk hown'
  have HC1 := Sl.mk hc1
  have cf1 := cell_of_one hc1
  have ff1 := free_of_one hc1
  obtain ⟨av, nv, cv, rfl⟩ : ∃ a n c, v' = .slice a n c := by
    obtain ⟨_, h2⟩ := hown'
    rcases h2 with ⟨rfl, _⟩ | ⟨g, cap, cur, rfl, _⟩
    · exact ⟨_, _, _, rfl⟩
    · exact ⟨_, _, _, rfl⟩
  clear hown' hgrow hne hc1 cc
  go_wp2
  go_end0
  have hne' : (Value.slice av nv cv).ownBlock ≠ some (⟨C, 0, none⟩ : Addr).block := fun e => by
    obtain ⟨_, h2⟩ := HO1.out
    rcases h2 with ⟨h3, _⟩ | ⟨g, cap, cur, h3, hg, hh, _⟩
    · rw [h3] at e; cases e
    · rw [h3] at e
      have e2 : g = C := by simpa [Value.ownBlock] using e
      rw [e2, HC1.out] at hh; cases hh
  refine ⟨rfl, ⟨⟨_, one_setCell HC1.out, ?_⟩, HB1.out.setCell hC _⟩, fun k cs t ht hk => keep_setCell _ HC1.out ⟨by decide, by decide⟩ k cs t ht (HK1.out k cs t ht hk)⟩
  rw [List.length_append, u8s_append, bytes_length, ← strCells_bytes]
  exact ownsRow_setCell_other HO1.out hne' _
theorem showTells (w0 : World) (C : Nat) (hC : w0.heap.size ≤ C) : Tells 28 C w0 (ShowI w0 C) where
  call := fun acc s W h hl => show1 w0 C hC acc s W h hl
  alloc := fun acc W o h => by
    obtain ⟨v, hc, ho⟩ := h.ex
    exact ⟨⟨v, by rw [alloc_old _ _ _ (lt_of_block hc)]; exact hc, ho.alloc _⟩, h.b.alloc h.b.size _⟩
  base := fun acc W h => h.b
  enter := fun args W => by kernel_rfl
end Go.Proofs.YtcohecghibndhaaDoor
