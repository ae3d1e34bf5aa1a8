/- queue: a clone; what may change; a row of events that begins anywhere in its block. -/
import Derived.Test.YtflnmjiopeoodaaEvA
import Derived.Test.YtflnmjiopeoodaaQueuePlain
import Derived.Lib.BufferWrite
import Derived.Lib.UnsafeStr
set_option maxRecDepth 100000
namespace Go.Proofs.Ytflnmjiopeoodaa.Que
open Go.RowKit Evt QueuePlain
open MsgPlain (Ev)

/-- Of what was there nothing has changed but the blocks of S. -/
structure Kept (S : Nat → Prop) (W W' : World) : Prop where
  os : W'.os = W.os
  tape : W'.tape = W.tape
  output : W'.output = W.output
  size : W.heap.size ≤ W'.heap.size
  block : ∀ k, k < W.heap.size → ¬ S k → W'.heap[k]? = W.heap[k]?
theorem Kept.below {S : Nat → Prop} {W W' : World} (h : Below W.heap.size W W') : Kept S W W' := ⟨h.os, h.tape, h.output, h.size, fun k hk _ => h.block k hk⟩
theorem Kept.grown {S : Nat → Prop} {W W' : World} {r : Option Nat} (h : W.grownBy W' r) (hr : ∀ k, r = some k → S k) : Kept S W W' :=
  ⟨h.os, h.tape, h.output, h.size, fun k hk hn => h.block k hk (fun e => hn (hr k e.symm))⟩
theorem Kept.trans {S S2 : Nat → Prop} {W V U : World} (h : Kept S W V) (k : Kept S2 V U) (hs : ∀ j, j < W.heap.size → S2 j → S j) : Kept S W U :=
  ⟨k.os.trans h.os, k.tape.trans h.tape, k.output.trans h.output, Nat.le_trans h.size k.size, fun j hj hn => (k.block j (Nat.lt_of_lt_of_le hj h.size) (fun e => hn (hs j hj e))).trans (h.block j hj hn)⟩
theorem Kept.up {S : Nat → Prop} {w0 W V : World} {B : Nat} (h : Kept S W V) (hB : Below B w0 W) (hS : ∀ k, S k → B ≤ k) (hs : B ≤ W.heap.size) : Below B w0 V :=
  ⟨h.os.trans hB.os, h.tape.trans hB.tape, h.output.trans hB.output, Nat.le_trans hB.size h.size, fun k hk => (h.block k (by omega) (fun e => by have := hS k e; omega)).trans (hB.block k hk)⟩
theorem nil_str {s : ByteArray} (h : s.size = 0) : s = { data := #[] } := ByteArray.ext (Array.eq_empty_of_size_eq_zero h)
theorem newClone_any (s : ByteArray) (w : World) (hm : s.size ≤ 1000000) : Calls Try.prog 25 #[.string s] w fun e w' => e = .returned (.string s) ∧ Sl (Below w.heap.size w w') := by
  by_cases h0 : s.size = 0
  · obtain rfl := nil_str h0
    clear h0 hm
    go_enter Try.func25, Try.ntmps25
    go_wp2
    go_ret
    exact ⟨rfl, ⟨Below.refl _ _⟩⟩
  · have hq : (((s.size : Nat) : Int) == 0) = false := beq_eq_false_iff_ne.2 (by omega)
    have hi5 : (Try.prog.info? 5).map (·.size) = some 1 := size5
    have hc5 : Try.prog.cellsOf 5 = 1 := by kernel_rfl
    have mk := make_u8 (s.size : Int) s.size rfl hm
    obtain ⟨M, hM⟩ : ∃ M, (u8s (zs s.size)).toArray = M := ⟨_, rfl⟩
    rw [hM] at mk
    have hMs : M.size = s.size := by rw [← hM, List.size_toArray, u8s_length]; simp [zs]
    obtain ⟨wa, hwa⟩ : ∃ w1, w.alloc (.cells M 5) = w1 := ⟨_, rfl⟩
    have ha : wa.heap[w.heap.size]? = some (.cells M 5 (0, 0)) := by rw [← hwa]; exact alloc_new _ _ _ rfl
    have hmk : (Instr.makeSlice 48 (.int .i64 (s.size : Int)) (.int .i64 (s.size : Int))).run Try.prog w = .ok (.slice (some ⟨w.heap.size, 0, none⟩) s.size s.size) wa := by rw [← hwa]; exact mk w
    have hcp := Lib.run_copy_row_string (P := Try.prog) wa 48 9 3 5 w.heap.size 0 s.size s.size s M 5 Try.underlying48 hi5 ha (Nat.le_refl _) (by omega)
    rw [List.take_zero, List.nil_append, List.drop_of_length_le (by rw [Array.length_toList]; omega), List.append_nil] at hcp
    obtain ⟨wb, hwb⟩ : ∃ w1, wa.setRow w.heap.size (Lib.byteCells s.data.toList).toArray = w1 := ⟨_, rfl⟩
    rw [hwb] at hcp
    have hb : wb.heap[w.heap.size]? = some (.cells (Lib.byteCells s.data.toList).toArray 5 (0, 0)) := by rw [← hwb]; exact setRow_heap _ _ M _ 5 (0, 0) ha
    have hne : s.data.toList ≠ [] := fun e => h0 (by rw [Lib.size_eq, e]; rfl)
    have hus := Lib.run_unsafeString_row (P := Try.prog) wb 60 3 9 5 Try.underlying60 hc5 w.heap.size s.size (by unfold World.shape?; rw [hb]; simp [Lib.byteCells_length]) s.data.toList hne (by rw [← Lib.size_eq]; omega) (by rw [← Lib.size_eq]; omega)
      (fun j x hx => by
        rw [Addr.add_mid, Nat.zero_add, cell_of_row _ _ _ _ _ _ hb, List.getElem?_toArray]
        simp [Lib.byteCells, hx])
    rw [← Lib.size_eq] at hus
    have HB : Sl (Below w.heap.size w (wb.freeze ⟨w.heap.size, 0, none⟩ s.size)) := ⟨by
      refine Lib.below_freeze (p := ⟨w.heap.size, 0, none⟩) ?_ (Nat.le_refl _) _
      have h1 : Below w.heap.size w wa := by rw [← hwa]; exact (Below.refl _ _).alloc (Nat.le_refl _) _
      refine h1.trans ?_
      rw [← hwb]
      exact ⟨rfl, rfl, rfl, by simp, fun k hk => setRow_other _ _ _ _ (by omega)⟩⟩
    clear hwa hwb ha hb hM hMs mk hne
    go_enter Try.func25, Try.ntmps25
    go_wp2
    go_ret
    exact ⟨rfl, HB⟩
theorem clone_any (s : ByteArray) (w : World) (hm : s.size ≤ 1000000) : Calls Try.prog 21 #[.string s] w fun e w' => e = .returned (.string s) ∧ Sl (Below w.heap.size w w') := by
  have C := newClone_any s w hm
  clear hm
  go_enter Try.func21, Try.ntmps21
  go_wp2_with fail
  refine C.mono ?_
  rintro e w1 ⟨rfl, HB⟩
  clear C
  go_wp2
  go_ret
  exact ⟨rfl, HB⟩

/-- A row of events of one's own, that begins anywhere in its block; of none it is nil. -/
def QRow (W : World) (base : Nat) (v : Value) (l : List Ev) : Prop :=
  (v = .slice none 0 0 ∧ l = []) ∨ ∃ (g off cap : Nat) (cs : Array Value), v = .slice (some ⟨g, off, none⟩) l.length cap ∧ 0 < l.length ∧ base ≤ g ∧ W.heap[g]? = some (.cells cs 32 (0, 0)) ∧ l.length ≤ cap ∧ cap ≤ maxLen ∧ off + cap * 3 ≤ cs.size ∧ ∀ j u, (ecs l)[j]? = some u → cs[off + j]? = some u
theorem qrow_nil (W : World) (base : Nat) : QRow W base (.slice none 0 0) [] := .inl ⟨rfl, rfl⟩
section
variable {W W' : World} {base : Nat} {v : Value} {l : List Ev}
theorem QRow.heap (h : QRow W base v l) {g : Nat} (hg : v.ownBlock = some g) : base ≤ g ∧ ∃ cs, W.heap[g]? = some (.cells cs 32 (0, 0)) := by
  rcases h with ⟨rfl, _⟩ | ⟨k, off, cap, cs, rfl, _, hb, hh, _⟩
  · cases hg
  · obtain rfl : k = g := by simpa [Value.ownBlock] using hg
    exact ⟨hb, cs, hh⟩
theorem QRow.lt (h : QRow W base v l) {g : Nat} (hg : v.ownBlock = some g) : g < W.heap.size := by
  obtain ⟨_, cs, hc⟩ := h.heap hg
  exact (Array.getElem?_eq_some_iff.1 hc).1
theorem QRow.block (h : QRow W base v l) (hb : ∀ g, v.ownBlock = some g → W'.heap[g]? = W.heap[g]?) : QRow W' base v l := by
  rcases h with h | ⟨g, off, cap, cs, rfl, h1, h2, h3, h4⟩
  · exact .inl h
  · exact .inr ⟨g, off, cap, cs, rfl, h1, h2, by rw [hb g rfl]; exact h3, h4⟩
theorem QRow.below (h : QRow W base v l) (k : Below W.heap.size W W') : QRow W' base v l := h.block fun _ hg => k.block _ (h.lt hg)
theorem QRow.kept (h : QRow W base v l) {S : Nat → Prop} (k : Kept S W W') (hn : ∀ g, v.ownBlock = some g → ¬ S g) : QRow W' base v l := h.block fun g hg => k.block g (h.lt hg) (hn g hg)
theorem QRow.grown (h : QRow W base v l) {r : Option Nat} (k : W.grownBy W' r) (hn : ∀ g, v.ownBlock = some g → some g ≠ r) : QRow W' base v l := h.block fun g hg => k.block g (h.lt hg) (hn g hg)
theorem QRow.slice (h : QRow W base v l) : ∃ a c, v = .slice a l.length c := by
  rcases h with ⟨rfl, rfl⟩ | ⟨g, off, cap, cs, rfl, _⟩
  · exact ⟨_, _, rfl⟩
  · exact ⟨_, _, rfl⟩
theorem QRow.nil (h : QRow W base v []) : v = .slice none 0 0 := by
  rcases h with ⟨rfl, _⟩ | ⟨_, _, _, _, _, hp, _⟩
  · rfl
  · exact absurd hp (Nat.lt_irrefl 0)
theorem QRow.one {e : Ev} (h : QRow W base v (e :: l)) : ∃ g off cap, v = .slice (some ⟨g, off, none⟩) (l.length + 1) cap ∧ l.length + 1 ≤ cap := by
  rcases h with ⟨_, h⟩ | ⟨g, off, cap, cs, rfl, _, _, _, h4, _⟩
  · cases h
  · exact ⟨g, off, cap, rfl, h4⟩
theorem QRow.evs (h : QRow W base v l) : EvsAt W v l := by
  rcases h with ⟨rfl, rfl⟩ | ⟨g, off, cap, cs, rfl, h1, h2, h3, h4, h5, h6, h7⟩
  · exact ⟨none, 0, 0, 0, rfl, Nat.le_refl _, fun h => absurd h (Nat.lt_irrefl _), fun i hi => absurd hi (Nat.not_lt_zero _)⟩
  · refine ⟨some ⟨g, off, none⟩, cap, g, off, rfl, h4, fun _ => rfl, fun i hi j hj => ?_⟩
    obtain ⟨u, hu⟩ := ec_some (l.getD i Ev0) j hj
    have k := ecs_get l i hi j hj
    rw [hu] at k ⊢
    rw [cell_of_row _ _ _ _ _ _ h3, Nat.add_assoc]
    exact h7 _ _ k
/-- A block of another kind is no row of events. -/
theorem QRow.kind (h : QRow W base v l) {g : Nat} {cs : Array Value} {t : TypeId} (hg : W.heap[g]? = some (.cells cs t (0, 0))) (ht : t ≠ 32) : v.ownBlock ≠ some g := fun e => by
  obtain ⟨_, cs', h2⟩ := h.heap e
  rw [hg] at h2
  injection h2 with h2
  injection h2 with _ h3
  exact ht h3
end
/-- One event behind a row of one's own. -/
theorem QRow.add {Z : World} {base : Nat} {v x : Value} {m : List Ev} {e : Ev} (hown : QRow Z base v m) (hx : EvsAt Z x [e]) (hl : m.length + 1 ≤ 1000000) (hbase : base ≤ Z.heap.size) :
    ∃ v1 w1, (Builtin.append_ #[28, 28] 28 #[v, x]).run Try.prog Z = .ok v1 w1 ∧ QRow w1 base v1 (m ++ [e]) ∧ Z.grownBy w1 v.ownBlock ∧ (v1.ownBlock = v.ownBlock ∨ v1.ownBlock = some Z.heap.size) := by
  obtain ⟨i0, hi0, hz0, hz1, hz2⟩ := info57
  obtain ⟨ad, cap, sb, so, rfl, hcap, had, hcell⟩ := hx
  obtain rfl := had (Nat.zero_lt_one)
  have hl1 : (ecs [e]).length = [e].length * i0.size := by rw [ecs_length, hz1]
  have hnews : ∀ j u, (ecs [e])[j]? = some u → Z.cell? ((⟨sb, so, none⟩ : Addr).add j) = some u := fun j u hu => by
    obtain ⟨hi, h⟩ := ecs_at hu
    have g1 := hcell _ hi (j % 3) (by omega)
    rw [Addr.add_mid, ← h, ← g1]
    congr 2; omega
  have hmax : maxLen = 9223372036854775807 := rfl
  rcases hown with ⟨rfl, rfl⟩ | ⟨g, off, c, cs, rfl, h1, h2, h3, h4, h5, h6, h7⟩
  · have hr := run_append_nil (P := Try.prog) Z 28 28 32 i0 _ Try.underlying28 hi0 hz0 ⟨sb, so, none⟩ [e].length cap (ecs [e]) hl1 hnews (by simp) (by simp) (by rw [hz2]; simp)
    refine ⟨_, _, hr, .inr ⟨Z.heap.size, 0, _, _, rfl, by simp, hbase, heap_alloc_new Z.drew _, grownCap_ge _ _ _ _, grownCap_le_maxLen _ _ _ _ (by simp [hmax]), ?_, fun j u hu => ?_⟩, ⟨rfl, rfl, rfl, by simp, fun k hk _ => alloc_old Z.drew _ k hk⟩, .inr rfl⟩
    · have := grownCap_ge Z [e].length 0 32
      rw [Array.size_append, List.size_toArray, size_zeroCells, ecs_length]
      show 0 + _ * 3 ≤ 1 * 3 + _ * 3
      simp only [List.length_singleton] at this ⊢
      omega
    · rw [Nat.zero_add, Array.getElem?_append_left (by rw [List.size_toArray]; exact (List.getElem?_eq_some_iff.1 hu).1), List.getElem?_toArray]
      exact hu
  · have holds : ∀ j u, (ecs m)[j]? = some u → Z.cell? ((⟨g, off, none⟩ : Addr).add j) = some u := fun j u hu => by
      rw [Addr.add_mid, cell_of_row _ _ _ _ _ _ h3]
      exact h7 j u hu
    have hlo : (ecs m).length = m.length * i0.size := by rw [ecs_length, hz1]
    have hcl : cs.toList.length = cs.size := Array.length_toList
    by_cases hroom : m.length + 1 ≤ c
    · have hst := run_storeCells_at Try.prog g (off + m.length * 3) 32 (ecs [e]) 0 cs Z h3 (by rw [ecs_length]; simp only [List.length_singleton]; omega) ecs_one
      have hf := run_firstCells_some (P := Try.prog) Z i0.size [e].length ⟨sb, so, none⟩ [e].length cap (ecs [e]) hl1 hnews
      refine ⟨.slice (some ⟨g, off, none⟩) (m ++ [e]).length c, Z.setRow g (cs.toList.take (off + m.length * 3) ++ ecs [e] ++ cs.toList.drop (off + m.length * 3 + (ecs [e]).length)).toArray, ?_, .inr ⟨g, off, c, _, rfl, by simp, h2, setRow_heap Z g cs _ 32 _ h3, by simpa using hroom, h5, ?_, fun j u hu => ?_⟩, ⟨rfl, rfl, rfl, by simp, fun k _ hk => setRow_other Z g k _ (fun e => hk (by simp [Value.ownBlock, e]))⟩, .inl rfl⟩
      · simp only [Nat.add_zero] at hst
        rw [hz1] at hf
        simp only [List.length_singleton] at hf
        simp [Builtin.append_, run_underlying Try.underlying28, sizeOf, typeInfo, hi0, hz1, Builtin.lenOf, hroom, hf, Addr.add_lit]
        rw [List.append_assoc] at hst
        simp [hst]
      · rw [List.size_toArray, List.length_append, List.length_append, List.length_take, List.length_drop, hcl, ecs_length]
        simp only [List.length_singleton]
        omega
      · have hj := (List.getElem?_eq_some_iff.1 hu).1
        rw [ecs_append, List.length_append, ecs_length, ecs_length] at hj
        simp only [List.length_singleton] at hj
        rw [ecs_append] at hu
        rw [List.getElem?_toArray, List.append_assoc]
        by_cases hlt : j < m.length * 3
        · rw [List.getElem?_append_left (by rw [List.length_take, hcl]; omega), List.getElem?_take_of_lt (by omega)]
          rw [List.getElem?_append_left (by rw [ecs_length]; exact hlt)] at hu
          rw [Array.getElem?_toList]
          exact h7 j u hu
        · rw [List.getElem?_append_right (by rw [List.length_take, hcl]; omega), List.length_take, hcl]
          rw [List.getElem?_append_right (by rw [ecs_length]; omega), ecs_length] at hu
          rw [show off + j - min (off + m.length * 3) cs.size = j - m.length * 3 from by omega]
          rw [List.getElem?_append_left (by rw [ecs_length]; simp only [List.length_singleton]; omega)]
          exact hu
    · have hr := run_append_grow (P := Try.prog) Z 28 28 32 i0 _ Try.underlying28 hi0 hz0 ⟨g, off, none⟩ m.length c (ecs m) hlo holds ⟨sb, so, none⟩ [e].length cap (ecs [e]) hl1 hnews (by simp only [List.length_singleton]; omega) (by simp only [List.length_singleton]; omega) (growslice_fits (by simp only [List.length_singleton]; omega) (by rw [hz2]; simp only [List.length_singleton]; omega))
      refine ⟨_, _, hr, .inr ⟨Z.heap.size, 0, grownCap Z (m.length + [e].length) c 32, _, by rw [List.length_append], by simp, hbase, heap_alloc_new Z.drew _, by rw [List.length_append]; exact grownCap_ge _ _ _ _, grownCap_le_maxLen _ _ _ _ (by rw [hmax]; simp only [List.length_singleton]; omega), ?_, fun j u hu => ?_⟩, ⟨rfl, rfl, rfl, by simp, fun k hk _ => alloc_old Z.drew _ k hk⟩, .inr rfl⟩
      · have := grownCap_ge Z (m.length + [e].length) c 32
        rw [Array.size_append, Array.size_append, List.size_toArray, List.size_toArray, size_zeroCells, ecs_length, ecs_length]
        show 0 + _ * 3 ≤ m.length * 3 + 1 * 3 + _ * 3
        simp only [List.length_singleton] at this ⊢
        omega
      · have hj := (List.getElem?_eq_some_iff.1 hu).1
        rw [ecs_append, List.length_append] at hj
        rw [Nat.zero_add, Array.getElem?_append_left (by rw [Array.size_append, List.size_toArray, List.size_toArray]; exact hj), List.append_toArray, List.getElem?_toArray, ← ecs_append]
        exact hu
theorem zero_ev (V : World) : (zeroValue 32).run Try.prog V = .ok (.agg #[.int .i64 0, .int .i64 0, .string ByteArray.empty]) V := by
  obtain ⟨i0, hi, hz0, hz1, hz2⟩ := info57
  simp [zeroValue, typeInfo, hi, hz0]
theorem clear_none (ty : TypeId) (n c : Nat) (V : World) : (Builtin.clear_ #[28] ty #[.slice none n c]).run Try.prog V = .ok (.tuple #[]) V := by
  simp [Builtin.clear_, run_underlying Try.underlying28]
/-- The first one is wiped: behind it the others stand as they stood. -/
theorem QRow.wipe {Z : World} {base g off cap n : Nat} {l : List Ev} {e : Ev} (h : QRow Z base (.slice (some ⟨g, off, none⟩) n cap) (e :: l)) (c1 : Nat) (ty : TypeId) :
    ∃ w1, (Builtin.clear_ #[28] ty #[.slice (some ⟨g, off, none⟩) 1 c1]).run Try.prog Z = .ok (.tuple #[]) w1 ∧ Z.grownBy w1 (some g) ∧ (0 < l.length → QRow w1 base (.slice (some ⟨g, off + 3, none⟩) l.length (cap - 1)) l) := by
  rcases h with ⟨_, h⟩ | ⟨g', off', c, cs, hv, h1, h2, h3, h4, h5, h6, h7⟩
  · cases h
  · injection hv with e1 e2 e3
    injection e1 with e1
    injection e1 with e4 e5
    subst e3 e4 e5
    rw [List.length_cons] at h4
    have hst := run_storeCells_at Try.prog g off 32 [Value.int .i64 0, .int .i64 0, .string { data := #[] }] 0 cs Z h3 (by simp only [List.length_cons, List.length_nil]; omega) (fun u hu => by
      simp only [List.mem_cons, List.not_mem_nil, or_false] at hu
      rcases hu with rfl | rfl | rfl <;> rfl)
    simp only [Nat.add_zero, List.length_cons, List.length_nil, Nat.zero_add, Nat.reduceAdd] at hst
    have hz : (Builtin.zeroCells (Value.agg #[.int .i64 0, .int .i64 0, .string { data := #[] }]).cells 1).toList = [Value.int .i64 0, .int .i64 0, .string { data := #[] }] := by kernel_rfl
    refine ⟨Z.setRow g (cs.toList.take off ++ [Value.int .i64 0, .int .i64 0, .string { data := #[] }] ++ cs.toList.drop (off + 3)).toArray, ?_, ⟨rfl, rfl, rfl, by simp, fun k _ hk => setRow_other Z g k _ (fun e => hk (by rw [e]))⟩, fun hp => .inr ⟨g, off + 3, cap - 1, _, rfl, hp, h2, setRow_heap Z g cs _ 32 _ h3, by omega, by omega, ?_, fun j u hu => ?_⟩⟩
    · simp [Builtin.clear_, run_underlying Try.underlying28, zero_ev]
      rw [hz, hst]
      simp
    · rw [List.size_toArray, List.length_append, List.length_append, List.length_take, List.length_drop, Array.length_toList]
      simp only [List.length_cons, List.length_nil]
      omega
    · have hj := (List.getElem?_eq_some_iff.1 hu).1
      rw [ecs_length] at hj
      have k := h7 (j + 3) u (by rw [ecs_cons, List.getElem?_append_right (by simp [ec])]; simpa [ec] using hu)
      rw [List.getElem?_toArray, List.getElem?_append_right (by rw [List.length_append, List.length_take, Array.length_toList]; simp only [List.length_cons, List.length_nil]; omega), List.length_append, List.length_take, Array.length_toList, List.getElem?_drop]
      simp only [List.length_cons, List.length_nil]
      rw [Array.getElem?_toList, show off + 3 + (off + 3 + j - (min off cs.size + 3)) = off + (j + 3) from by omega]
      exact k
end Go.Proofs.Ytflnmjiopeoodaa.Que
