/- cut: slices of frames copied and cut; Bytes and Join in the form that the laws use. -/
import Derived.Test.YtimndpmbgfoofaaDoorCH
import Derived.Test.YtimndpmbgfoofaaDoorMgE
set_option maxRecDepth 100000
namespace Go.Proofs.YtimndpmbgfoofaaDoor.Cut
open Go.RowKit MaskPlain Mas Fra Stm CutPlain
open FramePlain (Fr Fr0 form chk ctl zero4)

theorem own_made (w : World) (base : Nat) (hb : base ≤ w.heap.size) : OwnR (w.alloc (.cells #[] 44)) base (.slice (some ⟨w.heap.size, 0, none⟩) 0 0) [] :=
  World.ownsRow_made w #[] 0 hb (by unfold maxLen; omega) rfl
/-- Frames appended to nothing: a copy. -/
theorem copy_frs (W : World) (u : Value) (gs : List Fr) (n : Nat) (hu : FrsAt W u gs) (hn : gs.length = n) (hl : n ≤ 1000000) : ∃ a c w1, (Builtin.append_ #[23, 23] 23 #[.slice (some ⟨W.heap.size, 0, none⟩) 0 0, u]).run Tryd.prog (W.alloc (.cells #[] 44)) = .ok (.slice a n c) w1 ∧
    Sl (OwnR w1 W.heap.size (.slice a n c) gs) ∧ Sl (Below W.heap.size W w1) := by
  have hB : Below W.heap.size W (W.alloc (.cells #[] 44)) := (Below.refl _ _).alloc (Nat.le_refl _) _
  have ho := own_made W W.heap.size (Nat.le_refl _)
  obtain ⟨v1, w1, h1, h2, h3, _⟩ := add_frs ho (hu.below hB) (by simp; omega) hB.size
  rw [List.nil_append] at h2
  obtain ⟨a, c, rfl⟩ := h2.slice
  rw [hn] at h1 h2
  exact ⟨a, c, w1, h1, ⟨h2⟩, ⟨ho.keeps hB h3 (Nat.le_refl _) hB.size⟩⟩
/-- Where a slice of frames begins, from a place on. -/
def fromF (a : Option Addr) (k cap : Nat) : Option Addr := if cap = k then a else a.map (·.add (k * 8))
theorem size44 (V : World) : (sizeOf 44).run Tryd.prog V = .ok 8 V := by
  obtain ⟨i0, hi, hz0, hz1, hz2⟩ := info43
  simp [sizeOf, typeInfo, hi, hz1]
theorem fslice_to (V : World) (a : Option Addr) (n cap k : Nat) (hk : k ≤ cap) : (Instr.slice 23 (.slice a n cap) none (some (.int .i64 (k : Int))) none).run Tryd.prog V = .ok (.slice a k cap) V := by
  rw [run_slice_h (ht := Tryd.underlying23) (h0 := by omega) (h2 := by omega), show Tryd.prog.elem 23 = 44 from rfl, size44]
  cases a <;> simp [Result.andThen, sliced, Addr.add]
theorem fslice_from (V : World) (a : Option Addr) (n cap k : Nat) (hk : k ≤ n) : (Instr.slice 23 (.slice a n cap) (some (.int .i64 (k : Int))) none none).run Tryd.prog V = .ok (.slice (fromF a k cap) (n - k) (cap - k)) V := by
  rw [run_slice_l (ht := Tryd.underlying23) (h0 := by omega) (h1 := by omega), show Tryd.prog.elem 23 = 44 from rfl, size44]
  simp [Result.andThen, sliced, fromF]
theorem FrsAt.to {W : World} {a : Option Addr} {n cap k : Nat} {fs : List Fr} (h : FrsAt W (.slice a n cap) fs) (hk : k ≤ n) : FrsAt W (.slice a k cap) (fs.take k) := by
  obtain ⟨a', c', sb, so, he, h1, h2, h3⟩ := h
  injection he with e1 e2 e3
  subst e1 e2 e3
  have hl : (fs.take k).length = k := by rw [List.length_take]; omega
  refine ⟨a, cap, sb, so, by rw [hl], by rw [hl]; omega, fun hp => h2 (by rw [hl] at hp; omega), fun i hi j hj => ?_⟩
  rw [hl] at hi
  rw [h3 i (by omega) j hj]
  congr 2
  rw [List.getD_eq_getElem?_getD, List.getD_eq_getElem?_getD, List.getElem?_take_of_lt hi]
theorem FrsAt.from {W : World} {a : Option Addr} {n cap k : Nat} {fs : List Fr} (h : FrsAt W (.slice a n cap) fs) (hk : k ≤ n) : FrsAt W (.slice (fromF a k cap) (n - k) (cap - k)) (fs.drop k) := by
  obtain ⟨a', c', sb, so, he, h1, h2, h3⟩ := h
  injection he with e1 e2 e3
  subst e1 e2 e3
  have hl : (fs.drop k).length = fs.length - k := List.length_drop ..
  refine ⟨_, _, sb, so + k * 8, by rw [hl], by rw [hl]; omega, fun hp => ?_, fun i hi j hj => ?_⟩
  · rw [hl] at hp
    unfold fromF
    rw [if_neg (by omega), h2 (by omega), Option.map_some, Addr.add_mid]
  · rw [hl] at hi
    have h4 := h3 (k + i) (by omega) j hj
    rw [show so + (k + i) * 8 + j = so + k * 8 + i * 8 + j from by omega] at h4
    rw [h4]
    congr 2
    rw [List.getD_eq_getElem?_getD, List.getD_eq_getElem?_getD, List.getElem?_drop]
theorem bytes_ok (fs : List Fr) (B : List Nat) (n : Nat) (v : Value) (w : World) (hg : Mas.Globs w) (hv : FrsAt w v fs) (ok : ∀ f ∈ fs, FrOk f) (hz : 14 * fs.length + (dataOf fs).length ≤ 1000000) (hb : bytesF fs = (B, 0)) (hn : B.length = n) :
    Calls Tryd.prog 19 #[v] w fun e w' => ∃ a c, e = .returned (.tuple #[.slice a n c, .int .i64 0]) ∧ Sl (w'.ownsRow w.heap.size 5 1 (.slice a n c) n (u8s B)) ∧ Sl (Below w.heap.size w w') := by
  refine (bytes_any fs v w hg hv ok hz).mono ?_
  rintro e w' ⟨a, n', c, rfl, h1, h2, _, h4⟩
  rw [hb] at h1 h2
  obtain rfl : n = n' := by rw [← hn]; exact h1
  exact ⟨a, c, by rw [hb]; rfl, h2 rfl, h4⟩
theorem bytes_err (fs : List Fr) (k : Nat) (v : Value) (w : World) (hg : Mas.Globs w) (hv : FrsAt w v fs) (ok : ∀ f ∈ fs, FrOk f) (hz : 14 * fs.length + (dataOf fs).length ≤ 1000000) (hb : (bytesF fs).2 = k) (hk : k ≠ 0) :
    Calls Tryd.prog 19 #[v] w fun e w' => e = .returned (.tuple #[.slice none 0 0, .int .i64 (k : Int)]) ∧ Sl (Below w.heap.size w w') := by
  subst hb
  refine (bytes_any fs v w hg hv ok hz).mono ?_
  rintro e w' ⟨a, n', c, rfl, _, _, h3, h4⟩
  rw [h3 hk]
  exact ⟨rfl, h4⟩
theorem own_str {W : World} {base n : Nat} {a : Option Addr} {c : Nat} {B : List Nat} (h : W.ownsRow base 5 1 (.slice a n c) n (u8s B)) (hn : B.length = n) : (convert 36 9 (.slice a n c)).run Tryd.prog W = .ok (.string (strOf B)) W := by
  subst hn; exact Msg.own_conv h
theorem data_few : ∀ (fs : List Fr), (∀ f ∈ fs, (strOf f.data).size ≤ 300) → (dataOf fs).length ≤ 300 * fs.length
  | [], _ => Nat.le_refl _
  | f :: fs, h => by
    have h1 := h f (by simp)
    rw [strOf_size] at h1
    have h2 := data_few fs (fun g hg => h g (by simp [hg]))
    rw [dataOf_cons, List.length_append, List.length_cons]
    omega
/-- Few frames are few bytes; so are some of them. -/
theorem few_room {fs : List Fr} (h : Msg.fewF fs = true) : 14 * fs.length + (dataOf fs).length ≤ 10000 ∧ fs.length ≤ 30 := by
  obtain ⟨h1, h2⟩ := Msg.few_all h
  have h3 := data_few fs h1
  omega
theorem room_take {fs : List Fr} {N : Nat} (h : 14 * fs.length + (dataOf fs).length ≤ N) (k : Nat) : 14 * (fs.take k).length + (dataOf (fs.take k)).length ≤ N := by
  have h1 := dataOf_take_le fs k
  rw [List.length_take]; omega
theorem room_drop {fs : List Fr} {N : Nat} (h : 14 * fs.length + (dataOf fs).length ≤ N) (k : Nat) : 14 * (fs.drop k).length + (dataOf (fs.drop k)).length ≤ N := by
  have h1 := congrArg List.length (dataOf_append (fs.take k) (fs.drop k))
  rw [List.take_append_drop, List.length_append] at h1
  rw [List.length_drop]; omega
theorem bytesF_parts (fs : List Fr) (k : Nat) : bytesF fs = if (bytesF (fs.take k)).2 ≠ 0 then ([], (bytesF (fs.take k)).2) else if (bytesF (fs.drop k)).2 ≠ 0 then ([], (bytesF (fs.drop k)).2) else ((bytesF (fs.take k)).1 ++ (bytesF (fs.drop k)).1, 0) := by
  rw [← bytesF_append, List.take_append_drop]
theorem bytesF_len {fs : List Fr} (ok : ∀ f ∈ fs, FrOk f) (h : (bytesF fs).2 = 0) (hz : 14 * fs.length + (dataOf fs).length ≤ 1000000) : (bytesF fs).1.length ≤ 14 * fs.length + (dataOf fs).length := by
  have hc : ∀ j, j < fs.length → chk (fs.getD j Fr0) = 0 := by
    induction fs with
    | nil => intro j hj; simp at hj
    | cons f fs ih =>
      unfold bytesF at h
      by_cases h1 : chk f ≠ 0
      · rw [if_pos h1] at h; exact absurd h h1
      rw [if_neg h1] at h
      by_cases h2 : (bytesF fs).2 ≠ 0
      · rw [if_pos h2] at h; exact absurd h h2
      intro j hj
      match j, hj with
      | 0, _ => simpa using h1
      | j + 1, hj =>
        rw [List.getD_cons_succ]
        exact ih (fun g hg => ok g (by simp [hg])) (by omega) (by rw [List.length_cons, dataOf_cons, List.length_append] at hz; omega) j (by simpa using hj)
  rw [bytesF_all fs hc]
  show (texts fs).length ≤ _
  rw [texts_len fs ok (by omega)]
  exact sumZ_le fs
end Go.Proofs.YtimndpmbgfoofaaDoor.Cut
