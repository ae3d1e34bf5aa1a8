/- Heads as values: their fields in memory; what is told of a head, piece by piece, over whatever the closure keeps. -/
import Derived.Test.YtcohecghibndhaaDoorD
namespace Go.Proofs.YtcohecghibndhaaDoor
open Go.RowKit HeadPlain

/-- A field: its name, its value. -/
abbrev FV := ByteArray × ByteArray
def f0 : FV := (ByteArray.empty, ByteArray.empty)
/-- The two cells of a field lie at the place. -/
def FAt (W : World) (b o : Nat) (x : FV) : Prop :=
  W.cell? ⟨b, o, none⟩ = some (.string x.1) ∧ W.cell? ⟨b, o + 1, none⟩ = some (.string x.2) ∧ x.1.size ≤ maxLen ∧ x.2.size ≤ maxLen
/-- The fields l are the elements of the slice v. -/
def FieldsAt (W : World) (v : Value) (l : List FV) : Prop :=
  ∃ (a : Option Addr) (cap sb so : Nat), v = .slice a l.length cap ∧ l.length ≤ cap ∧ l.length ≤ maxLen ∧ (0 < l.length → a = some ⟨sb, so, none⟩) ∧ ∀ i, i < l.length → FAt W sb (so + i * 2) (l.getD i f0)
theorem FieldsAt.below {w w' : World} {v : Value} {l : List FV} (h : FieldsAt w v l) (hb : Below w.heap.size w w') : FieldsAt w' v l := by
  obtain ⟨a, cap, sb, so, h1, hc, h2, h3, h4⟩ := h
  refine ⟨a, cap, sb, so, h1, hc, h2, h3, fun i hi => ?_⟩
  obtain ⟨g1, g2, g3, g4⟩ := h4 i hi
  have k0 := block_lt_of_cell g1
  exact ⟨by rw [hb.cell (p := ⟨sb, so + i * 2, none⟩) k0]; exact g1, by rw [hb.cell (p := ⟨sb, so + i * 2 + 1, none⟩) k0]; exact g2, g3, g4⟩
/-- A head: its first line's parts, its fields. -/
structure HdV where
  a : ByteArray
  b : ByteArray
  c : ByteArray
  fs : List FV
def fN (f : FV) : List Nat × List Nat := (bytes f.1, bytes f.2)
def HdV.hd (h : HdV) : Hd := ⟨bytes h.a, bytes h.b, bytes h.c, h.fs.map fN⟩
/-- Its value, the fields behind the slice v. -/
def HdV.val (h : HdV) (v : Value) : Value := .agg #[.string h.a, .string h.b, .string h.c, v]
structure HdV.Fit (h : HdV) : Prop where
  a : h.a.size ≤ maxLen
  b : h.b.size ≤ maxLen
  c : h.c.size ≤ maxLen

/-- What the closure that is told pieces keeps. -/
def Keep (W w' : World) : Prop := ∀ (k : Nat) (cs : Array Value) (t : TypeId), (t = 25 ∨ t = 48) → W.heap[k]? = some (.cells cs t (0, 0)) → w'.heap[k]? = some (.cells cs t (0, 0))
theorem Keep.trans {u v w : World} (h : Keep u v) (k : Keep v w) : Keep u w := fun i cs t ht hi => k i cs t ht (h i cs t ht hi)
theorem Keep.alloc {u v : World} (h : Keep u v) (o : Obj) : Keep u (v.alloc o) := fun i cs t ht hi => by
  have := h i cs t ht hi
  rw [alloc_old _ _ _ (Array.getElem?_eq_some_iff.1 this).1]; exact this
theorem Keep.refl (w : World) : Keep w w := fun _ _ _ _ h => h
structure Tells (fid C : Nat) (wB : World) (I : List Nat → World → Prop) : Prop where
  call : ∀ (acc : List Nat) (s : ByteArray) (W : World), I acc W → acc.length + s.size ≤ 10000000 → Calls Tryd.prog fid #[.string s, .pointer (some ⟨C, 0, none⟩)] W fun e (w' : World) => e = .returned (.tuple #[]) ∧ I (acc ++ bytes s) w' ∧ Keep W w'
  alloc : ∀ (acc : List Nat) (W : World) (o : Obj), I acc W → I acc (W.alloc o)
  base : ∀ (acc : List Nat) (W : World), I acc W → Below wB.heap.size wB W
  enter : ∀ (args : Array Value) (W : World), (callFunc fid args).run Tryd.prog W = .ok (.enter fid args) W
theorem Tells.callX {fid C : Nat} {wB : World} {I : List Nat → World → Prop} (h : Tells fid C wB I) (acc acc' : List Nat) (s : ByteArray) (W : World) (hI : I acc W) (hl : acc.length + s.size ≤ 10000000) (he : acc ++ bytes s = acc') :
    Calls Tryd.prog fid #[.string s, .pointer (some ⟨C, 0, none⟩)] W fun e w' => e = .returned (.tuple #[]) ∧ Sl (I acc' w') ∧ Sl (Keep W w') :=
  (h.call acc s W hI hl).mono fun _ _ ⟨he', h1, h2⟩ => ⟨he', ⟨he ▸ h1⟩, ⟨h2⟩⟩

/-- What is told by the k-th field. -/
def told (h : HdV) (k : Nat) : List Nat := join (line1 h.hd :: ((h.fs.take k).map fN).map lineF)
theorem told_zero (h : HdV) : told h 0 = bytes h.a ++ 32 :: (bytes h.b ++ 32 :: (bytes h.c ++ [13, 10])) := by
  simp [told, line1, HdV.hd]
theorem told_succ (h : HdV) (k : Nat) (hk : k < h.fs.length) : told h (k + 1) = told h k ++ (bytes (h.fs.getD k f0).1 ++ 58 :: 32 :: (bytes (h.fs.getD k f0).2 ++ [13, 10])) := by
  unfold told
  rw [List.take_succ_eq_append_getElem hk, List.map_append, List.map_append, ← List.cons_append, join_append]
  have e : h.fs.getD k f0 = h.fs[k] := by simp [List.getD_eq_getElem?_getD, List.getElem?_eq_getElem hk]
  rw [e]
  simp [lineF, fN]
theorem told_all (h : HdV) : told h h.fs.length ++ [13, 10] = text h.hd := by
  unfold told text HdV.hd
  rw [List.take_of_length_le (Nat.le_refl _)]
theorem told_mono (h : HdV) (k : Nat) (hk : k ≤ h.fs.length) : (told h k).length ≤ (text h.hd).length := by
  have key : ∀ d, d ≤ h.fs.length → (told h (h.fs.length - d)).length ≤ (told h h.fs.length).length := by
    intro d
    induction d with
    | zero => intro _; exact Nat.le_refl _
    | succ d ih =>
      intro hd
      have := ih (by omega)
      have e : h.fs.length - d = (h.fs.length - (d + 1)) + 1 := by omega
      rw [e, told_succ h _ (by omega), List.length_append] at this
      omega
  have := key (h.fs.length - k) (by omega)
  rw [show h.fs.length - (h.fs.length - k) = k from by omega] at this
  rw [← told_all, List.length_append]
  omega
/-- What the loop of tell holds to. -/
structure TL (w : World) (I : List Nat → World → Prop) (h : HdV) (v : Value) (B k : Nat) (wr : World) : Prop where
  q : Keep w wr
  i : I (told h k) wr
  x : wr.heap[B]? = some (.cells #[.string h.a, .string h.b, .string h.c, v] 25 (0, 0))
def s32 : ByteArray := { data := #[32] }
def s1310 : ByteArray := { data := #[13, 10] }
def s58 : ByteArray := { data := #[58, 32] }

set_option maxHeartbeats 2000000 in
theorem tell_any (fid C : Nat) (wB : World) (I : List Nat → World → Prop) (hT : Tells fid C wB I) (h : HdV) (v : Value) (w : World) (hI : I [] w) (hv : FieldsAt wB v h.fs) (hL : (text h.hd).length ≤ 1000000) :
    Calls Tryd.prog 27 #[.agg #[.string h.a, .string h.b, .string h.c, v], .func (.func fid) #[] #[.pointer (some ⟨C, 0, none⟩)]] w fun e w' => e = .returned (.tuple #[]) ∧ Sl (I (text h.hd) w') ∧ Sl (Keep w w') := by
  obtain ⟨ad, cap, sb, so, rfl, hcap, hm, had, hcell⟩ := hv
  have HT := Sl.mk hT
  have HCE := Sl.mk hcell
  have HAD := Sl.mk had
  have HL : Sl (∀ k, k ≤ h.fs.length → (told h k).length ≤ 1000000) := ⟨fun k hk => Nat.le_trans (told_mono h k hk) hL⟩
  have L0 : bytes h.a = bytes h.a := rfl
  have HLa : Sl (h.a.size + h.b.size + h.c.size ≤ 1000000) := ⟨by
    have := HL.out 0 (Nat.zero_le _)
    rw [told_zero] at this
    simp only [List.length_append, List.length_cons, bytes_length] at this
    omega⟩
  have HAL : Sl (told h h.fs.length ++ [13, 10] = text h.hd) := ⟨told_all h⟩
  have HI0 : Sl (I [] (w.alloc (.cells #[.string h.a, .string h.b, .string h.c, .slice ad h.fs.length cap] 25))) := ⟨HT.out.alloc _ _ _ hI⟩
  have HX0 : Sl ((w.alloc (.cells #[.string h.a, .string h.b, .string h.c, .slice ad h.fs.length cap] 25)).heap[w.heap.size]? = some (.cells #[.string h.a, .string h.b, .string h.c, .slice ad h.fs.length cap] 25 (0, 0))) := ⟨alloc_new _ _ _ rfl⟩
  have HQ0 : Sl (Keep w (w.alloc (.cells #[.string h.a, .string h.b, .string h.c, .slice ad h.fs.length cap] 25))) := ⟨(Keep.refl _).alloc _⟩
  have hcf := HT.out.enter
  have b32 : Sl (bytes s32 = [32]) := ⟨rfl⟩
  unfold maxLen at hm
  clear hT hcell had hL hI L0
  go_enter Tryd.func27, Tryd.ntmps27
  go_wp2_with fail
  refine (HT.out.callX [] (bytes h.a) h.a _ HI0.out (by simp only [List.length_nil]; have := HLa.out; first | omega | (show _ + 1 ≤ _; omega) | (show _ + 2 ≤ _; omega)) (rfl)).mono ?_
  rintro e w1 ⟨rfl, HI1, HK1⟩
  have HX1 : Sl (w1.heap[w.heap.size]? = some (.cells #[.string h.a, .string h.b, .string h.c, .slice ad h.fs.length cap] 25 (0, 0))) := ⟨HK1.out _ _ _ (Or.inl rfl) HX0.out⟩
  have HQ1 : Sl (Keep w w1) := ⟨HQ0.out.trans HK1.out⟩
  clear HI0 HK1 HX0 HQ0
  go_wp2_with fail
  refine (HT.out.callX (bytes h.a) (bytes h.a ++ [32]) { data := #[32] } _ HI1.out (by simp only [bytes_length]; have := HLa.out; first | omega | (show _ + 1 ≤ _; omega) | (show _ + 2 ≤ _; omega)) (rfl)).mono ?_
  rintro e w2 ⟨rfl, HI2, HK2⟩
  have HX2 : Sl (w2.heap[w.heap.size]? = some (.cells #[.string h.a, .string h.b, .string h.c, .slice ad h.fs.length cap] 25 (0, 0))) := ⟨HK2.out _ _ _ (Or.inl rfl) HX1.out⟩
  have HQ2 : Sl (Keep w w2) := ⟨HQ1.out.trans HK2.out⟩
  clear HI1 HK2 HX1 HQ1
  have d3 : w2.cell? ⟨w.heap.size, 1, none⟩ = some (.string h.b) := by rw [cell_of_row _ _ _ _ _ _ HX2.out]; rfl
  go_wp2_with fail
  refine (HT.out.callX (bytes h.a ++ [32]) (bytes h.a ++ [32] ++ bytes h.b) h.b _ HI2.out (by simp only [List.length_append, List.length_cons, List.length_nil, bytes_length]; have := HLa.out; first | omega | (show _ + 1 ≤ _; omega) | (show _ + 2 ≤ _; omega)) (rfl)).mono ?_
  rintro e w3 ⟨rfl, HI3, HK3⟩
  have HX3 : Sl (w3.heap[w.heap.size]? = some (.cells #[.string h.a, .string h.b, .string h.c, .slice ad h.fs.length cap] 25 (0, 0))) := ⟨HK3.out _ _ _ (Or.inl rfl) HX2.out⟩
  have HQ3 : Sl (Keep w w3) := ⟨HQ2.out.trans HK3.out⟩
  clear HI2 HK3 HX2 HQ2
  clear d3
  go_wp2_with fail
  refine (HT.out.callX (bytes h.a ++ [32] ++ bytes h.b) (bytes h.a ++ [32] ++ bytes h.b ++ [32]) { data := #[32] } _ HI3.out (by simp only [List.length_append, List.length_cons, List.length_nil, bytes_length]; have := HLa.out; first | omega | (show _ + 1 ≤ _; omega) | (show _ + 2 ≤ _; omega)) (rfl)).mono ?_
  rintro e w4 ⟨rfl, HI4, HK4⟩
  have HX4 : Sl (w4.heap[w.heap.size]? = some (.cells #[.string h.a, .string h.b, .string h.c, .slice ad h.fs.length cap] 25 (0, 0))) := ⟨HK4.out _ _ _ (Or.inl rfl) HX3.out⟩
  have HQ4 : Sl (Keep w w4) := ⟨HQ3.out.trans HK4.out⟩
  clear HI3 HK4 HX3 HQ3
  have d5 : w4.cell? ⟨w.heap.size, 2, none⟩ = some (.string h.c) := by rw [cell_of_row _ _ _ _ _ _ HX4.out]; rfl
  go_wp2_with fail
  refine (HT.out.callX (bytes h.a ++ [32] ++ bytes h.b ++ [32]) (bytes h.a ++ [32] ++ bytes h.b ++ [32] ++ bytes h.c) h.c _ HI4.out (by simp only [List.length_append, List.length_cons, List.length_nil, bytes_length]; have := HLa.out; first | omega | (show _ + 1 ≤ _; omega) | (show _ + 2 ≤ _; omega)) (rfl)).mono ?_
  rintro e w5 ⟨rfl, HI5, HK5⟩
  have HX5 : Sl (w5.heap[w.heap.size]? = some (.cells #[.string h.a, .string h.b, .string h.c, .slice ad h.fs.length cap] 25 (0, 0))) := ⟨HK5.out _ _ _ (Or.inl rfl) HX4.out⟩
  have HQ5 : Sl (Keep w w5) := ⟨HQ4.out.trans HK5.out⟩
  clear HI4 HK5 HX4 HQ4
  clear d5
  go_wp2_with fail
  refine (HT.out.callX (bytes h.a ++ [32] ++ bytes h.b ++ [32] ++ bytes h.c) (told h 0) { data := #[13, 10] } _ HI5.out (by simp only [List.length_append, List.length_cons, List.length_nil, bytes_length]; have := HLa.out; first | omega | (show _ + 1 ≤ _; omega) | (show _ + 2 ≤ _; omega)) (by rw [told_zero]; simp only [List.append_assoc]; rfl)).mono ?_
  rintro e w6 ⟨rfl, HI6, HK6⟩
  have HX6 : Sl (w6.heap[w.heap.size]? = some (.cells #[.string h.a, .string h.b, .string h.c, .slice ad h.fs.length cap] 25 (0, 0))) := ⟨HK6.out _ _ _ (Or.inl rfl) HX5.out⟩
  have HQ6 : Sl (Keep w w6) := ⟨HQ5.out.trans HK6.out⟩
  clear HI5 HK6 HX5 HQ5
  have d7 : w6.cell? ⟨w.heap.size, 3, none⟩ = some (.slice ad h.fs.length cap) := by rw [cell_of_row _ _ _ _ _ _ HX6.out]; rfl
  have HTL : Sl (TL w I h (.slice ad h.fs.length cap) w.heap.size 0 w6) := ⟨HQ6.out, HI6.out, HX6.out⟩
  clear HI6 HX6 HQ6
  go_wp2
  go_loopw [30] (fun i wr => ∃ k : Nat, k ≤ h.fs.length ∧ i = .int .i64 k ∧ TL w I h (.slice ad h.fs.length cap) w.heap.size k wr) (fun i _ => h.fs.length - (intOf i).toNat)
  case atStart => exact ⟨0, Nat.zero_le _, rfl, HTL.out⟩
  case round =>
    obtain ⟨k, hk, rfl, hrel⟩ := hrel
    have HR := Sl.mk hrel
    clear hrel HTL
    by_cases hlt : k < h.fs.length
    · obtain rfl := HAD.out (by omega)
      have HB := Sl.mk (HT.out.base _ _ HR.out.i)
      obtain ⟨g1, g2, g3, g4⟩ := HCE.out k hlt
      have HS : Sl (told h (k + 1) = told h k ++ (bytes (h.fs.getD k f0).1 ++ 58 :: 32 :: (bytes (h.fs.getD k f0).2 ++ [13, 10]))) := ⟨told_succ h k hlt⟩
      obtain ⟨f, hf⟩ : ∃ f, h.fs.getD k f0 = f := ⟨_, rfl⟩
      rw [hf] at g1 g2 g3 g4 HS
      clear hf
      obtain ⟨n, x⟩ := f
      simp only at g1 g2 g3 g4 HS
      have HLk : Sl ((told h k).length + n.size + x.size + 4 ≤ 1000000) := ⟨by
        have := HL.out (k + 1) (by omega)
        rw [HS.out] at this
        simp only [List.length_append, List.length_cons, List.length_nil, bytes_length] at this
        omega⟩
      have k0 := block_lt_of_cell g1
      have e0 : wr.cell? ⟨sb, so + k * 2, none⟩ = some (.string n) := by rw [HB.out.cell (p := ⟨sb, so + k * 2, none⟩) k0]; exact g1
      have e1 : wr.cell? ⟨sb, so + k * 2 + 1, none⟩ = some (.string x) := by rw [HB.out.cell (p := ⟨sb, so + k * 2 + 1, none⟩) k0]; exact g2
      have hk0 : (0 : Int) ≤ (k : Int) := by omega
      have hk1 : (k : Int) < (h.fs.length : Int) := by omega
      clear g1 g2 g3 g4 k0
      have HR0 : Sl (Keep w (wr.alloc (.cells #[.string n, .string x] 48))) := ⟨HR.out.q.alloc _⟩
      have HJ0 : Sl (I (told h k) (wr.alloc (.cells #[.string n, .string x] 48))) := ⟨HT.out.alloc _ _ _ HR.out.i⟩
      have HX0 : Sl ((wr.alloc (.cells #[.string n, .string x] 48)).heap[w.heap.size]? = some (.cells #[.string h.a, .string h.b, .string h.c, .slice (some ⟨sb, so, none⟩) h.fs.length cap] 25 (0, 0))) := ⟨by rw [alloc_old _ _ _ (Array.getElem?_eq_some_iff.1 HR.out.x).1]; exact HR.out.x⟩
      have HY0 : Sl ((wr.alloc (.cells #[.string n, .string x] 48)).heap[wr.heap.size]? = some (.cells #[.string n, .string x] 48 (0, 0))) := ⟨alloc_new _ _ _ rfl⟩
      go_wp2_with fail
      refine (HT.out.callX (told h k) (told h k ++ bytes n) n _ HJ0.out (by have := HLk.out; first | omega | (show _ + 2 ≤ _; omega)) (rfl)).mono ?_
      rintro e v1 ⟨rfl, HJ1, HK1⟩
      have HX1 : Sl (v1.heap[w.heap.size]? = some (.cells #[.string h.a, .string h.b, .string h.c, .slice (some ⟨sb, so, none⟩) h.fs.length cap] 25 (0, 0))) := ⟨HK1.out _ _ _ (Or.inl rfl) HX0.out⟩
      have HR1 : Sl (Keep w v1) := ⟨HR0.out.trans HK1.out⟩
      have HY1 : Sl (v1.heap[wr.heap.size]? = some (.cells #[.string n, .string x] 48 (0, 0))) := ⟨HK1.out _ _ _ (Or.inr rfl) HY0.out⟩
      clear HJ0 HK1 HX0 HY0 HR0
      clear e0 e1
      go_wp2_with fail
      refine (HT.out.callX ((told h k ++ bytes n)) (told h k ++ bytes n ++ [58, 32]) { data := #[58, 32] } _ HJ1.out (by simp only [List.length_append, bytes_length]; have := HLk.out; first | omega | (show _ + 2 ≤ _; omega)) (rfl)).mono ?_
      rintro e v2 ⟨rfl, HJ2, HK2⟩
      have HX2 : Sl (v2.heap[w.heap.size]? = some (.cells #[.string h.a, .string h.b, .string h.c, .slice (some ⟨sb, so, none⟩) h.fs.length cap] 25 (0, 0))) := ⟨HK2.out _ _ _ (Or.inl rfl) HX1.out⟩
      have HR2 : Sl (Keep w v2) := ⟨HR1.out.trans HK2.out⟩
      have HY2 : Sl (v2.heap[wr.heap.size]? = some (.cells #[.string n, .string x] 48 (0, 0))) := ⟨HK2.out _ _ _ (Or.inr rfl) HY1.out⟩
      clear HJ1 HK2 HX1 HY1 HR1
      have r3 : v2.cell? ⟨wr.heap.size, 1, none⟩ = some (.string x) := by rw [cell_of_row _ _ _ _ _ _ HY2.out]; rfl
      go_wp2_with fail
      refine (HT.out.callX ((told h k ++ bytes n ++ [58, 32])) (told h k ++ bytes n ++ [58, 32] ++ bytes x) x _ HJ2.out (by simp only [List.length_append, List.length_cons, List.length_nil, bytes_length]; have := HLk.out; first | omega | (show _ + 2 ≤ _; omega)) (rfl)).mono ?_
      rintro e v3 ⟨rfl, HJ3, HK3⟩
      have HX3 : Sl (v3.heap[w.heap.size]? = some (.cells #[.string h.a, .string h.b, .string h.c, .slice (some ⟨sb, so, none⟩) h.fs.length cap] 25 (0, 0))) := ⟨HK3.out _ _ _ (Or.inl rfl) HX2.out⟩
      have HR3 : Sl (Keep w v3) := ⟨HR2.out.trans HK3.out⟩
      have HY3 : Sl (v3.heap[wr.heap.size]? = some (.cells #[.string n, .string x] 48 (0, 0))) := ⟨HK3.out _ _ _ (Or.inr rfl) HY2.out⟩
      clear HJ2 HK3 HX2 HY2 HR2
      clear r3
      go_wp2_with fail
      refine (HT.out.callX ((told h k ++ bytes n ++ [58, 32] ++ bytes x)) (told h (k + 1)) { data := #[13, 10] } _ HJ3.out (by simp only [List.length_append, List.length_cons, List.length_nil, bytes_length]; have := HLk.out; first | omega | (show _ + 2 ≤ _; omega)) (by rw [HS.out]; simp only [List.append_assoc]; rfl)).mono ?_
      rintro e v4 ⟨rfl, HJ4, HK4⟩
      have HX4 : Sl (v4.heap[w.heap.size]? = some (.cells #[.string h.a, .string h.b, .string h.c, .slice (some ⟨sb, so, none⟩) h.fs.length cap] 25 (0, 0))) := ⟨HK4.out _ _ _ (Or.inl rfl) HX3.out⟩
      have HR4 : Sl (Keep w v4) := ⟨HR3.out.trans HK4.out⟩
      have HY4 : Sl (v4.heap[wr.heap.size]? = some (.cells #[.string n, .string x] 48 (0, 0))) := ⟨HK4.out _ _ _ (Or.inr rfl) HY3.out⟩
      clear HJ3 HK4 HX3 HY3 HR3
      go_wp2
      refine ⟨⟨k + 1, by omega, by go_num, HR4.out, HJ4.out, HX4.out⟩, by simp [intOf]; omega⟩
    · have hge : ((k : Int) < (h.fs.length : Int)) = False := eq_false (by omega)
      obtain rfl : k = h.fs.length := by omega
      go_wp2_with fail
      refine (HT.out.callX (told h h.fs.length) (text h.hd) { data := #[13, 10] } _ HR.out.i (by have := HL.out _ (Nat.le_refl _); show _ + 2 ≤ _; omega) (by rw [← HAL.out]; rfl)).mono ?_
      rintro e v1 ⟨rfl, HI1, HK1⟩
      go_wp2
      go_end0
      exact ⟨rfl, HI1, ⟨HR.out.q.trans HK1.out⟩⟩
end Go.Proofs.YtcohecghibndhaaDoor
