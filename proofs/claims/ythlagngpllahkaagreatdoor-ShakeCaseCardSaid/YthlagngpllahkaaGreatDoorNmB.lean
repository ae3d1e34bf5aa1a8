/- The parts of values: each piece between commas, without the blanks round it, where there is more than blanks; told one by one by the function that parts hands back. -/
import Derived.Test.YthlagngpllahkaaGreatDoorNmA
import Derived.Shelf.Strings.SlTrimAscii
import Derived.Maps.OwnIn
import Derived.Maps.AppendAt
set_option maxRecDepth 100000
namespace Go.Proofs.YthlagngpllahkaaGreatDoor.Nam
open Go.RowKit Go.Shelf HeadPlain Flow

attribute [local go_sem] Oper.semAt_some

def trimS (s : ByteArray) : ByteArray := ⟨(Lib.trimS s.data.toList [32, 9]).toArray⟩
theorem trimS_bytes (s : ByteArray) : bytes (trimS s) = trim (bytes s) := libtrim s.data.toList
theorem ltrim_le (l : List Nat) : (ltrim l).length ≤ l.length := by
  induction l with
  | nil => simp [ltrim]
  | cons x l ih => rw [ltrim]; split <;> simp <;> omega
theorem trim_le (l : List Nat) : (trim l).length ≤ l.length := by
  unfold trim
  rw [List.length_reverse]
  refine Nat.le_trans (ltrim_le _) ?_
  rw [List.length_reverse]
  exact ltrim_le _
theorem trimS_le (s : ByteArray) : (trimS s).size ≤ s.size := by
  rw [← bytes_length, ← bytes_length, trimS_bytes]; exact trim_le _
theorem trim_laid (x : ByteArray) (V : World) (hx : x.size ≤ maxLen) : Calls Tryz.prog 115 #[.string x, .string { data := #[32, 9] }] V fun e w' => e = .returned (.string (trimS x)) ∧ Below V.heap.size V w' :=
  Any.strings_Trim_laid Tryz.lays160 (by kernel_rfl) x { data := #[32, 9] } V (by unfold maxLen at hx; omega) (by decide) (ascii_of_all (by decide))
/-- What is told of pieces; of values. -/
def tellC (l : List ByteArray) : List ByteArray := (l.map trimS).filter fun t => decide (0 < t.size)
def tell (l : List ByteArray) : List ByteArray := l.flatMap fun s => tellC (cuts s)
theorem tellC_yes (pre : List ByteArray) {x : ByteArray} (h : 0 < (trimS x).size) : tellC (pre ++ [x]) = tellC pre ++ [trimS x] := by
  unfold tellC; rw [List.map_append, List.filter_append]; simp [h]
theorem tellC_no (pre : List ByteArray) {x : ByteArray} (h : ¬ 0 < (trimS x).size) : tellC (pre ++ [x]) = tellC pre := by
  unfold tellC; rw [List.map_append, List.filter_append]; simp [h]
theorem tellC_prefix {a b : List ByteArray} (h : a <+: b) : tellC a <+: tellC b := by
  obtain ⟨c, rfl⟩ := h
  unfold tellC
  rw [List.map_append, List.filter_append]
  exact List.prefix_append _ _
theorem tell_snoc (l : List ByteArray) (s : ByteArray) : tell (l ++ [s]) = tell l ++ tellC (cuts s) := by unfold tell; rw [List.flatMap_append]; simp
theorem take_snoc' {l : List ByteArray} {k : Nat} (h : k < l.length) : l.take (k + 1) = l.take k ++ [l.getD k ByteArray.empty] := by
  rw [List.take_succ_eq_append_getElem h, List.getD_eq_getElem?_getD, List.getElem?_eq_getElem h]; rfl
theorem tell_take (l : List ByteArray) (k : Nat) : tell (l.take k) <+: tell l := by
  conv => rhs; rw [← List.take_append_drop k l]
  unfold tell
  rw [List.flatMap_append]
  exact List.prefix_append _ _
theorem tell_step {l : List ByteArray} {k : Nat} (h : k < l.length) {pre : List ByteArray} (hp : pre <+: cuts (l.getD k ByteArray.empty)) : tell (l.take k) ++ tellC pre <+: tell l := by
  refine List.IsPrefix.trans ?_ (tell_take l (k + 1))
  rw [take_snoc' h, tell_snoc]
  exact (List.prefix_append_right_inj _).2 (tellC_prefix hp)
/-- The strings l are the elements of the slice v, in a block below n₀. -/
def StrB (n₀ : Nat) (W : World) (v : Value) (l : List ByteArray) : Prop :=
  ∃ (a : Option Addr) (cap sb so : Nat), v = .slice a l.length cap ∧ (0 < l.length → a = some ⟨sb, so, none⟩ ∧ sb < n₀) ∧ ∀ i, i < l.length → W.cell? ⟨sb, so + i, none⟩ = some (.string (l.getD i ByteArray.empty))

theorem splitSeq_any (s : ByteArray) (w : World) : Calls Tryz.prog 152 #[.string s, .string comma] w fun e w' =>
    e = .returned (.func (.func 187) #[] #[.pointer (some ⟨w.heap.size + 1, 0, none⟩), .pointer (some ⟨w.heap.size, 0, none⟩), .pointer (some ⟨w.heap.size + 2, 0, none⟩)]) ∧
    Sl (Box w' w.heap.size 9 (.string s)) ∧ Sl (Box w' (w.heap.size + 1) 9 (.string comma)) ∧ Sl (Box w' (w.heap.size + 2) 3 (.int .i64 0)) ∧ Sl (w'.heap.size = w.heap.size + 3) ∧ Sl (Below w.heap.size w w') := by
  have H38 : Sl (Calls Tryz.prog 173 #[.string s, .string comma, .int .i64 0] w fun e w' => e = .returned (.func (.func 187) #[] #[.pointer (some ⟨w.heap.size + 1, 0, none⟩), .pointer (some ⟨w.heap.size, 0, none⟩), .pointer (some ⟨w.heap.size + 2, 0, none⟩)]) ∧
      w' = ((w.alloc (.cells #[.string s] 9)).alloc (.cells #[.string comma] 9)).alloc (.cells #[.int .i64 0] 3)) := ⟨by
    go_enter Tryz.func173, Tryz.ntmps173
    go_wp2
    go_ret
    exact ⟨rfl, rfl⟩⟩
  go_enter Tryz.func152, Tryz.ntmps152
  go_wp2_with (go_at_call 173; refine H38.out.mono ?_; rintro e w' ⟨rfl, hw⟩)
  have HW := Sl.mk hw
  clear hw
  go_ret
  refine ⟨rfl, ?_⟩
  clear HW
  have b0 : Box (((w.alloc (.cells #[.string s] 9)).alloc (.cells #[.string comma] 9)).alloc (.cells #[.int .i64 0] 3)) w.heap.size 9 (.string s) := ((Boxed.new w 9 (.string s)).alloc _).alloc _
  have b1 : Box (((w.alloc (.cells #[.string s] 9)).alloc (.cells #[.string comma] 9)).alloc (.cells #[.int .i64 0] 3)) (w.heap.size + 1) 9 (.string comma) := by
    have := (Boxed.new (w.alloc (.cells #[.string s] 9)) 9 (.string comma)).alloc (.cells #[.int .i64 0] 3)
    rw [World.size_alloc] at this; exact this
  have b2 : Box (((w.alloc (.cells #[.string s] 9)).alloc (.cells #[.string comma] 9)).alloc (.cells #[.int .i64 0] 3)) (w.heap.size + 2) 3 (.int .i64 0) := by
    have := Boxed.new ((w.alloc (.cells #[.string s] 9)).alloc (.cells #[.string comma] 9)) 3 (.int .i64 0)
    rw [World.size_alloc, World.size_alloc] at this; exact this
  exact ⟨⟨b0⟩, ⟨b1⟩, ⟨b2⟩, ⟨by simp⟩, ⟨(((Below.refl _ w).alloc (Nat.le_refl _) _).alloc (by simp) _).alloc (by simp; omega) _⟩⟩

/-- The blocks of statements that were left before lie as they lay. -/
theorem foot_marks {β : Type} {n₀ : Nat} (ds : List Nat) : Foot (β := β) n₀ (fun X _ W => ∀ D, D ∈ ds → W.heap[D]? = some (.deferred (some [])) ∧ ¬ X D) :=
  ⟨fun hj ht D hD => ⟨(ht.block D (lt_of_some (hj D hD).1) (fun e => (hj D hD).2 e.1)).trans (hj D hD).1, (hj D hD).2⟩, fun hj hy D hD => ⟨(hj D hD).1, fun e => by
    rcases hy D e with h | h
    · exact (hj D hD).2 h
    · have := lt_of_some (hj D hD).1; omega⟩⟩
theorem foot_or {β : Type} {n₀ : Nat} {J : (Nat → Prop) → β → World → Prop} (h : Foot n₀ J) (Y : Nat → Prop) : Foot n₀ (fun Z s W => J (fun r => Y r ∨ Z r) s W) :=
  ⟨fun hj ht => h.kept hj (ht.mono (fun _ => .inr)), fun hj hy => h.wide hj (fun r hr => by
    rcases hr with hr | hr
    · exact .inl (.inl hr)
    · exact (hy r hr).imp .inr id)⟩
theorem foot_at {β γ : Type} {n₀ : Nat} {J : (Nat → Prop) → β → World → Prop} (h : Foot n₀ J) (f : γ → β) : Foot n₀ (fun Z s W => J Z (f s) W) := ⟨fun hj ht => h.kept hj ht, fun hj hy => h.wide hj hy⟩
/-- Between two values. -/
structure Rel30 (n₀ bv by_ l0 : Nat) (J : (Nat → Prop) → List ByteArray → World → Prop) (l : List ByteArray) (W : World) (k : Nat) (ds : List Nat) (Y : Nat → Prop) (W' : World) : Prop where
  hbv : Y bv
  lt : ∀ r, Y r → r < W'.heap.size
  nby : Y by_
  J : J Y (tell (l.take k)) W'
  box : W'.heap[by_]? = some (.cells #[.func (.yield l0) #[] #[]] 71 (0, 0))
  nd : ds.Nodup
  marks : ∀ D, D ∈ ds → W'.heap[D]? = some (.deferred (some [])) ∧ Y D ∧ n₀ ≤ D
  below : Below n₀ W W'
/-- Within a value: what holds between two pieces. -/
def In30 (sz n₀ by_ l0 : Nat) (J : (Nat → Prop) → List ByteArray → World → Prop) (l : List ByteArray) (W : World) (k : Nat) (ds : List Nat) (Y : Nat → Prop) (Z : Nat → Prop) (pre : List ByteArray) (W' : World) : Prop :=
  J (fun r => Y r ∨ Z r) (tell (l.take k) ++ tellC pre) W' ∧ (W'.heap[by_]? = some (.cells #[.func (.yield l0) #[] #[]] 71 (0, 0)) ∧ ¬ Z by_) ∧ (∀ D, D ∈ ds → W'.heap[D]? = some (.deferred (some [])) ∧ ¬ Z D) ∧ Below n₀ W W' ∧ sz ≤ W'.heap.size
theorem foot_size {β : Type} {n₀ : Nat} (sz : Nat) : Foot (β := β) n₀ (fun _ _ W => sz ≤ W.heap.size) := ⟨fun h ht => Nat.le_trans h ht.size, fun h _ => h⟩
theorem foot_In30 {sz n₀ by_ l0 : Nat} {J : (Nat → Prop) → List ByteArray → World → Prop} (hJ : Foot n₀ J) (l : List ByteArray) (W : World) (hW : n₀ ≤ W.heap.size) (k : Nat) (ds : List Nat) (Y : Nat → Prop) : Foot n₀ (In30 sz n₀ by_ l0 J l W k ds Y) :=
  (foot_at (foot_or hJ Y) _).and ((Foot.block by_ (fun _ => _)).and ((foot_marks ds).and ((Foot.below hW).and (foot_size sz))))
def Stop30 (Jx : (Nat → Prop) → List ByteArray → World → Prop) (l : List ByteArray) (ds : List Nat) (Y : Nat → Prop) (c : Code) (Z : Nat → Prop) (_ : List ByteArray) (W' : World) : Prop :=
  (c = .ret ∧ ∃ q, q <+: tell l ∧ Jx (fun r => Y r ∨ Z r) q W') ∧ (∀ D, D ∈ ds → W'.heap[D]? = some (.deferred (some [])) ∧ ¬ Z D)
theorem foot_Stop30 {n₀ : Nat} {Jx : (Nat → Prop) → List ByteArray → World → Prop} (hJ : Foot n₀ Jx) (l : List ByteArray) (ds : List Nat) (Y : Nat → Prop) (c : Code) : Foot n₀ (Stop30 Jx l ds Y c) :=
  Foot.and ⟨fun ⟨h1, q, h2, h3⟩ ht => ⟨h1, q, h2, hJ.kept h3 (ht.mono (fun _ => .inr))⟩, fun ⟨h1, q, h2, h3⟩ hy => ⟨h1, q, h2, (foot_or hJ Y).wide h3 hy⟩⟩ (foot_marks ds)

theorem yield_depth {n m : Nat} {P : Program} {l : Nat} {args : Array Value} {W : World} {R : Ending → World → Prop} (h : YieldAt Fence.wide n P l args W R) : YieldAt Fence.wide m P l args W R := by
  obtain ⟨fn, tmps, assign, body, hy, h1, h2⟩ := h
  exact ⟨fn, tmps, assign, body, hy, h1, fun c cs _ => h2 c cs (room_wide _)⟩
set_option maxRecDepth 100000 in
set_option maxHeartbeats 4000000 in
theorem parts1_seq (n : Nat) (hn : 12 ≤ n) (n₀ bv : Nat) (l : List ByteArray) (v : Value) (w : World) (hl : l.length ≤ 1000000) (hs : ∀ s ∈ l, s.size ≤ maxLen) (hb : n₀ ≤ bv)
    (h0 : Box w bv 28 v) (hv : StrB n₀ w v l) :
    SeqX Fence.wide n Tryz.prog 151 #[.pointer (some ⟨bv, 0, none⟩)] (fun x : ByteArray => #[Value.string x]) n₀ (fun r => r = bv) (tell l) w := by
  intro l0 J Jx W hW fJ fJx hY hJ
  replace h0 := Box.below h0 hW
  obtain ⟨ad, ca, sa, oa, rfl, hA1, hA2⟩ := hv
  have hB0 : Sl (Below w.heap.size w W) := ⟨hW⟩
  have hcell : ∀ i, i < l.length → W.cell? ⟨sa, oa + i, none⟩ = some (.string (l.getD i ByteArray.empty)) := fun i hi => by
    rw [hW.cell (p := ⟨sa, oa + i, none⟩) (block_lt_of_cell (hA2 i hi))]; exact hA2 i hi
  have HA := Sl.mk hA1
  have HCE := Sl.mk hcell
  have HSZ := Sl.mk hs
  clear hA1 hA2 hcell hs hW
  have HFJ := Sl.mk fJ
  have HFX := Sl.mk fJx
  have HYY := Sl.mk hY
  clear fJ fJx hY
  have hF31 : Fence.wide.fn 152 := trivial
  have hF32 : Fence.wide.fn 115 := trivial
  have hn1 : 1 ≤ n := by omega
  have c0 := (Boxed.alloc h0 (.cells #[.func (.yield l0) #[] #[]] 71)).cell
  have hnW : n₀ < W.heap.size := by have := h0.lt; omega
  obtain ⟨m, hm⟩ : ∃ m, l.length = m := ⟨_, rfl⟩
  have HM := Sl.mk hm
  rw [hm] at hl c0
  clear hm
  refine callsIn_of_wp_marks Tryz.func151 rfl trivial ?_ rfl
  simp only [Tryz.ntmps151, List.size_toArray, List.length_cons, List.length_nil, Nat.reduceAdd, Nat.reduceSub, Array.replicate_succ, Array.replicate_zero, List.push_toArray, List.append_toArray, List.nil_append, List.cons_append]
  gi_wp2
  obtain ⟨by_, hby⟩ : ∃ b, W.heap.size = b := ⟨_, rfl⟩
  have HBY := Sl.mk hby
  have hbx := Boxed.new W 71 (.func (.yield l0) #[] #[])
  obtain ⟨W1, hW1⟩ : ∃ W1, W.alloc (.cells #[.func (.yield l0) #[] #[]] 71) = W1 := ⟨_, rfl⟩
  have HB1 : Sl (Below n₀ W W1) := ⟨by rw [← hW1]; exact (Below.refl n₀ W).alloc (by omega) _⟩
  have HJ1 : Sl (J (fun r => r = bv ∨ r = by_) [] W1) := ⟨by
    rw [← hW1]
    exact HFJ.out.kept (HFJ.out.wide hJ (fun r hr => hr.imp id (fun e => by omega))) (Turn.alloc _ _ _ _)⟩
  have HZ1 : Sl (W1.heap.size = by_ + 1) := ⟨by rw [← hW1, World.size_alloc, hby]⟩
  have hlt0 := h0.lt
  rw [hby] at hbx hlt0 ⊢
  rw [hW1] at hbx ⊢
  have HBX := Sl.mk hbx
  have HN : Sl (n₀ ≤ W.heap.size) := ⟨by omega⟩
  clear hW1 hbx hby c0 h0 hJ hB0
  refine wpIn_loop (fun a' w' => ∃ (k : Nat) (ds : List Nat) (Y : Nat → Prop) (u4 u5 u9 u10 u11 u12 u13 u14 u15 u16 u17 u18 u19 u20 u21 u22 u23 u24 u25 : Value), k ≤ m ∧
      a' = { tmps := #[.func (.yield l0) #[] #[], .pointer (some ⟨bv, 0, none⟩), .pointer (some ⟨by_, 0, none⟩), undef, u4, u5, .slice ad m ca, .int .i64 m, .int .i64 k, u9, u10, u11, u12, u13, u14, u15, u16, u17, u18, u19, u20, u21, u22, u23, u24, u25], defers := ds.map markOf } ∧ Sl (Rel30 n₀ bv by_ l0 J l W k ds Y w'))
    (fun a' _ => m - (intOf (a'.tmps.getD 8 undef)).toNat) ?_ ?_
  · exact ⟨0, [], fun r => r = bv ∨ r = by_, _, _, _, _, _, _, _, _, _, _, _, _, _, _, _, _, _, _, _, Nat.zero_le _, rfl, ⟨⟨.inl rfl, fun r hr => by rw [HZ1.out]; rcases hr with hr | hr <;> omega, .inr rfl, HJ1.out, HBX.out, List.nodup_nil, (fun D hD => by cases hD), HB1.out⟩⟩⟩
  · rintro a' wr ⟨k, ds, Y, u4, u5, u9, u10, u11, u12, u13, u14, u15, u16, u17, u18, u19, u20, u21, u22, u23, u24, u25, hk, rfl, HR⟩
    by_cases hlt : k < m
    · obtain ⟨rfl, hsa⟩ := HA.out (by rw [HM.out]; omega)
      obtain ⟨p, hp⟩ : ∃ p, l.getD k ByteArray.empty = p := ⟨_, rfl⟩
      have HP := Sl.mk hp
      have e0 : wr.cell? ⟨sa, oa + k, none⟩ = some (.string p) := by
        rw [HR.out.below.cell (p := ⟨sa, oa + k, none⟩) hsa, HCE.out k (by rw [HM.out]; omega), hp]
      have HPS : Sl (p.size ≤ maxLen) := ⟨HSZ.out p (by
        rw [← hp, List.getD_eq_getElem?_getD, List.getElem?_eq_getElem (by rw [HM.out]; omega)]; exact List.getElem_mem _)⟩
      have hk0 : (0 : Int) ≤ (k : Int) := by omega
      have hk1 : (k : Int) < (m : Int) := by omega
      clear hp
      gi_wp2_with (gi_at_call 152; refine (callsIn_wide.2 (splitSeq_any p _)).mono ?_; rintro e w1 ⟨rfl, B0, B1, B2, HS, HB⟩)
      obtain ⟨bs, hbs⟩ : ∃ bs, wr.heap.size = bs := ⟨_, rfl⟩
      rw [hbs] at B0 B1 B2 HS ⊢
      have HBS := Sl.mk hbs
      have hbyl := lt_of_some HR.out.box
      have hJw : J Y (tell (l.take k)) w1 := HFJ.out.kept HR.out.J (Turn.of_below HB.out)
      have hJo : J (fun r => Y r ∨ own3 bs r) (tell (l.take k) ++ tellC []) w1 := by
        have h1 := HFJ.out.wide (Y := fun r => Y r ∨ own3 bs r) HR.out.J (fun r hr => by
          rcases hr with hr | rfl | rfl | rfl
          · exact .inl hr
          · exact .inr (by omega)
          · exact .inr (by omega)
          · exact .inr (by omega))
        have h2 := HFJ.out.kept h1 (Turn.of_below HB.out)
        rw [show tellC [] = [] from rfl, List.append_nil]
        exact h2
      have hI0 : In30 w1.heap.size n₀ by_ l0 J l W k ds Y (own3 bs) [] w1 := by
        refine ⟨hJo, ⟨(HB.out.block by_ hbyl).trans HR.out.box, ?_⟩, fun D hD => ?_, HR.out.below.trans (HB.out.mono (Nat.le_trans HN.out HR.out.below.size)), Nat.le_refl _⟩
        · rintro (e | e | e) <;> omega
        · have h1 := (HR.out.marks D hD).1
          have h2 := lt_of_some h1
          exact ⟨(HB.out.block D h2).trans h1, by rintro (e | e | e) <;> omega⟩
      have HI0 := Sl.mk hI0
      have hn0 : n₀ ≤ bs := by have := HR.out.below.size; have := HN.out; omega
      have HLW : Sl (∀ r, own3 bs r → r < w1.heap.size) := ⟨by rintro r (rfl | rfl | rfl) <;> rw [HS.out] <;> omega⟩
      have HYL : Sl (∀ r, Y r → r < w1.heap.size) := ⟨fun r hr => by have := HR.out.lt r hr; rw [HS.out]; omega⟩
      have HNB : Sl (Y bv ∧ Y by_ ∧ ds.Nodup ∧ ∀ D, D ∈ ds → Y D ∧ n₀ ≤ D) := ⟨HR.out.hbv, HR.out.nby, HR.out.nd, fun D hD => ⟨(HR.out.marks D hD).2.1, (HR.out.marks D hD).2.2⟩⟩
      have HW1 : Sl (n₀ ≤ w1.heap.size) := ⟨by rw [HS.out]; omega⟩
      have HSEQ : Sl (SeqX Fence.wide (n - 1) Tryz.prog 187 #[.pointer (some ⟨bs + 1, 0, none⟩), .pointer (some ⟨bs, 0, none⟩), .pointer (some ⟨bs + 2, 0, none⟩)] (fun x : ByteArray => #[Value.string x]) n₀ (own3 bs) (cuts p) w1) :=
        ⟨split1_seq (n - 1) (by omega) n₀ bs p w1 HPS.out hn0 B0.out B1.out B2.out⟩
      clear hI0 hJo hJw hbs B0 B1 B2
      refine range_law (n := n) (gf := 187) (lb := #[.pointer (some ⟨bs + 1, 0, none⟩), .pointer (some ⟨bs, 0, none⟩), .pointer (some ⟨bs + 2, 0, none⟩)]) rfl hn1 rfl trivial (enters_of Tryz.func187 (by kernel_rfl) rfl)
        HSEQ.out HLW.out HW1.out (fun _ => rfl) (In30 w1.heap.size n₀ by_ l0 J l W k ds Y) (Stop30 Jx l ds Y) (foot_In30 HFJ.out l W HN.out k ds Y) (foot_Stop30 HFX.out l ds Y) HI0.out
        (fun x => { tmps := #[.func (.yield l0) #[] #[], .pointer (some ⟨bv, 0, none⟩), .pointer (some ⟨by_, 0, none⟩), undef, .string p, .string x, .slice (some ⟨sa, oa, none⟩) m ca, .int .i64 m, .int .i64 k, .bool true, .pointer (some ⟨sa, oa + k, none⟩), .string p, .string p,
          .func (.func 187) #[] #[.pointer (some ⟨bs + 1, 0, none⟩), .pointer (some ⟨bs, 0, none⟩), .pointer (some ⟨bs + 2, 0, none⟩)], .string x, u15, u16, u17, u18, u19, u20, u21, u22, u23, u24, u25], defers := [] }) ?assign ?body ?done ?stop
      case assign =>
        intro l1 x V K hK
        gi_wp2
        exact hK
      case body =>
        intro l1 Z pre x V hXZ hI hZ hpre
        have HI := Sl.mk hI
        have HZL := Sl.mk hZ
        have HXZ := Sl.mk hXZ
        have HPRE := Sl.mk hpre
        have cb := Box.cell hI.2.1.1
        have hxs : x.size ≤ maxLen := Nat.le_trans (cuts_le p x (by obtain ⟨t, ht⟩ := hpre; rw [← ht]; simp)) HPS.out
        have HT : Sl (∀ V, Calls Tryz.prog 115 #[.string x, .string { data := #[32, 9] }] V fun e w' => e = .returned (.string (trimS x)) ∧ Below V.heap.size V w') := ⟨fun V => trim_laid x V hxs⟩
        clear hI hZ hXZ hpre
        obtain ⟨t, ht⟩ : ∃ t, trimS x = t := ⟨_, rfl⟩
        rw [ht] at HT
        have HTX := Sl.mk ht
        clear ht
        have hn2 : 1 ≤ n - 1 - 1 := by omega
        by_cases ht0 : 0 < t.size
        · have hq1 : t.toList.isEmpty = false := by
            cases h : t.toList with
            | nil => have := bytes_length t; rw [toList_bytes, h] at this; simp at this; omega
            | cons a b => rfl
          have hq2 : (t.toList = []) = False := eq_false (fun e => by rw [e] at hq1; cases hq1)
          have HTC : Sl (tellC (pre ++ [x]) = tellC pre ++ [t]) := ⟨by rw [← HTX.out]; exact tellC_yes pre (by rw [HTX.out]; exact ht0)⟩
          have HYG : Sl (∀ w2, Below V.heap.size V w2 → YieldAt Fence.wide (n - 1 - 1 - 1) Tryz.prog l0 #[Value.string t] w2 fun e W' =>
              (e = .returned (.bool true) ∧ J (fun r => Y r ∨ Z r) (tell (l.take k) ++ tellC (pre ++ [x])) W' ∧ Stay n₀ (fun r => Y r ∨ Z r) w2 W') ∨ (e = .returned (.bool false) ∧ (∃ q, q <+: tell l ∧ Jx (fun r => Y r ∨ Z r) q W') ∧ Stay n₀ (fun r => Y r ∨ Z r) w2 W')) := ⟨fun w2 hb => by
            have h1 := HYY.out (fun r => Y r ∨ Z r) (tell (l.take k) ++ tellC pre) t w2 (fun r hr => .inl (by rw [hr]; exact HNB.out.1)) (HFJ.out.kept HI.out.1 (Turn.of_below hb)) (fun r hr => by
              rcases hr with hr | hr
              · exact Nat.lt_of_lt_of_le (HYL.out r hr) (Nat.le_trans HI.out.2.2.2.2 hb.size)
              · exact Nat.lt_of_lt_of_le (HZL.out r hr) hb.size) (by
                rw [List.append_assoc, ← HTC.out]
                exact tell_step (by rw [HM.out]; exact hlt) (by rw [HP.out]; exact HPRE.out))
            refine (yield_depth h1).mono (fun e W' h => ?_)
            rcases h with ⟨g1, g2, g3⟩ | ⟨g1, g2, g3⟩
            · exact .inl ⟨g1, by rw [HTC.out, ← List.append_assoc]; exact g2, g3⟩
            · exact .inr ⟨g1, ⟨_, by rw [List.append_assoc, ← HTC.out]; exact tell_step (by rw [HM.out]; exact hlt) (by rw [HP.out]; exact HPRE.out), g2⟩, g3⟩⟩
          gi_wp2_with (gi_at_call 115; refine (CallsIn.inRound l1 (callsIn_wide.2 (HT.out _))).mono ?_; rintro e w2 ⟨rfl, hb2⟩; have HB2 := Sl.mk hb2; clear hb2; have cb2 := Box.cell (Box.below HI.out.2.1.1 HB2.out); obtain ⟨fn, tmps, assign, body, hy, hR⟩ := HYG.out w2 HB2.out; have HRR := Sl.mk hR; clear hR)
          refine HRR.out.mono ?_
          rintro e W3 (⟨rfl, hJ3, hS3⟩ | ⟨rfl, hJ3, hS3⟩)
          · have HJ3 := Sl.mk hJ3
            have HS3 := Sl.mk hS3
            clear hJ3 hS3
            gi_wp2
            have hv : Stay n₀ (fun r => Y r ∨ Z r) V W3 := (Stay.of_below HB2.out).trans HS3.out
            refine ⟨hv.mono (fun _ => .inr), HJ3.out, ⟨?_, HI.out.2.1.2⟩, fun D hD => ⟨?_, (HI.out.2.2.1 D hD).2⟩, HI.out.2.2.2.1.trans (hv.below (by have := HI.out.2.2.2.1.size; have := HN.out; omega)), Nat.le_trans HI.out.2.2.2.2 hv.size⟩
            · exact (hv.block by_ (lt_of_some HI.out.2.1.1) (.inl (.inl HNB.out.2.1))).trans HI.out.2.1.1
            · exact (hv.block D (lt_of_some (HI.out.2.2.1 D hD).1) (.inl (.inl (HNB.out.2.2.2 D hD).1))).trans (HI.out.2.2.1 D hD).1
          · have HJ3 := Sl.mk hJ3
            have HS3 := Sl.mk hS3
            clear hJ3 hS3
            gi_wp2
            have hv : Stay n₀ (fun r => Y r ∨ Z r) V W3 := (Stay.of_below HB2.out).trans HS3.out
            refine ⟨hv.mono (fun _ => .inr), ⟨rfl, HJ3.out⟩, fun D hD => ⟨?_, (HI.out.2.2.1 D hD).2⟩⟩
            exact (hv.block D (lt_of_some (HI.out.2.2.1 D hD).1) (.inl (.inl (HNB.out.2.2.2 D hD).1))).trans (HI.out.2.2.1 D hD).1
        · have hq2 : t.toList = [] := by
            cases h : t.toList with
            | nil => rfl
            | cons a b => exfalso; have := bytes_length t; rw [toList_bytes, h] at this; simp at this; omega
          have HTC : Sl (tellC (pre ++ [x]) = tellC pre) := ⟨tellC_no pre (by rw [HTX.out]; exact ht0)⟩
          gi_wp2_with (gi_at_call 115; refine (CallsIn.inRound l1 (callsIn_wide.2 (HT.out _))).mono ?_; rintro e w2 ⟨rfl, hb2⟩; have HB2 := Sl.mk hb2; clear hb2; have cb2 := Box.cell (Box.below HI.out.2.1.1 HB2.out))
          refine ⟨fun _ h => (by cases h), ?_⟩
          gi_wp2
          refine ⟨Stay.of_below HB2.out, ?_⟩
          have := (foot_In30 HFJ.out l W HN.out k ds Y).kept HI.out (Turn.of_below HB2.out)
          unfold In30 at this ⊢
          rw [HTC.out]
          exact this
      case done =>
        intro D Z W3 hD hXZ hZD hZ hI hWD
        have HI := Sl.mk hI
        have HZL := Sl.mk hZ
        have HWD := Sl.mk hWD
        have HD := Sl.mk hD
        have HZD := Sl.mk hZD
        clear hI hZ hWD hD hZD hXZ
        have HND : Sl ((D :: ds).Nodup) := ⟨List.nodup_cons.2 ⟨fun h => (HI.out.2.2.1 D h).2 HZD.out, HNB.out.2.2.1⟩⟩
        have HT1 : Sl (tell (l.take (k + 1)) = tell (l.take k) ++ tellC (cuts p)) := ⟨by rw [take_snoc' (by rw [HM.out]; exact hlt), tell_snoc, HP.out]⟩
        have HMK : Sl (∀ E, E ∈ D :: ds → W3.heap[E]? = some (.deferred (some [])) ∧ (Y E ∨ Z E) ∧ n₀ ≤ E) := ⟨fun E hE => by
          rcases List.mem_cons.1 hE with rfl | hE
          · exact ⟨HWD.out, .inr HZD.out, Nat.le_trans HW1.out HD.out⟩
          · exact ⟨(HI.out.2.2.1 E hE).1, .inl (HNB.out.2.2.2 E hE).1, (HNB.out.2.2.2 E hE).2⟩⟩
        have HLT : Sl (∀ r, Y r ∨ Z r → r < W3.heap.size) := ⟨fun r hr => by
          rcases hr with hr | hr
          · exact Nat.lt_of_lt_of_le (HYL.out r hr) HI.out.2.2.2.2
          · exact HZL.out r hr⟩
        gi_wp2
        have hc : ((k + 1 : Nat) : Int) = (k : Int) + 1 := by omega
        refine ⟨⟨k + 1, D :: ds, fun r => Y r ∨ Z r, _, _, _, _, _, _, _, _, _, _, _, _, _, _, _, _, _, _, _, by omega, by rw [hc]; rfl, ⟨⟨.inl HNB.out.1, HLT.out, .inl HNB.out.2.1, by rw [HT1.out]; exact HI.out.1, HI.out.2.1.1, HND.out, HMK.out, HI.out.2.2.2.1⟩⟩⟩, ?_⟩
        simp [intOf]; omega
      case stop =>
        intro D Z c pre W3 hD hXZ hZD hZ hpre hI hWD
        obtain ⟨⟨rfl, q, hq, hj⟩, hm⟩ := hI
        have HJ := Sl.mk hj
        have HMK := Sl.mk hm
        have HQ := Sl.mk hq
        have HWD := Sl.mk hWD
        have HD := Sl.mk hD
        have HZD := Sl.mk hZD
        have HXZ := Sl.mk hXZ
        clear hj hm hq hWD hD hZD hXZ hZ hpre
        have HND : Sl ((D :: ds).Nodup) := ⟨List.nodup_cons.2 ⟨fun h => (HMK.out D h).2 HZD.out, HNB.out.2.2.1⟩⟩
        gi_wp2
        show LeavesInM Fence.wide n Tryz.prog Tryz.f151 _ _ ((D :: ds).map markOf) .returning W3
        refine leave_marks (n₀ := n₀) (Z := fun r => Y r ∨ Z r) (D :: ds) W3 HND.out (fun E hE => ?_) (fun W' ht => ⟨_, results_none rfl _ _ _, ⟨_, rfl⟩, .inr ⟨q, HQ.out, HFX.out.wide (HFX.out.kept HJ.out ht) (fun r hr => .inl (.inl (by rw [hr]; exact HNB.out.1)))⟩⟩)
        rcases List.mem_cons.1 hE with rfl | hE
        · exact ⟨HWD.out, .inr HZD.out, Nat.le_trans HW1.out HD.out⟩
        · exact ⟨(HMK.out E hE).1, .inl (HNB.out.2.2.2 E hE).1, (HNB.out.2.2.2 E hE).2⟩
    · have hge : ((k : Int) < (m : Int)) = False := eq_false (by omega)
      gi_wp2
      show LeavesInM Fence.wide n Tryz.prog Tryz.f151 _ _ (ds.map markOf) .returning wr
      have hkm : l.take k = l := List.take_of_length_le (by rw [HM.out]; omega)
      have hJk := HR.out.J
      rw [hkm] at hJk
      exact leave_marks (n₀ := n₀) (Z := Y) ds wr HR.out.nd HR.out.marks (fun W' ht => ⟨_, results_none rfl _ _ _, ⟨_, rfl⟩, .inl (HFJ.out.wide (HFJ.out.kept hJk ht) (fun r hr => .inl (by rw [hr]; exact HR.out.hbv)))⟩)
end Go.Proofs.YthlagngpllahkaaGreatDoor.Nam
/- List: the tokens of lists of them. -/
namespace Go.Proofs.YthlagngpllahkaaGreatDoor.Nam
open Go.RowKit Go.Shelf HeadPlain Flow

attribute [local go_sem] Oper.semAt_some

def tokT (t : ByteArray) : Bool := token (bytes t)
theorem tellC_bytes (ps : List ByteArray) : collect (ps.map bytes) = if (tellC ps).all tokT then some ((tellC ps).map bytes) else none := by
  induction ps with
  | nil => rfl
  | cons p ps ih =>
    rw [List.map_cons, collect, ih]
    have hz : (0 < (trimS p).size) ↔ trim (bytes p) ≠ [] := by
      rw [← trimS_bytes, ← bytes_length]
      cases bytes (trimS p) <;> simp
    by_cases h : trim (bytes p) = []
    · have hn : ¬ 0 < (trimS p).size := fun e => hz.1 e h
      rw [if_pos h]
      have hc : tellC (p :: ps) = tellC ps := by
        unfold tellC
        rw [List.map_cons, List.filter_cons, decide_eq_false hn, if_neg (by simp)]
      rw [hc]
    · have hy : 0 < (trimS p).size := hz.2 h
      rw [if_neg h]
      have hc : tellC (p :: ps) = trimS p :: tellC ps := by
        unfold tellC
        rw [List.map_cons, List.filter_cons, decide_eq_true hy, if_pos rfl]
      rw [hc, List.all_cons]
      by_cases ht : token (trim (bytes p)) = true
      · rw [if_pos ht]
        have h2 : tokT (trimS p) = true := by unfold tokT; rw [trimS_bytes]; exact ht
        rw [h2, Bool.true_and]
        split
        · simp [trimS_bytes]
        · rfl
      · rw [if_neg ht]
        have h2 : tokT (trimS p) = false := by unfold tokT; rw [trimS_bytes]; simpa using ht
        rw [h2, Bool.false_and]; rfl
theorem tell_toks (l : List ByteArray) : toksAll (l.map bytes) = if (tell l).all tokT then some ((tell l).map bytes) else none := by
  induction l with
  | nil => rfl
  | cons s l ih =>
    rw [List.map_cons, toksAll, ih, toks, ← cuts_bytes, tellC_bytes]
    have : tell (s :: l) = tellC (cuts s) ++ tell l := by unfold tell; rw [List.flatMap_cons]
    rw [this, List.all_append]
    cases h1 : (tellC (cuts s)).all tokT <;> cases h2 : (tell l).all tokT <;> simp [comb]
theorem parts_any (a : Option Addr) (m c : Nat) (w : World) : Calls Tryz.prog 120 #[.slice a m c] w fun e w' => e = .returned (.func (.func 151) #[] #[.pointer (some ⟨w.heap.size, 0, none⟩)]) ∧ w' = w.alloc (.cells #[.slice a m c] 28) := by
  go_enter Tryz.func120, Tryz.ntmps120
  go_wp2
  go_ret
  exact ⟨rfl, rfl⟩
/-- What List answers. -/
def ListR (w w' : World) (l : List ByteArray) (e : Ending) : Prop :=
  ((tell l).all tokT = true ∧ ∃ v, e = .returned (.tuple #[v, .int .i64 0]) ∧ OwnS w' w.heap.size v (tell l)) ∨ ((tell l).all tokT = false ∧ e = .returned (.tuple #[.slice none 0 0, .int .i64 60]))
/-- What holds between two parts. -/
def In11 (n₀ : Nat) (w : World) (X : Nat → Prop) (pre : List ByteArray) (W : World) : Prop :=
  (∃ v, (Box W (n₀ + 1 + 1) 28 v ∧ ¬ X (n₀ + 1 + 1)) ∧ OwnS W n₀ v pre ∧ (∀ g, v.ownBlock = some g → ¬ X g)) ∧ (Box W n₀ 28 (.slice none 0 0) ∧ ¬ X n₀) ∧ (Box W (n₀ + 1) 39 (.int .i64 0) ∧ ¬ X (n₀ + 1)) ∧ pre.all tokT = true ∧ Below n₀ w W
theorem own_turn {n₀ : Nat} {X : Nat → Prop} {W W' : World} {v : Value} {l : List ByteArray} (h : OwnS W n₀ v l) (hx : ∀ g, v.ownBlock = some g → ¬ X g) (ht : Turn n₀ X W W') : OwnS W' n₀ v l := by
  obtain ⟨h1, h2⟩ := h
  refine ⟨h1, ?_⟩
  rcases h2 with h2 | ⟨g, cap, cur, rfl, hg, hh, r⟩
  · exact .inl h2
  · exact .inr ⟨g, cap, cur, rfl, hg, (ht.block g (lt_of_some hh) (fun e => hx g rfl e.1)).trans hh, r⟩
theorem own_lt {n₀ : Nat} {W : World} {v : Value} {l : List ByteArray} (h : OwnS W n₀ v l) {g : Nat} (hg : v.ownBlock = some g) : g < W.heap.size := by
  rcases h.2 with ⟨rfl, _⟩ | ⟨g', cap, cur, rfl, _, hh, _⟩
  · cases hg
  · have : g' = g := by simpa [Value.ownBlock] using hg
    subst this
    exact lt_of_some hh
theorem foot_own (n₀ : Nat) (b : Nat) : Foot n₀ (fun X (pre : List ByteArray) W => ∃ v, (Box W b 28 v ∧ ¬ X b) ∧ OwnS W n₀ v pre ∧ (∀ g, v.ownBlock = some g → ¬ X g)) :=
  ⟨fun ⟨v, ⟨h1, h2⟩, h3, h4⟩ ht => ⟨v, ⟨(ht.block b (lt_of_some h1) (fun e => h2 e.1)).trans h1, h2⟩, own_turn h3 h4 ht, h4⟩,
   fun ⟨v, ⟨h1, h2⟩, h3, h4⟩ hy => ⟨v, ⟨h1, fun e => by
    rcases hy b e with h | h
    · exact h2 h
    · have := lt_of_some h1; omega⟩, h3, fun g hg e => by
    rcases hy g e with h | h
    · exact h4 g hg h
    · have := own_lt h3 hg; omega⟩⟩
theorem foot_In11 {n₀ : Nat} {w : World} (hn : n₀ ≤ w.heap.size) : Foot n₀ (In11 n₀ w) :=
  (foot_own n₀ (n₀ + 1 + 1)).and ((Foot.block n₀ (fun _ => _)).and ((Foot.block (n₀ + 1) (fun _ => _)).and ((Foot.pure (fun pre : List ByteArray => pre.all tokT = true)).and (Foot.below hn))))
def Stop11 (n₀ : Nat) (w : World) (c : Code) (X : Nat → Prop) (pre : List ByteArray) (W : World) : Prop :=
  (c = .ret ∧ pre.all tokT = false) ∧ (Box W n₀ 28 (.slice none 0 0) ∧ ¬ X n₀) ∧ (Box W (n₀ + 1) 39 (.int .i64 60) ∧ ¬ X (n₀ + 1)) ∧ Below n₀ w W
theorem foot_Stop11 {n₀ : Nat} {w : World} (hn : n₀ ≤ w.heap.size) (c : Code) : Foot n₀ (Stop11 n₀ w c) :=
  (Foot.pure (fun pre : List ByteArray => c = .ret ∧ pre.all tokT = false)).and ((Foot.block n₀ (fun _ => _)).and ((Foot.block (n₀ + 1) (fun _ => _)).and (Foot.below hn)))
theorem tellC_len (s : ByteArray) : (tellC (cuts s)).length ≤ s.size + 1 := by
  have h1 : (pieces (bytes s)).length ≤ (bytes s).length + 1 := by
    generalize bytes s = b
    induction b with
    | nil => simp [pieces]
    | cons x r ih =>
      obtain ⟨p, ps, e⟩ := pieces_ne r
      rw [pieces, e]
      rw [e] at ih
      split <;> simp at ih ⊢ <;> omega
  refine Nat.le_trans (List.length_filter_le _ _) ?_
  rw [List.length_map]
  unfold cuts
  rw [List.length_map]
  rwa [bytes_length] at h1
theorem tell_len (l : List ByteArray) (b : Nat) (h : ∀ s ∈ l, s.size ≤ b) : (tell l).length ≤ l.length * (b + 1) := by
  induction l with
  | nil => simp [tell]
  | cons s l ih =>
    have h1 : tell (s :: l) = tellC (cuts s) ++ tell l := by unfold tell; rw [List.flatMap_cons]
    have h2 := ih (fun x hx => h x (by simp [hx]))
    have h3 := tellC_len s
    have h4 := h s (by simp)
    rw [h1, List.length_append, List.length_cons, Nat.succ_mul]
    omega
theorem tell_size (l : List ByteArray) (h : ∀ s ∈ l, s.size ≤ maxLen) : ∀ t ∈ tell l, t.size ≤ maxLen := fun t ht => by
  unfold tell at ht
  obtain ⟨s, hs, ht⟩ := List.mem_flatMap.1 ht
  unfold tellC at ht
  obtain ⟨p, hp, rfl⟩ := List.mem_map.1 (List.mem_filter.1 ht).1
  exact Nat.le_trans (trimS_le p) (Nat.le_trans (cuts_le s p hp) (h s hs))

/-- One text more, in its own row, within a round. -/
theorem app_strIn {F : Fence} {n : Nat} {w : World} {ops : Array Oper} {rest : List Oper} {o : Oper} {a : Act} {Q : Exit → Act → World → Prop} (hgd : o.guard = none) (s x : Operand)
    (ho : o.op = .call { callee := .builtin .append, args := #[s, x], argTypes := #[28, 28] }) (base : Nat) (v : Value) (l : List ByteArray) (y : ByteArray) (hs : a.eval s = v) (hown : OwnS w base v l)
    (ad : Addr) (c : Nat) (hx : a.eval x = .slice (some ad) 1 c) (hy : w.cell? ad = some (.string y)) (hsp : ad.spot = none) (hl : l.length ≤ 1000000) (hbase : base ≤ w.heap.size)
    (h : ∀ v' w', Sl (OwnS w' base v' (l ++ [y])) → Sl (w.grownBy w' v.ownBlock) → Sl (v'.ownBlock = v.ownBlock ∨ v'.ownBlock = some w.heap.size) → wpListIn F n Tryz.prog ops Q rest (a.put o.dst v') w') : wpListIn F n Tryz.prog ops Q (o :: rest) a w := by
  obtain ⟨i0, hi, hz0, hz1, hz2⟩ := info9
  refine wpListIn_append_own_at _ hgd s x 28 ho base 9 i0 (.string ByteArray.empty) 1 16 Tryz.underlying28 hi hz0 hz1 hz2 rfl (by decide) v l.length (l.map Value.string) hs hown ad 1 c [.string y] hx rfl ?_ ?_ ?_ ?_ hbase ?_
  · intro j u hu
    match j, hu with
    | 0, hu =>
      obtain ⟨b, off, spot⟩ := ad
      simp only at hsp
      subst hsp
      rw [Addr.add_mid]
      injection hu with hu
      subst hu
      exact hy
  · intro u hu; simp at hu; subst hu; rfl
  · unfold maxLen; omega
  · omega
  · intro v' w' h1 h2 _ h4
    refine h v' w' ⟨?_⟩ ⟨h2⟩ ⟨h4⟩
    unfold OwnS
    rw [List.length_append, List.map_append]
    exact h1
theorem own_ne {W : World} {base b : Nat} {t : TypeId} {v u : Value} {l : List ByteArray} (h : OwnS W base v l) (hb : Box W b t u) (ht : t ≠ 9) : v.ownBlock ≠ some b := by
  rcases h.2 with ⟨rfl, _⟩ | ⟨g, cap, cur, rfl, _, hh, _⟩
  · intro e; cases e
  · intro e
    have : g = b := by simpa [Value.ownBlock] using e
    subst this
    have h2 := hh.symm.trans hb
    injection h2 with h2
    injection h2 with _ h3
    exact ht h3.symm
theorem own_ge {W : World} {base : Nat} {v : Value} {l : List ByteArray} (h : OwnS W base v l) {g : Nat} (hg : v.ownBlock = some g) : base ≤ g := by
  rcases h.2 with ⟨rfl, _⟩ | ⟨g', cap, cur, rfl, hb, _⟩
  · cases hg
  · have : g' = g := by simpa [Value.ownBlock] using hg
    omega

theorem results11 (W : World) (n₀ : Nat) (a : Option Addr) (k c : Nat) (e : Int) (u0 u1 u4 u5 u6 u7 u8 u9 u10 u11 u12 u13 u14 u15 u16 : Value) (h0 : W.cell? ⟨n₀, 0, none⟩ = some (.slice a k c)) (h1 : W.cell? ⟨n₀ + 1, 0, none⟩ = some (.int .i64 e)) :
    (results Tryz.f77 #[u0, u1, .pointer (some ⟨n₀, 0, none⟩), .pointer (some ⟨n₀ + 1, 0, none⟩), u4, u5, u6, u7, u8, u9, u10, u11, u12, u13, u14, u15, u16]).run Tryz.prog W = .ok (.tuple #[.slice a k c, .int .i64 e]) W := by
  simp [results, Tryz.results77, go_sem, h0, h1]
set_option maxRecDepth 100000 in
set_option maxHeartbeats 4000000 in
theorem list_any (l : List ByteArray) (v : Value) (w : World) (hl : l.length ≤ 1000000) (hs : ∀ s ∈ l, s.size ≤ maxLen) (hT : (tell l).length ≤ 1000000) (hg : Globs w) (hv : StrA w v l) :
    Calls Tryz.prog 77 #[v] w fun e w' => ListR w w' l e ∧ Sl (Below w.heap.size w w') := by
  have hv0 := hv
  obtain ⟨ad, ca, sa, oa, rfl, hca, haa, hcell⟩ := hv0
  obtain ⟨n₀, hn₀⟩ : ∃ n₀, w.heap.size = n₀ := ⟨_, rfl⟩
  have HN := Sl.mk hn₀
  obtain ⟨w4, hw4⟩ : ∃ w4, (((w.alloc (.cells #[.slice none 0 0] 28)).alloc (.cells #[.int .i64 0] 39)).alloc (.cells #[.slice none 0 0] 28)).alloc (.cells #[.slice ad l.length ca] 28) = w4 := ⟨_, rfl⟩
  have hB : Below w.heap.size w w4 := by rw [← hw4]; exact ((((Below.refl _ w).alloc (Nat.le_refl _) _).alloc (by simp) _).alloc (by simp; omega) _).alloc (by simp; omega) _
  have b0 : Box w4 n₀ 28 (.slice none 0 0) := by
    rw [← hw4, ← hn₀]; exact (((Boxed.new w 28 _).alloc _).alloc _).alloc _
  have b1 : Box w4 (n₀ + 1) 39 (.int .i64 0) := by
    have := ((Boxed.new (w.alloc (.cells #[.slice none 0 0] 28)) 39 (.int .i64 0)).alloc (.cells #[.slice none 0 0] 28)).alloc (.cells #[.slice ad l.length ca] 28)
    rw [World.size_alloc, hn₀] at this; rw [← hw4]; exact this
  have b2 : Box w4 (n₀ + 1 + 1) 28 (.slice none 0 0) := by
    have := (Boxed.new ((w.alloc (.cells #[.slice none 0 0] 28)).alloc (.cells #[.int .i64 0] 39)) 28 (.slice none 0 0)).alloc (.cells #[.slice ad l.length ca] 28)
    rw [World.size_alloc, World.size_alloc, hn₀] at this; rw [← hw4]; exact this
  have b3 : Box w4 (n₀ + 1 + 1 + 1) 28 (.slice ad l.length ca) := by
    have := Boxed.new (((w.alloc (.cells #[.slice none 0 0] 28)).alloc (.cells #[.int .i64 0] 39)).alloc (.cells #[.slice none 0 0] 28)) 28 (.slice ad l.length ca)
    rw [World.size_alloc, World.size_alloc, World.size_alloc, hn₀] at this; rw [← hw4]; exact this
  have hsz : w4.heap.size = n₀ + 4 := by rw [← hw4]; simp [hn₀]
  have hvB : StrB n₀ w4 (.slice ad l.length ca) l := by
    refine ⟨ad, ca, sa, oa, rfl, fun hp => ⟨haa hp, by have := block_lt_of_cell (hcell 0 hp); rw [hn₀] at this; exact this⟩, fun i hi => ?_⟩
    rw [hB.cell (p := ⟨sa, oa + i, none⟩) (block_lt_of_cell (hcell i hi))]; exact hcell i hi
  have HSEQ := Sl.mk (parts1_seq 40 (by omega) n₀ (n₀ + 1 + 1 + 1) l _ w4 hl hs (by omega) b3 hvB)
  have HB := Sl.mk hB
  have HG := Sl.mk hg
  have HTS := Sl.mk (tell_size l hs)
  have HSZ := Sl.mk hsz
  have HBX := Sl.mk (And.intro b0 (And.intro b1 b2))
  have hn1 : n₀ ≤ w4.heap.size := by omega
  clear hB hg hv hvB hs b0 b1 b2 b3 hsz hca haa hcell
  obtain ⟨i0, hi, hz0, hz1, hz2⟩ := info9
  have HINFO := Sl.mk (And.intro hi (And.intro hz0 (And.intro hz1 hz2)))
  clear hi hz0 hz1 hz2
  obtain ⟨m, hm⟩ : ∃ m, l.length = m := ⟨_, rfl⟩
  have HM := Sl.mk hm
  rw [hm] at hl hw4 ⊢
  clear hm
  refine (callsIn_wide (n := 41)).1 ?_
  refine callsIn_of_wp_marks Tryz.func77 rfl trivial ?_ rfl
  simp only [Tryz.ntmps77, List.size_toArray, List.length_cons, List.length_nil, Nat.reduceAdd, Nat.reduceSub, Array.replicate_succ, Array.replicate_zero, List.push_toArray, List.append_toArray, List.nil_append, List.cons_append]
  gi_wp2_with (refine ⟨trivial, ?_⟩; gi_at_call 120; refine (callsIn_wide.2 (parts_any _ _ _ _)).mono ?_; rintro e w' ⟨rfl, rfl⟩)
  have HSEQ' : Sl (SeqX Fence.wide 40 Tryz.prog 151 #[.pointer (some ⟨n₀ + 1 + 1 + 1, 0, none⟩)] (fun x => #[Value.string x]) n₀ (fun r => r = n₀ + 1 + 1 + 1) (tell l) w4) := HSEQ
  have HI0 : Sl (In11 n₀ w (fun r => r = n₀ + 1 + 1 + 1) [] w4) := ⟨⟨_, ⟨HBX.out.2.2, by omega⟩, World.ownsRow_nil _ _ _ _, fun g hg => by cases hg⟩, ⟨HBX.out.1, by omega⟩, ⟨HBX.out.2.1, by omega⟩, rfl, by rw [← HN.out]; exact HB.out⟩
  have hn41 : 1 ≤ 41 := by omega
  refine range_law (n := 41) (gf := 151) (lb := #[.pointer (some ⟨n₀ + 1 + 1 + 1, 0, none⟩)]) rfl hn41 rfl trivial (enters_of Tryz.func151 (by kernel_rfl) rfl)
    HSEQ'.out (fun r hr => by rw [HSZ.out, hr]; omega) hn1 (fun _ => rfl) (In11 n₀ w) (Stop11 n₀ w) (foot_In11 (by rw [HN.out]; exact Nat.le_refl _)) (foot_Stop11 (by rw [HN.out]; exact Nat.le_refl _)) HI0.out
    (fun x => { tmps := #[.slice ad m ca, undef, .pointer (some ⟨n₀, 0, none⟩), .pointer (some ⟨n₀ + 1, 0, none⟩), .pointer (some ⟨n₀ + 1 + 1, 0, none⟩), .string x, .slice ad m ca, .func (.func 151) #[] #[.pointer (some ⟨n₀ + 1 + 1 + 1, 0, none⟩)], .string x, undef, undef, undef, undef, undef, undef, undef, undef], defers := [] }) ?assign ?body ?done ?stop
  case assign =>
    intro l1 x V K hK
    gi_wp2
    exact hK
  case body =>
    intro l1 Z pre x V hXZ hI hZ hpre
    obtain ⟨⟨v, ⟨hb2, hz2⟩, hown, hrow⟩, ⟨hb0, hz0⟩, ⟨hb1, hz1⟩, hall, hbel⟩ := hI
    have HOWN := Sl.mk hown
    have HROW := Sl.mk hrow
    have B0 := Sl.mk hb0
    have B1 := Sl.mk hb1
    have B2 := Sl.mk hb2
    have HZ0 := Sl.mk (And.intro hz0 (And.intro hz1 hz2))
    have HALL := Sl.mk hall
    have HBEL := Sl.mk hbel
    have HZ := Sl.mk hZ
    have hxs : x.size ≤ maxLen := HTS.out x (by obtain ⟨t, ht⟩ := hpre; rw [← ht]; simp)
    have hlen : pre.length + 1 ≤ 1000000 := by have := hpre.length_le; simp at this; omega
    have hVn : n₀ + 1 + 1 < V.heap.size := hb2.lt
    have HTK : Sl (Calls Tryz.prog 98 #[.string x] V fun e w' => e = .returned (.bool (tokT x)) ∧ Sl (Below V.heap.size V w')) := ⟨token_any x V (HG.out.of (by rw [HN.out]; exact hbel)) hxs⟩
    clear hown hrow hb0 hb1 hb2 hz0 hz1 hz2 hall hbel hZ hpre hXZ
    obtain ⟨r, hr⟩ : ∃ r, tokT x = r := ⟨_, rfl⟩
    rw [hr] at HTK
    have HR := Sl.mk hr
    clear hr
    cases r with
    | false =>
      gi_wp2_with (refine ⟨trivial, ?_⟩; gi_at_call 98; refine (CallsIn.inRound l1 (callsIn_wide.2 HTK.out)).mono ?_; rintro e w2 ⟨rfl, HB2⟩; have C0 := Sl.mk (B0.out.below HB2.out); have C1 := Sl.mk (B1.out.below HB2.out); have c0 := C0.out.cell; have f0 := C0.out.frozen; have c1 := C1.out.cell; have f1 := C1.out.frozen)
      have hall2 : (pre ++ [x]).all tokT = false := by rw [List.all_append]; simp [HR.out]
      have g1 := (Stay.of_below (n₀ := n₀) (X := Z) HB2.out)
      have g2 := g1.trans (Stay.of_grown (grownBy_setCell' w2 n₀ (.slice none 0 0)) (fun k e => by cases e; exact ⟨HZ0.out.1, Nat.le_refl _⟩))
      have g3 := g2.trans (Stay.of_grown (grownBy_setCell' (w2.setCell ⟨n₀, 0, none⟩ (.slice none 0 0)) (n₀ + 1) (.int .i64 60)) (fun k e => by cases e; exact ⟨HZ0.out.2.1, by omega⟩))
      exact ⟨g3, ⟨rfl, hall2⟩, ⟨(C0.out.set _).other (by omega) _, HZ0.out.1⟩, ⟨(C1.out.other (by omega) _).set _, HZ0.out.2.1⟩, HBEL.out.trans (g3.below (by omega))⟩
    | true =>
      gi_wp2_with (first
        | (refine ⟨trivial, ?_⟩; gi_at_call 98; refine (CallsIn.inRound l1 (callsIn_wide.2 HTK.out)).mono ?_; rintro e w2 ⟨rfl, HB2⟩; have C2 := Sl.mk (B2.out.below HB2.out); have c2 := C2.out.cell; have f2 := C2.out.frozen)
        | (gi_at_builtin; refine app_strIn rfl _ _ rfl n₀ v pre x rfl ((HOWN.out.below HB2.out).below ((Below.refl _ w2).alloc (Nat.le_refl _) _)) ⟨w2.heap.size, 0, none⟩ 1 rfl (by simp) rfl (by omega) (by have := HB2.out.size; simp; omega) ?_; intro v' w3 HO3 HG3 HL3; have D2 : Sl (Box w3 (n₀ + 1 + 1) 28 v) := ⟨stays ((HOWN.out.below HB2.out).below ((Below.refl _ w2).alloc (Nat.le_refl _) _)) HG3.out (Boxed.alloc C2.out _) (by decide)⟩; have d2 := D2.out.cell; have e2 := D2.out.frozen; obtain ⟨a', c', hv'⟩ := HO3.out.slice; subst hv'))
      have hv1 : Sl (OwnS w3 n₀ (.slice a' (pre ++ [x]).length c') (pre ++ [x])) := HO3
      have HLEN : Sl ((pre ++ [x]).length = pre.length + 1) := ⟨by simp⟩
      have hz3 : ∀ g, (Value.slice a' (pre ++ [x]).length c').ownBlock = some g → ¬ Z g := fun g hg hz => by
        rcases HL3.out with h | h
        · exact HROW.out g (h.symm.trans hg) hz
        · have h2 := HZ.out g hz
          have h3 := HB2.out.size
          have h4 : g = (w2.alloc (.cells #[.string x] 9)).heap.size := by rw [h] at hg; injection hg with hg; exact hg.symm
          rw [alloc_size] at h4
          omega
      have hne := own_ne hv1.out D2.out (by decide)
      rw [HLEN.out] at hz3 hne hv1
      have g1 := Stay.of_below (n₀ := n₀) (X := Z) HB2.out
      have g2 := g1.trans (Stay.of_below ((Below.refl _ w2).alloc (Nat.le_refl _) (.cells #[.string x] 9)))
      have g3 := g2.trans (Stay.of_grown HG3.out (fun k hk => ⟨HROW.out k hk, own_ge HOWN.out hk⟩))
      have g4 := g3.trans (Stay.of_grown (grownBy_setCell' w3 (n₀ + 1 + 1) (.slice a' (pre.length + 1) c')) (fun k e => by cases e; exact ⟨HZ0.out.2.2, by omega⟩))
      have hb5 := HB2.out.trans (((Below.refl _ w2).alloc (Nat.le_refl _) (.cells #[.string x] 9)).mono HB2.out.size)
      have hsz := HB2.out.size
      have r0 : Box w3 n₀ 28 (.slice none 0 0) := stays ((HOWN.out.below HB2.out).below ((Below.refl _ w2).alloc (Nat.le_refl _) _)) HG3.out (Boxed.alloc (B0.out.below HB2.out) _) (by decide)
      have r1 : Box w3 (n₀ + 1) 39 (.int .i64 0) := stays ((HOWN.out.below HB2.out).below ((Below.refl _ w2).alloc (Nat.le_refl _) _)) HG3.out (Boxed.alloc (B1.out.below HB2.out) _) (by decide)
      refine ⟨g4, ⟨_, ⟨D2.out.set _, HZ0.out.2.2⟩, ?_, hz3⟩, ⟨r0.other (by omega) _, HZ0.out.1⟩, ⟨r1.other (by omega) _, HZ0.out.2.1⟩, by rw [List.all_append, HALL.out]; simp [HR.out], HBEL.out.trans (g4.below (by omega))⟩
      exact own_turn (n₀ := n₀) (X := fun r => r = n₀ + 1 + 1) hv1.out (fun g hg e => hne (by rw [hg, e])) (turn_set _ rfl (by omega))
  case done =>
    intro D Z V hD hXZ hZD hZ hI hWD
    obtain ⟨⟨v, ⟨hb2, hz2⟩, hown, hrow⟩, ⟨hb0, hz0⟩, ⟨hb1, hz1⟩, hall, hbel⟩ := hI
    have HOWN := Sl.mk hown
    have B0 := Sl.mk hb0
    have B1 := Sl.mk hb1
    have B2 := Sl.mk hb2
    have HZ0 := Sl.mk (And.intro hz0 (And.intro hz1 hz2))
    have HROW := Sl.mk hrow
    have HALL := Sl.mk hall
    have HBEL := Sl.mk hbel
    have HWD := Sl.mk hWD
    have HZD := Sl.mk hZD
    have HD := Sl.mk hD
    have c0 := hb0.cell
    have f0 := hb0.frozen
    have c1 := hb1.cell
    have f1 := hb1.frozen
    have c2 := hb2.cell
    clear hown hrow hb0 hb1 hb2 hz0 hz1 hz2 hall hbel hZ hXZ hWD hZD hD
    obtain ⟨a', c', hv'⟩ := HOWN.out.slice
    subst hv'
    have hz0 : ∀ g, (Value.slice a' (tell l).length c').ownBlock = some g → g ≠ D := fun g hg e => HROW.out g hg (by rw [e]; exact HZD.out)
    have N0 := own_ne HOWN.out B0.out (by decide)
    have N1 := own_ne HOWN.out B1.out (by decide)
    have HNE := Sl.mk (And.intro hz0 (And.intro N0 N1))
    clear hz0 N0 N1
    gi_wp2
    show LeavesInM Fence.wide 41 Tryz.prog Tryz.f77 _ _ ([D].map markOf) .returning _
    have hDn : n₀ + 2 ≤ D := by have := HD.out; have := HSZ.out; omega
    refine leave_marks (n₀ := n₀) (Z := fun r => r = D) [D] _ (by simp) (fun E hE => ?_) (fun W' ht => ?_)
    · simp at hE
      subst hE
      refine ⟨?_, rfl, by omega⟩
      rw [Below.heap_setCell _ _ _ _ (by simp; omega), Below.heap_setCell _ _ _ _ (by simp; omega)]
      exact HWD.out
    · have e0 : Box W' n₀ 28 (.slice a' (tell l).length c') := (ht.block n₀ ((B0.out.set _).other (by omega) _).lt (fun e => by omega)).trans ((B0.out.set (.slice a' (tell l).length c')).other (c := n₀ + 1) (by omega) (.int .i64 0))
      have e1 : Box W' (n₀ + 1) 39 (.int .i64 0) := (ht.block (n₀ + 1) ((B1.out.other (by omega) _).set _).lt (fun e => by omega)).trans ((B1.out.other (c := n₀) (by omega) (.slice a' (tell l).length c')).set (.int .i64 0))
      have o1 := own_turn (n₀ := n₀) (X := fun r => r = n₀) HOWN.out (fun g hg e => HNE.out.2.1 (by rw [hg, e])) (turn_set (.slice a' (tell l).length c') rfl (Nat.le_refl _))
      have o2 := own_turn (n₀ := n₀) (X := fun r => r = n₀ + 1) o1 (fun g hg e => HNE.out.2.2 (by rw [hg, e])) (turn_set (.int .i64 0) rfl (by omega))
      have o3 := own_turn o2 (fun g hg e => HNE.out.1 g hg e) ht
      refine ⟨_, results11 W' n₀ _ _ _ _ _ _ _ _ _ _ _ _ _ _ _ _ _ _ _ e0.cell e1.cell, .inl ⟨HALL.out, _, rfl, by rw [HN.out]; exact o3⟩, ⟨?_⟩⟩
      rw [HN.out]
      have hb := (HBEL.out.setCell (p := ⟨n₀, 0, none⟩) (Nat.le_refl _) (.slice a' (tell l).length c')).setCell (p := ⟨n₀ + 1, 0, none⟩) (by simp) (.int .i64 0)
      exact hb.trans (ht.below (Nat.le_trans (by rw [HN.out]; exact Nat.le_refl _) hb.size))
  case stop =>
    intro D Z c pre V hD hXZ hZD hZ hpre hI hWD
    obtain ⟨⟨rfl, hall⟩, ⟨hb0, hz0⟩, ⟨hb1, hz1⟩, hbel⟩ := hI
    have HZ0 := Sl.mk (And.intro hz0 hz1)
    have B0 := Sl.mk hb0
    have B1 := Sl.mk hb1
    have HALL := Sl.mk hall
    have HBEL := Sl.mk hbel
    have HWD := Sl.mk hWD
    have HZD := Sl.mk hZD
    have HD := Sl.mk hD
    have HPRE := Sl.mk hpre
    clear hb0 hb1 hz0 hz1 hall hbel hZ hXZ hWD hZD hD hpre
    gi_wp2
    show LeavesInM Fence.wide 41 Tryz.prog Tryz.f77 _ _ ([D].map markOf) .returning V
    have hDn : n₀ + 2 ≤ D := by have := HD.out; have := HSZ.out; omega
    refine leave_marks (n₀ := n₀) (Z := fun r => r = D) [D] _ (by simp) (fun E hE => ?_) (fun W' ht => ?_)
    · simp at hE
      subst hE
      exact ⟨HWD.out, rfl, by omega⟩
    · have e0 : Box W' n₀ 28 (.slice none 0 0) := (ht.block n₀ B0.out.lt (fun e => by omega)).trans B0.out
      have e1 : Box W' (n₀ + 1) 39 (.int .i64 60) := (ht.block (n₀ + 1) B1.out.lt (fun e => by omega)).trans B1.out
      have hno : (tell l).all tokT = false := by
        obtain ⟨t, ht⟩ := HPRE.out
        rw [← ht, List.all_append, HALL.out]; rfl
      refine ⟨_, results11 W' n₀ _ _ _ _ _ _ _ _ _ _ _ _ _ _ _ _ _ _ _ e0.cell e1.cell, .inr ⟨hno, rfl⟩, ⟨?_⟩⟩
      rw [HN.out]
      exact HBEL.out.trans (ht.below (Nat.le_trans (by rw [HN.out]; exact Nat.le_refl _) HBEL.out.size))
end Go.Proofs.YthlagngpllahkaaGreatDoor.Nam
