/- The parts of values: each piece between commas, without the blanks round it, where there is more than blanks; told one by one by the function that parts hands back. -/
import Derived.Test.YtcdpkabbmdannaaDoorH
import Derived.Shelf.Strings.SlTrimAscii
namespace Go.Proofs.YtcdpkabbmdannaaDoor
open Go.RowKit Go.Shelf HeadPlain Flow

attribute [local go_sem] Oper.semAt_some

def trimS (s : ByteArray) : ByteArray := ⟨(Lib.trimS s.data.toList [32, 9]).toArray⟩
theorem trimS_bytes (s : ByteArray) : bytes (trimS s) = trim (bytes s) := libtrim s.data.toList
theorem ltrim_le (l : List Nat) : (ltrim l).length ≤ l.length := by
  induction l with
  | nil => simp [ltrim]
  | cons x l ih => rw [ltrim]; split <;> simp <;> omega
theorem trim_le (l : List Nat) : (trim l).length ≤ l.length := by
  unfold trim
  rw [List.length_reverse]
  refine Nat.le_trans (ltrim_le _) ?_
  rw [List.length_reverse]
  exact ltrim_le _
theorem trimS_le (s : ByteArray) : (trimS s).size ≤ s.size := by
  rw [← bytes_length, ← bytes_length, trimS_bytes]; exact trim_le _
theorem trim_laid (x : ByteArray) (V : World) (hx : x.size ≤ maxLen) : Calls Tryd.prog 32 #[.string x, .string { data := #[32, 9] }] V fun e w' => e = .returned (.string (trimS x)) ∧ Below V.heap.size V w' :=
  Any.strings_Trim_laid Tryd.lays160 (by kernel_rfl) x { data := #[32, 9] } V (by unfold maxLen at hx; omega) (by decide) (ascii_of_all (by decide))
/-- What is told of pieces; of values. -/
def tellC (l : List ByteArray) : List ByteArray := (l.map trimS).filter fun t => decide (0 < t.size)
def tell (l : List ByteArray) : List ByteArray := l.flatMap fun s => tellC (cuts s)
theorem tellC_yes (pre : List ByteArray) {x : ByteArray} (h : 0 < (trimS x).size) : tellC (pre ++ [x]) = tellC pre ++ [trimS x] := by
  unfold tellC; rw [List.map_append, List.filter_append]; simp [h]
theorem tellC_no (pre : List ByteArray) {x : ByteArray} (h : ¬ 0 < (trimS x).size) : tellC (pre ++ [x]) = tellC pre := by
  unfold tellC; rw [List.map_append, List.filter_append]; simp [h]
theorem tellC_prefix {a b : List ByteArray} (h : a <+: b) : tellC a <+: tellC b := by
  obtain ⟨c, rfl⟩ := h
  unfold tellC
  rw [List.map_append, List.filter_append]
  exact List.prefix_append _ _
theorem tell_snoc (l : List ByteArray) (s : ByteArray) : tell (l ++ [s]) = tell l ++ tellC (cuts s) := by unfold tell; rw [List.flatMap_append]; simp
theorem take_snoc' {l : List ByteArray} {k : Nat} (h : k < l.length) : l.take (k + 1) = l.take k ++ [l.getD k ByteArray.empty] := by
  rw [List.take_succ_eq_append_getElem h, List.getD_eq_getElem?_getD, List.getElem?_eq_getElem h]; rfl
theorem tell_take (l : List ByteArray) (k : Nat) : tell (l.take k) <+: tell l := by
  conv => rhs; rw [← List.take_append_drop k l]
  unfold tell
  rw [List.flatMap_append]
  exact List.prefix_append _ _
theorem tell_step {l : List ByteArray} {k : Nat} (h : k < l.length) {pre : List ByteArray} (hp : pre <+: cuts (l.getD k ByteArray.empty)) : tell (l.take k) ++ tellC pre <+: tell l := by
  refine List.IsPrefix.trans ?_ (tell_take l (k + 1))
  rw [take_snoc' h, tell_snoc]
  exact (List.prefix_append_right_inj _).2 (tellC_prefix hp)
/-- The strings l are the elements of the slice v, in a block below n₀. -/
def StrB (n₀ : Nat) (W : World) (v : Value) (l : List ByteArray) : Prop :=
  ∃ (a : Option Addr) (cap sb so : Nat), v = .slice a l.length cap ∧ (0 < l.length → a = some ⟨sb, so, none⟩ ∧ sb < n₀) ∧ ∀ i, i < l.length → W.cell? ⟨sb, so + i, none⟩ = some (.string (l.getD i ByteArray.empty))

theorem splitSeq_any (s : ByteArray) (w : World) : Calls Tryd.prog 31 #[.string s, .string comma] w fun e w' =>
    e = .returned (.func (.func 47) #[] #[.pointer (some ⟨w.heap.size + 1, 0, none⟩), .pointer (some ⟨w.heap.size, 0, none⟩), .pointer (some ⟨w.heap.size + 2, 0, none⟩)]) ∧
    Sl (Box w' w.heap.size 9 (.string s)) ∧ Sl (Box w' (w.heap.size + 1) 9 (.string comma)) ∧ Sl (Box w' (w.heap.size + 2) 3 (.int .i64 0)) ∧ Sl (w'.heap.size = w.heap.size + 3) ∧ Sl (Below w.heap.size w w') := by
  have H38 : Sl (Calls Tryd.prog 38 #[.string s, .string comma, .int .i64 0] w fun e w' => e = .returned (.func (.func 47) #[] #[.pointer (some ⟨w.heap.size + 1, 0, none⟩), .pointer (some ⟨w.heap.size, 0, none⟩), .pointer (some ⟨w.heap.size + 2, 0, none⟩)]) ∧
      w' = ((w.alloc (.cells #[.string s] 9)).alloc (.cells #[.string comma] 9)).alloc (.cells #[.int .i64 0] 3)) := ⟨by
    go_enter Tryd.func38, Tryd.ntmps38
    go_wp2
    go_ret
    exact ⟨rfl, rfl⟩⟩
  go_enter Tryd.func31, Tryd.ntmps31
  go_wp2_with (go_at_call 38; refine H38.out.mono ?_; rintro e w' ⟨rfl, hw⟩)
  have HW := Sl.mk hw
  clear hw
  go_ret
  refine ⟨rfl, ?_⟩
  clear HW
  have b0 : Box (((w.alloc (.cells #[.string s] 9)).alloc (.cells #[.string comma] 9)).alloc (.cells #[.int .i64 0] 3)) w.heap.size 9 (.string s) := ((Boxed.new w 9 (.string s)).alloc _).alloc _
  have b1 : Box (((w.alloc (.cells #[.string s] 9)).alloc (.cells #[.string comma] 9)).alloc (.cells #[.int .i64 0] 3)) (w.heap.size + 1) 9 (.string comma) := by
    have := (Boxed.new (w.alloc (.cells #[.string s] 9)) 9 (.string comma)).alloc (.cells #[.int .i64 0] 3)
    rw [World.size_alloc] at this; exact this
  have b2 : Box (((w.alloc (.cells #[.string s] 9)).alloc (.cells #[.string comma] 9)).alloc (.cells #[.int .i64 0] 3)) (w.heap.size + 2) 3 (.int .i64 0) := by
    have := Boxed.new ((w.alloc (.cells #[.string s] 9)).alloc (.cells #[.string comma] 9)) 3 (.int .i64 0)
    rw [World.size_alloc, World.size_alloc] at this; exact this
  exact ⟨⟨b0⟩, ⟨b1⟩, ⟨b2⟩, ⟨by simp⟩, ⟨(((Below.refl _ w).alloc (Nat.le_refl _) _).alloc (by simp) _).alloc (by simp; omega) _⟩⟩

/-- The blocks of statements that were left before lie as they lay. -/
theorem foot_marks {β : Type} {n₀ : Nat} (ds : List Nat) : Foot (β := β) n₀ (fun X _ W => ∀ D, D ∈ ds → W.heap[D]? = some (.deferred (some [])) ∧ ¬ X D) :=
  ⟨fun hj ht D hD => ⟨(ht.block D (lt_of_some (hj D hD).1) (fun e => (hj D hD).2 e.1)).trans (hj D hD).1, (hj D hD).2⟩, fun hj hy D hD => ⟨(hj D hD).1, fun e => by
    rcases hy D e with h | h
    · exact (hj D hD).2 h
    · have := lt_of_some (hj D hD).1; omega⟩⟩
theorem foot_or {β : Type} {n₀ : Nat} {J : (Nat → Prop) → β → World → Prop} (h : Foot n₀ J) (Y : Nat → Prop) : Foot n₀ (fun Z s W => J (fun r => Y r ∨ Z r) s W) :=
  ⟨fun hj ht => h.kept hj (ht.mono (fun _ => .inr)), fun hj hy => h.wide hj (fun r hr => by
    rcases hr with hr | hr
    · exact .inl (.inl hr)
    · exact (hy r hr).imp .inr id)⟩
theorem foot_at {β γ : Type} {n₀ : Nat} {J : (Nat → Prop) → β → World → Prop} (h : Foot n₀ J) (f : γ → β) : Foot n₀ (fun Z s W => J Z (f s) W) := ⟨fun hj ht => h.kept hj ht, fun hj hy => h.wide hj hy⟩
/-- Between two values. -/
structure Rel30 (n₀ bv by_ l0 : Nat) (J : (Nat → Prop) → List ByteArray → World → Prop) (l : List ByteArray) (W : World) (k : Nat) (ds : List Nat) (Y : Nat → Prop) (W' : World) : Prop where
  hbv : Y bv
  lt : ∀ r, Y r → r < W'.heap.size
  nby : Y by_
  J : J Y (tell (l.take k)) W'
  box : W'.heap[by_]? = some (.cells #[.func (.yield l0) #[] #[]] 41 (0, 0))
  nd : ds.Nodup
  marks : ∀ D, D ∈ ds → W'.heap[D]? = some (.deferred (some [])) ∧ Y D ∧ n₀ ≤ D
  below : Below n₀ W W'
/-- Within a value: what holds between two pieces. -/
def In30 (sz n₀ by_ l0 : Nat) (J : (Nat → Prop) → List ByteArray → World → Prop) (l : List ByteArray) (W : World) (k : Nat) (ds : List Nat) (Y : Nat → Prop) (Z : Nat → Prop) (pre : List ByteArray) (W' : World) : Prop :=
  J (fun r => Y r ∨ Z r) (tell (l.take k) ++ tellC pre) W' ∧ (W'.heap[by_]? = some (.cells #[.func (.yield l0) #[] #[]] 41 (0, 0)) ∧ ¬ Z by_) ∧ (∀ D, D ∈ ds → W'.heap[D]? = some (.deferred (some [])) ∧ ¬ Z D) ∧ Below n₀ W W' ∧ sz ≤ W'.heap.size
theorem foot_size {β : Type} {n₀ : Nat} (sz : Nat) : Foot (β := β) n₀ (fun _ _ W => sz ≤ W.heap.size) := ⟨fun h ht => Nat.le_trans h ht.size, fun h _ => h⟩
theorem foot_In30 {sz n₀ by_ l0 : Nat} {J : (Nat → Prop) → List ByteArray → World → Prop} (hJ : Foot n₀ J) (l : List ByteArray) (W : World) (hW : n₀ ≤ W.heap.size) (k : Nat) (ds : List Nat) (Y : Nat → Prop) : Foot n₀ (In30 sz n₀ by_ l0 J l W k ds Y) :=
  (foot_at (foot_or hJ Y) _).and ((Foot.block by_ (fun _ => _)).and ((foot_marks ds).and ((Foot.below hW).and (foot_size sz))))
def Stop30 (Jx : (Nat → Prop) → List ByteArray → World → Prop) (l : List ByteArray) (ds : List Nat) (Y : Nat → Prop) (c : Code) (Z : Nat → Prop) (_ : List ByteArray) (W' : World) : Prop :=
  (c = .ret ∧ ∃ q, q <+: tell l ∧ Jx (fun r => Y r ∨ Z r) q W') ∧ (∀ D, D ∈ ds → W'.heap[D]? = some (.deferred (some [])) ∧ ¬ Z D)
theorem foot_Stop30 {n₀ : Nat} {Jx : (Nat → Prop) → List ByteArray → World → Prop} (hJ : Foot n₀ Jx) (l : List ByteArray) (ds : List Nat) (Y : Nat → Prop) (c : Code) : Foot n₀ (Stop30 Jx l ds Y c) :=
  Foot.and ⟨fun ⟨h1, q, h2, h3⟩ ht => ⟨h1, q, h2, hJ.kept h3 (ht.mono (fun _ => .inr))⟩, fun ⟨h1, q, h2, h3⟩ hy => ⟨h1, q, h2, (foot_or hJ Y).wide h3 hy⟩⟩ (foot_marks ds)

theorem yield_depth {n m : Nat} {P : Program} {l : Nat} {args : Array Value} {W : World} {R : Ending → World → Prop} (h : YieldAt Fence.wide n P l args W R) : YieldAt Fence.wide m P l args W R := by
  obtain ⟨fn, tmps, assign, body, hy, h1, h2⟩ := h
  exact ⟨fn, tmps, assign, body, hy, h1, fun c cs _ => h2 c cs (room_wide _)⟩
set_option maxRecDepth 100000 in
set_option maxHeartbeats 4000000 in
theorem parts1_seq (n : Nat) (hn : 12 ≤ n) (n₀ bv : Nat) (l : List ByteArray) (v : Value) (w : World) (hl : l.length ≤ 1000000) (hs : ∀ s ∈ l, s.size ≤ maxLen) (hb : n₀ ≤ bv)
    (h0 : Box w bv 22 v) (hv : StrB n₀ w v l) :
    SeqX Fence.wide n Tryd.prog 30 #[.pointer (some ⟨bv, 0, none⟩)] (fun x : ByteArray => #[Value.string x]) n₀ (fun r => r = bv) (tell l) w := by
  intro l0 J Jx W hW fJ fJx hY hJ
  replace h0 := Box.below h0 hW
  obtain ⟨ad, ca, sa, oa, rfl, hA1, hA2⟩ := hv
  have hB0 : Sl (Below w.heap.size w W) := ⟨hW⟩
  have hcell : ∀ i, i < l.length → W.cell? ⟨sa, oa + i, none⟩ = some (.string (l.getD i ByteArray.empty)) := fun i hi => by
    rw [hW.cell (p := ⟨sa, oa + i, none⟩) (block_lt_of_cell (hA2 i hi))]; exact hA2 i hi
  have HA := Sl.mk hA1
  have HCE := Sl.mk hcell
  have HSZ := Sl.mk hs
  clear hA1 hA2 hcell hs hW
  have HFJ := Sl.mk fJ
  have HFX := Sl.mk fJx
  have HYY := Sl.mk hY
  clear fJ fJx hY
  have hF31 : Fence.wide.fn 31 := trivial
  have hF32 : Fence.wide.fn 32 := trivial
  have hn1 : 1 ≤ n := by omega
  have c0 := (Boxed.alloc h0 (.cells #[.func (.yield l0) #[] #[]] 41)).cell
  have hnW : n₀ < W.heap.size := by have := h0.lt; omega
  obtain ⟨m, hm⟩ : ∃ m, l.length = m := ⟨_, rfl⟩
  have HM := Sl.mk hm
  rw [hm] at hl c0
  clear hm
  refine callsIn_of_wp_marks Tryd.func30 rfl trivial ?_ rfl
  simp only [Tryd.ntmps30, List.size_toArray, List.length_cons, List.length_nil, Nat.reduceAdd, Nat.reduceSub, Array.replicate_succ, Array.replicate_zero, List.push_toArray, List.append_toArray, List.nil_append, List.cons_append]
  gi_wp2
  obtain ⟨by_, hby⟩ : ∃ b, W.heap.size = b := ⟨_, rfl⟩
  have HBY := Sl.mk hby
  have hbx := Boxed.new W 41 (.func (.yield l0) #[] #[])
  obtain ⟨W1, hW1⟩ : ∃ W1, W.alloc (.cells #[.func (.yield l0) #[] #[]] 41) = W1 := ⟨_, rfl⟩
  have HB1 : Sl (Below n₀ W W1) := ⟨by rw [← hW1]; exact (Below.refl n₀ W).alloc (by omega) _⟩
  have HJ1 : Sl (J (fun r => r = bv ∨ r = by_) [] W1) := ⟨by
    rw [← hW1]
    exact HFJ.out.kept (HFJ.out.wide hJ (fun r hr => hr.imp id (fun e => by omega))) (Turn.alloc _ _ _ _)⟩
  have HZ1 : Sl (W1.heap.size = by_ + 1) := ⟨by rw [← hW1, World.size_alloc, hby]⟩
  have hlt0 := h0.lt
  rw [hby] at hbx hlt0 ⊢
  rw [hW1] at hbx ⊢
  have HBX := Sl.mk hbx
  have HN : Sl (n₀ ≤ W.heap.size) := ⟨by omega⟩
  clear hW1 hbx hby c0 h0 hJ hB0
  refine wpIn_loop (fun a' w' => ∃ (k : Nat) (ds : List Nat) (Y : Nat → Prop) (u4 u5 u9 u10 u11 u12 u13 u14 u15 u16 u17 u18 u19 u20 u21 u22 u23 u24 u25 : Value), k ≤ m ∧
      a' = { tmps := #[.func (.yield l0) #[] #[], .pointer (some ⟨bv, 0, none⟩), .pointer (some ⟨by_, 0, none⟩), undef, u4, u5, .slice ad m ca, .int .i64 m, .int .i64 k, u9, u10, u11, u12, u13, u14, u15, u16, u17, u18, u19, u20, u21, u22, u23, u24, u25], defers := ds.map markOf } ∧ Sl (Rel30 n₀ bv by_ l0 J l W k ds Y w'))
    (fun a' _ => m - (intOf (a'.tmps.getD 8 undef)).toNat) ?_ ?_
  · exact ⟨0, [], fun r => r = bv ∨ r = by_, _, _, _, _, _, _, _, _, _, _, _, _, _, _, _, _, _, _, _, Nat.zero_le _, rfl, ⟨⟨.inl rfl, fun r hr => by rw [HZ1.out]; rcases hr with hr | hr <;> omega, .inr rfl, HJ1.out, HBX.out, List.nodup_nil, (fun D hD => by cases hD), HB1.out⟩⟩⟩
  · rintro a' wr ⟨k, ds, Y, u4, u5, u9, u10, u11, u12, u13, u14, u15, u16, u17, u18, u19, u20, u21, u22, u23, u24, u25, hk, rfl, HR⟩
    by_cases hlt : k < m
    · obtain ⟨rfl, hsa⟩ := HA.out (by rw [HM.out]; omega)
      obtain ⟨p, hp⟩ : ∃ p, l.getD k ByteArray.empty = p := ⟨_, rfl⟩
      have HP := Sl.mk hp
      have e0 : wr.cell? ⟨sa, oa + k, none⟩ = some (.string p) := by
        rw [HR.out.below.cell (p := ⟨sa, oa + k, none⟩) hsa, HCE.out k (by rw [HM.out]; omega), hp]
      have HPS : Sl (p.size ≤ maxLen) := ⟨HSZ.out p (by
        rw [← hp, List.getD_eq_getElem?_getD, List.getElem?_eq_getElem (by rw [HM.out]; omega)]; exact List.getElem_mem _)⟩
      have hk0 : (0 : Int) ≤ (k : Int) := by omega
      have hk1 : (k : Int) < (m : Int) := by omega
      clear hp
      gi_wp2_with (gi_at_call 31; refine (callsIn_wide.2 (splitSeq_any p _)).mono ?_; rintro e w1 ⟨rfl, B0, B1, B2, HS, HB⟩)
      obtain ⟨bs, hbs⟩ : ∃ bs, wr.heap.size = bs := ⟨_, rfl⟩
      rw [hbs] at B0 B1 B2 HS ⊢
      have HBS := Sl.mk hbs
      have hbyl := lt_of_some HR.out.box
      have hJw : J Y (tell (l.take k)) w1 := HFJ.out.kept HR.out.J (Turn.of_below HB.out)
      have hJo : J (fun r => Y r ∨ own3 bs r) (tell (l.take k) ++ tellC []) w1 := by
        have h1 := HFJ.out.wide (Y := fun r => Y r ∨ own3 bs r) HR.out.J (fun r hr => by
          rcases hr with hr | rfl | rfl | rfl
          · exact .inl hr
          · exact .inr (by omega)
          · exact .inr (by omega)
          · exact .inr (by omega))
        have h2 := HFJ.out.kept h1 (Turn.of_below HB.out)
        rw [show tellC [] = [] from rfl, List.append_nil]
        exact h2
      have hI0 : In30 w1.heap.size n₀ by_ l0 J l W k ds Y (own3 bs) [] w1 := by
        refine ⟨hJo, ⟨(HB.out.block by_ hbyl).trans HR.out.box, ?_⟩, fun D hD => ?_, HR.out.below.trans (HB.out.mono (Nat.le_trans HN.out HR.out.below.size)), Nat.le_refl _⟩
        · rintro (e | e | e) <;> omega
        · have h1 := (HR.out.marks D hD).1
          have h2 := lt_of_some h1
          exact ⟨(HB.out.block D h2).trans h1, by rintro (e | e | e) <;> omega⟩
      have HI0 := Sl.mk hI0
      have hn0 : n₀ ≤ bs := by have := HR.out.below.size; have := HN.out; omega
      have HLW : Sl (∀ r, own3 bs r → r < w1.heap.size) := ⟨by rintro r (rfl | rfl | rfl) <;> rw [HS.out] <;> omega⟩
      have HYL : Sl (∀ r, Y r → r < w1.heap.size) := ⟨fun r hr => by have := HR.out.lt r hr; rw [HS.out]; omega⟩
      have HNB : Sl (Y bv ∧ Y by_ ∧ ds.Nodup ∧ ∀ D, D ∈ ds → Y D ∧ n₀ ≤ D) := ⟨HR.out.hbv, HR.out.nby, HR.out.nd, fun D hD => ⟨(HR.out.marks D hD).2.1, (HR.out.marks D hD).2.2⟩⟩
      have HW1 : Sl (n₀ ≤ w1.heap.size) := ⟨by rw [HS.out]; omega⟩
      have HSEQ : Sl (SeqX Fence.wide (n - 1) Tryd.prog 47 #[.pointer (some ⟨bs + 1, 0, none⟩), .pointer (some ⟨bs, 0, none⟩), .pointer (some ⟨bs + 2, 0, none⟩)] (fun x : ByteArray => #[Value.string x]) n₀ (own3 bs) (cuts p) w1) :=
        ⟨split1_seq (n - 1) (by omega) n₀ bs p w1 HPS.out hn0 B0.out B1.out B2.out⟩
      clear hI0 hJo hJw hbs B0 B1 B2
      refine range_law (n := n) (gf := 47) (lb := #[.pointer (some ⟨bs + 1, 0, none⟩), .pointer (some ⟨bs, 0, none⟩), .pointer (some ⟨bs + 2, 0, none⟩)]) rfl hn1 rfl trivial (enters_of Tryd.func47 (by kernel_rfl) rfl)
        HSEQ.out HLW.out HW1.out (fun _ => rfl) (In30 w1.heap.size n₀ by_ l0 J l W k ds Y) (Stop30 Jx l ds Y) (foot_In30 HFJ.out l W HN.out k ds Y) (foot_Stop30 HFX.out l ds Y) HI0.out
        (fun x => { tmps := #[.func (.yield l0) #[] #[], .pointer (some ⟨bv, 0, none⟩), .pointer (some ⟨by_, 0, none⟩), undef, .string p, .string x, .slice (some ⟨sa, oa, none⟩) m ca, .int .i64 m, .int .i64 k, .bool true, .pointer (some ⟨sa, oa + k, none⟩), .string p, .string p,
          .func (.func 47) #[] #[.pointer (some ⟨bs + 1, 0, none⟩), .pointer (some ⟨bs, 0, none⟩), .pointer (some ⟨bs + 2, 0, none⟩)], .string x, u15, u16, u17, u18, u19, u20, u21, u22, u23, u24, u25], defers := [] }) ?assign ?body ?done ?stop
      case assign =>
        intro l1 x V K hK
        gi_wp2
        exact hK
      case body =>
        intro l1 Z pre x V hXZ hI hZ hpre
        have HI := Sl.mk hI
        have HZL := Sl.mk hZ
        have HXZ := Sl.mk hXZ
        have HPRE := Sl.mk hpre
        have cb := Box.cell hI.2.1.1
        have hxs : x.size ≤ maxLen := Nat.le_trans (cuts_le p x (by obtain ⟨t, ht⟩ := hpre; rw [← ht]; simp)) HPS.out
        have HT : Sl (∀ V, Calls Tryd.prog 32 #[.string x, .string { data := #[32, 9] }] V fun e w' => e = .returned (.string (trimS x)) ∧ Below V.heap.size V w') := ⟨fun V => trim_laid x V hxs⟩
        clear hI hZ hXZ hpre
        obtain ⟨t, ht⟩ : ∃ t, trimS x = t := ⟨_, rfl⟩
        rw [ht] at HT
        have HTX := Sl.mk ht
        clear ht
        have hn2 : 1 ≤ n - 1 - 1 := by omega
        by_cases ht0 : 0 < t.size
        · have hq1 : t.toList.isEmpty = false := by
            cases h : t.toList with
            | nil => have := bytes_length t; rw [toList_bytes, h] at this; simp at this; omega
            | cons a b => rfl
          have hq2 : (t.toList = []) = False := eq_false (fun e => by rw [e] at hq1; cases hq1)
          have HTC : Sl (tellC (pre ++ [x]) = tellC pre ++ [t]) := ⟨by rw [← HTX.out]; exact tellC_yes pre (by rw [HTX.out]; exact ht0)⟩
          have HYG : Sl (∀ w2, Below V.heap.size V w2 → YieldAt Fence.wide (n - 1 - 1 - 1) Tryd.prog l0 #[Value.string t] w2 fun e W' =>
              (e = .returned (.bool true) ∧ J (fun r => Y r ∨ Z r) (tell (l.take k) ++ tellC (pre ++ [x])) W' ∧ Stay n₀ (fun r => Y r ∨ Z r) w2 W') ∨ (e = .returned (.bool false) ∧ (∃ q, q <+: tell l ∧ Jx (fun r => Y r ∨ Z r) q W') ∧ Stay n₀ (fun r => Y r ∨ Z r) w2 W')) := ⟨fun w2 hb => by
            have h1 := HYY.out (fun r => Y r ∨ Z r) (tell (l.take k) ++ tellC pre) t w2 (fun r hr => .inl (by rw [hr]; exact HNB.out.1)) (HFJ.out.kept HI.out.1 (Turn.of_below hb)) (fun r hr => by
              rcases hr with hr | hr
              · exact Nat.lt_of_lt_of_le (HYL.out r hr) (Nat.le_trans HI.out.2.2.2.2 hb.size)
              · exact Nat.lt_of_lt_of_le (HZL.out r hr) hb.size) (by
                rw [List.append_assoc, ← HTC.out]
                exact tell_step (by rw [HM.out]; exact hlt) (by rw [HP.out]; exact HPRE.out))
            refine (yield_depth h1).mono (fun e W' h => ?_)
            rcases h with ⟨g1, g2, g3⟩ | ⟨g1, g2, g3⟩
            · exact .inl ⟨g1, by rw [HTC.out, ← List.append_assoc]; exact g2, g3⟩
            · exact .inr ⟨g1, ⟨_, by rw [List.append_assoc, ← HTC.out]; exact tell_step (by rw [HM.out]; exact hlt) (by rw [HP.out]; exact HPRE.out), g2⟩, g3⟩⟩
          gi_wp2_with (gi_at_call 32; refine (CallsIn.inRound l1 (callsIn_wide.2 (HT.out _))).mono ?_; rintro e w2 ⟨rfl, hb2⟩; have HB2 := Sl.mk hb2; clear hb2; have cb2 := Box.cell (Box.below HI.out.2.1.1 HB2.out); obtain ⟨fn, tmps, assign, body, hy, hR⟩ := HYG.out w2 HB2.out; have HRR := Sl.mk hR; clear hR)
          refine HRR.out.mono ?_
          rintro e W3 (⟨rfl, hJ3, hS3⟩ | ⟨rfl, hJ3, hS3⟩)
          · have HJ3 := Sl.mk hJ3
            have HS3 := Sl.mk hS3
            clear hJ3 hS3
            gi_wp2
            have hv : Stay n₀ (fun r => Y r ∨ Z r) V W3 := (Stay.of_below HB2.out).trans HS3.out
            refine ⟨hv.mono (fun _ => .inr), HJ3.out, ⟨?_, HI.out.2.1.2⟩, fun D hD => ⟨?_, (HI.out.2.2.1 D hD).2⟩, HI.out.2.2.2.1.trans (hv.below (by have := HI.out.2.2.2.1.size; have := HN.out; omega)), Nat.le_trans HI.out.2.2.2.2 hv.size⟩
            · exact (hv.block by_ (lt_of_some HI.out.2.1.1) (.inl (.inl HNB.out.2.1))).trans HI.out.2.1.1
            · exact (hv.block D (lt_of_some (HI.out.2.2.1 D hD).1) (.inl (.inl (HNB.out.2.2.2 D hD).1))).trans (HI.out.2.2.1 D hD).1
          · have HJ3 := Sl.mk hJ3
            have HS3 := Sl.mk hS3
            clear hJ3 hS3
            gi_wp2
            have hv : Stay n₀ (fun r => Y r ∨ Z r) V W3 := (Stay.of_below HB2.out).trans HS3.out
            refine ⟨hv.mono (fun _ => .inr), ⟨rfl, HJ3.out⟩, fun D hD => ⟨?_, (HI.out.2.2.1 D hD).2⟩⟩
            exact (hv.block D (lt_of_some (HI.out.2.2.1 D hD).1) (.inl (.inl (HNB.out.2.2.2 D hD).1))).trans (HI.out.2.2.1 D hD).1
        · have hq2 : t.toList = [] := by
            cases h : t.toList with
            | nil => rfl
            | cons a b => exfalso; have := bytes_length t; rw [toList_bytes, h] at this; simp at this; omega
          have HTC : Sl (tellC (pre ++ [x]) = tellC pre) := ⟨tellC_no pre (by rw [HTX.out]; exact ht0)⟩
          gi_wp2_with (gi_at_call 32; refine (CallsIn.inRound l1 (callsIn_wide.2 (HT.out _))).mono ?_; rintro e w2 ⟨rfl, hb2⟩; have HB2 := Sl.mk hb2; clear hb2; have cb2 := Box.cell (Box.below HI.out.2.1.1 HB2.out))
          refine ⟨fun _ h => (by cases h), ?_⟩
          gi_wp2
          refine ⟨Stay.of_below HB2.out, ?_⟩
          have := (foot_In30 HFJ.out l W HN.out k ds Y).kept HI.out (Turn.of_below HB2.out)
          unfold In30 at this ⊢
          rw [HTC.out]
          exact this
      case done =>
        intro D Z W3 hD hXZ hZD hZ hI hWD
        have HI := Sl.mk hI
        have HZL := Sl.mk hZ
        have HWD := Sl.mk hWD
        have HD := Sl.mk hD
        have HZD := Sl.mk hZD
        clear hI hZ hWD hD hZD hXZ
        have HND : Sl ((D :: ds).Nodup) := ⟨List.nodup_cons.2 ⟨fun h => (HI.out.2.2.1 D h).2 HZD.out, HNB.out.2.2.1⟩⟩
        have HT1 : Sl (tell (l.take (k + 1)) = tell (l.take k) ++ tellC (cuts p)) := ⟨by rw [take_snoc' (by rw [HM.out]; exact hlt), tell_snoc, HP.out]⟩
        have HMK : Sl (∀ E, E ∈ D :: ds → W3.heap[E]? = some (.deferred (some [])) ∧ (Y E ∨ Z E) ∧ n₀ ≤ E) := ⟨fun E hE => by
          rcases List.mem_cons.1 hE with rfl | hE
          · exact ⟨HWD.out, .inr HZD.out, Nat.le_trans HW1.out HD.out⟩
          · exact ⟨(HI.out.2.2.1 E hE).1, .inl (HNB.out.2.2.2 E hE).1, (HNB.out.2.2.2 E hE).2⟩⟩
        have HLT : Sl (∀ r, Y r ∨ Z r → r < W3.heap.size) := ⟨fun r hr => by
          rcases hr with hr | hr
          · exact Nat.lt_of_lt_of_le (HYL.out r hr) HI.out.2.2.2.2
          · exact HZL.out r hr⟩
        gi_wp2
        have hc : ((k + 1 : Nat) : Int) = (k : Int) + 1 := by omega
        refine ⟨⟨k + 1, D :: ds, fun r => Y r ∨ Z r, _, _, _, _, _, _, _, _, _, _, _, _, _, _, _, _, _, _, _, by omega, by rw [hc]; rfl, ⟨⟨.inl HNB.out.1, HLT.out, .inl HNB.out.2.1, by rw [HT1.out]; exact HI.out.1, HI.out.2.1.1, HND.out, HMK.out, HI.out.2.2.2.1⟩⟩⟩, ?_⟩
        simp [intOf]; omega
      case stop =>
        intro D Z c pre W3 hD hXZ hZD hZ hpre hI hWD
        obtain ⟨⟨rfl, q, hq, hj⟩, hm⟩ := hI
        have HJ := Sl.mk hj
        have HMK := Sl.mk hm
        have HQ := Sl.mk hq
        have HWD := Sl.mk hWD
        have HD := Sl.mk hD
        have HZD := Sl.mk hZD
        have HXZ := Sl.mk hXZ
        clear hj hm hq hWD hD hZD hXZ hZ hpre
        have HND : Sl ((D :: ds).Nodup) := ⟨List.nodup_cons.2 ⟨fun h => (HMK.out D h).2 HZD.out, HNB.out.2.2.1⟩⟩
        gi_wp2
        show LeavesInM Fence.wide n Tryd.prog Tryd.f30 _ _ ((D :: ds).map markOf) .returning W3
        refine leave_marks (n₀ := n₀) (Z := fun r => Y r ∨ Z r) (D :: ds) W3 HND.out (fun E hE => ?_) (fun W' ht => ⟨_, results_none rfl _ _ _, ⟨_, rfl⟩, .inr ⟨q, HQ.out, HFX.out.wide (HFX.out.kept HJ.out ht) (fun r hr => .inl (.inl (by rw [hr]; exact HNB.out.1)))⟩⟩)
        rcases List.mem_cons.1 hE with rfl | hE
        · exact ⟨HWD.out, .inr HZD.out, Nat.le_trans HW1.out HD.out⟩
        · exact ⟨(HMK.out E hE).1, .inl (HNB.out.2.2.2 E hE).1, (HNB.out.2.2.2 E hE).2⟩
    · have hge : ((k : Int) < (m : Int)) = False := eq_false (by omega)
      gi_wp2
      show LeavesInM Fence.wide n Tryd.prog Tryd.f30 _ _ (ds.map markOf) .returning wr
      have hkm : l.take k = l := List.take_of_length_le (by rw [HM.out]; omega)
      have hJk := HR.out.J
      rw [hkm] at hJk
      exact leave_marks (n₀ := n₀) (Z := Y) ds wr HR.out.nd HR.out.marks (fun W' ht => ⟨_, results_none rfl _ _ _, ⟨_, rfl⟩, .inl (HFJ.out.wide (HFJ.out.kept hJk ht) (fun r hr => .inl (by rw [hr]; exact HR.out.hbv)))⟩)
end Go.Proofs.YtcdpkabbmdannaaDoor
