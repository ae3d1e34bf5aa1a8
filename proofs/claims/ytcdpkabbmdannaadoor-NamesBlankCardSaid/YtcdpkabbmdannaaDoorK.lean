/- List: the tokens of lists of them. -/
import Derived.Test.YtcdpkabbmdannaaDoorJ
import Derived.Maps.OwnIn
import Derived.Maps.AppendAt
namespace Go.Proofs.YtcdpkabbmdannaaDoor
open Go.RowKit Go.Shelf HeadPlain Flow

attribute [local go_sem] Oper.semAt_some

def tokT (t : ByteArray) : Bool := token (bytes t)
theorem tellC_bytes (ps : List ByteArray) : collect (ps.map bytes) = if (tellC ps).all tokT then some ((tellC ps).map bytes) else none := by
  induction ps with
  | nil => rfl
  | cons p ps ih =>
    rw [List.map_cons, collect, ih]
    have hz : (0 < (trimS p).size) ↔ trim (bytes p) ≠ [] := by
      rw [← trimS_bytes, ← bytes_length]
      cases bytes (trimS p) <;> simp
    by_cases h : trim (bytes p) = []
    · have hn : ¬ 0 < (trimS p).size := fun e => hz.1 e h
      rw [if_pos h]
      have hc : tellC (p :: ps) = tellC ps := by
        unfold tellC
        rw [List.map_cons, List.filter_cons, decide_eq_false hn, if_neg (by simp)]
      rw [hc]
    · have hy : 0 < (trimS p).size := hz.2 h
      rw [if_neg h]
      have hc : tellC (p :: ps) = trimS p :: tellC ps := by
        unfold tellC
        rw [List.map_cons, List.filter_cons, decide_eq_true hy, if_pos rfl]
      rw [hc, List.all_cons]
      by_cases ht : token (trim (bytes p)) = true
      · rw [if_pos ht]
        have h2 : tokT (trimS p) = true := by unfold tokT; rw [trimS_bytes]; exact ht
        rw [h2, Bool.true_and]
        split
        · simp [trimS_bytes]
        · rfl
      · rw [if_neg ht]
        have h2 : tokT (trimS p) = false := by unfold tokT; rw [trimS_bytes]; simpa using ht
        rw [h2, Bool.false_and]; rfl
theorem tell_toks (l : List ByteArray) : toksAll (l.map bytes) = if (tell l).all tokT then some ((tell l).map bytes) else none := by
  induction l with
  | nil => rfl
  | cons s l ih =>
    rw [List.map_cons, toksAll, ih, toks, ← cuts_bytes, tellC_bytes]
    have : tell (s :: l) = tellC (cuts s) ++ tell l := by unfold tell; rw [List.flatMap_cons]
    rw [this, List.all_append]
    cases h1 : (tellC (cuts s)).all tokT <;> cases h2 : (tell l).all tokT <;> simp [comb]
theorem parts_any (a : Option Addr) (m c : Nat) (w : World) : Calls Tryd.prog 22 #[.slice a m c] w fun e w' => e = .returned (.func (.func 30) #[] #[.pointer (some ⟨w.heap.size, 0, none⟩)]) ∧ w' = w.alloc (.cells #[.slice a m c] 22) := by
  go_enter Tryd.func22, Tryd.ntmps22
  go_wp2
  go_ret
  exact ⟨rfl, rfl⟩
/-- What List answers. -/
def ListR (w w' : World) (l : List ByteArray) (e : Ending) : Prop :=
  ((tell l).all tokT = true ∧ ∃ v, e = .returned (.tuple #[v, .int .i64 0]) ∧ OwnS w' w.heap.size v (tell l)) ∨ ((tell l).all tokT = false ∧ e = .returned (.tuple #[.slice none 0 0, .int .i64 60]))
/-- What holds between two parts. -/
def In11 (n₀ : Nat) (w : World) (X : Nat → Prop) (pre : List ByteArray) (W : World) : Prop :=
  (∃ v, (Box W (n₀ + 1 + 1) 22 v ∧ ¬ X (n₀ + 1 + 1)) ∧ OwnS W n₀ v pre ∧ (∀ g, v.ownBlock = some g → ¬ X g)) ∧ (Box W n₀ 22 (.slice none 0 0) ∧ ¬ X n₀) ∧ (Box W (n₀ + 1) 25 (.int .i64 0) ∧ ¬ X (n₀ + 1)) ∧ pre.all tokT = true ∧ Below n₀ w W
theorem own_turn {n₀ : Nat} {X : Nat → Prop} {W W' : World} {v : Value} {l : List ByteArray} (h : OwnS W n₀ v l) (hx : ∀ g, v.ownBlock = some g → ¬ X g) (ht : Turn n₀ X W W') : OwnS W' n₀ v l := by
  obtain ⟨h1, h2⟩ := h
  refine ⟨h1, ?_⟩
  rcases h2 with h2 | ⟨g, cap, cur, rfl, hg, hh, r⟩
  · exact .inl h2
  · exact .inr ⟨g, cap, cur, rfl, hg, (ht.block g (lt_of_some hh) (fun e => hx g rfl e.1)).trans hh, r⟩
theorem own_lt {n₀ : Nat} {W : World} {v : Value} {l : List ByteArray} (h : OwnS W n₀ v l) {g : Nat} (hg : v.ownBlock = some g) : g < W.heap.size := by
  rcases h.2 with ⟨rfl, _⟩ | ⟨g', cap, cur, rfl, _, hh, _⟩
  · cases hg
  · have : g' = g := by simpa [Value.ownBlock] using hg
    subst this
    exact lt_of_some hh
theorem foot_own (n₀ : Nat) (b : Nat) : Foot n₀ (fun X (pre : List ByteArray) W => ∃ v, (Box W b 22 v ∧ ¬ X b) ∧ OwnS W n₀ v pre ∧ (∀ g, v.ownBlock = some g → ¬ X g)) :=
  ⟨fun ⟨v, ⟨h1, h2⟩, h3, h4⟩ ht => ⟨v, ⟨(ht.block b (lt_of_some h1) (fun e => h2 e.1)).trans h1, h2⟩, own_turn h3 h4 ht, h4⟩,
   fun ⟨v, ⟨h1, h2⟩, h3, h4⟩ hy => ⟨v, ⟨h1, fun e => by
    rcases hy b e with h | h
    · exact h2 h
    · have := lt_of_some h1; omega⟩, h3, fun g hg e => by
    rcases hy g e with h | h
    · exact h4 g hg h
    · have := own_lt h3 hg; omega⟩⟩
theorem foot_In11 {n₀ : Nat} {w : World} (hn : n₀ ≤ w.heap.size) : Foot n₀ (In11 n₀ w) :=
  (foot_own n₀ (n₀ + 1 + 1)).and ((Foot.block n₀ (fun _ => _)).and ((Foot.block (n₀ + 1) (fun _ => _)).and ((Foot.pure (fun pre : List ByteArray => pre.all tokT = true)).and (Foot.below hn))))
def Stop11 (n₀ : Nat) (w : World) (c : Code) (X : Nat → Prop) (pre : List ByteArray) (W : World) : Prop :=
  (c = .ret ∧ pre.all tokT = false) ∧ (Box W n₀ 22 (.slice none 0 0) ∧ ¬ X n₀) ∧ (Box W (n₀ + 1) 25 (.int .i64 60) ∧ ¬ X (n₀ + 1)) ∧ Below n₀ w W
theorem foot_Stop11 {n₀ : Nat} {w : World} (hn : n₀ ≤ w.heap.size) (c : Code) : Foot n₀ (Stop11 n₀ w c) :=
  (Foot.pure (fun pre : List ByteArray => c = .ret ∧ pre.all tokT = false)).and ((Foot.block n₀ (fun _ => _)).and ((Foot.block (n₀ + 1) (fun _ => _)).and (Foot.below hn)))
theorem tellC_len (s : ByteArray) : (tellC (cuts s)).length ≤ s.size + 1 := by
  have h1 : (pieces (bytes s)).length ≤ (bytes s).length + 1 := by
    generalize bytes s = b
    induction b with
    | nil => simp [pieces]
    | cons x r ih =>
      obtain ⟨p, ps, e⟩ := pieces_ne r
      rw [pieces, e]
      rw [e] at ih
      split <;> simp at ih ⊢ <;> omega
  refine Nat.le_trans (List.length_filter_le _ _) ?_
  rw [List.length_map]
  unfold cuts
  rw [List.length_map]
  rwa [bytes_length] at h1
theorem tell_len (l : List ByteArray) (b : Nat) (h : ∀ s ∈ l, s.size ≤ b) : (tell l).length ≤ l.length * (b + 1) := by
  induction l with
  | nil => simp [tell]
  | cons s l ih =>
    have h1 : tell (s :: l) = tellC (cuts s) ++ tell l := by unfold tell; rw [List.flatMap_cons]
    have h2 := ih (fun x hx => h x (by simp [hx]))
    have h3 := tellC_len s
    have h4 := h s (by simp)
    rw [h1, List.length_append, List.length_cons, Nat.succ_mul]
    omega
theorem tell_size (l : List ByteArray) (h : ∀ s ∈ l, s.size ≤ maxLen) : ∀ t ∈ tell l, t.size ≤ maxLen := fun t ht => by
  unfold tell at ht
  obtain ⟨s, hs, ht⟩ := List.mem_flatMap.1 ht
  unfold tellC at ht
  obtain ⟨p, hp, rfl⟩ := List.mem_map.1 (List.mem_filter.1 ht).1
  exact Nat.le_trans (trimS_le p) (Nat.le_trans (cuts_le s p hp) (h s hs))

/-- One text more, in its own row, within a round. -/
theorem app_strIn {F : Fence} {n : Nat} {w : World} {ops : Array Oper} {rest : List Oper} {o : Oper} {a : Act} {Q : Exit → Act → World → Prop} (hgd : o.guard = none) (s x : Operand)
    (ho : o.op = .call { callee := .builtin .append, args := #[s, x], argTypes := #[22, 22] }) (base : Nat) (v : Value) (l : List ByteArray) (y : ByteArray) (hs : a.eval s = v) (hown : OwnS w base v l)
    (ad : Addr) (c : Nat) (hx : a.eval x = .slice (some ad) 1 c) (hy : w.cell? ad = some (.string y)) (hsp : ad.spot = none) (hl : l.length ≤ 1000000) (hbase : base ≤ w.heap.size)
    (h : ∀ v' w', Sl (OwnS w' base v' (l ++ [y])) → Sl (w.grownBy w' v.ownBlock) → Sl (v'.ownBlock = v.ownBlock ∨ v'.ownBlock = some w.heap.size) → wpListIn F n Tryd.prog ops Q rest (a.put o.dst v') w') : wpListIn F n Tryd.prog ops Q (o :: rest) a w := by
  obtain ⟨i0, hi, hz0, hz1, hz2⟩ := info9
  refine wpListIn_append_own_at _ hgd s x 22 ho base 9 i0 (.string ByteArray.empty) 1 16 Tryd.underlying22 hi hz0 hz1 hz2 rfl (by decide) v l.length (l.map Value.string) hs hown ad 1 c [.string y] hx rfl ?_ ?_ ?_ ?_ hbase ?_
  · intro j u hu
    match j, hu with
    | 0, hu =>
      obtain ⟨b, off, spot⟩ := ad
      simp only at hsp
      subst hsp
      rw [Addr.add_mid]
      injection hu with hu
      subst hu
      exact hy
  · intro u hu; simp at hu; subst hu; rfl
  · unfold maxLen; omega
  · omega
  · intro v' w' h1 h2 _ h4
    refine h v' w' ⟨?_⟩ ⟨h2⟩ ⟨h4⟩
    unfold OwnS
    rw [List.length_append, List.map_append]
    exact h1
theorem own_ne {W : World} {base b : Nat} {t : TypeId} {v u : Value} {l : List ByteArray} (h : OwnS W base v l) (hb : Box W b t u) (ht : t ≠ 9) : v.ownBlock ≠ some b := by
  rcases h.2 with ⟨rfl, _⟩ | ⟨g, cap, cur, rfl, _, hh, _⟩
  · intro e; cases e
  · intro e
    have : g = b := by simpa [Value.ownBlock] using e
    subst this
    have h2 := hh.symm.trans hb
    injection h2 with h2
    injection h2 with _ h3
    exact ht h3.symm
theorem own_ge {W : World} {base : Nat} {v : Value} {l : List ByteArray} (h : OwnS W base v l) {g : Nat} (hg : v.ownBlock = some g) : base ≤ g := by
  rcases h.2 with ⟨rfl, _⟩ | ⟨g', cap, cur, rfl, hb, _⟩
  · cases hg
  · have : g' = g := by simpa [Value.ownBlock] using hg
    omega

theorem results11 (W : World) (n₀ : Nat) (a : Option Addr) (k c : Nat) (e : Int) (u0 u1 u4 u5 u6 u7 u8 u9 u10 u11 u12 u13 u14 u15 u16 : Value) (h0 : W.cell? ⟨n₀, 0, none⟩ = some (.slice a k c)) (h1 : W.cell? ⟨n₀ + 1, 0, none⟩ = some (.int .i64 e)) :
    (results Tryd.f11 #[u0, u1, .pointer (some ⟨n₀, 0, none⟩), .pointer (some ⟨n₀ + 1, 0, none⟩), u4, u5, u6, u7, u8, u9, u10, u11, u12, u13, u14, u15, u16]).run Tryd.prog W = .ok (.tuple #[.slice a k c, .int .i64 e]) W := by
  simp [results, Tryd.results11, go_sem, h0, h1]
set_option maxRecDepth 100000 in
set_option maxHeartbeats 4000000 in
theorem list_any (l : List ByteArray) (v : Value) (w : World) (hl : l.length ≤ 1000000) (hs : ∀ s ∈ l, s.size ≤ maxLen) (hT : (tell l).length ≤ 1000000) (hg : Globs w) (hv : StrA w v l) :
    Calls Tryd.prog 11 #[v] w fun e w' => ListR w w' l e ∧ Sl (Below w.heap.size w w') := by
  have hv0 := hv
  obtain ⟨ad, ca, sa, oa, rfl, hca, haa, hcell⟩ := hv0
  obtain ⟨n₀, hn₀⟩ : ∃ n₀, w.heap.size = n₀ := ⟨_, rfl⟩
  have HN := Sl.mk hn₀
  obtain ⟨w4, hw4⟩ : ∃ w4, (((w.alloc (.cells #[.slice none 0 0] 22)).alloc (.cells #[.int .i64 0] 25)).alloc (.cells #[.slice none 0 0] 22)).alloc (.cells #[.slice ad l.length ca] 22) = w4 := ⟨_, rfl⟩
  have hB : Below w.heap.size w w4 := by rw [← hw4]; exact ((((Below.refl _ w).alloc (Nat.le_refl _) _).alloc (by simp) _).alloc (by simp; omega) _).alloc (by simp; omega) _
  have b0 : Box w4 n₀ 22 (.slice none 0 0) := by
    rw [← hw4, ← hn₀]; exact (((Boxed.new w 22 _).alloc _).alloc _).alloc _
  have b1 : Box w4 (n₀ + 1) 25 (.int .i64 0) := by
    have := ((Boxed.new (w.alloc (.cells #[.slice none 0 0] 22)) 25 (.int .i64 0)).alloc (.cells #[.slice none 0 0] 22)).alloc (.cells #[.slice ad l.length ca] 22)
    rw [World.size_alloc, hn₀] at this; rw [← hw4]; exact this
  have b2 : Box w4 (n₀ + 1 + 1) 22 (.slice none 0 0) := by
    have := (Boxed.new ((w.alloc (.cells #[.slice none 0 0] 22)).alloc (.cells #[.int .i64 0] 25)) 22 (.slice none 0 0)).alloc (.cells #[.slice ad l.length ca] 22)
    rw [World.size_alloc, World.size_alloc, hn₀] at this; rw [← hw4]; exact this
  have b3 : Box w4 (n₀ + 1 + 1 + 1) 22 (.slice ad l.length ca) := by
    have := Boxed.new (((w.alloc (.cells #[.slice none 0 0] 22)).alloc (.cells #[.int .i64 0] 25)).alloc (.cells #[.slice none 0 0] 22)) 22 (.slice ad l.length ca)
    rw [World.size_alloc, World.size_alloc, World.size_alloc, hn₀] at this; rw [← hw4]; exact this
  have hsz : w4.heap.size = n₀ + 4 := by rw [← hw4]; simp [hn₀]
  have hvB : StrB n₀ w4 (.slice ad l.length ca) l := by
    refine ⟨ad, ca, sa, oa, rfl, fun hp => ⟨haa hp, by have := block_lt_of_cell (hcell 0 hp); rw [hn₀] at this; exact this⟩, fun i hi => ?_⟩
    rw [hB.cell (p := ⟨sa, oa + i, none⟩) (block_lt_of_cell (hcell i hi))]; exact hcell i hi
  have HSEQ := Sl.mk (parts1_seq 40 (by omega) n₀ (n₀ + 1 + 1 + 1) l _ w4 hl hs (by omega) b3 hvB)
  have HB := Sl.mk hB
  have HG := Sl.mk hg
  have HTS := Sl.mk (tell_size l hs)
  have HSZ := Sl.mk hsz
  have HBX := Sl.mk (And.intro b0 (And.intro b1 b2))
  have hn1 : n₀ ≤ w4.heap.size := by omega
  clear hB hg hv hvB hs b0 b1 b2 b3 hsz hca haa hcell
  obtain ⟨i0, hi, hz0, hz1, hz2⟩ := info9
  have HINFO := Sl.mk (And.intro hi (And.intro hz0 (And.intro hz1 hz2)))
  clear hi hz0 hz1 hz2
  obtain ⟨m, hm⟩ : ∃ m, l.length = m := ⟨_, rfl⟩
  have HM := Sl.mk hm
  rw [hm] at hl hw4 ⊢
  clear hm
  refine (callsIn_wide (n := 41)).1 ?_
  refine callsIn_of_wp_marks Tryd.func11 rfl trivial ?_ rfl
  simp only [Tryd.ntmps11, List.size_toArray, List.length_cons, List.length_nil, Nat.reduceAdd, Nat.reduceSub, Array.replicate_succ, Array.replicate_zero, List.push_toArray, List.append_toArray, List.nil_append, List.cons_append]
  gi_wp2_with (refine ⟨trivial, ?_⟩; gi_at_call 22; refine (callsIn_wide.2 (parts_any _ _ _ _)).mono ?_; rintro e w' ⟨rfl, rfl⟩)
  have HSEQ' : Sl (SeqX Fence.wide 40 Tryd.prog 30 #[.pointer (some ⟨n₀ + 1 + 1 + 1, 0, none⟩)] (fun x => #[Value.string x]) n₀ (fun r => r = n₀ + 1 + 1 + 1) (tell l) w4) := HSEQ
  have HI0 : Sl (In11 n₀ w (fun r => r = n₀ + 1 + 1 + 1) [] w4) := ⟨⟨_, ⟨HBX.out.2.2, by omega⟩, World.ownsRow_nil _ _ _ _, fun g hg => by cases hg⟩, ⟨HBX.out.1, by omega⟩, ⟨HBX.out.2.1, by omega⟩, rfl, by rw [← HN.out]; exact HB.out⟩
  have hn41 : 1 ≤ 41 := by omega
  refine range_law (n := 41) (gf := 30) (lb := #[.pointer (some ⟨n₀ + 1 + 1 + 1, 0, none⟩)]) rfl hn41 rfl trivial (enters_of Tryd.func30 (by kernel_rfl) rfl)
    HSEQ'.out (fun r hr => by rw [HSZ.out, hr]; omega) hn1 (fun _ => rfl) (In11 n₀ w) (Stop11 n₀ w) (foot_In11 (by rw [HN.out]; exact Nat.le_refl _)) (foot_Stop11 (by rw [HN.out]; exact Nat.le_refl _)) HI0.out
    (fun x => { tmps := #[.slice ad m ca, undef, .pointer (some ⟨n₀, 0, none⟩), .pointer (some ⟨n₀ + 1, 0, none⟩), .pointer (some ⟨n₀ + 1 + 1, 0, none⟩), .string x, .slice ad m ca, .func (.func 30) #[] #[.pointer (some ⟨n₀ + 1 + 1 + 1, 0, none⟩)], .string x, undef, undef, undef, undef, undef, undef, undef, undef], defers := [] }) ?assign ?body ?done ?stop
  case assign =>
    intro l1 x V K hK
    gi_wp2
    exact hK
  case body =>
    intro l1 Z pre x V hXZ hI hZ hpre
    obtain ⟨⟨v, ⟨hb2, hz2⟩, hown, hrow⟩, ⟨hb0, hz0⟩, ⟨hb1, hz1⟩, hall, hbel⟩ := hI
    have HOWN := Sl.mk hown
    have HROW := Sl.mk hrow
    have B0 := Sl.mk hb0
    have B1 := Sl.mk hb1
    have B2 := Sl.mk hb2
    have HZ0 := Sl.mk (And.intro hz0 (And.intro hz1 hz2))
    have HALL := Sl.mk hall
    have HBEL := Sl.mk hbel
    have HZ := Sl.mk hZ
    have hxs : x.size ≤ maxLen := HTS.out x (by obtain ⟨t, ht⟩ := hpre; rw [← ht]; simp)
    have hlen : pre.length + 1 ≤ 1000000 := by have := hpre.length_le; simp at this; omega
    have hVn : n₀ + 1 + 1 < V.heap.size := hb2.lt
    have HTK : Sl (Calls Tryd.prog 23 #[.string x] V fun e w' => e = .returned (.bool (tokT x)) ∧ Sl (Below V.heap.size V w')) := ⟨token_any x V (HG.out.of (by rw [HN.out]; exact hbel)) hxs⟩
    clear hown hrow hb0 hb1 hb2 hz0 hz1 hz2 hall hbel hZ hpre hXZ
    obtain ⟨r, hr⟩ : ∃ r, tokT x = r := ⟨_, rfl⟩
    rw [hr] at HTK
    have HR := Sl.mk hr
    clear hr
    cases r with
    | false =>
      gi_wp2_with (refine ⟨trivial, ?_⟩; gi_at_call 23; refine (CallsIn.inRound l1 (callsIn_wide.2 HTK.out)).mono ?_; rintro e w2 ⟨rfl, HB2⟩; have C0 := Sl.mk (B0.out.below HB2.out); have C1 := Sl.mk (B1.out.below HB2.out); have c0 := C0.out.cell; have f0 := C0.out.frozen; have c1 := C1.out.cell; have f1 := C1.out.frozen)
      have hall2 : (pre ++ [x]).all tokT = false := by rw [List.all_append]; simp [HR.out]
      have g1 := (Stay.of_below (n₀ := n₀) (X := Z) HB2.out)
      have g2 := g1.trans (Stay.of_grown (grownBy_setCell' w2 n₀ (.slice none 0 0)) (fun k e => by cases e; exact ⟨HZ0.out.1, Nat.le_refl _⟩))
      have g3 := g2.trans (Stay.of_grown (grownBy_setCell' (w2.setCell ⟨n₀, 0, none⟩ (.slice none 0 0)) (n₀ + 1) (.int .i64 60)) (fun k e => by cases e; exact ⟨HZ0.out.2.1, by omega⟩))
      exact ⟨g3, ⟨rfl, hall2⟩, ⟨(C0.out.set _).other (by omega) _, HZ0.out.1⟩, ⟨(C1.out.other (by omega) _).set _, HZ0.out.2.1⟩, HBEL.out.trans (g3.below (by omega))⟩
    | true =>
      gi_wp2_with (first
        | (refine ⟨trivial, ?_⟩; gi_at_call 23; refine (CallsIn.inRound l1 (callsIn_wide.2 HTK.out)).mono ?_; rintro e w2 ⟨rfl, HB2⟩; have C2 := Sl.mk (B2.out.below HB2.out); have c2 := C2.out.cell; have f2 := C2.out.frozen)
        | (gi_at_builtin; refine app_strIn rfl _ _ rfl n₀ v pre x rfl ((HOWN.out.below HB2.out).below ((Below.refl _ w2).alloc (Nat.le_refl _) _)) ⟨w2.heap.size, 0, none⟩ 1 rfl (by simp) rfl (by omega) (by have := HB2.out.size; simp; omega) ?_; intro v' w3 HO3 HG3 HL3; have D2 : Sl (Box w3 (n₀ + 1 + 1) 22 v) := ⟨stays ((HOWN.out.below HB2.out).below ((Below.refl _ w2).alloc (Nat.le_refl _) _)) HG3.out (Boxed.alloc C2.out _) (by decide)⟩; have d2 := D2.out.cell; have e2 := D2.out.frozen; obtain ⟨a', c', hv'⟩ := HO3.out.slice; subst hv'))
      have hv1 : Sl (OwnS w3 n₀ (.slice a' (pre ++ [x]).length c') (pre ++ [x])) := HO3
      have HLEN : Sl ((pre ++ [x]).length = pre.length + 1) := ⟨by simp⟩
      have hz3 : ∀ g, (Value.slice a' (pre ++ [x]).length c').ownBlock = some g → ¬ Z g := fun g hg hz => by
        rcases HL3.out with h | h
        · exact HROW.out g (h.symm.trans hg) hz
        · have h2 := HZ.out g hz
          have h3 := HB2.out.size
          have h4 : g = (w2.alloc (.cells #[.string x] 9)).heap.size := by rw [h] at hg; injection hg with hg; exact hg.symm
          rw [alloc_size] at h4
          omega
      have hne := own_ne hv1.out D2.out (by decide)
      rw [HLEN.out] at hz3 hne hv1
      have g1 := Stay.of_below (n₀ := n₀) (X := Z) HB2.out
      have g2 := g1.trans (Stay.of_below ((Below.refl _ w2).alloc (Nat.le_refl _) (.cells #[.string x] 9)))
      have g3 := g2.trans (Stay.of_grown HG3.out (fun k hk => ⟨HROW.out k hk, own_ge HOWN.out hk⟩))
      have g4 := g3.trans (Stay.of_grown (grownBy_setCell' w3 (n₀ + 1 + 1) (.slice a' (pre.length + 1) c')) (fun k e => by cases e; exact ⟨HZ0.out.2.2, by omega⟩))
      have hb5 := HB2.out.trans (((Below.refl _ w2).alloc (Nat.le_refl _) (.cells #[.string x] 9)).mono HB2.out.size)
      have hsz := HB2.out.size
      have r0 : Box w3 n₀ 22 (.slice none 0 0) := stays ((HOWN.out.below HB2.out).below ((Below.refl _ w2).alloc (Nat.le_refl _) _)) HG3.out (Boxed.alloc (B0.out.below HB2.out) _) (by decide)
      have r1 : Box w3 (n₀ + 1) 25 (.int .i64 0) := stays ((HOWN.out.below HB2.out).below ((Below.refl _ w2).alloc (Nat.le_refl _) _)) HG3.out (Boxed.alloc (B1.out.below HB2.out) _) (by decide)
      refine ⟨g4, ⟨_, ⟨D2.out.set _, HZ0.out.2.2⟩, ?_, hz3⟩, ⟨r0.other (by omega) _, HZ0.out.1⟩, ⟨r1.other (by omega) _, HZ0.out.2.1⟩, by rw [List.all_append, HALL.out]; simp [HR.out], HBEL.out.trans (g4.below (by omega))⟩
      exact own_turn (n₀ := n₀) (X := fun r => r = n₀ + 1 + 1) hv1.out (fun g hg e => hne (by rw [hg, e])) (turn_set _ rfl (by omega))
  case done =>
    intro D Z V hD hXZ hZD hZ hI hWD
    obtain ⟨⟨v, ⟨hb2, hz2⟩, hown, hrow⟩, ⟨hb0, hz0⟩, ⟨hb1, hz1⟩, hall, hbel⟩ := hI
    have HOWN := Sl.mk hown
    have B0 := Sl.mk hb0
    have B1 := Sl.mk hb1
    have B2 := Sl.mk hb2
    have HZ0 := Sl.mk (And.intro hz0 (And.intro hz1 hz2))
    have HROW := Sl.mk hrow
    have HALL := Sl.mk hall
    have HBEL := Sl.mk hbel
    have HWD := Sl.mk hWD
    have HZD := Sl.mk hZD
    have HD := Sl.mk hD
    have c0 := hb0.cell
    have f0 := hb0.frozen
    have c1 := hb1.cell
    have f1 := hb1.frozen
    have c2 := hb2.cell
    clear hown hrow hb0 hb1 hb2 hz0 hz1 hz2 hall hbel hZ hXZ hWD hZD hD
    obtain ⟨a', c', hv'⟩ := HOWN.out.slice
    subst hv'
    have hz0 : ∀ g, (Value.slice a' (tell l).length c').ownBlock = some g → g ≠ D := fun g hg e => HROW.out g hg (by rw [e]; exact HZD.out)
    have N0 := own_ne HOWN.out B0.out (by decide)
    have N1 := own_ne HOWN.out B1.out (by decide)
    have HNE := Sl.mk (And.intro hz0 (And.intro N0 N1))
    clear hz0 N0 N1
    gi_wp2
    show LeavesInM Fence.wide 41 Tryd.prog Tryd.f11 _ _ ([D].map markOf) .returning _
    have hDn : n₀ + 2 ≤ D := by have := HD.out; have := HSZ.out; omega
    refine leave_marks (n₀ := n₀) (Z := fun r => r = D) [D] _ (by simp) (fun E hE => ?_) (fun W' ht => ?_)
    · simp at hE
      subst hE
      refine ⟨?_, rfl, by omega⟩
      rw [Below.heap_setCell _ _ _ _ (by simp; omega), Below.heap_setCell _ _ _ _ (by simp; omega)]
      exact HWD.out
    · have e0 : Box W' n₀ 22 (.slice a' (tell l).length c') := (ht.block n₀ ((B0.out.set _).other (by omega) _).lt (fun e => by omega)).trans ((B0.out.set (.slice a' (tell l).length c')).other (c := n₀ + 1) (by omega) (.int .i64 0))
      have e1 : Box W' (n₀ + 1) 25 (.int .i64 0) := (ht.block (n₀ + 1) ((B1.out.other (by omega) _).set _).lt (fun e => by omega)).trans ((B1.out.other (c := n₀) (by omega) (.slice a' (tell l).length c')).set (.int .i64 0))
      have o1 := own_turn (n₀ := n₀) (X := fun r => r = n₀) HOWN.out (fun g hg e => HNE.out.2.1 (by rw [hg, e])) (turn_set (.slice a' (tell l).length c') rfl (Nat.le_refl _))
      have o2 := own_turn (n₀ := n₀) (X := fun r => r = n₀ + 1) o1 (fun g hg e => HNE.out.2.2 (by rw [hg, e])) (turn_set (.int .i64 0) rfl (by omega))
      have o3 := own_turn o2 (fun g hg e => HNE.out.1 g hg e) ht
      refine ⟨_, results11 W' n₀ _ _ _ _ _ _ _ _ _ _ _ _ _ _ _ _ _ _ _ e0.cell e1.cell, .inl ⟨HALL.out, _, rfl, by rw [HN.out]; exact o3⟩, ⟨?_⟩⟩
      rw [HN.out]
      have hb := (HBEL.out.setCell (p := ⟨n₀, 0, none⟩) (Nat.le_refl _) (.slice a' (tell l).length c')).setCell (p := ⟨n₀ + 1, 0, none⟩) (by simp) (.int .i64 0)
      exact hb.trans (ht.below (Nat.le_trans (by rw [HN.out]; exact Nat.le_refl _) hb.size))
  case stop =>
    intro D Z c pre V hD hXZ hZD hZ hpre hI hWD
    obtain ⟨⟨rfl, hall⟩, ⟨hb0, hz0⟩, ⟨hb1, hz1⟩, hbel⟩ := hI
    have HZ0 := Sl.mk (And.intro hz0 hz1)
    have B0 := Sl.mk hb0
    have B1 := Sl.mk hb1
    have HALL := Sl.mk hall
    have HBEL := Sl.mk hbel
    have HWD := Sl.mk hWD
    have HZD := Sl.mk hZD
    have HD := Sl.mk hD
    have HPRE := Sl.mk hpre
    clear hb0 hb1 hz0 hz1 hall hbel hZ hXZ hWD hZD hD hpre
    gi_wp2
    show LeavesInM Fence.wide 41 Tryd.prog Tryd.f11 _ _ ([D].map markOf) .returning V
    have hDn : n₀ + 2 ≤ D := by have := HD.out; have := HSZ.out; omega
    refine leave_marks (n₀ := n₀) (Z := fun r => r = D) [D] _ (by simp) (fun E hE => ?_) (fun W' ht => ?_)
    · simp at hE
      subst hE
      exact ⟨HWD.out, rfl, by omega⟩
    · have e0 : Box W' n₀ 22 (.slice none 0 0) := (ht.block n₀ B0.out.lt (fun e => by omega)).trans B0.out
      have e1 : Box W' (n₀ + 1) 25 (.int .i64 60) := (ht.block (n₀ + 1) B1.out.lt (fun e => by omega)).trans B1.out
      have hno : (tell l).all tokT = false := by
        obtain ⟨t, ht⟩ := HPRE.out
        rw [← ht, List.all_append, HALL.out]; rfl
      refine ⟨_, results11 W' n₀ _ _ _ _ _ _ _ _ _ _ _ _ _ _ _ _ _ _ _ e0.cell e1.cell, .inr ⟨hno, rfl⟩, ⟨?_⟩⟩
      rw [HN.out]
      exact HBEL.out.trans (ht.below (Nat.le_trans (by rw [HN.out]; exact Nat.le_refl _) HBEL.out.size))
end Go.Proofs.YtcdpkabbmdannaaDoor
