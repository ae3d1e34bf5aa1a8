/- stream, plain: the frames that are told, how long what is kept can be, pieces. -/
import Derived.Test.YtimndpmbgfoofaaDoorStreamPlain
import Derived.Test.YtimndpmbgfoofaaDoorSmA
import Derived.Test.YtimndpmbgfoofaaDoorOpenStrs
import Derived.Test.YtimndpmbgfoofaaDoorSmB
import Derived.Test.YtimndpmbgfoofaaDoorStrsOwn
set_option maxRecDepth 100000
namespace StreamPlain
open MaskPlain FramePlain

theorem getL_k (xs : List Nat) : (getL xs).2.1 ≤ 9 ∧ ((getL xs).2.2 = 80 → xs.length ≤ 8) := by
  cases xs with
  | nil => exact ⟨by decide, fun _ => by decide⟩
  | cons x xs =>
    rw [getL]
    split
    · exact ⟨by simp, fun h => by simp at h⟩
    split
    · split
      · exact ⟨by simp, fun _ => by simp; omega⟩
      split
      · exact ⟨by simp, fun h => by simp at h⟩
      · exact ⟨by simp, fun h => by simp at h⟩
    split
    · exact ⟨by simp, fun h => by simp at h⟩
    split
    · exact ⟨by simp, fun h => by simp at h⟩
    split
    · exact ⟨by simp, fun _ => by simp; omega⟩
    · exact ⟨by simp, fun h => by simp at h⟩
/-- What isn't there to its end is no longer than a frame can be. -/
theorem one_more_le {s : List Nat} {masked : Bool} {most : Int} (hm : 0 ≤ most) (h : (one s masked most).2.2 = 90) : (s.length : Int) ≤ 13 + most := by
  cases s with
  | nil => simp; omega
  | cons x xs =>
    rw [one_cons] at h
    by_cases h1 : bad x = true
    · rw [if_pos h1] at h; exact absurd h (by decide)
    rw [if_neg h1] at h
    by_cases h2 : 0 < xs.length ∧ decide (128 ≤ xs.getD 0 0) ≠ masked
    · rw [if_pos h2] at h; exact absurd h (by decide)
    rw [if_neg h2, get_cons, if_neg h1] at h
    obtain ⟨k1, k2⟩ := getL_k xs
    by_cases h3 : 0 < xs.length ∧ 8 ≤ x % 16 ∧ 125 < xs.getD 0 0 % 128
    · rw [if_pos h3] at h; exact absurd h (by decide)
    rw [if_neg h3] at h
    by_cases h4 : (getL xs).2.2 = 81
    · rw [if_pos h4] at h; exact absurd h (by decide)
    rw [if_neg h4] at h
    by_cases h5 : (getL xs).2.2 = 80
    · have := k2 h5
      simp; omega
    rw [if_neg h5] at h
    by_cases h6 : most < ((getL xs).1 : Int)
    · rw [if_pos h6] at h; exact absurd h (by decide)
    rw [if_neg h6] at h
    unfold rest at h
    have hl : (xs.drop (getL xs).2.1).length = xs.length - (getL xs).2.1 := List.length_drop ..
    rw [hl] at h
    simp only [List.length_cons]
    split at h
    · split at h
      · omega
      · simp at h
    · split at h
      · omega
      · simp at h
/-- Behind an error nothing is left. -/
theorem all_zero (masked : Bool) (most : Int) : ∀ (k : Nat) (s : List Nat), s.length ≤ k → (∀ y ∈ s, y < 256) → (all s masked most).2.1 ≠ 0 → (all s masked most).2.2 = 0
  | 0, s, h, hs, h0 => by
    obtain rfl : s = [] := List.eq_nil_of_length_eq_zero (by omega)
    exact absurd rfl h0
  | k + 1, s, h, hs, h0 => by
    rw [all_step s masked most hs] at h0 ⊢
    by_cases h1 : (one s masked most).2.2 = 90
    · rw [if_pos h1] at h0; exact absurd rfl h0
    rw [if_neg h1] at h0 ⊢
    by_cases h2 : (one s masked most).2.2 ≠ 0
    · rw [if_pos h2]
    rw [if_neg h2] at h0 ⊢
    have h3 := one_len hs (by omega : (one s masked most).2.2 = 0)
    exact all_zero masked most k (s.drop (one s masked most).2.1) (by rw [List.length_drop]; omega) (fun y hy => hs y (List.mem_of_mem_drop hy)) h0
/-- How many bytes frames have. -/
def sumT (fs : List Fr) : Nat := (fs.map fun f => (text f).length).sum
theorem sumT_take_le (fs : List Fr) (j : Nat) : sumT (fs.take j) ≤ sumT fs := by
  have h : sumT fs = sumT (fs.take j) + sumT (fs.drop j) := by
    unfold sumT
    rw [← List.sum_append, ← List.map_append, List.take_append_drop]
  omega
theorem sumT_take_succ (fs : List Fr) (j : Nat) (h : j < fs.length) : sumT (fs.take (j + 1)) = sumT (fs.take j) + (text (fs.getD j Fr0)).length := by
  unfold sumT
  rw [List.take_add_one, List.map_append, List.sum_append, List.getElem?_eq_getElem h, List.getD_eq_getElem?_getD, List.getElem?_eq_getElem h]
  simp
/-- The frames that are told: what they are, and how many bytes they have. -/
theorem all_frs (masked : Bool) (most : Int) : ∀ (k : Nat) (s : List Nat), s.length ≤ k → (∀ y ∈ s, y < 256) →
    (∀ f ∈ (all s masked most).1, form f = true ∧ f.key.length = 4 ∧ (∀ y ∈ f.key, y < 256) ∧ (∀ y ∈ f.data, y < 256) ∧ (f.data.length : Int) ≤ most) ∧ sumT (all s masked most).1 ≤ s.length ∧ 2 * (all s masked most).1.length ≤ s.length
  | 0, s, h, hs => by
    obtain rfl : s = [] := List.eq_nil_of_length_eq_zero (by omega)
    exact ⟨fun f hf => (by cases hf), Nat.le_refl _, Nat.le_refl _⟩
  | k + 1, s, h, hs => by
    by_cases h1 : (one s masked most).2.2 = 90
    · rw [show all s masked most = ([], 0, s.length) by rw [all_step s masked most hs, if_pos h1]]
      exact ⟨fun f hf => (by cases hf), Nat.zero_le _, Nat.zero_le _⟩
    by_cases h2 : (one s masked most).2.2 ≠ 0
    · rw [show all s masked most = ([], (one s masked most).2.2, 0) by rw [all_step s masked most hs, if_neg h1, if_pos h2]]
      exact ⟨fun f hf => (by cases hf), Nat.zero_le _, Nat.zero_le _⟩
    obtain ⟨⟨f, n, c⟩, ho⟩ : ∃ r, one s masked most = r := ⟨_, rfl⟩
    have hc : c = 0 := by rw [ho] at h2; simp only at h2; omega
    subst hc
    obtain ⟨h3, h4, h5, h6, h7, h8, h9, h10⟩ := get_ok hs (one_ok ho).1
    have e : all s masked most = (f :: (all (s.drop n) masked most).1, (all (s.drop n) masked most).2) := by rw [all_step s masked most hs, if_neg h1, if_neg h2, ho]
    rw [e]
    obtain ⟨i1, i2, i3⟩ := all_frs masked most k (s.drop n) (by rw [List.length_drop]; omega) (fun y hy => hs y (List.mem_of_mem_drop hy))
    rw [List.length_drop] at i2 i3
    have hl : (text f).length = n := by rw [h4, List.length_take]; omega
    refine ⟨fun g hg => ?_, ?_, ?_⟩
    · rcases List.mem_cons.1 hg with rfl | hg
      · exact ⟨h3, h7, h8, h9, h10⟩
      · exact i1 g hg
    · show (text f).length + sumT (all (s.drop n) masked most).1 ≤ _
      omega
    · show 2 * ((all (s.drop n) masked most).1.length + 1) ≤ _
      omega
end StreamPlain
/- stream: the document's Few and Same. -/
set_option maxRecDepth 100000
namespace Go.Proofs.YtimndpmbgfoofaaDoor.Stm
open Go.RowKit MaskPlain FramePlain StreamPlain Mas Fra

/-- Texts that aren't too many or long. -/
def few (l : List ByteArray) : Bool := l.all (fun s => decide (s.size ≤ 300)) && decide (l.length ≤ 40)
/-- The cells of a frame in a row. -/
theorem FrsAt.at8 {W : World} {sb so n cap : Nat} {fs : List Fr} (h : FrsAt W (.slice (some ⟨sb, so, none⟩) n cap) fs) (i : Nat) (hi : i < fs.length) {c0 c1 c2 c3 c4 c5 c6 c7 : Value} (hc : (cv (fs.getD i Fr0)).toArray = #[c0, c1, c2, c3, c4, c5, c6, c7]) :
    W.cell? ⟨sb, so + i * 8, none⟩ = some c0 ∧ W.cell? ⟨sb, so + i * 8 + 1, none⟩ = some c1 ∧ W.cell? ⟨sb, so + i * 8 + 2, none⟩ = some c2 ∧ W.cell? ⟨sb, so + i * 8 + 3, none⟩ = some c3 ∧ W.cell? ⟨sb, so + i * 8 + 4, none⟩ = some c4 ∧ W.cell? ⟨sb, so + i * 8 + 5, none⟩ = some c5 ∧ W.cell? ⟨sb, so + i * 8 + 6, none⟩ = some c6 ∧ W.cell? ⟨sb, so + i * 8 + 7, none⟩ = some c7 := by
  obtain ⟨a, cap', sb', so', he, _, h3, h4⟩ := h
  injection he with e1 e2 e3
  rw [h3 (by omega)] at e1
  injection e1 with e1
  injection e1 with e4 e5
  subst e4 e5
  have hc' : cv (fs.getD i Fr0) = [c0, c1, c2, c3, c4, c5, c6, c7] := by simpa using congrArg Array.toList hc
  have g := h4 i hi
  rw [hc'] at g
  exact ⟨g 0 (by decide), g 1 (by decide), g 2 (by decide), g 3 (by decide), g 4 (by decide), g 5 (by decide), g 6 (by decide), g 7 (by decide)⟩
theorem FrsAt.cap {W : World} {a : Option Addr} {n cap : Nat} {fs : List Fr} (h : FrsAt W (.slice a n cap) fs) : n = fs.length ∧ (0 < n → ∃ sb so, a = some ⟨sb, so, none⟩) := by
  obtain ⟨a', cap', sb', so', he, _, h3, _⟩ := h
  injection he with e1 e2 e3
  refine ⟨e2, fun hp => ⟨sb', so', ?_⟩⟩
  rw [e1]; exact h3 (by omega)
theorem FrsAt.slice {W : World} {v : Value} {fs : List Fr} (h : FrsAt W v fs) : ∃ a c, v = .slice a fs.length c := by
  obtain ⟨a, c, _, _, rfl, _⟩ := h; exact ⟨a, c, rfl⟩
theorem cv_parts (f : Fr) : ∃ rf ro rm, ∃ ka kb kc kd : Nat, ∃ rd, (cv f).toArray = #[.bool rf, .int .i64 ro, .bool rm, .int .u8 ((ka : Nat) : Int), .int .u8 ((kb : Nat) : Int), .int .u8 ((kc : Nat) : Int), .int .u8 ((kd : Nat) : Int), .string rd] ∧ (Small 256 f.key → Small 256 [ka, kb, kc, kd]) :=
  ⟨_, _, _, _, _, _, _, _, rfl, fun h x hx => by
    simp only [List.mem_cons, List.not_mem_nil, or_false] at hx
    rcases hx with rfl | rfl | rfl | rfl <;> exact h.getD (by decide) _⟩
set_option maxHeartbeats 2000000 in
theorem same_yes (fs : List Fr) (u x : Value) (w : World) (hu : FrsAt w u fs) (hx : FrsAt w x fs) (hk : ∀ f ∈ fs, Small 256 f.key) (hl : fs.length ≤ 1000000) : Calls Tryd.prog 14 #[u, x] w fun e w' => e = .returned (.bool true) ∧ Sl (Below w.heap.size w w') := by
  obtain ⟨a, c, rfl⟩ := hu.slice
  obtain ⟨a', c', rfl⟩ := hx.slice
  have HU := Sl.mk hu
  have HX := Sl.mk hx
  have HK := Sl.mk hk
  obtain ⟨n, hn⟩ : ∃ n, fs.length = n := ⟨_, rfl⟩
  rw [hn] at HU HX ⊢
  have HN := Sl.mk hn
  rw [hn] at hl
  clear hu hx hk hn
  go_enter Tryd.func14, Tryd.ntmps14
  go_wp2
  go_loopw [5] (fun i wr => ∃ k : Nat, i = .int .i64 (k : Int) ∧ k ≤ n ∧ Sl (Below w.heap.size w wr)) (fun i _ => n - (intOf i).toNat)
  case atStart => exact ⟨0, rfl, Nat.zero_le _, ⟨Below.refl _ _⟩⟩
  case round =>
    obtain ⟨k, rfl, hkn, HB⟩ := hrel
    by_cases hlt : k < n
    · have hq : ((k : Int) < (n : Int)) = True := eq_true (by omega)
      obtain ⟨sb, so, rfl⟩ := HU.out.cap.2 (by omega)
      obtain ⟨sb', so', rfl⟩ := HX.out.cap.2 (by omega)
      obtain ⟨rf, ro, rm, ka, kb, kc, kd, rd, hcv, hks⟩ := cv_parts (fs.getD k Fr0)
      have hks' := hks (HK.out _ (by rw [List.getD_eq_getElem?_getD, List.getElem?_eq_getElem (by rw [HN.out]; exact hlt)]; exact List.getElem_mem _))
      have he := eq_same rf ro rm ka kb kc kd rd hks'
      obtain ⟨c0, c1, c2, c3, c4, c5, c6, c7⟩ := ((HU.out.below HB.out).below (Below.refl _ _).drew).at8 k (by rw [HN.out]; exact hlt) hcv
      obtain ⟨d0, d1, d2, d3, d4, d5, d6, d7⟩ := ((HX.out.below HB.out).below (Below.refl _ _).drew).at8 k (by rw [HN.out]; exact hlt) hcv
      clear hks hks' hcv
      go_upto_region 6 with fail
      go_still (by kernel_rfl)
      go_wp2
      exact ⟨⟨k + 1, by go_num, by omega, ⟨HB.out.drew⟩⟩, by simp [intOf]; omega⟩
    · obtain rfl : k = n := by omega
      have hq : ((k : Int) < (k : Int)) = False := eq_false (by omega)
      go_wp2
      go_ret
      exact ⟨rfl, HB⟩
end Go.Proofs.YtimndpmbgfoofaaDoor.Stm
/- stream: what came so far and what is told of it; what stays beside a stream. -/
set_option maxRecDepth 100000
namespace Go.Proofs.YtimndpmbgfoofaaDoor.Stm
open Go.RowKit MaskPlain FramePlain StreamPlain Mas Fra

/-- Of the bytes A these frames are told, e is wrong, and part is kept. -/
def FedS (A : List Nat) (masked : Bool) (most : Int) (fs : List Fr) (e : Nat) (part : List Nat) : Prop := ∃ lf, all A masked most = (fs, e, lf) ∧ part = A.drop (A.length - lf)
theorem fed_nil (masked : Bool) (most : Int) : FedS [] masked most [] 0 [] := ⟨0, rfl, rfl⟩
theorem fed_part {A : List Nat} {masked : Bool} {most : Int} {fs : List Fr} {e : Nat} {part : List Nat} (h : FedS A masked most fs e part) (hs : Small 256 A) : Small 256 part ∧ part.length ≤ A.length ∧ (e ≠ 0 → part = []) ∧ all A masked most = (fs, e, part.length) := by
  obtain ⟨lf, ha, rfl⟩ := h
  have hl := all_left masked most _ A (Nat.le_refl _) hs
  have hz := all_zero masked most _ A (Nat.le_refl _) hs
  rw [ha] at hl hz
  simp only at hl hz
  refine ⟨hs.drop _, by rw [List.length_drop]; omega, fun h => ?_, ?_⟩
  · rw [hz h, Nat.sub_zero, List.drop_length]
  · rw [ha, List.length_drop]; congr 2; omega
theorem drop_back (X Y : List Nat) (lf : Nat) (h : lf ≤ Y.length) : (X ++ Y).drop ((X ++ Y).length - lf) = Y.drop (Y.length - lf) := by
  rw [List.length_append, List.drop_append, List.drop_eq_nil_of_le (by omega), List.nil_append]
  congr 1; omega
theorem fed_more {A B : List Nat} {masked : Bool} {most : Int} {fs : List Fr} {part : List Nat} (h : FedS A masked most fs 0 part) (hs : Small 256 A) (hb : Small 256 B) {gs : List Fr} {e lf : Nat} (h2 : all (part ++ B) masked most = (gs, e, lf)) :
    FedS (A ++ B) masked most (fs ++ gs) e ((part ++ B).drop ((part ++ B).length - lf)) := by
  obtain ⟨l0, ha, rfl⟩ := h
  have hl := all_left masked most _ A (Nat.le_refl _) hs
  rw [ha] at hl
  have hp := all_append masked most B hb _ A (Nat.le_refl _) hs
  rw [ha] at hp
  simp only [if_true] at hp hl
  rw [h2] at hp
  have hl2 := all_left masked most _ (A.drop (A.length - l0) ++ B) (Nat.le_refl _) ((hs.drop _).append hb)
  rw [h2] at hl2
  simp only at hl2
  refine ⟨lf, hp, ?_⟩
  have e1 : A ++ B = A.take (A.length - l0) ++ (A.drop (A.length - l0) ++ B) := by rw [← List.append_assoc, List.take_append_drop]
  have h3 := drop_back (A.take (A.length - l0)) (A.drop (A.length - l0) ++ B) lf hl2
  rw [← e1] at h3
  exact h3.symm
theorem fed_still {A B : List Nat} {masked : Bool} {most : Int} {fs : List Fr} {e : Nat} {part : List Nat} (h : FedS A masked most fs e part) (he : e ≠ 0) (hs : Small 256 A) (hb : Small 256 B) : FedS (A ++ B) masked most (fs ++ []) e part ∧ part = [] := by
  obtain ⟨l0, ha, rfl⟩ := h
  have hz := all_zero masked most _ A (Nat.le_refl _) hs
  have hp := all_append masked most B hb _ A (Nat.le_refl _) hs
  rw [ha] at hp hz
  simp only at hz hp
  rw [if_neg he] at hp
  obtain rfl := hz he
  refine ⟨⟨0, by rw [List.append_nil]; exact hp, ?_⟩, ?_⟩ <;> simp
/-- Bytes more are fed, whether the stream is wrong already or not. -/
theorem feed_fed {A B : List Nat} {masked : Bool} {most : Int} {fs : List Fr} {e : Nat} {part : List Nat} (h : FedS A masked most fs e part) (hs : Small 256 A) (hb : Small 256 B) (hl : A.length + B.length ≤ 100000) (hmo : most ≤ 9223372036854775807) :
    ∃ gs e' part', FedS (A ++ B) masked most (fs ++ gs) e' part' ∧ (e ≠ 0 → gs = [] ∧ e' = e) ∧ ∀ (w0 W : World) (b : Nat) (v u : Value), Globs w0 → StrmAt w0 W b masked most part e v → SrcAt W u B →
      Calls Tryd.prog 24 #[.pointer (some ⟨b, 0, none⟩), u] W fun x w' => ∃ a c v', x = .returned (.tuple #[.slice a gs.length c, .int .i64 (e' : Int)]) ∧ Sl (FrsAt w' (.slice a gs.length c) gs) ∧ Sl (∀ g, (Value.slice a gs.length c).ownBlock = some g → W.heap.size ≤ g) ∧ Sl (StrmAt w0 w' b masked most part' e' v') ∧ Sl (Two W w' b (ob v b)) := by
  have hp := fed_part h hs
  by_cases he : e = 0
  · subst he
    obtain ⟨⟨gs, e', lf⟩, ha⟩ : ∃ r, all (part ++ B) masked most = r := ⟨_, rfl⟩
    exact ⟨gs, e', _, fed_more h hs hb ha, fun h => absurd rfl h, fun w0 W b v u hg hS hu => feed_ex hS hg u B hu hp.1 hb (by omega) hmo ha _ rfl _ rfl⟩
  · obtain ⟨h1, h2⟩ := fed_still h he hs hb
    refine ⟨[], e, part, h1, fun _ => ⟨rfl, rfl⟩, fun w0 W b v u hg hS hu => (feed_err hS he u).mono ?_⟩
    rintro x w' ⟨rfl, hS', hB⟩
    exact ⟨none, 0, v, rfl, ⟨⟨none, 0, 0, 0, rfl, Nat.le_refl _, fun h => absurd h (by decide), fun i hi => absurd hi (by simp)⟩⟩, ⟨fun g hg => by cases hg⟩, hS', ⟨Two.ofBelow hB.out⟩⟩
section
variable {w0 W W' : World} {b : Nat} {masked : Bool} {most : Int} {part : List Nat} {err : Nat} {v : Value}
/-- A row of another kind stays when a stream is fed. -/
theorem own_fed {base e size n : Nat} {u : Value} {xs : List Value} (h : W.ownsRow base e size u n xs) (hs : StrmAt w0 W b masked most part err v) (h1 : e ≠ 5) (h2 : e ≠ 80) (T : Two W W' b (ob v b)) : W'.ownsRow base e size u n xs := by
  refine ⟨h.1, ?_⟩
  rcases h.2 with hn | ⟨g, cap, cur, rfl, hb, hg, r⟩
  · exact .inl hn
  · refine .inr ⟨g, cap, cur, rfl, hb, ?_, r⟩
    have k1 : g ≠ b := fun e => by rw [e, hs.X] at hg; injection hg with hg; injection hg with _ hg; exact h2 hg.symm
    have k2 : v.ownBlock ≠ some g := ownB_kind hs.O hg h1
    rw [T.block g (Array.getElem?_eq_some_iff.1 hg).1 k1 (ob_ne k1 k2)]
    exact hg
/-- A stream stays when another one is fed. -/
theorem strm_two {b2 : Nat} {masked2 : Bool} {most2 : Int} {err2 : Nat} (h : StrmAt w0 W b2 masked2 most2 [] err2 (.slice none 0 0)) (hs : StrmAt w0 W b masked most part err v) (hne : b2 ≠ b) (T : Two W W' b (ob v b)) (L : Below w0.heap.size w0 W') : StrmAt w0 W' b2 masked2 most2 [] err2 (.slice none 0 0) where
  X := by rw [T.block b2 h.lt hne (ob_ne hne (ownB_kind hs.O h.X (by decide)))]; exact h.X
  O := World.ownsRow_nil _ _ _ _
  B := h.B
  L := L
/-- A stream stays when a row of another kind is grown. -/
theorem strm_told {base e size n : Nat} {u : Value} {xs : List Value} (hs : StrmAt w0 W b masked most part err v) (h : W.ownsRow base e size u n xs) (h1 : e ≠ 5) (h2 : e ≠ 80) (hb : w0.heap.size ≤ base) (g : W.grownBy W' u.ownBlock) : StrmAt w0 W' b masked most part err v :=
  hs.grown g (fun k hk => by
    rcases h.2 with ⟨rfl, _⟩ | ⟨g', cap, cur, rfl, hbg, hg, _⟩
    · cases hk
    · obtain rfl : g' = k := by simpa [Value.ownBlock] using hk
      exact ⟨fun e => by rw [e, hs.X] at hg; injection hg with hg; injection hg with _ hg; exact h2 hg.symm, ownB_kind hs.O hg h1, by omega⟩)
end
/-- A row stays when a row of another kind is grown. -/
theorem own_told {W W' : World} {base e size n base2 e2 size2 n2 : Nat} {u u2 : Value} {xs xs2 : List Value} (h : W.ownsRow base e size u n xs) (h2 : W.ownsRow base2 e2 size2 u2 n2 xs2) (hne : e ≠ e2) (g : W.grownBy W' u2.ownBlock) : W'.ownsRow base e size u n xs := by
  refine h.kept g ?_
  rcases h.2 with ⟨rfl, _⟩ | ⟨k, cap, cur, rfl, _, hh, _⟩
  · exact .inl rfl
  · refine .inr (fun e => ?_)
    rcases h2.2 with ⟨rfl, _⟩ | ⟨k', cap', cur', rfl, _, hh', _⟩
    · cases e
    · obtain rfl : k = k' := by simpa [Value.ownBlock] using e
      rw [hh] at hh'; injection hh' with hh'; injection hh' with _ hh'; exact hne hh'
end Go.Proofs.YtimndpmbgfoofaaDoor.Stm
