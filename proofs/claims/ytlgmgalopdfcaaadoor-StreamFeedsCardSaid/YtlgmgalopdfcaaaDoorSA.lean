/- stream: rows of frames. -/
import Derived.Test.YtlgmgalopdfcaaaDoorFrC
import Derived.Test.YtlgmgalopdfcaaaDoorStreamPlain
set_option maxRecDepth 100000
namespace Go.Proofs.YtlgmgalopdfcaaaDoor
open Go.RowKit MaskPlain FramePlain StreamPlain Mas Fra

/-- A frame's cells. -/
def cv (f : Fr) : List Value := [.bool f.fin, .int .i64 f.op, .bool f.masked, .int .u8 ((f.key.getD 0 0 : Nat) : Int), .int .u8 ((f.key.getD 1 0 : Nat) : Int), .int .u8 ((f.key.getD 2 0 : Nat) : Int), .int .u8 ((f.key.getD 3 0 : Nat) : Int), .string (strOf f.data)]
theorem cv_val (f : Fr) : valF f = .agg (cv f).toArray := rfl
def cvs (fs : List Fr) : List Value := fs.flatMap cv
theorem cvs_cons (f : Fr) (fs : List Fr) : cvs (f :: fs) = cv f ++ cvs fs := rfl
theorem cvs_length (fs : List Fr) : (cvs fs).length = fs.length * 8 := by
  induction fs with
  | nil => rfl
  | cons f fs ih => rw [cvs_cons, List.length_append, ih]; simp [cv]; omega
theorem cvs_append (a b : List Fr) : cvs (a ++ b) = cvs a ++ cvs b := by simp [cvs]
theorem cv_one (f : Fr) : ∀ u ∈ cv f, u.oneCell' = true := fun u hu => by
  simp only [cv, List.mem_cons, List.not_mem_nil, or_false] at hu
  rcases hu with rfl | rfl | rfl | rfl | rfl | rfl | rfl | rfl <;> rfl
theorem cvs_one {fs : List Fr} : ∀ u ∈ cvs fs, u.oneCell' = true := fun u hu => by
  simp only [cvs, List.mem_flatMap] at hu
  obtain ⟨f, _, hf⟩ := hu
  exact cv_one f u hf
theorem cvs_get : ∀ (fs : List Fr) (i : Nat), i < fs.length → ∀ j, j < 8 → (cvs fs)[i * 8 + j]? = (cv (fs.getD i Fr0))[j]?
  | [], i, hi, _, _ => by simp at hi
  | f :: fs, 0, _, j, hj => by
    rw [cvs_cons, Nat.zero_mul, Nat.zero_add, List.getElem?_append_left (by simpa [cv] using hj)]; rfl
  | f :: fs, i + 1, hi, j, hj => by
    rw [cvs_cons, show (i + 1) * 8 + j = i * 8 + j + 8 from by omega, List.getElem?_append_right (by simp [cv])]
    have := cvs_get fs i (by simpa using hi) j hj
    simpa [cv] using this
theorem cvs_at {fs : List Fr} {j : Nat} {u : Value} (h : (cvs fs)[j]? = some u) : j / 8 < fs.length ∧ (cv (fs.getD (j / 8) Fr0))[j % 8]? = some u := by
  have hj : j < (cvs fs).length := (List.getElem?_eq_some_iff.1 h).1
  rw [cvs_length] at hj
  refine ⟨by omega, ?_⟩
  rw [← cvs_get fs (j / 8) (by omega) (j % 8) (by omega), ← h]
  congr 1; omega
/-- A row of frames of one's own. -/
def OwnR (W : World) (base : Nat) (v : Value) (fs : List Fr) : Prop := W.ownsRow base 43 8 v fs.length (cvs fs)
/-- The frames fs are the elements of the slice v. -/
def FrsAt (W : World) (v : Value) (fs : List Fr) : Prop :=
  ∃ (a : Option Addr) (cap sb so : Nat), v = .slice a fs.length cap ∧ fs.length ≤ cap ∧ (0 < fs.length → a = some ⟨sb, so, none⟩) ∧ ∀ i, i < fs.length → ∀ j, j < 8 → W.cell? ⟨sb, so + i * 8 + j, none⟩ = (cv (fs.getD i Fr0))[j]?
theorem cv_some (f : Fr) (j : Nat) (hj : j < 8) : ∃ u, (cv f)[j]? = some u := ⟨_, List.getElem?_eq_getElem (by simpa [cv] using hj)⟩
theorem FrsAt.below {w w' : World} {v : Value} {fs : List Fr} (h : FrsAt w v fs) (hb : Below w.heap.size w w') : FrsAt w' v fs := by
  obtain ⟨a, cap, sb, so, h1, hc, h3, h4⟩ := h
  refine ⟨a, cap, sb, so, h1, hc, h3, fun i hi j hj => ?_⟩
  have g := h4 i hi j hj
  obtain ⟨u, hu⟩ := cv_some (fs.getD i Fr0) j hj
  rw [hu] at g ⊢
  have k0 := block_lt_of_cell g
  rw [hb.cell (p := ⟨sb, so + i * 8 + j, none⟩) k0]; exact g
/-- A row that is no part of what grew stays. -/
theorem FrsAt.grown {w w' : World} {v : Value} {fs : List Fr} {r : Option Nat} (h : FrsAt w v fs) (hg : w.grownBy w' r) (hne : ∀ g, v.ownBlock = some g → some g ≠ r) : FrsAt w' v fs := by
  obtain ⟨a, cap, sb, so, rfl, hc, h3, h4⟩ := h
  refine ⟨a, cap, sb, so, rfl, hc, h3, fun i hi j hj => ?_⟩
  have g := h4 i hi j hj
  obtain ⟨u, hu⟩ := cv_some (fs.getD i Fr0) j hj
  rw [hu] at g ⊢
  have k0 : sb < w.heap.size := block_lt_of_cell g
  obtain rfl := h3 (by omega)
  have hb : w'.heap[sb]? = w.heap[sb]? := hg.block sb k0 (hne sb rfl)
  rw [World.cell?_of_block (w := w) hb]; exact g
theorem FrsAt.two {w w' : World} {v : Value} {fs : List Fr} {b p : Nat} (h : FrsAt w v fs) (k : Two w w' b p) (h1 : v.ownBlock ≠ some b) (h2 : v.ownBlock ≠ some p) : FrsAt w' v fs := by
  obtain ⟨a, cap, sb, so, rfl, hc, h3, h4⟩ := h
  refine ⟨a, cap, sb, so, rfl, hc, h3, fun i hi j hj => ?_⟩
  have g := h4 i hi j hj
  obtain ⟨u, hu⟩ := cv_some (fs.getD i Fr0) j hj
  rw [hu] at g ⊢
  have k0 : sb < w.heap.size := block_lt_of_cell g
  obtain rfl := h3 (by omega)
  have hb : w'.heap[sb]? = w.heap[sb]? := k.block sb k0 (fun e => h1 (by simp [Value.ownBlock, e])) (fun e => h2 (by simp [Value.ownBlock, e]))
  rw [World.cell?_of_block (w := w) hb]; exact g
theorem OwnR.below {w w' : World} {base : Nat} {v : Value} {l : List Fr} (h : OwnR w base v l) (hb : Below w.heap.size w w') : OwnR w' base v l := own_below h hb
theorem OwnR.two {w w' : World} {base b p : Nat} {v : Value} {l : List Fr} (h : OwnR w base v l) (k : Two w w' b p) (h1 : v.ownBlock ≠ some b) (h2 : v.ownBlock ≠ some p) : OwnR w' base v l := by
  obtain ⟨hl, hh⟩ := h
  refine ⟨hl, ?_⟩
  rcases hh with ⟨rfl, hz⟩ | ⟨g, cap, cur, rfl, hg, hx, hr⟩
  · exact .inl ⟨rfl, hz⟩
  · refine .inr ⟨g, cap, cur, rfl, hg, ?_, hr⟩
    rw [k.block g (Array.getElem?_eq_some_iff.1 hx).1 (fun e => h1 (by simp [Value.ownBlock, e])) (fun e => h2 (by simp [Value.ownBlock, e]))]
    exact hx
theorem ownR_nil (R : World) (base : Nat) : OwnR R base (.slice none 0 0) [] := World.ownsRow_nil _ _ _ _
theorem OwnR.slice {W : World} {base : Nat} {v : Value} {l : List Fr} (h : OwnR W base v l) : ∃ a c, v = .slice a l.length c := by
  obtain ⟨_, h2⟩ := h
  rcases h2 with ⟨rfl, hz⟩ | ⟨g, cap, cur, rfl, _⟩
  · rw [hz]; exact ⟨_, _, rfl⟩
  · exact ⟨_, _, rfl⟩
theorem OwnR.frs {W : World} {base : Nat} {v : Value} {fs : List Fr} (ho : OwnR W base v fs) : FrsAt W v fs := by
  obtain ⟨h1, h2⟩ := ho
  rcases h2 with ⟨rfl, hz⟩ | ⟨g, cap, cur, rfl, hg, hh, hc1, hc2, hsz, htk⟩
  · exact ⟨none, 0, 0, 0, by rw [hz], by omega, fun h => by omega, fun i hi => by omega⟩
  · refine ⟨some ⟨g, 0, none⟩, cap, g, 0, rfl, hc1, fun _ => rfl, fun i hi j hj => ?_⟩
    have k := cvs_get fs i hi j hj
    rw [Nat.zero_add, ← k, cell_of_row _ _ _ _ _ _ hh, ← htk, List.getElem?_take_of_lt (by omega)]
    simp
theorem OwnR.ge {W : World} {base : Nat} {v : Value} {l : List Fr} (h : OwnR W base v l) {g : Nat} (hg : v.ownBlock = some g) : base ≤ g := by
  obtain ⟨_, h2⟩ := h
  rcases h2 with ⟨rfl, _⟩ | ⟨k, cap, cur, rfl, hk, _⟩
  · cases hg
  · have : k = g := by simpa [Value.ownBlock] using hg
    omega
/-- A block of another kind is no row of frames. -/
theorem OwnR.kind {W : World} {base g : Nat} {v : Value} {l : List Fr} {cs : Array Value} {t : TypeId} (ho : OwnR W base v l) (h : W.heap[g]? = some (.cells cs t (0, 0))) (ht : t ≠ 43) : v.ownBlock ≠ some g := fun e => by
  obtain ⟨_, h2⟩ := ho
  rcases h2 with ⟨rfl, _⟩ | ⟨k, cap, cur, rfl, _, hh, _⟩
  · cases e
  · obtain rfl : k = g := by simpa [Value.ownBlock] using e
    rw [h] at hh
    injection hh with hh
    injection hh with _ h4
    exact ht h4
theorem OwnR.keeps {W W' : World} {base B : Nat} {w0 : World} {v : Value} {l : List Fr} (h : OwnR W base v l) (hB : Below B w0 W) (hg : W.grownBy W' v.ownBlock) (hb : B ≤ base) (hs : B ≤ W.heap.size) : Below B w0 W' :=
  hB.grown hg hs (fun _ hk => Nat.le_trans hb (h.ge hk))
theorem info43 : ∃ i, Tryd.prog.info? 43 = some i ∧ i.zero = some (.agg #[.bool false, .int .i64 0, .bool false, .int .u8 0, .int .u8 0, .int .u8 0, .int .u8 0, .string ByteArray.empty]) ∧ i.size = 8 ∧ i.bytes = 40 := by
  have h5 : (Tryd.prog.info? 43).map (fun i => (i.zero, i.size, i.bytes)) = some (some (.agg #[.bool false, .int .i64 0, .bool false, .int .u8 0, .int .u8 0, .int .u8 0, .int .u8 0, .string ByteArray.empty]), 8, 40) := by kernel_rfl
  cases hi : Tryd.prog.info? 43 with
  | none => rw [hi] at h5; cases h5
  | some i =>
    rw [hi] at h5
    simp only [Option.map_some, Option.some.injEq, Prod.mk.injEq] at h5
    exact ⟨i, rfl, h5.1, h5.2.1, h5.2.2⟩
/-- What is appended to a row of one's own lies in its block, or in a new one. -/
theorem own_app {P : Program} {w : World} (base : Nat) (t ty e : TypeId) (i : TypeInfo) (z : Value) (size bytes : Nat) (ht : P.underlying t = some (.slice e)) (hi : P.info? e = some i) (hz : i.zero = some z)
    (hsize : i.size = size) (hby : i.bytes = bytes) (hzs : z.cells.size = size) (hsz : 0 < size)
    (v : Value) (n : Nat) (xs : List Value) (hown : w.ownsRow base e size v n xs)
    (a : Addr) (m c : Nat) (news : List Value) (hl : news.length = m * size) (hnews : ∀ j u, news[j]? = some u → w.cell? (a.add j) = some u) (h1 : ∀ u ∈ news, u.oneCell' = true)
    (h63 : n + m ≤ maxLen) (hbytes : (n + m) * bytes ≤ 140737488355328) (hbase : base ≤ w.heap.size) :
    ∃ v' w', (Builtin.append_ #[t, t] ty #[v, .slice (some a) m c]).run P w = .ok v' w' ∧ w'.ownsRow base e size v' (n + m) (xs ++ news) ∧ w.grownBy w' v.ownBlock ∧
      (v'.ownBlock = v.ownBlock ∨ v'.ownBlock = some w.heap.size) := by
  obtain ⟨v', w', hr, h2, h3, _⟩ := run_append_own (P := P) w base t ty e i z size bytes ht hi hz hsize hby hzs hsz v n xs hown a m c news hl hnews h1 h63 hbytes hbase
  refine ⟨v', w', hr, h2, h3, ?_⟩
  subst hsize hby
  rcases hown.2 with ⟨rfl, rfl⟩ | ⟨g, cap, cur, rfl, hbg, hg, hnc, hcm, hcs, htake⟩
  · have hx : xs = [] := List.eq_nil_of_length_eq_zero (by simpa using hown.1)
    subst hx
    obtain ⟨v2, w2, hr2, h4, _, h5⟩ := run_append_own (P := P) w w.heap.size t ty e i z i.size i.bytes ht hi hz rfl rfl hzs hsz _ 0 [] (World.ownsRow_nil w w.heap.size e i.size) a m c news hl hnews h1 h63 hbytes (Nat.le_refl _)
    rw [hr] at hr2
    injection hr2 with e1 e2
    subst e1 e2
    by_cases hm : m = 0
    · rw [h5.2 ⟨rfl, hm⟩]; exact .inl rfl
    · have hr3 := run_append_nil (P := P) w t ty e i z ht hi hz a m c news hl hnews (by omega) (by unfold maxLen at h63; omega) (by have hb := hbytes; simp only [Nat.zero_add] at hb; omega)
      rw [hr] at hr3
      injection hr3 with e1 e2
      rw [e1]; exact .inr rfl
  · by_cases hroom : n + m ≤ cap
    · have hfit : n * i.size + news.length ≤ cur.size := by rw [hl, hcs, ← Nat.add_mul]; exact Nat.mul_le_mul_right _ hroom
      have hr2 := run_append_room (P := P) (ty := ty) w t e i ht hi g n cap cur hg a m c news hl hnews h1 hroom hfit
      rw [hr] at hr2
      injection hr2 with e1 e2
      rw [e1]; exact .inl rfl
    · have holds : ∀ j u, xs[j]? = some u → w.cell? ((⟨g, 0, none⟩ : Addr).add j) = some u := hown.cells (g := g) rfl
      have hr2 := run_append_grow (P := P) w t ty e i z ht hi hz ⟨g, 0, none⟩ n cap xs hown.1 holds a m c news hl hnews (by omega) (by unfold maxLen at h63; omega) (growslice_fits (by omega) hbytes)
      rw [hr] at hr2
      injection hr2 with e1 e2
      rw [e1]; exact .inr rfl
/-- Frames that lie behind a slice, behind a row of one's own. -/
theorem add_frs {Z : World} {base : Nat} {v0 x : Value} {m l : List Fr} (hown : OwnR Z base v0 m) (hx : FrsAt Z x l) (hl : m.length + l.length ≤ 1000000) (hbase : base ≤ Z.heap.size) :
    ∃ v1 w1, (Builtin.append_ #[29, 29] 29 #[v0, x]).run Tryd.prog Z = .ok v1 w1 ∧ OwnR w1 base v1 (m ++ l) ∧ Z.grownBy w1 v0.ownBlock ∧ (v1.ownBlock = v0.ownBlock ∨ v1.ownBlock = some Z.heap.size) := by
  obtain ⟨i0, hi0, hz0, hz1, hz2⟩ := info43
  obtain ⟨ad, cap, sb, so, rfl, hcap, had, hcell⟩ := hx
  have key : ∀ a : Addr, (0 < l.length → a = ⟨sb, so, none⟩) → ∃ v1 w1, (Builtin.append_ #[29, 29] 29 #[v0, .slice (some a) l.length cap]).run Tryd.prog Z = .ok v1 w1 ∧ OwnR w1 base v1 (m ++ l) ∧ Z.grownBy w1 v0.ownBlock ∧ (v1.ownBlock = v0.ownBlock ∨ v1.ownBlock = some Z.heap.size) := fun a ha => by
    obtain ⟨v', w', h1, h2, h3, h4⟩ := own_app (P := Tryd.prog) (w := Z) base 29 29 43 i0 _ 8 40 Tryd.underlying29 hi0 hz0 hz1 hz2 rfl (by decide) v0 m.length (cvs m) hown a l.length cap (cvs l) (cvs_length l) (fun j u hu => by
      obtain ⟨hi, h⟩ := cvs_at hu
      obtain rfl := ha (by omega)
      have g1 := hcell _ hi (j % 8) (by omega)
      rw [Addr.add_mid, ← h, ← g1]
      congr 2; omega) cvs_one (by unfold maxLen; omega) (by omega) hbase
    refine ⟨v', w', h1, ?_, h3, h4⟩
    unfold OwnR
    rw [List.length_append, cvs_append]
    exact h2
  cases ad with
  | some a => exact key a (fun h => by have := had h; injection this)
  | none =>
    have hz : l.length = 0 := by
      by_cases h : 0 < l.length
      · have := had h; cases this
      · omega
    have hf : l = [] := List.eq_nil_of_length_eq_zero hz
    subst hf
    refine ⟨v0, Z, ?_, by rw [List.append_nil]; exact hown, grown_refl _ _, .inl rfl⟩
    rcases hown.2 with ⟨rfl, _⟩ | ⟨g, c, cur, rfl, _, _, hnc, _⟩
    · simp [Builtin.append_, run_underlying Tryd.underlying29, sizeOf, typeInfo, hi0, Builtin.lenOf, Builtin.firstCells]
    · simp [Builtin.append_, run_underlying Tryd.underlying29, sizeOf, typeInfo, hi0, Builtin.lenOf, Builtin.firstCells, storeCells]
      intro hc
      exact absurd hc (by omega)
/-- One frame that lies in a block of its own is a slice of it. -/
theorem frs_one {W : World} {g : Nat} {f : Fr} {cs : Array Value} {t : TypeId} (h : W.heap[g]? = some (.cells cs t (0, 0))) (hc : cs = (cv f).toArray) : FrsAt W (.slice (some ⟨g, 0, none⟩) 1 1) [f] := by
  subst hc
  refine ⟨_, 1, g, 0, rfl, Nat.le_refl _, fun _ => rfl, fun i hi j hj => ?_⟩
  obtain rfl : i = 0 := by simpa using hi
  rw [cell_of_row _ _ _ _ _ _ h, List.getElem?_toArray]
  congr 1; omega
/-- An append of frames that stands in its turn. -/
theorem app_frs {w : World} {ops : Array Oper} {rest : List Oper} {o : Oper} {a : Act} {Q : Exit → Act → World → Prop} (hgd : o.guard = none) (s x : Operand)
    (ho : o.op = .call { callee := .builtin .append, args := #[s, x], argTypes := #[29, 29] }) (hty : o.type = 29) (base : Nat) (v u : Value) (fs gs : List Fr) (hs : a.eval s = v) (hown : OwnR w base v fs)
    (hx : a.eval x = u) (hu : FrsAt w u gs) (hl : fs.length + gs.length ≤ 1000000) (hbase : base ≤ w.heap.size)
    (h : ∀ v' w', Sl (OwnR w' base v' (fs ++ gs)) → Sl (w.grownBy w' v.ownBlock) → wpList Tryd.prog ops Q rest (a.put o.dst v') w') : wpList Tryd.prog ops Q (o :: rest) a w := by
  obtain ⟨v1, w1, hrun, h1, h2, _⟩ := add_frs hown hu hl hbase
  refine wpList_plain hgd fun K hK => ?_
  unfold Oper.wp
  have hy : (execOp a.eval o).run Tryd.prog w = .ok (.value v1) w1 := by
    simp [execOp, ho, hty, resolve, invoke, builtin, hs, hx, hrun, Result.andThen]
  rw [hy, Oper.upon_value]
  exact hK _ _ (h v1 w1 ⟨h1⟩ ⟨h2⟩)
end Go.Proofs.YtlgmgalopdfcaaaDoor
