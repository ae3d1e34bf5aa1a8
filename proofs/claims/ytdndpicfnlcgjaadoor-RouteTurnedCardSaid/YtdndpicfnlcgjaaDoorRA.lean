/- routes: a row of them, of one's own or behind a slice; compared; laid; out of the data that comes in; a configuration's value. -/
import Derived.Test.YtdndpicfnlcgjaaDoorHeld
import Derived.Test.YtdndpicfnlcgjaaDoorStrsOwn
import Derived.Test.YtdndpicfnlcgjaaDoorOpenStrs
import Derived.Test.YtdndpicfnlcgjaaDoorRoutePlain
import Derived.Deep.DeepCutAuto
import Derived.SliceStrings
import Derived.ProofKit
import Derived.ChangeArms
import Derived.OpenShut
set_option maxRecDepth 100000
namespace Go.Proofs.YtdndpicfnlcgjaaDoor.Rou
open Go.RowKit Go.WideShapes Go.ChangeShapes
open RoutePlain (Rt)

/-- A route's texts. -/
structure Rb where
  pre : ByteArray
  pro : ByteArray
  dst : ByteArray
def Rb.rt (r : Rb) : Rt := ⟨bytes r.pre, bytes r.pro, bytes r.dst⟩
theorem Rb.rt_inj {a b : Rb} (h : a.rt = b.rt) : a = b := by
  cases a; cases b
  injection h with h1 h2 h3
  have e1 := bytes_inj h1; have e2 := bytes_inj h2; have e3 := bytes_inj h3
  subst e1 e2 e3
  rfl
def Rb0 : Rb := ⟨ByteArray.empty, ByteArray.empty, ByteArray.empty⟩
/-- An event's cells. -/
def rc (r : Rb) : List Value := [.string r.pre, .string r.pro, .string r.dst]
def rcs (es : List Rb) : List Value := es.flatMap rc
theorem rcs_cons (e : Rb) (es : List Rb) : rcs (e :: es) = rc e ++ rcs es := rfl
theorem rcs_length (es : List Rb) : (rcs es).length = es.length * 3 := by
  induction es with
  | nil => rfl
  | cons e es ih => rw [rcs_cons, List.length_append, ih]; simp [rc]; omega
theorem rcs_append (a b : List Rb) : rcs (a ++ b) = rcs a ++ rcs b := by simp [rcs]
theorem rc_one (e : Rb) : ∀ u ∈ rc e, u.oneCell' = true := fun u hu => by
  simp only [rc, List.mem_cons, List.not_mem_nil, or_false] at hu
  rcases hu with rfl | rfl | rfl <;> rfl
theorem rcs_one {es : List Rb} : ∀ u ∈ rcs es, u.oneCell' = true := fun u hu => by
  simp only [rcs, List.mem_flatMap] at hu
  obtain ⟨e, _, he⟩ := hu
  exact rc_one e u he
theorem rcs_get : ∀ (es : List Rb) (i : Nat), i < es.length → ∀ j, j < 3 → (rcs es)[i * 3 + j]? = (rc (es.getD i Rb0))[j]?
  | [], i, hi, _, _ => by simp at hi
  | e :: es, 0, _, j, hj => by
    rw [rcs_cons, Nat.zero_mul, Nat.zero_add, List.getElem?_append_left (by simpa [rc] using hj)]; rfl
  | e :: es, i + 1, hi, j, hj => by
    rw [rcs_cons, show (i + 1) * 3 + j = i * 3 + j + 3 from by omega, List.getElem?_append_right (by simp [rc])]
    have := rcs_get es i (by simpa using hi) j hj
    simpa [rc] using this
theorem rcs_at {es : List Rb} {j : Nat} {u : Value} (h : (rcs es)[j]? = some u) : j / 3 < es.length ∧ (rc (es.getD (j / 3) Rb0))[j % 3]? = some u := by
  have hj : j < (rcs es).length := (List.getElem?_eq_some_iff.1 h).1
  rw [rcs_length] at hj
  refine ⟨by omega, ?_⟩
  rw [← rcs_get es (j / 3) (by omega) (j % 3) (by omega), ← h]
  congr 1; omega
theorem rc_some (e : Rb) (j : Nat) (hj : j < 3) : ∃ u, (rc e)[j]? = some u := ⟨_, List.getElem?_eq_getElem (by simpa [rc] using hj)⟩
/-- A row of events of one's own. -/
def OwnT (W : World) (base : Nat) (v : Value) (es : List Rb) : Prop := W.ownsRow base 34 3 v es.length (rcs es)
/-- The events es are the elements of the slice v. -/
def RtsAt (W : World) (v : Value) (es : List Rb) : Prop :=
  ∃ (a : Option Addr) (cap sb so : Nat), v = .slice a es.length cap ∧ es.length ≤ cap ∧ (0 < es.length → a = some ⟨sb, so, none⟩) ∧ ∀ i, i < es.length → ∀ j, j < 3 → W.cell? ⟨sb, so + i * 3 + j, none⟩ = (rc (es.getD i Rb0))[j]?
theorem RtsAt.below {w w' : World} {v : Value} {es : List Rb} (h : RtsAt w v es) (hb : Below w.heap.size w w') : RtsAt w' v es := by
  obtain ⟨a, cap, sb, so, h1, hc, h3, h4⟩ := h
  refine ⟨a, cap, sb, so, h1, hc, h3, fun i hi j hj => ?_⟩
  have g := h4 i hi j hj
  obtain ⟨u, hu⟩ := rc_some (es.getD i Rb0) j hj
  rw [hu] at g ⊢
  have k0 := block_lt_of_cell g
  rw [hb.cell (p := ⟨sb, so + i * 3 + j, none⟩) k0]; exact g
/-- A row that is no part of what grew stays. -/
theorem RtsAt.grown {w w' : World} {v : Value} {es : List Rb} {r : Option Nat} (h : RtsAt w v es) (hg : w.grownBy w' r) (hne : ∀ g, v.ownBlock = some g → some g ≠ r) : RtsAt w' v es := by
  obtain ⟨a, cap, sb, so, rfl, hc, h3, h4⟩ := h
  refine ⟨a, cap, sb, so, rfl, hc, h3, fun i hi j hj => ?_⟩
  have g := h4 i hi j hj
  obtain ⟨u, hu⟩ := rc_some (es.getD i Rb0) j hj
  rw [hu] at g ⊢
  have k0 : sb < w.heap.size := block_lt_of_cell g
  obtain rfl := h3 (by omega)
  have hb : w'.heap[sb]? = w.heap[sb]? := hg.block sb k0 (hne sb rfl)
  rw [World.cell?_of_block (w := w) hb]; exact g
theorem RtsAt.slice {W : World} {v : Value} {es : List Rb} (h : RtsAt W v es) : ∃ a c, v = .slice a es.length c := by
  obtain ⟨a, c, _, _, rfl, _⟩ := h; exact ⟨a, c, rfl⟩
theorem RtsAt.cap {W : World} {a : Option Addr} {n cap : Nat} {es : List Rb} (h : RtsAt W (.slice a n cap) es) : n = es.length ∧ n ≤ cap ∧ (0 < n → ∃ sb so, a = some ⟨sb, so, none⟩) := by
  obtain ⟨a', cap', sb', so', he, hc, h3, _⟩ := h
  injection he with e1 e2 e3
  refine ⟨e2, by omega, fun hp => ⟨sb', so', ?_⟩⟩
  rw [e1]; exact h3 (by omega)
/-- The cells of an event in a row. -/
theorem RtsAt.at3 {W : World} {sb so n cap : Nat} {es : List Rb} (h : RtsAt W (.slice (some ⟨sb, so, none⟩) n cap) es) (i : Nat) (hi : i < es.length) {a b c : ByteArray} (he : es.getD i Rb0 = ⟨a, b, c⟩) :
    W.cell? ⟨sb, so + i * 3, none⟩ = some (.string a) ∧ W.cell? ⟨sb, so + i * 3 + 1, none⟩ = some (.string b) ∧ W.cell? ⟨sb, so + i * 3 + 2, none⟩ = some (.string c) := by
  obtain ⟨a', cap', sb', so', hs, _, h3, h4⟩ := h
  injection hs with e1 e2 e3
  rw [h3 (by omega)] at e1
  injection e1 with e1
  injection e1 with e4 e5
  subst e4 e5
  have g := h4 i hi
  rw [he] at g
  exact ⟨g 0 (by decide), g 1 (by decide), g 2 (by decide)⟩
theorem RtsAt.range {W : World} {sb so n cap : Nat} {es : List Rb} (h : RtsAt W (.slice (some ⟨sb, so, none⟩) n cap) es) (i : Nat) (hi : i < es.length) : W.rangeAt sb (so + i * 3) (rc (es.getD i Rb0)) := fun j u hu => by
  obtain ⟨a, cap', sb', so', he, _, h3, h4⟩ := h
  injection he with e1 e2 e3
  rw [h3 (by omega)] at e1
  injection e1 with e1
  injection e1 with e4 e5
  subst e4 e5
  have hj : j < 3 := by have := (List.getElem?_eq_some_iff.1 hu).1; simpa [rc] using this
  rw [h4 i hi j hj]; exact hu
theorem RtsAt.to {W : World} {a : Option Addr} {n cap k c : Nat} {es : List Rb} (h : RtsAt W (.slice a n cap) es) (hk : k ≤ n) (hc : k ≤ c) : RtsAt W (.slice a k c) (es.take k) := by
  obtain ⟨a', c', sb, so, he, h1, h2, h3⟩ := h
  injection he with e1 e2 e3
  subst e1 e2 e3
  have hl : (es.take k).length = k := by rw [List.length_take]; omega
  refine ⟨a, c, sb, so, by rw [hl], by rw [hl]; omega, fun hp => h2 (by rw [hl] at hp; omega), fun i hi j hj => ?_⟩
  rw [hl] at hi
  rw [h3 i (by omega) j hj]
  congr 2
  rw [List.getD_eq_getElem?_getD, List.getD_eq_getElem?_getD, List.getElem?_take_of_lt hi]
/-- Where a slice of events begins, from a place on. -/
def fromT (a : Option Addr) (k cap : Nat) : Option Addr := if cap = k then a else a.map (·.add (k * 3))
theorem RtsAt.from {W : World} {a : Option Addr} {n cap k : Nat} {es : List Rb} (h : RtsAt W (.slice a n cap) es) (hk : k ≤ n) : RtsAt W (.slice (fromT a k cap) (n - k) (cap - k)) (es.drop k) := by
  obtain ⟨a', c', sb, so, he, h1, h2, h3⟩ := h
  injection he with e1 e2 e3
  subst e1 e2 e3
  have hl : (es.drop k).length = es.length - k := List.length_drop ..
  refine ⟨_, _, sb, so + k * 3, by rw [hl], by rw [hl]; omega, fun hp => ?_, fun i hi j hj => ?_⟩
  · rw [hl] at hp
    unfold fromT
    rw [if_neg (by omega), h2 (by omega), Option.map_some, Addr.add_mid]
  · rw [hl] at hi
    have h4 := h3 (k + i) (by omega) j hj
    rw [show so + (k + i) * 3 + j = so + k * 3 + i * 3 + j from by omega] at h4
    rw [h4]
    congr 2
    rw [List.getD_eq_getElem?_getD, List.getD_eq_getElem?_getD, List.getElem?_drop]
theorem info34 : ∃ i, Tryd.prog.info? 34 = some i ∧ i.zero = some (.agg #[.string ByteArray.empty, .string ByteArray.empty, .string ByteArray.empty]) ∧ i.size = 3 ∧ i.bytes = 48 := by
  have h5 : (Tryd.prog.info? 34).map (fun i => (i.zero, i.size, i.bytes)) = some (some (.agg #[.string ByteArray.empty, .string ByteArray.empty, .string ByteArray.empty]), 3, 48) := by kernel_rfl
  cases hi : Tryd.prog.info? 34 with
  | none => rw [hi] at h5; cases h5
  | some i =>
    rw [hi] at h5
    simp only [Option.map_some, Option.some.injEq, Prod.mk.injEq] at h5
    exact ⟨i, rfl, h5.1, h5.2.1, h5.2.2⟩
theorem size34 (V : World) : (sizeOf 34).run Tryd.prog V = .ok 3 V := by
  obtain ⟨i0, hi, hz0, hz1, hz2⟩ := info34
  simp [sizeOf, typeInfo, hi, hz1]
theorem rslice_to (V : World) (a : Option Addr) (n cap k : Nat) (hk : k ≤ cap) : (Instr.slice 22 (.slice a n cap) none (some (.int .i64 (k : Int))) none).run Tryd.prog V = .ok (.slice a k cap) V := by
  rw [run_slice_h (ht := Tryd.underlying22) (h0 := by omega) (h2 := by omega), show Tryd.prog.elem 22 = 34 from rfl, size34]
  cases a <;> simp [Result.andThen, sliced, Addr.add]
theorem rslice_from (V : World) (a : Option Addr) (n cap k : Nat) (hk : k ≤ n) : (Instr.slice 22 (.slice a n cap) (some (.int .i64 (k : Int))) none none).run Tryd.prog V = .ok (.slice (fromT a k cap) (n - k) (cap - k)) V := by
  rw [run_slice_l (ht := Tryd.underlying22) (h0 := by omega) (h1 := by omega), show Tryd.prog.elem 22 = 34 from rfl, size34]
  simp [Result.andThen, sliced, fromT]
/-- The three-index form: from a place on, with no room behind. -/
theorem rslice_three (V : World) (a : Option Addr) (n cap k h m : Nat) (hk : k ≤ h) (hh : h ≤ m) (hm : m ≤ cap) : (Instr.slice 22 (.slice a n cap) (some (.int .i64 (k : Int))) (some (.int .i64 (h : Int))) (some (.int .i64 (m : Int)))).run Tryd.prog V = .ok (.slice (fromT a k m) (h - k) (m - k)) V := by
  rw [run_slice_lhm (ht := Tryd.underlying22) (h0 := by omega) (h1 := by omega) (h2 := by omega) (h3 := by omega), show Tryd.prog.elem 22 = 34 from rfl, size34]
  simp [Result.andThen, sliced, fromT]
theorem OwnT.below {w w' : World} {base : Nat} {v : Value} {l : List Rb} (h : OwnT w base v l) (hb : Below w.heap.size w w') : OwnT w' base v l := own_below h hb
theorem ownT_nil (R : World) (base : Nat) : OwnT R base (.slice none 0 0) [] := World.ownsRow_nil _ _ _ _
theorem ownT_made (w : World) (base : Nat) (hb : base ≤ w.heap.size) : OwnT (w.alloc (.cells #[] 34)) base (.slice (some ⟨w.heap.size, 0, none⟩) 0 0) [] :=
  World.ownsRow_made w #[] 0 hb (by unfold maxLen; omega) rfl
theorem OwnT.slice {W : World} {base : Nat} {v : Value} {l : List Rb} (h : OwnT W base v l) : ∃ a c, v = .slice a l.length c := by
  obtain ⟨_, h2⟩ := h
  rcases h2 with ⟨rfl, hz⟩ | ⟨g, cap, cur, rfl, _⟩
  · rw [hz]; exact ⟨_, _, rfl⟩
  · exact ⟨_, _, rfl⟩
theorem OwnT.rts {W : World} {base : Nat} {v : Value} {es : List Rb} (ho : OwnT W base v es) : RtsAt W v es := by
  obtain ⟨h1, h2⟩ := ho
  rcases h2 with ⟨rfl, hz⟩ | ⟨g, cap, cur, rfl, hg, hh, hc1, hc2, hsz, htk⟩
  · exact ⟨none, 0, 0, 0, by rw [hz], by omega, fun h => by omega, fun i hi => by omega⟩
  · refine ⟨some ⟨g, 0, none⟩, cap, g, 0, rfl, hc1, fun _ => rfl, fun i hi j hj => ?_⟩
    have k := rcs_get es i hi j hj
    rw [Nat.zero_add, ← k, cell_of_row _ _ _ _ _ _ hh, ← htk, List.getElem?_take_of_lt (by omega)]
    simp
theorem OwnT.heap {W : World} {base : Nat} {v : Value} {l : List Rb} (h : OwnT W base v l) {g : Nat} (hg : v.ownBlock = some g) : base ≤ g ∧ ∃ cs, W.heap[g]? = some (.cells cs 34 (0, 0)) := by
  rcases h.2 with ⟨rfl, _⟩ | ⟨k, cap, cur, rfl, hb, hh, _⟩
  · cases hg
  · have : k = g := by simpa [Value.ownBlock] using hg
    subst this
    exact ⟨hb, _, hh⟩
theorem OwnT.keeps {W W' : World} {base B : Nat} {w0 : World} {v : Value} {l : List Rb} (h : OwnT W base v l) (hB : Below B w0 W) (hg : W.grownBy W' v.ownBlock) (hb : B ≤ base) (hs : B ≤ W.heap.size) : Below B w0 W' :=
  hB.grown hg hs (fun _ hk => Nat.le_trans hb (h.heap hk).1)
theorem OwnT.kept {W W' : World} {base : Nat} {v : Value} {l : List Rb} {r : Option Nat} (h : OwnT W base v l) (g : W.grownBy W' r) (hr : ∀ k, r = some k → v.ownBlock ≠ some k) : OwnT W' base v l := by
  refine World.ownsRow.kept h g ?_
  rcases h.2 with ⟨rfl, _⟩ | ⟨k, cap, cur, rfl, _⟩
  · exact .inl rfl
  · exact .inr (fun e => hr k e.symm (by simp [Value.ownBlock]))
/-- What is appended to a row of one's own lies in its block, or in a new one. -/
theorem own_appT {P : Program} {w : World} (base : Nat) (t ty e : TypeId) (i : TypeInfo) (z : Value) (size bytes : Nat) (ht : P.underlying t = some (.slice e)) (hi : P.info? e = some i) (hz : i.zero = some z)
    (hsize : i.size = size) (hby : i.bytes = bytes) (hzs : z.cells.size = size) (hsz : 0 < size)
    (v : Value) (n : Nat) (xs : List Value) (hown : w.ownsRow base e size v n xs)
    (a : Addr) (m c : Nat) (news : List Value) (hl : news.length = m * size) (hnews : ∀ j u, news[j]? = some u → w.cell? (a.add j) = some u) (h1 : ∀ u ∈ news, u.oneCell' = true)
    (h63 : n + m ≤ maxLen) (hbytes : (n + m) * bytes ≤ 140737488355328) (hbase : base ≤ w.heap.size) :
    ∃ v' w', (Builtin.append_ #[t, t] ty #[v, .slice (some a) m c]).run P w = .ok v' w' ∧ w'.ownsRow base e size v' (n + m) (xs ++ news) ∧ w.grownBy w' v.ownBlock ∧
      (v'.ownBlock = v.ownBlock ∨ v'.ownBlock = some w.heap.size) := by
  obtain ⟨v', w', hr, h2, h3, _⟩ := run_append_own (P := P) w base t ty e i z size bytes ht hi hz hsize hby hzs hsz v n xs hown a m c news hl hnews h1 h63 hbytes hbase
  refine ⟨v', w', hr, h2, h3, ?_⟩
  subst hsize hby
  rcases hown.2 with ⟨rfl, rfl⟩ | ⟨g, cap, cur, rfl, hbg, hg, hnc, hcm, hcs, htake⟩
  · have hx : xs = [] := List.eq_nil_of_length_eq_zero (by simpa using hown.1)
    subst hx
    obtain ⟨v2, w2, hr2, h4, _, h5⟩ := run_append_own (P := P) w w.heap.size t ty e i z i.size i.bytes ht hi hz rfl rfl hzs hsz _ 0 [] (World.ownsRow_nil w w.heap.size e i.size) a m c news hl hnews h1 h63 hbytes (Nat.le_refl _)
    rw [hr] at hr2
    injection hr2 with e1 e2
    subst e1 e2
    by_cases hm : m = 0
    · rw [h5.2 ⟨rfl, hm⟩]; exact .inl rfl
    · have hr3 := run_append_nil (P := P) w t ty e i z ht hi hz a m c news hl hnews (by omega) (by unfold maxLen at h63; omega) (by have hb := hbytes; simp only [Nat.zero_add] at hb; omega)
      rw [hr] at hr3
      injection hr3 with e1 e2
      rw [e1]; exact .inr rfl
  · by_cases hroom : n + m ≤ cap
    · have hfit : n * i.size + news.length ≤ cur.size := by rw [hl, hcs, ← Nat.add_mul]; exact Nat.mul_le_mul_right _ hroom
      have hr2 := run_append_room (P := P) (ty := ty) w t e i ht hi g n cap cur hg a m c news hl hnews h1 hroom hfit
      rw [hr] at hr2
      injection hr2 with e1 e2
      rw [e1]; exact .inl rfl
    · have holds : ∀ j u, xs[j]? = some u → w.cell? ((⟨g, 0, none⟩ : Addr).add j) = some u := hown.cells (g := g) rfl
      have hr2 := run_append_grow (P := P) w t ty e i z ht hi hz ⟨g, 0, none⟩ n cap xs hown.1 holds a m c news hl hnews (by omega) (by unfold maxLen at h63; omega) (growslice_fits (by omega) hbytes)
      rw [hr] at hr2
      injection hr2 with e1 e2
      rw [e1]; exact .inr rfl
/-- Events that lie behind a slice, behind a row of one's own. -/
theorem add_rts {Z : World} {base : Nat} {v0 x : Value} {m l : List Rb} (hown : OwnT Z base v0 m) (hx : RtsAt Z x l) (hl : m.length + l.length ≤ 1000000) (hbase : base ≤ Z.heap.size) :
    ∃ v1 w1, (Builtin.append_ #[22, 22] 22 #[v0, x]).run Tryd.prog Z = .ok v1 w1 ∧ OwnT w1 base v1 (m ++ l) ∧ Z.grownBy w1 v0.ownBlock ∧ (v1.ownBlock = v0.ownBlock ∨ v1.ownBlock = some Z.heap.size) := by
  obtain ⟨i0, hi0, hz0, hz1, hz2⟩ := info34
  obtain ⟨ad, cap, sb, so, rfl, hcap, had, hcell⟩ := hx
  have key : ∀ a : Addr, (0 < l.length → a = ⟨sb, so, none⟩) → ∃ v1 w1, (Builtin.append_ #[22, 22] 22 #[v0, .slice (some a) l.length cap]).run Tryd.prog Z = .ok v1 w1 ∧ OwnT w1 base v1 (m ++ l) ∧ Z.grownBy w1 v0.ownBlock ∧ (v1.ownBlock = v0.ownBlock ∨ v1.ownBlock = some Z.heap.size) := fun a ha => by
    obtain ⟨v', w', h1, h2, h3, h4⟩ := own_appT (P := Tryd.prog) (w := Z) base 22 22 34 i0 _ 3 48 Tryd.underlying22 hi0 hz0 hz1 hz2 rfl (by decide) v0 m.length (rcs m) hown a l.length cap (rcs l) (rcs_length l) (fun j u hu => by
      obtain ⟨hi, h⟩ := rcs_at hu
      obtain rfl := ha (by omega)
      have g1 := hcell _ hi (j % 3) (by omega)
      rw [Addr.add_mid, ← h, ← g1]
      congr 2; omega) rcs_one (by unfold maxLen; omega) (by omega) hbase
    refine ⟨v', w', h1, ?_, h3, h4⟩
    unfold OwnT
    rw [List.length_append, rcs_append]
    exact h2
  cases ad with
  | some a => exact key a (fun h => by have := had h; injection this)
  | none =>
    have hz : l.length = 0 := by
      by_cases h : 0 < l.length
      · have := had h; cases this
      · omega
    have hf : l = [] := List.eq_nil_of_length_eq_zero hz
    subst hf
    refine ⟨v0, Z, ?_, by rw [List.append_nil]; exact hown, grown_refl _ _, .inl rfl⟩
    rcases hown.2 with ⟨rfl, _⟩ | ⟨g, c, cur, rfl, _, _, hnc, _⟩
    · simp [Builtin.append_, run_underlying Tryd.underlying22, sizeOf, typeInfo, hi0, Builtin.lenOf, Builtin.firstCells]
    · simp [Builtin.append_, run_underlying Tryd.underlying22, sizeOf, typeInfo, hi0, Builtin.lenOf, Builtin.firstCells, storeCells]
      intro hc
      exact absurd hc (by omega)
/-- One event that lies in a block of its own is a slice of it. -/
theorem rts_one {W : World} {g : Nat} {e : Rb} {cs : Array Value} {t : TypeId} (h : W.heap[g]? = some (.cells cs t (0, 0))) (hc : cs = (rc e).toArray) : RtsAt W (.slice (some ⟨g, 0, none⟩) 1 1) [e] := by
  subst hc
  refine ⟨_, 1, g, 0, rfl, Nat.le_refl _, fun _ => rfl, fun i hi j hj => ?_⟩
  obtain rfl : i = 0 := by simpa using hi
  rw [cell_of_row _ _ _ _ _ _ h, List.getElem?_toArray]
  congr 1; omega
/-- An append that stands in its turn, of any values. -/
theorem wpList_appT {P : Program} {ops : Array Oper} {rest : List Oper} {o : Oper} {a : Act} {Q : Exit → Act → World → Prop} {w : World} (hgd : o.guard = none) (s x : Operand) (t ty : TypeId)
    (ho : o.op = .call { callee := .builtin .append, args := #[s, x], argTypes := #[t, t] }) (hty : o.type = ty) (v u v' : Value) (w' : World)
    (hs : a.eval s = v) (hx : a.eval x = u) (hrun : (Builtin.append_ #[t, t] ty #[v, u]).run P w = .ok v' w')
    (h : wpList P ops Q rest (a.put o.dst v') w') : wpList P ops Q (o :: rest) a w := by
  refine wpList_plain hgd fun K hK => ?_
  unfold Oper.wp
  have hy : (execOp a.eval o).run P w = .ok (.value v') w' := by
    rw [← hty] at hrun
    simp [execOp, ho, resolve, invoke, builtin, hs, hx, hrun, Result.andThen]
  rw [hy, Oper.upon_value]
  exact hK _ _ h
theorem rt_info {cs : Array Value} (h : cs.size = 3) : (Tryd.prog.info? 34).map (·.size) = some cs.size := by rw [h]; kernel_rfl
theorem rt_all (a b c : ByteArray) : (#[.string a, .string b, .string c] : Array Value).all (·.oneCell') = true := by simp [Value.oneCell']
/-- Routes are compared part by part. -/
def same3 (a b c a' b' c' : ByteArray) : Bool := (a.toList == a'.toList) && ((b.toList == b'.toList) && (c.toList == c'.toList))
theorem same3_eq (a b c a' b' c' : ByteArray) : same3 a b c a' b' c' = decide ((⟨bytes a, bytes b, bytes c⟩ : Rt) = ⟨bytes a', bytes b', bytes c'⟩) := by
  unfold same3
  rw [beq_bytes2, beq_bytes2, beq_bytes2, Bool.eq_iff_iff]
  simp only [Bool.and_eq_true, decide_eq_true_eq, RoutePlain.Rt.mk.injEq]
theorem eq_rt (a b c a' b' c' : ByteArray) (W : World) : (Op.equalIn 10000 34 (.agg #[.string a, .string b, .string c]) (.agg #[.string a', .string b', .string c'])).run Tryd.prog W = .ok (same3 a b c a' b' c') W := by
  have hp : Tryd.prog.stoodInHeld 34 = false := by kernel_rfl
  have hu : Tryd.prog.underlying 34 = some (.struct (Tryd.prog.fieldsOf 34)) := by kernel_rfl
  have hf : (Tryd.prog.fieldsOf 34).toList = [⟨"Prefix", 9, 0, false, "", "", 0⟩, ⟨"Protocol", 9, 1, false, "", "", 16⟩, ⟨"To", 9, 2, false, "", "", 32⟩] := by kernel_rfl
  rw [run_equalIn_struct W 9999 34 _ _ hu hp, hf]
  have e9 : ∀ (p q : ByteArray) (w : World), (Op.equalIn 9999 9 (.string p) (.string q)).run Tryd.prog w = .ok (p.toList == q.toList) w := fun p q w => run_equalIn_string w 9998 9 p q Tryd.underlying9
  have p0 : ∀ (o c : ByteArray) (s : ByteArray) (w : World), (part 9 #[.string o, .string c, .string s] 0).run Tryd.prog w = .ok (.string o) w := fun o c s w => by kernel_rfl
  have p1 : ∀ (o c : ByteArray) (s : ByteArray) (w : World), (part 9 #[.string o, .string c, .string s] 1).run Tryd.prog w = .ok (.string c) w := fun o c s w => by kernel_rfl
  have p2 : ∀ (o c : ByteArray) (s : ByteArray) (w : World), (part 9 #[.string o, .string c, .string s] 2).run Tryd.prog w = .ok (.string s) w := fun o c s w => by kernel_rfl
  have n0 : ("Prefix" ≠ "_") = True := eq_true (by decide)
  have n1 : ("Protocol" ≠ "_") = True := eq_true (by decide)
  have n2 : ("To" ≠ "_") = True := eq_true (by decide)
  unfold same3
  cases h0 : (a.toList == a'.toList) <;> cases h1 : (b.toList == b'.toList) <;> cases h2 : (c.toList == c'.toList) <;>
    simp only [Op.eqFields, n0, n1, n2, if_true, Sem.run_bind, Sem.run_pure, Sem.run_ite, p0, p1, p2, e9, h0, h1, h2, Result.andThen_ok, Bool.not_true, Bool.not_false, Bool.false_eq_true, if_false, Bool.true_and, Bool.false_and, Bool.and_true]
def NoB : ByteArray := { data := #[] }
/-- A box for a route, and what is laid in it. -/
theorem box_rt (W : World) : ∃ V, W.alloc (.cells #[.string { data := #[] }, .string { data := #[] }, .string { data := #[] }] 34) = V ∧ Sl (Below W.heap.size W V) ∧ V.heap[W.heap.size]? = some (.cells #[.string { data := #[] }, .string { data := #[] }, .string { data := #[] }] 34 (0, 0)) :=
  ⟨_, rfl, ⟨(Below.refl _ _).alloc (Nat.le_refl _) _⟩, alloc_new _ _ _ rfl⟩
theorem set_rt {W : World} {g : Nat} {B : Nat} {w0 : World} {c0 : Array Value} (h : W.heap[g]? = some (.cells c0 34 (0, 0))) (hB : Below B w0 W) (hb : B ≤ g) (cs : Array Value) : ∃ V, W.setRow g cs = V ∧ Sl (Below B w0 V) ∧ Sl (V.heap[g]? = some (.cells cs 34 (0, 0))) :=
  ⟨_, rfl, ⟨below_setRow hB hb _⟩, ⟨setRow_heap _ _ _ _ _ _ h⟩⟩
theorem rt_cells {W : World} {g : Nat} {a b c : ByteArray} {t : TypeId} (h : W.heap[g]? = some (.cells #[.string a, .string b, .string c] t (0, 0))) : W.cell? ⟨g, 0, none⟩ = some (.string a) ∧ W.cell? ⟨g, 1, none⟩ = some (.string b) ∧ W.cell? ⟨g, 2, none⟩ = some (.string c) := by
  refine ⟨?_, ?_, ?_⟩ <;> (rw [cell_of_row _ _ _ _ _ _ h]; rfl)
theorem ret_rt {fn : Func} {p u : Tmp} (h : fn.results = #[.cell p 34, .tmp u]) (tmps : Array Value) (w : World) (g : Nat) (cs : Array Value)
    (hp : tmps.getD p undef = .pointer (some ⟨g, 0, none⟩)) (hg : w.heap[g]? = some (.cells cs 34 (0, 0))) (hs : cs.size = 3) :
    (results fn tmps).run Tryd.prog w = .ok (.tuple #[.agg cs, tmps.getD u undef]) w := by
  have hi : (Tryd.prog.info? 34).map (·.size) = some cs.size := rt_info hs
  have hp' : tmps[p]?.getD undef = .pointer (some ⟨g, 0, none⟩) := by simpa using hp
  simp only [results, h]
  simp [Result.andThen, hp', asAddr, run_loadVar_row (P := Tryd.prog) w g 34 34 cs (0, 0) _ hg Tryd.underlying34 rfl hi]
theorem ret_rt1 {fn : Func} {p : Tmp} (h : fn.results = #[.cell p 34]) (tmps : Array Value) (w : World) (g : Nat) (cs : Array Value)
    (hp : tmps.getD p undef = .pointer (some ⟨g, 0, none⟩)) (hg : w.heap[g]? = some (.cells cs 34 (0, 0))) (hs : cs.size = 3) :
    (results fn tmps).run Tryd.prog w = .ok (.agg cs) w := by
  have hi : (Tryd.prog.info? 34).map (·.size) = some cs.size := rt_info hs
  have hp' : tmps[p]?.getD undef = .pointer (some ⟨g, 0, none⟩) := by simpa using hp
  simp only [results, h]
  simp [hp', asAddr, run_loadVar_row (P := Tryd.prog) w g 34 34 cs (0, 0) _ hg Tryd.underlying34 rfl hi]
/-- A route as memory can hold it. -/
structure RbOk (r : Rb) : Prop where
  p : r.pre.size ≤ maxLen
  q : r.pro.size ≤ maxLen
  t : r.dst.size ≤ maxLen
theorem list3 {α : Type} {l : List α} (h : l.length = 3) : ∃ a b c, l = [a, b, c] :=
  match l, h with
  | [a, b, c], _ => ⟨a, b, c, rfl⟩
theorem list_of {α : Type} (d : α) (n : Nat) (p : Nat → α → Prop) (h : ∀ i, i < n → ∃ x, p i x) : ∃ l : List α, l.length = n ∧ ∀ i, i < n → p i (l.getD i d) := by
  induction n with
  | zero => exact ⟨[], rfl, fun i hi => absurd hi (Nat.not_lt_zero _)⟩
  | succ n ih =>
    obtain ⟨l, hl, hp⟩ := ih (fun i hi => h i (by omega))
    obtain ⟨x, hx⟩ := h n (by omega)
    refine ⟨l ++ [x], by simp [hl], fun i hi => ?_⟩
    by_cases hin : i < n
    · have e : (l ++ [x]).getD i d = l.getD i d := by
        simp only [List.getD_eq_getElem?_getD]; rw [List.getElem?_append_left (by omega)]
      rw [e]; exact hp i hin
    · obtain rfl : i = n := by omega
      have e : (l ++ [x]).getD i d = x := by
        simp only [List.getD_eq_getElem?_getD]; rw [List.getElem?_append_right (by omega)]; simp [hl]
      rw [e]; exact hx
theorem rc_of_trod {H : Type} {enc : TypeId × Value → H} {W : World} {base fuel : Nat} {sp : Nat → Bool} {held : Bool} {cs : List Value} {x : DataW H × List MemPlace}
    (hf : DataW.trod enc Tryd.prog W base sp held fuel 34 cs = some x) : ∃ e, cs = rc e ∧ RbOk e := by
  obtain ⟨xs, n, _, hx, hl, hxl, hf⟩ := DataW.trod_struct Tryd.underlying34 hf
  have c9 : Tryd.prog.cellsOf 9 = 1 := by kernel_rfl
  have cf : Tryd.prog.cellsOf 34 = 3 := by kernel_rfl
  rw [cf] at hl
  match xs, hxl with
  | [y0, y1, y2], _ =>
    have h0 : DataW.trod enc Tryd.prog W base sp held n 9 ((cs.drop 0).take (Tryd.prog.cellsOf 9)) = some y0 := hf 0 _ rfl
    have h1 : DataW.trod enc Tryd.prog W base sp held n 9 ((cs.drop 1).take (Tryd.prog.cellsOf 9)) = some y1 := hf 1 _ rfl
    have h2 : DataW.trod enc Tryd.prog W base sp held n 9 ((cs.drop 2).take (Tryd.prog.cellsOf 9)) = some y2 := hf 2 _ rfl
    obtain ⟨a0, a1, a2, hcs⟩ := list3 hl
    rw [hcs] at h0 h1 h2
    rw [c9] at h0 h1 h2
    simp only [List.drop_zero, List.drop_succ_cons, List.take_succ_cons, List.take_zero] at h0 h1 h2
    obtain ⟨f0, g0, _, w0⟩ := DataW.trod_string Tryd.underlying9 h0
    obtain ⟨f1, g1, _, w1⟩ := DataW.trod_string Tryd.underlying9 h1
    obtain ⟨f2, g2, _, w2⟩ := DataW.trod_string Tryd.underlying9 h2
    simp only [List.cons.injEq, and_true] at g0 g1 g2
    subst g0 g1 g2
    exact ⟨⟨f0, f1, f2⟩, hcs, w0, w1, w2⟩
theorem rtsAt_of_trod {H : Type} {enc : TypeId × Value → H} {W : World} {ad : Option Addr} {len cap : Nat} {d : DataW H} {p : List MemPlace} (h : DataW.Trod enc Tryd.prog W 0 (fun _ => true) true 22 (.slice ad len cap) d p) :
    ∃ l, RtsAt W (.slice ad len cap) l ∧ (∀ e ∈ l, RbOk e) ∧ l.length ≤ maxLen := by
  obtain ⟨fuel, hf⟩ := h
  have cf : Tryd.prog.cellsOf 34 = 3 := by kernel_rfl
  rcases DataW.trod_slice Tryd.underlying22 hf with ⟨hcs, _⟩ | ⟨a, len', cap', el, rest, n, _, hcs, _, hb, hl, hm, hz, hcell, _⟩
  · simp [Value.cells] at hcs
    obtain ⟨rfl, rfl, rfl⟩ := hcs
    exact ⟨[], ⟨none, 0, 0, 0, rfl, by simp, fun h => by simp at h, fun i hi => by simp at hi⟩, fun f hf => by simp at hf, by simp⟩
  · simp [Value.cells] at hcs
    obtain ⟨rfl, rfl, rfl⟩ := hcs
    rw [cf] at hcell
    have hsome : ∀ i, i < len → ∃ x, el[i]? = some x := fun i hi => ⟨el[i]'(by omega), List.getElem?_eq_getElem (by omega)⟩
    by_cases h0 : len = 0
    · subst h0
      exact ⟨[], ⟨some a, cap, 0, 0, rfl, by simp, fun h => by simp at h, fun i hi => by simp at hi⟩, fun f hf => by simp at hf, by simp⟩
    · have hspot : a.spot = none := by
        obtain ⟨x, hx⟩ := hsome 0 (by omega)
        have hc := hcell 0 (by omega)
        rw [hx, Option.bind_eq_some_iff] at hc
        obtain ⟨cs, hcs, _⟩ := hc
        obtain ⟨_, hlen, hce⟩ := World.cells?_some hcs
        have := hce 0 (by omega)
        rw [List.getElem?_eq_getElem (by omega)] at this
        simpa [Addr.add] using World.cell?_spot this
      obtain ⟨b, off, spot⟩ := a
      simp only at hspot
      subst hspot
      obtain ⟨l, hll, hp⟩ := list_of Rb0 len (fun i e => RbOk e ∧ ∀ j, j < 3 → W.cell? ⟨b, off + i * 3 + j, none⟩ = (rc e)[j]?) (fun i hi => by
        obtain ⟨x, hx⟩ := hsome i hi
        have hc := hcell i hi
        rw [hx, Addr.add_mid, Option.bind_eq_some_iff] at hc
        obtain ⟨cs, hcs, hd⟩ := hc
        obtain ⟨_, hlen, hce⟩ := World.cells?_some hcs
        obtain ⟨e, he, hok⟩ := rc_of_trod hd
        subst he
        refine ⟨e, hok, fun j hj => ?_⟩
        have := hce j hj
        rw [Addr.add_mid] at this
        exact this)
      refine ⟨l, ⟨some ⟨b, off, none⟩, cap, b, off, by rw [hll], by rw [hll]; omega, fun _ => rfl, fun i hi => (hp i (by omega)).2⟩, fun e he => ?_, by rw [hll]; omega⟩
      obtain ⟨i, hi, rfl⟩ := List.getElem_of_mem he
      have := (hp i (by omega)).1
      rwa [List.getD_eq_getElem?_getD, List.getElem?_eq_getElem hi] at this
end Go.Proofs.YtdndpicfnlcgjaaDoor.Rou
