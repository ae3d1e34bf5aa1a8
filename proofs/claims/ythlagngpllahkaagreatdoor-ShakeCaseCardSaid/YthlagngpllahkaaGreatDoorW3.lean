/- shake: the document's Same: where two offers are the same. -/
import Derived.Test.YthlagngpllahkaaGreatDoorW0
import Derived.Test.YthlagngpllahkaaGreatDoorHdE
set_option maxRecDepth 100000
namespace Go.Proofs.YthlagngpllahkaaGreatDoor
open Go.RowKit HeadPlain

theorem offer_cells {W : World} {g : Nat} {p h k o : ByteArray} {v : Value} (hh : W.heap[g]? = some (.cells #[.string p, .string h, .string k, .string o, v] 30 (0, 0))) :
    W.cell? ⟨g, 0, none⟩ = some (.string p) ∧ W.cell? ⟨g, 1, none⟩ = some (.string h) ∧ W.cell? ⟨g, 2, none⟩ = some (.string k) ∧ W.cell? ⟨g, 3, none⟩ = some (.string o) ∧ W.cell? ⟨g, 4, none⟩ = some v :=
  ⟨by rw [cell_of_row _ _ _ _ _ _ hh]; rfl, by rw [cell_of_row _ _ _ _ _ _ hh]; rfl, by rw [cell_of_row _ _ _ _ _ _ hh]; rfl, by rw [cell_of_row _ _ _ _ _ _ hh]; rfl, by rw [cell_of_row _ _ _ _ _ _ hh]; rfl⟩
set_option maxHeartbeats 1000000 in
theorem same_true (p h k o : ByteArray) (x y : Value) (a b : List ByteArray) (W : World) (hx : StrA W x a) (hy : StrA W y b) (hab : a.map bytes = b.map bytes) (hl : a.length ≤ 1000000) :
    Calls Tryz.prog 16 #[.agg #[.string p, .string h, .string k, .string o, x], .agg #[.string p, .string h, .string k, .string o, y]] W fun e w' => e = .returned (.bool true) ∧ Sl (Below W.heap.size W w') := by
  have HC : Sl (∀ V, Below W.heap.size W V → Calls Tryz.prog 43 #[x, y] V fun e w' => e = .returned (.bool true) ∧ Sl (Below V.heap.size V w')) := ⟨fun V hB => (row_ex V V a b x y true (decide_eq_true hab) (Below.refl _ _) (hx.below hB) (hy.below hB) hl).mono fun _ _ ⟨h1, h2, _⟩ => ⟨h1, h2⟩⟩
  obtain ⟨ax, cx, sx, ox, rfl, _⟩ := hx
  obtain ⟨ay, cy, sy, oy, rfl, _⟩ := hy
  clear hab hl
  obtain ⟨n, hn⟩ : ∃ n, a.length = n := ⟨_, rfl⟩
  obtain ⟨m, hm⟩ : ∃ m, b.length = m := ⟨_, rfl⟩
  rw [hn, hm] at HC ⊢
  clear hn hm
  obtain ⟨w1, hw1⟩ : ∃ w1, (W.alloc (.cells #[.string p, .string h, .string k, .string o, .slice ax n cx] 30)).alloc (.cells #[.string p, .string h, .string k, .string o, .slice ay m cy] 30) = w1 := ⟨_, rfl⟩
  have HB1 : Sl (Below W.heap.size W w1) := ⟨by rw [← hw1]; exact ((Below.refl _ _).alloc (Nat.le_refl _) _).alloc (by rw [alloc_size]; omega) _⟩
  have HX1 : Sl (w1.heap[W.heap.size]? = some (.cells #[.string p, .string h, .string k, .string o, .slice ax n cx] 30 (0, 0))) := ⟨by rw [← hw1, alloc_old _ _ _ (by rw [alloc_size]; omega)]; exact alloc_new _ _ _ rfl⟩
  have HY1 : Sl (w1.heap[W.heap.size + 1]? = some (.cells #[.string p, .string h, .string k, .string o, .slice ay m cy] 30 (0, 0))) := ⟨by rw [← hw1]; exact alloc_new _ _ _ (by rw [alloc_size])⟩
  obtain ⟨p0, p1, p2, p3, p4⟩ := offer_cells HX1.out
  obtain ⟨q0, q1, q2, q3, q4⟩ := offer_cells HY1.out
  have z1 : (p.toList == p.toList) = true := by simp
  have z2 : (h.toList == h.toList) = true := by simp
  have z3 : (k.toList == k.toList) = true := by simp
  have z4 : (o.toList == o.toList) = true := by simp
  go_enter Tryz.func16, Tryz.ntmps16
  go_wp2_with fail
  refine (HC.out _ HB1.out).mono ?_
  rintro e w2 ⟨rfl, HB2⟩
  go_wp2
  go_ret
  exact ⟨rfl, ⟨below_trans HB1.out HB2.out⟩⟩
/-- Two heads of which one is asked for. -/
structure Twin (g h : HdV) : Prop where
  stat : statV g = statV h
  b : statV h = 0 → g.b = h.b
  host : statV h = 0 → oneS (getV g.fs bHost) = oneS (getV h.fs bHost)
  key : statV h = 0 → oneS (getV g.fs bKey) = oneS (getV h.fs bKey)
  org : statV h = 0 → oneS (getV g.fs bOrg) = oneS (getV h.fs bOrg)
  prot : statV h = 0 → (Nam.tell (getV g.fs bProt)).map bytes = (Nam.tell (getV h.fs bProt)).map bytes
theorem twin_of {g h : HdV} (e : quest keyB g.hd = quest keyB h.hd) : Twin g h := by
  have es : statV g = statV h := by
    rw [quest_plain, quest_plain] at e
    by_cases h0 : statV g = 0
    · by_cases h1 : statV h = 0
      · rw [h0, h1]
      · rw [if_pos h0, if_neg h1] at e; cases e
    · by_cases h1 : statV h = 0
      · rw [if_neg h0, if_pos h1] at e; cases e
      · rw [if_neg h0, if_neg h1] at e; injection e
  have ho : statV h = 0 → offV g = offV h := fun h0 => by
    rw [quest_plain, quest_plain, if_pos (by rw [es]; exact h0), if_pos h0] at e
    injection e
  exact ⟨es, fun h0 => bytes_inj (congrArg Off.path (ho h0)), fun h0 => bytes_inj (congrArg Off.host (ho h0)), fun h0 => bytes_inj (congrArg Off.key (ho h0)), fun h0 => bytes_inj (congrArg Off.origin (ho h0)), fun h0 => congrArg Off.prot (ho h0)⟩
/-- What an offer is: its status, its strings, its row. -/
structure OfferV where
  p : ByteArray
  h : ByteArray
  k : ByteArray
  o : ByteArray
  l : List ByteArray
def OfferV.agg (f : OfferV) (v : Value) : Value := .agg #[.string f.p, .string f.h, .string f.k, .string f.o, v]
/-- The offer of a head; the empty one where it is refused. -/
def offS (h : HdV) : OfferV := if statV h = 0 then ⟨h.b, oneS (getV h.fs bHost), oneS (getV h.fs bKey), oneS (getV h.fs bOrg), Nam.tell (getV h.fs bProt)⟩ else ⟨e0, e0, e0, e0, []⟩
/-- What Question answers: one shape. -/
theorem quest_shape {w' : World} {h : HdV} {e : Ending} (q : QuestR w' h e) : ∃ a c, e = .returned (.tuple #[.agg #[.string (offS h).p, .string (offS h).h, .string (offS h).k, .string (offS h).o, .slice a (offS h).l.length c], .int .i64 (statV h : Nat)]) ∧ StrA w' (.slice a (offS h).l.length c) (offS h).l := by
  unfold offS
  rcases q with ⟨h0, he⟩ | ⟨h0, a, c, he, hs⟩
  · rw [if_neg h0]
    exact ⟨none, 0, he, strA_nil w'⟩
  · rw [if_pos h0]
    rw [h0]
    exact ⟨a, c, he, hs⟩
theorem Twin.offer {g h : HdV} (t : Twin g h) : (offS g).p = (offS h).p ∧ (offS g).h = (offS h).h ∧ (offS g).k = (offS h).k ∧ (offS g).o = (offS h).o ∧ (offS g).l.map bytes = (offS h).l.map bytes := by
  unfold offS
  rw [t.stat]
  by_cases h0 : statV h = 0
  · rw [if_pos h0, if_pos h0]; exact ⟨t.b h0, t.host h0, t.key h0, t.org h0, t.prot h0⟩
  · rw [if_neg h0, if_neg h0]; exact ⟨rfl, rfl, rfl, rfl, rfl⟩
theorem few_fw {h : HdV} (f : Few h) : Fw h := ⟨by have := f.n; omega, f.a, f.b, f.c, fun x hx => by
  obtain ⟨j, hj, rfl⟩ := List.getElem_of_mem hx
  have := f.f j hj
  rw [List.getD_eq_getElem?_getD, List.getElem?_eq_getElem hj] at this
  exact this⟩
theorem tell_len_fw {h : HdV} (f : Fw h) : (Nam.tell (getV h.fs bProt)).length ≤ 1000000 := by
  have h1 := Nam.tell_len (getV h.fs bProt) 3000 (f.get bProt).2
  have h2 := Nat.mul_le_mul_right 3001 (f.get bProt).1
  omega
theorem offS_len {h : HdV} (f : Fw h) : (offS h).l.length ≤ 1000000 := by
  unfold offS
  by_cases h0 : statV h = 0
  · rw [if_pos h0]; exact tell_len_fw f
  · rw [if_neg h0]; decide
end Go.Proofs.YthlagngpllahkaaGreatDoor
