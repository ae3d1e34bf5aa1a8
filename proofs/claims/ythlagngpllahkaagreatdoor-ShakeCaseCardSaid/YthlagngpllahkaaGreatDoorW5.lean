/- shake: a head whose fields are appended one by one. -/
import Derived.Test.YthlagngpllahkaaGreatDoorS4
set_option maxRecDepth 100000
namespace Go.Proofs.YthlagngpllahkaaGreatDoor
open Go.RowKit HeadPlain

/-- A head under way in block q, its fields a row of the call's own; the first block of the call is what it was. -/
structure AS (w : World) (rc : Array Value) (q : Nat) (a b c : ByteArray) (fs : List FV) (v : Value) (W : World) : Prop where
  B : Below w.heap.size w W
  R : W.heap[w.heap.size]? = some (.cells rc 25 (0, 0))
  H : W.heap[q]? = some (.cells #[.string a, .string b, .string c, v] 25 (0, 0))
  O : OwnF W w.heap.size v fs
  Q : w.heap.size < q
theorem AS.below {w W W' : World} {rc : Array Value} {q : Nat} {a b c : ByteArray} {fs : List FV} {v : Value} (s : AS w rc q a b c fs v W) (k : Below W.heap.size W W') : AS w rc q a b c fs v W' :=
  ⟨below_trans s.B k, box_below s.R k, box_below s.H k, s.O.below k, s.Q⟩
/-- The head behind an append, its new row stored. -/
theorem AS.step {w A W4 : World} {rc : Array Value} {q : Nat} {a b c : ByteArray} {fs gs : List FV} {v v' : Value} (s : AS w rc q a b c fs v A) (hO : OwnF W4 w.heap.size v' gs) (hG : A.grownBy W4 v.ownBlock) :
    AS w rc q a b c gs v' (W4.setCell ⟨q, 3, none⟩ v') := by
  have h4 := staysF s.O hG s.H (by decide)
  have r4 := staysF s.O hG s.R (by decide)
  have b4 := ownF_grown s.B s.O hG
  have hq := s.Q
  exact ⟨b4.grown (grown_setCell W4 q 3 v') b4.size (fun k hk => by injection hk with hk; omega), by rw [heap_setCell_other _ _ _ _ (show w.heap.size ≠ q by omega)]; exact r4, agg_setCell _ h4, ownsRow_setCell_other hO (ownF_kind hO h4 (by decide)) _, hq⟩
theorem AS.frozen {w A W4 : World} {rc : Array Value} {q : Nat} {a b c : ByteArray} {fs : List FV} {v : Value} (s : AS w rc q a b c fs v A) (hG : A.grownBy W4 v.ownBlock) :
    W4.frozen? ⟨q, 3, none⟩ = false ∧ W4.cell? ⟨q, 3, none⟩ = some v := by
  have h4 := staysF s.O hG s.H (by decide)
  exact ⟨frozen_of_row _ _ _ _ _ h4, (head_cells h4).2.2.2⟩
/-- A head that was just made, without fields. -/
theorem AS.new {w W : World} {rc : Array Value} {a b c : ByteArray} (hB : Below w.heap.size w W) (hr : W.heap[w.heap.size]? = some (.cells rc 25 (0, 0))) :
    AS w rc W.heap.size a b c [] (.slice none 0 0) (W.alloc (.cells #[.string a, .string b, .string c, .slice none 0 0] 25)) :=
  have k : Below W.heap.size W (W.alloc (.cells #[.string a, .string b, .string c, .slice none 0 0] 25)) := (Below.refl _ _).alloc (Nat.le_refl _) _
  ⟨below_trans hB k, box_below hr k, alloc_new _ _ _ rfl, ownF_nil _ _, lt_of_block hr⟩
/-- The head where it is handed out. -/
theorem AS.out {w W : World} {q : Nat} {a b c : ByteArray} {fs : List FV} {v : Value} (s : AS w #[.string { data := #[] }, .string { data := #[] }, .string { data := #[] }, .slice none 0 0] q a b c fs v W) (hs : ∀ f ∈ fs, f.1.size ≤ maxLen ∧ f.2.size ≤ maxLen) (hl : fs.length < 100000) :
    Sl (FieldsAt ((((W.setCell ⟨w.heap.size, 0, none⟩ (.string a)).setCell ⟨w.heap.size, 1, none⟩ (.string b)).setCell ⟨w.heap.size, 2, none⟩ (.string c)).setCell ⟨w.heap.size, 3, none⟩ v) v fs) ∧
    Sl (Below w.heap.size w ((((W.setCell ⟨w.heap.size, 0, none⟩ (.string a)).setCell ⟨w.heap.size, 1, none⟩ (.string b)).setCell ⟨w.heap.size, 2, none⟩ (.string c)).setCell ⟨w.heap.size, 3, none⟩ v)) :=
  have d := head_done (w0 := w) (h := ⟨a, b, c, fs⟩) s.R s.B (Nat.le_refl _) (s.O.fields hs hl) (ownF_kind s.O s.R (by decide))
  ⟨d.2.1, d.2.2⟩
end Go.Proofs.YthlagngpllahkaaGreatDoor
