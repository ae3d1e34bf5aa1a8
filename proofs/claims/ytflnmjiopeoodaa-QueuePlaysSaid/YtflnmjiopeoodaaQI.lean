/- queue: what the laws' walks share. -/
import Derived.Test.YtflnmjiopeoodaaQH
set_option maxRecDepth 100000
namespace Go.Proofs.Ytflnmjiopeoodaa.Que
open Go.RowKit Evt QueuePlain
open MsgPlain (Ev)

theorem awake_below (w0 W : World) (hB : Below w0.heap.size w0 W) : Calls Try.prog 9 #[] W fun e w' => e = .returned (.bool true) ∧ Sl (Below w0.heap.size w0 w') :=
  (awake_any W).mono fun _ _ ⟨h, k⟩ => ⟨h, ⟨hB.trans (k.out.mono hB.size)⟩⟩
theorem ev_take (l : List Ev) (i : Nat) (hi : i < l.length) : l.take (i + 1) = l.take i ++ [l.getD i Ev0] := by
  rw [List.take_add_one, List.getElem?_eq_getElem hi, List.getD_eq_getElem?_getD, List.getElem?_eq_getElem hi]; rfl
theorem ev_drop (l : List Ev) (i : Nat) (hi : i < l.length) : l.drop i = l.getD i Ev0 :: l.drop (i + 1) := by
  rw [List.drop_eq_getElem_cons hi, List.getD_eq_getElem?_getD, List.getElem?_eq_getElem hi]; rfl
theorem hd_cons (e : Ev) (l : List Ev) : hd (e :: l) = e := rfl
theorem evV_of (o c : Int) (s : ByteArray) : evV ⟨o, c, bytes s⟩ = .agg #[.int .i64 o, .int .i64 c, .string s] := by unfold evV; rw [strOf_bytes]
theorem evV_nil : evV (hd []) = .agg #[.int .i64 0, .int .i64 0, .string { data := #[] }] := by kernel_rfl
/-- The cells of the i-th of them. -/
theorem ev_cells_at {W : World} {sb so n cap : Nat} {es : List Ev} (h : EvsAt W (.slice (some ⟨sb, so, none⟩) n cap) es) (i : Nat) (hi : i < es.length) {o c : Int} {s : ByteArray} (he : es.getD i Ev0 = ⟨o, c, bytes s⟩) :
    W.cell? ⟨sb, so + i * 3, none⟩ = some (.int .i64 o) ∧ W.cell? ⟨sb, so + i * 3 + 1, none⟩ = some (.int .i64 c) ∧ W.cell? ⟨sb, so + i * 3 + 2, none⟩ = some (.string s) := by
  have := h.at3 i hi he
  rw [strOf_bytes] at this
  exact this
theorem size_of (o c : Int) (s : ByteArray) : size [⟨o, c, bytes s⟩] = s.size := by rw [size_one]; exact bytes_length s
/-- An event of the data as its parts. -/
theorem ev_parts {es : List Ev} (hk : ∀ e ∈ es, EvOk e) (i : Nat) (hi : i < es.length) : ∃ o c s, es.getD i Ev0 = ⟨o, c, bytes s⟩ := by
  obtain ⟨o, c, s, h, _⟩ := ev_at hk i hi
  exact ⟨o, c, s, h⟩
end Go.Proofs.Ytflnmjiopeoodaa.Que
