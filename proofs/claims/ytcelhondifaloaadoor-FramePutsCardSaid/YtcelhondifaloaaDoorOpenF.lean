/- A frame out of the data that comes in. -/
import Derived.Test.YtcelhondifaloaaDoorOpenK
namespace Go.Proofs.YtcelhondifaloaaDoor
open Go.RowKit Go.WideShapes Go.ChangeShapes

theorem list8 {α : Type} {l : List α} (h : l.length = 8) : ∃ a b c d e f g i, l = [a, b, c, d, e, f, g, i] :=
  match l, h with
  | [a, b, c, d, e, f, g, i], _ => ⟨a, b, c, d, e, f, g, i, rfl⟩
theorem frAt_of_trod {H : Type} {enc : TypeId × Value → H} {W : World} {v : Value} {d : DataW H} {p : List MemPlace} (h : DataW.Trod enc Tryd.prog W 0 (fun _ => true) true 24 v d p) :
    ∃ (fin : Bool) (op : Int) (m : Bool) (a b c d : Nat) (s : ByteArray), v = (.agg #[.bool fin, .int .i64 op, .bool m, .int .u8 ((a : Nat) : Int), .int .u8 ((b : Nat) : Int), .int .u8 ((c : Nat) : Int), .int .u8 ((d : Nat) : Int), .string s]) ∧ Small 256 [a, b, c, d] := by
  obtain ⟨fuel, hf⟩ := h
  obtain ⟨xs, n, _, hx, hl, hxl, hf⟩ := DataW.trod_struct Tryd.underlying24 hf
  have c3 : Tryd.prog.cellsOf 3 = 1 := by kernel_rfl
  have c4 : Tryd.prog.cellsOf 4 = 1 := by kernel_rfl
  have c5 : Tryd.prog.cellsOf 5 = 1 := by kernel_rfl
  have c9 : Tryd.prog.cellsOf 9 = 1 := by kernel_rfl
  have c22 : Tryd.prog.cellsOf 22 = 4 := by kernel_rfl
  have c24 : Tryd.prog.cellsOf 24 = 8 := by kernel_rfl
  rw [c24] at hl
  match xs, hxl with
  | [y0, y1, y2, y3, y4], _ =>
    have h0 : DataW.trod enc Tryd.prog W 0 (fun _ => true) true n 4 ((v.cells.toList.drop 0).take (Tryd.prog.cellsOf 4)) = some y0 := hf 0 _ rfl
    have h1 : DataW.trod enc Tryd.prog W 0 (fun _ => true) true n 3 ((v.cells.toList.drop 1).take (Tryd.prog.cellsOf 3)) = some y1 := hf 1 _ rfl
    have h2 : DataW.trod enc Tryd.prog W 0 (fun _ => true) true n 4 ((v.cells.toList.drop 2).take (Tryd.prog.cellsOf 4)) = some y2 := hf 2 _ rfl
    have h3 : DataW.trod enc Tryd.prog W 0 (fun _ => true) true n 22 ((v.cells.toList.drop 3).take (Tryd.prog.cellsOf 22)) = some y3 := hf 3 _ rfl
    have h4 : DataW.trod enc Tryd.prog W 0 (fun _ => true) true n 9 ((v.cells.toList.drop 7).take (Tryd.prog.cellsOf 9)) = some y4 := hf 4 _ rfl
    obtain ⟨a0, a1, a2, a3, a4, a5, a6, a7, hcs⟩ := list8 hl
    rw [hcs] at h0 h1 h2 h3 h4
    rw [c4] at h0 h2
    rw [c3] at h1
    rw [c22] at h3
    rw [c9] at h4
    simp only [List.drop_zero, List.drop_succ_cons, List.take_succ_cons, List.take_zero] at h0 h1 h2 h3 h4
    have e := agg_of_cells hcs (by simp)
    obtain ⟨f0, g0, _⟩ := DataW.trod_bool Tryd.underlying4 h0
    obtain ⟨f1, g1, _⟩ := DataW.trod_int Tryd.underlying3 h1
    obtain ⟨f2, g2, _⟩ := DataW.trod_bool Tryd.underlying4 h2
    obtain ⟨f7, g7, _⟩ := DataW.trod_string Tryd.underlying9 h4
    simp only [List.cons.injEq, and_true] at g0 g1 g2 g7
    subst g0 g1 g2 g7
    obtain ⟨zs, k, _, _, _, hzl, hz⟩ := DataW.trod_array Tryd.underlying22 h3
    rw [c5] at hz
    match zs, hzl with
    | [z0, z1, z2, z3], _ =>
      obtain ⟨n0, q0, _, w0⟩ := DataW.trod_int Tryd.underlying5 (hz 0 (by decide))
      obtain ⟨n1, q1, _, w1⟩ := DataW.trod_int Tryd.underlying5 (hz 1 (by decide))
      obtain ⟨n2, q2, _, w2⟩ := DataW.trod_int Tryd.underlying5 (hz 2 (by decide))
      obtain ⟨n3, q3, _, w3⟩ := DataW.trod_int Tryd.underlying5 (hz 3 (by decide))
      simp at q0 q1 q2 q3
      subst q0 q1 q2 q3
      have b0 := bounds_u8 w0
      have b1 := bounds_u8 w1
      have b2 := bounds_u8 w2
      have b3 := bounds_u8 w3
      obtain ⟨m0, rfl⟩ := Int.eq_ofNat_of_zero_le b0.1
      obtain ⟨m1, rfl⟩ := Int.eq_ofNat_of_zero_le b1.1
      obtain ⟨m2, rfl⟩ := Int.eq_ofNat_of_zero_le b2.1
      obtain ⟨m3, rfl⟩ := Int.eq_ofNat_of_zero_le b3.1
      exact ⟨f0, f1, f2, m0, m1, m2, m3, f7, e, fun x hx => by simp at hx; omega⟩
end Go.Proofs.YtcelhondifaloaaDoor
