/- Configurations and offers out of the data that comes in. -/
import Derived.Test.YtdndpicfnlcgjaaDoorRA
import Derived.Test.YtdndpicfnlcgjaaDoorOpenL
namespace Go.Proofs.YtdndpicfnlcgjaaDoor.Rou
open Go.RowKit Go.WideShapes Go.ChangeShapes

theorem agg_of_cells {v : Value} {l : List Value} (h : v.cells.toList = l) (hl : l.length ≠ 1) : v = .agg l.toArray := by
  subst h
  cases v with
  | agg cs => simp [Value.cells]
  | _ => exact absurd rfl hl
theorem list12 {α : Type} {l : List α} (h : l.length = 12) : ∃ a b c d e f g i j k m n, l = [a, b, c, d, e, f, g, i, j, k, m, n] :=
  match l, h with
  | [a, b, c, d, e, f, g, i, j, k, m, n], _ => ⟨a, b, c, d, e, f, g, i, j, k, m, n, rfl⟩
theorem list5 {α : Type} {l : List α} (h : l.length = 5) : ∃ a b c d e, l = [a, b, c, d, e] :=
  match l, h with
  | [a, b, c, d, e], _ => ⟨a, b, c, d, e, rfl⟩
theorem slice_cell {P : Program} {t e : TypeId} {H : Type} {enc : TypeId × Value → H} {W : World} {base fuel : Nat} {sp : Nat → Bool} {held : Bool} {v : Value} {x : DataW H × List MemPlace} (ht : P.underlying t = some (.slice e))
    (h : DataW.trod enc P W base sp held fuel t [v] = some x) : ∃ a n c, v = .slice a n c := by
  rcases DataW.trod_slice ht h with ⟨hcs, _⟩ | ⟨a, len, cap, el, rest, n, _, hcs, _⟩
  · simp at hcs; exact ⟨_, _, _, hcs⟩
  · simp at hcs; exact ⟨_, _, _, hcs⟩
theorem cfg_of_trod {H : Type} {enc : TypeId × Value → H} {W : World} {v : Value} {d : DataW H} {p : List MemPlace} (h : DataW.Trod enc Tryd.prog W 0 (fun _ => true) true 25 v d p) :
    ∃ (a1 : Option Addr) (n1 c1 : Nat) (a2 : Option Addr) (n2 c2 : Nat) (tb ms fr ct bs ot sh id po cl : Int) (rs : List Rb) (os : List ByteArray), v = .agg #[.slice a1 n1 c1, .slice a2 n2 c2, .int .i64 tb, .int .i64 ms, .int .i64 fr, .int .i64 ct, .int .i64 bs, .int .i64 ot, .int .i64 sh, .int .i64 id, .int .i64 po, .int .i64 cl] ∧
      (RtsAt W (.slice a1 n1 c1) rs ∧ (∀ r ∈ rs, RbOk r) ∧ rs.length ≤ maxLen) ∧ (StrA W (.slice a2 n2 c2) os ∧ os.length ≤ maxLen ∧ ∀ s ∈ os, s.size ≤ maxLen) := by
  obtain ⟨fuel, hf⟩ := h
  obtain ⟨xs, n, _, hx, hl, hxl, hf⟩ := DataW.trod_struct Tryd.underlying25 hf
  have c1 : Tryd.prog.cellsOf 3 = 1 := by kernel_rfl
  have c2 : Tryd.prog.cellsOf 22 = 1 := by kernel_rfl
  have c3 : Tryd.prog.cellsOf 23 = 1 := by kernel_rfl
  have c4 : Tryd.prog.cellsOf 25 = 12 := by kernel_rfl
  rw [c4] at hl
  obtain ⟨y0, y1, y2, y3, y4, y5, y6, y7, y8, y9, y10, y11, rfl⟩ := list12 hxl
  have h0 : DataW.trod enc Tryd.prog W 0 (fun _ => true) true n 22 ((v.cells.toList.drop 0).take (Tryd.prog.cellsOf 22)) = some y0 := hf 0 _ rfl
  have h1 : DataW.trod enc Tryd.prog W 0 (fun _ => true) true n 23 ((v.cells.toList.drop 1).take (Tryd.prog.cellsOf 23)) = some y1 := hf 1 _ rfl
  have h2 : DataW.trod enc Tryd.prog W 0 (fun _ => true) true n 3 ((v.cells.toList.drop 2).take (Tryd.prog.cellsOf 3)) = some y2 := hf 2 _ rfl
  have h3 : DataW.trod enc Tryd.prog W 0 (fun _ => true) true n 3 ((v.cells.toList.drop 3).take (Tryd.prog.cellsOf 3)) = some y3 := hf 3 _ rfl
  have h4 : DataW.trod enc Tryd.prog W 0 (fun _ => true) true n 3 ((v.cells.toList.drop 4).take (Tryd.prog.cellsOf 3)) = some y4 := hf 4 _ rfl
  have h5 : DataW.trod enc Tryd.prog W 0 (fun _ => true) true n 3 ((v.cells.toList.drop 5).take (Tryd.prog.cellsOf 3)) = some y5 := hf 5 _ rfl
  have h6 : DataW.trod enc Tryd.prog W 0 (fun _ => true) true n 3 ((v.cells.toList.drop 6).take (Tryd.prog.cellsOf 3)) = some y6 := hf 6 _ rfl
  have h7 : DataW.trod enc Tryd.prog W 0 (fun _ => true) true n 3 ((v.cells.toList.drop 7).take (Tryd.prog.cellsOf 3)) = some y7 := hf 7 _ rfl
  have h8 : DataW.trod enc Tryd.prog W 0 (fun _ => true) true n 3 ((v.cells.toList.drop 8).take (Tryd.prog.cellsOf 3)) = some y8 := hf 8 _ rfl
  have h9 : DataW.trod enc Tryd.prog W 0 (fun _ => true) true n 3 ((v.cells.toList.drop 9).take (Tryd.prog.cellsOf 3)) = some y9 := hf 9 _ rfl
  have h10 : DataW.trod enc Tryd.prog W 0 (fun _ => true) true n 3 ((v.cells.toList.drop 10).take (Tryd.prog.cellsOf 3)) = some y10 := hf 10 _ rfl
  have h11 : DataW.trod enc Tryd.prog W 0 (fun _ => true) true n 3 ((v.cells.toList.drop 11).take (Tryd.prog.cellsOf 3)) = some y11 := hf 11 _ rfl
  obtain ⟨b0, b1, b2, b3, b4, b5, b6, b7, b8, b9, b10, b11, hcs⟩ := list12 hl
  rw [hcs] at h0 h1 h2 h3 h4 h5 h6 h7 h8 h9 h10 h11
  rw [c2] at h0
  rw [c3] at h1
  rw [c1] at h2 h3 h4 h5 h6 h7 h8 h9 h10 h11
  simp only [List.drop_zero, List.drop_succ_cons, List.take_succ_cons, List.take_zero] at h0 h1 h2 h3 h4 h5 h6 h7 h8 h9 h10 h11
  have e := agg_of_cells hcs (by simp)
  obtain ⟨a1, n1, k1, rfl⟩ := slice_cell Tryd.underlying22 h0
  obtain ⟨a2, n2, k2, rfl⟩ := slice_cell Tryd.underlying23 h1
  obtain ⟨rs, R1, R2, R3⟩ := rtsAt_of_trod (W := W) (ad := a1) (len := n1) (cap := k1) (d := y0.1) (p := y0.2) ⟨n, h0⟩
  obtain ⟨os, S1, S2, S3⟩ := strA_of_trod (W := W) (ad := a2) (len := n2) (cap := k2) (d := y1.1) (p := y1.2) ⟨n, h1⟩
  obtain ⟨f2, g2, _, _⟩ := DataW.trod_int Tryd.underlying3 h2
  obtain ⟨f3, g3, _, _⟩ := DataW.trod_int Tryd.underlying3 h3
  obtain ⟨f4, g4, _, _⟩ := DataW.trod_int Tryd.underlying3 h4
  obtain ⟨f5, g5, _, _⟩ := DataW.trod_int Tryd.underlying3 h5
  obtain ⟨f6, g6, _, _⟩ := DataW.trod_int Tryd.underlying3 h6
  obtain ⟨f7, g7, _, _⟩ := DataW.trod_int Tryd.underlying3 h7
  obtain ⟨f8, g8, _, _⟩ := DataW.trod_int Tryd.underlying3 h8
  obtain ⟨f9, g9, _, _⟩ := DataW.trod_int Tryd.underlying3 h9
  obtain ⟨f10, g10, _, _⟩ := DataW.trod_int Tryd.underlying3 h10
  obtain ⟨f11, g11, _, _⟩ := DataW.trod_int Tryd.underlying3 h11
  simp only [List.cons.injEq, and_true] at g2 g3 g4 g5 g6 g7 g8 g9 g10 g11
  subst g2 g3 g4 g5 g6 g7 g8 g9 g10 g11
  exact ⟨a1, n1, k1, a2, n2, k2, f2, f3, f4, f5, f6, f7, f8, f9, f10, f11, rs, os, e, ⟨R1, R2, R3⟩, S1, S2, S3⟩
theorem off_of_trod {H : Type} {enc : TypeId × Value → H} {W : World} {v : Value} {d : DataW H} {p : List MemPlace} (h : DataW.Trod enc Tryd.prog W 0 (fun _ => true) true 31 v d p) :
    ∃ (path host key origin : ByteArray) (pa : Option Addr) (pn pc : Nat) (ps : List ByteArray), v = .agg #[.string path, .string host, .string key, .string origin, .slice pa pn pc] ∧
      (path.size ≤ maxLen ∧ origin.size ≤ maxLen) ∧ (StrA W (.slice pa pn pc) ps ∧ ps.length ≤ maxLen ∧ ∀ s ∈ ps, s.size ≤ maxLen) := by
  obtain ⟨fuel, hf⟩ := h
  obtain ⟨xs, n, _, hx, hl, hxl, hf⟩ := DataW.trod_struct Tryd.underlying31 hf
  have c1 : Tryd.prog.cellsOf 9 = 1 := by kernel_rfl
  have c3 : Tryd.prog.cellsOf 23 = 1 := by kernel_rfl
  have c4 : Tryd.prog.cellsOf 31 = 5 := by kernel_rfl
  rw [c4] at hl
  obtain ⟨y0, y1, y2, y3, y4, rfl⟩ := list5 hxl
  have h0 : DataW.trod enc Tryd.prog W 0 (fun _ => true) true n 9 ((v.cells.toList.drop 0).take (Tryd.prog.cellsOf 9)) = some y0 := hf 0 _ rfl
  have h1 : DataW.trod enc Tryd.prog W 0 (fun _ => true) true n 9 ((v.cells.toList.drop 1).take (Tryd.prog.cellsOf 9)) = some y1 := hf 1 _ rfl
  have h2 : DataW.trod enc Tryd.prog W 0 (fun _ => true) true n 9 ((v.cells.toList.drop 2).take (Tryd.prog.cellsOf 9)) = some y2 := hf 2 _ rfl
  have h3 : DataW.trod enc Tryd.prog W 0 (fun _ => true) true n 9 ((v.cells.toList.drop 3).take (Tryd.prog.cellsOf 9)) = some y3 := hf 3 _ rfl
  have h4 : DataW.trod enc Tryd.prog W 0 (fun _ => true) true n 23 ((v.cells.toList.drop 4).take (Tryd.prog.cellsOf 23)) = some y4 := hf 4 _ rfl
  obtain ⟨b0, b1, b2, b3, b4, hcs⟩ := list5 hl
  rw [hcs] at h0 h1 h2 h3 h4
  rw [c3] at h4
  rw [c1] at h0 h1 h2 h3
  simp only [List.drop_zero, List.drop_succ_cons, List.take_succ_cons, List.take_zero] at h0 h1 h2 h3 h4
  have e := agg_of_cells hcs (by simp)
  obtain ⟨a2, n2, k2, rfl⟩ := slice_cell Tryd.underlying23 h4
  obtain ⟨os, S1, S2, S3⟩ := strA_of_trod (W := W) (ad := a2) (len := n2) (cap := k2) (d := y4.1) (p := y4.2) ⟨n, h4⟩
  obtain ⟨f0, g0, _, w0⟩ := DataW.trod_string Tryd.underlying9 h0
  obtain ⟨f1, g1, _, w1⟩ := DataW.trod_string Tryd.underlying9 h1
  obtain ⟨f2, g2, _, w2⟩ := DataW.trod_string Tryd.underlying9 h2
  obtain ⟨f3, g3, _, w3⟩ := DataW.trod_string Tryd.underlying9 h3
  simp only [List.cons.injEq, and_true] at g0 g1 g2 g3
  subst g0 g1 g2 g3
  exact ⟨f0, f1, f2, f3, a2, n2, k2, os, e, ⟨w0, w3⟩, S1, S2, S3⟩
end Go.Proofs.YtdndpicfnlcgjaaDoor.Rou
