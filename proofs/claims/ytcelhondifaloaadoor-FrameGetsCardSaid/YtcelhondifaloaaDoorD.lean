/- frame: what is appended, a row made with room, Data turned. -/
import Derived.Test.YtcelhondifaloaaDoorC
import Derived.Test.YtcelhondifaloaaDoorMaD
set_option maxRecDepth 100000
namespace Go.Proofs.YtcelhondifaloaaDoor
open Go.RowKit MaskPlain FramePlain Mas

/-- Bytes behind a slice are appended to a row of one's own. -/
theorem add_src {Z : World} {base : Nat} {v u : Value} {m l : List Nat} (h : Z.ownsRow base 5 1 v m.length (u8s m)) (hs : SrcAt Z u l) (hl : m.length + l.length ≤ 1000000) (hbase : base ≤ Z.heap.size) (hp : 0 < (m ++ l).length) :
    ∃ g cap w1, (Builtin.append_ #[26, 26] 26 #[v, u]).run Tryd.prog Z = .ok (.slice (some ⟨g, 0, none⟩) (m ++ l).length cap) w1 ∧
      w1.ownsRow base 5 1 (.slice (some ⟨g, 0, none⟩) (m ++ l).length cap) (m ++ l).length (u8s (m ++ l)) ∧ Z.grownBy w1 v.ownBlock := by
  obtain ⟨i0, hi0, hz0, hz1, hz2⟩ := info5'
  obtain ⟨a, cap, sb, so, rfl, hc, ha, hcell⟩ := hs
  cases a with
  | none =>
    have h0 : l = [] := by
      cases l with
      | nil => rfl
      | cons x xs => exact absurd (ha (by simp)) (by simp)
    subst h0
    have hcap : cap = 0 ∨ cap ≠ 0 := by omega
    have hr : (Builtin.append_ #[26, 26] 26 #[v, .slice none 0 cap]).run Tryd.prog Z = .ok v Z := by
      rcases h.2 with ⟨rfl, hm⟩ | ⟨g, cap', cur, rfl, _, _, hnc, _⟩
      · simp [hm] at hp
      · simp [Builtin.append_, run_underlying Tryd.underlying26, sizeOf, typeInfo, hi0, Builtin.lenOf, Builtin.firstCells, hnc, storeCells]
    rw [List.append_nil] at hp ⊢
    obtain ⟨g, c, rfl, _, _⟩ := own_src h hp
    exact ⟨g, c, Z, hr, h, grown_refl _ _⟩
  | some ad =>
    obtain ⟨v', w', hrun, hown, hgr, _⟩ := run_append_own (P := Tryd.prog) Z base 26 26 5 i0 _ 1 1 Tryd.underlying26 hi0 hz0 hz1 hz2 rfl (by decide) v m.length (u8s m) h ad l.length cap (u8s l) (by simp) (fun j u hu => by
      have hj : j < l.length := by have := (List.getElem?_eq_some_iff.1 hu).1; simpa using this
      have had := ha (by omega)
      injection had with had
      subst had
      rw [Addr.add_mid, hcell j hj, ← hu, u8s_get l j hj]) (u8s_one l) (by unfold maxLen; omega) (by omega) hbase
    rw [← List.length_append, ← u8s_append] at hown
    obtain ⟨g, c, rfl, _, _⟩ := own_src hown hp
    exact ⟨g, c, w', hrun, hown, hgr⟩
/-- An empty row with room for n bytes. -/
theorem make_cap (X : Int) (n : Nat) (hX : X = (n : Int)) (hn : n ≤ 2000000) (w : World) :
    (Instr.makeSlice 26 (.int .i64 0) (.int .i64 X)).run Tryd.prog w = .ok (.slice (some ⟨w.heap.size, 0, none⟩) 0 n) (w.alloc (.cells (u8s (zs n)).toArray 5)) := by
  subst hX
  obtain ⟨i, hi, hz, h1, h2⟩ := info5'
  have := run_make (P := Tryd.prog) w 26 5 i (.int .u8 0) Tryd.underlying26 hi hz .i64 .i64 (0 : Int) (n : Int) (by omega) (by omega) (by rw [h2]; omega) (by omega)
  rw [h1] at this
  rw [show ((n : Int).toNat) = n from by omega, made_u8] at this
  exact this
theorem cap_own (w : World) (base n : Nat) (hb : base ≤ w.heap.size) (hn : n ≤ 2000000) : (w.alloc (.cells (u8s (zs n)).toArray 5)).ownsRow base 5 1 (.slice (some ⟨w.heap.size, 0, none⟩) 0 n) ([] : List Nat).length (u8s []) :=
  World.ownsRow_made w (u8s (zs n)).toArray n hb (by unfold maxLen; omega) (by simp [zs])
theorem or_128 (x : Nat) (h : x < 128) : bits .or .u8 (x : Int) 128 = ((x + 128 : Nat) : Int) := by
  have : ∀ c : Fin 128, bits BinOp.or IntKind.u8 (c.val : Int) 128 = ((c.val + 128 : Nat) : Int) := by decide +kernel
  exact this ⟨x, h⟩
theorem and_128 (x : Nat) (h : x < 256) : bits .and .u8 (x : Int) 128 = (((if 128 ≤ x then 128 else 0 : Nat)) : Int) := by
  have : ∀ c : Fin 256, bits BinOp.and IntKind.u8 (c.val : Int) 128 = (((if 128 ≤ c.val then 128 else 0 : Nat)) : Int) := by decide +kernel
  exact this ⟨x, h⟩
theorem rest4_zero : rest4 0 = 0 := rfl
/-- Data as bytes, or these as Data. -/
def tb (m : Bool) (key bs : List Nat) : List Nat := if m then turn key 0 bs else bs
theorem tb_length (m : Bool) (key bs : List Nat) : (tb m key bs).length = bs.length := by unfold tb; split <;> simp [turn_length]
theorem tb_small {m : Bool} {key bs : List Nat} (hk : Small 256 key) (h : Small 256 bs) : Small 256 (tb m key bs) := by
  unfold tb; split
  · exact turn_lt key 0 bs h (fun i => hk.getD (by omega) i)
  · exact h

set_option maxHeartbeats 1000000 in
theorem turned_any (fin : Bool) (op : Int) (m : Bool) (a b c d : Nat) (s : ByteArray) (g o n cap : Nat) (bs : List Nat) (w : World) (hk : Small 256 [a, b, c, d]) (hv : SrcAt w (.slice (some ⟨g, o, none⟩) n cap) bs) (hsm : Small 256 bs) (hn : bs.length = n) (hm : n ≤ 100000) :
    Calls Tryd.prog 21 #[(.agg #[.bool fin, .int .i64 op, .bool m, .int .u8 ((a : Nat) : Int), .int .u8 ((b : Nat) : Int), .int .u8 ((c : Nat) : Int), .int .u8 ((d : Nat) : Int), .string s]), .slice (some ⟨g, o, none⟩) n cap] w fun e w' => ∃ g' o' cap', e = .returned (.slice (some ⟨g', o', none⟩) n cap') ∧ Sl (SrcAt w' (.slice (some ⟨g', o', none⟩) n cap') (tb m [a, b, c, d] bs)) ∧ Sl (Below w.heap.size w w') := by
  have HV := Sl.mk hv
  obtain ⟨w1, hw1⟩ : ∃ w1, w.alloc (.cells #[.bool fin, .int .i64 op, .bool m, .int .u8 ((a : Nat) : Int), .int .u8 ((b : Nat) : Int), .int .u8 ((c : Nat) : Int), .int .u8 ((d : Nat) : Int), .string s] 24) = w1 := ⟨_, rfl⟩
  have HB1 : Sl (Below w.heap.size w w1) := ⟨by rw [← hw1]; exact (bx_below w _).out⟩
  have HY1 : Sl (w1.heap[w.heap.size]? = some (.cells #[.bool fin, .int .i64 op, .bool m, .int .u8 ((a : Nat) : Int), .int .u8 ((b : Nat) : Int), .int .u8 ((c : Nat) : Int), .int .u8 ((d : Nat) : Int), .string s] 24 (0, 0))) := ⟨by rw [← hw1]; exact bx_new _ _⟩
  have HV1 : Sl (SrcAt w1 (.slice (some ⟨g, o, none⟩) n cap) bs) := ⟨HV.out.below (Nat.le_refl _) HB1.out⟩
  obtain ⟨c0, c1, c2, c3, c4, c5, c6, c7⟩ := bx_cells HY1.out
  cases m with
  | true =>
    have C1 : Calls Tryd.prog 31 #[.agg #[.int .u8 (a : Int), .int .u8 (b : Int), .int .u8 (c : Int), .int .u8 (d : Int)], .int .i64 0, .slice (some ⟨g, o, none⟩) n cap] w1 fun e w' => ∃ g, e = .returned (.slice (some ⟨g, 0, none⟩) n n) ∧ Sl (RowB w' g (turn [a, b, c, d] (rest4 0) bs)) ∧ Sl (Below w1.heap.size w1 w') :=
      apply_len [a, b, c, d] 0 _ bs n w1 rfl hk HV1.out hsm hm hn
    have HN := Sl.mk hn
    clear hk hv hsm hn hm
    go_enter Tryd.func21, Tryd.ntmps21
    go_wp2_with fail
    refine C1.mono ?_
    rintro e w2 ⟨g2, rfl, HR, HX⟩
    have HB2 : Sl (Below w.heap.size w w2) := ⟨HB1.out.trans (HX.out.mono HB1.out.size)⟩
    have HRS : Sl (SrcAt w2 (.slice (some ⟨g2, 0, none⟩) n n) (tb true [a, b, c, d] bs)) := ⟨src_len HR.out.src (by rw [tb_length]; exact HN.out)⟩
    clear HX HR C1
    go_wp2
    go_ret
    exact ⟨g2, 0, n, rfl, HRS, HB2⟩
  | false =>
    clear hk hv hsm hn hm
    go_enter Tryd.func21, Tryd.ntmps21
    go_wp2
    go_ret
    exact ⟨g, o, cap, rfl, HV1, HB1⟩
end Go.Proofs.YtcelhondifaloaaDoor
