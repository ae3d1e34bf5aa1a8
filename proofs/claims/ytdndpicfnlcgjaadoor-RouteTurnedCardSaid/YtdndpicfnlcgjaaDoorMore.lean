/- General facts: rows of bytes written to, bytes behind a slice, an append of bytes, an array of four bytes (on XBase and XHeld). -/
import Derived.Test.YtdndpicfnlcgjaaDoorHeld
import Derived.Stop.BytesEq
set_option maxRecDepth 100000
namespace Go.Proofs.YtdndpicfnlcgjaaDoor
open Go.RowKit

theorem u8s_set (ws : List Nat) (k x : Nat) : (u8s ws).toArray.setIfInBounds k (.int .u8 (x : Int)) = (u8s (ws.set k x)).toArray := by
  simp [u8s, v8, List.map_set]
theorem RowB.set {w : World} {g : Nat} {bs : List Nat} (h : RowB w g bs) (i x : Nat) : RowB (w.setCell ⟨g, i, none⟩ (.int .u8 (x : Int))) g (bs.set i x) := by
  unfold RowB
  rw [heap_setCell_same _ _ _ _ _ _ h, u8s_set]
theorem RowB.cell {w : World} {g : Nat} {bs : List Nat} (h : RowB w g bs) (i : Nat) (hi : i < bs.length) : w.cell? ⟨g, i, none⟩ = some (.int .u8 ((bs.getD i 0 : Nat) : Int)) := by
  rw [cell_of_row _ _ _ _ _ _ h, List.getElem?_toArray]; exact u8s_get bs i hi
theorem RowB.froz {w : World} {g : Nat} {bs : List Nat} (h : RowB w g bs) (i : Nat) : w.frozen? ⟨g, i, none⟩ = false := frozen_of_row _ _ _ _ _ h
theorem rowB_new (w : World) (bs : List Nat) : RowB (w.alloc (.cells (u8s bs).toArray 5)) w.heap.size bs := alloc_new _ _ _ rfl

theorem SrcAt.below {w w' : World} {v : Value} {bs : List Nat} (h : SrcAt w v bs) {B : Nat} (hB : w.heap.size ≤ B) (k : Below B w w') : SrcAt w' v bs := by
  obtain ⟨a, cap, sb, so, h0, h1, h3, h5⟩ := h
  refine ⟨a, cap, sb, so, h0, h1, h3, fun i hi => ?_⟩
  have hlt := block_lt_of_cell (h5 i hi)
  rw [k.cell (p := ⟨sb, so + i, none⟩) (Nat.lt_of_lt_of_le hlt hB)]
  exact h5 i hi
theorem SrcAt.one {w : World} {sb so n cap : Nat} {bs : List Nat} (h : ∀ i, i < n → w.cell? ⟨sb, so + i, none⟩ = some (.int .u8 ((bs.getD i 0 : Nat) : Int))) (k : Nat) (hk : k + 1 ≤ n) (hn : bs.length = n) (hc : k ≤ cap) : SrcAt w (.slice (some ⟨sb, so + 1, none⟩) k cap) ((bs.drop 1).take k) := by
  have hl : ((bs.drop 1).take k).length = k := by rw [List.length_take, List.length_drop]; omega
  refine ⟨_, cap, sb, so + 1, by rw [hl], by rw [hl]; exact hc, fun _ => rfl, fun i hi => ?_⟩
  rw [hl] at hi
  rw [Nat.add_assoc, h (1 + i) (by omega)]
  simp only [List.getD_eq_getElem?_getD]
  rw [List.getElem?_take_of_lt hi, List.getElem?_drop]

section
variable {P : Program} {md : Region.Mode} {ops : Array Oper} {Q : Exit → Act → World → Prop} {S : World → Prop}
/-- A call and an operation that makes memory, neither of which waits for the other: in either order. -/
theorem heldCA {fuel : Nat} {listed : Array Bool} {a : Act} {w : World} {di dj : Option Tmp} {opi opj : Op} {ti tj : TypeId} (i j : Nat) (vi : Value) (wi : World) (f : FuncId) (args : Array Value)
    (hi : opIsT ops i di opi none ti) (hj : opIsT ops j dj opj none tj) (hr : Region.ready md ops listed = [i, j])
    (yi : ∀ o : Oper, o.op = opi → o.type = ti → (execOp a.eval o).run P w = .ok (.value vi) wi) (yj : ∀ o : Oper, o.op = opj → o.type = tj → (execOp a.eval o).run P w = .ok (.enter f args) w) (hS : S wi)
    (h1 : wpAnyH P md ops Q S fuel (listed.setIfInBounds i true) (a.put di vi) wi)
    (h2 : Calls P f args w fun e w' => ∃ v, e = .returned v ∧ S w' ∧ wpAnyH P md ops Q S fuel (listed.setIfInBounds j true) (a.put dj v) w') : wpAnyH P md ops Q S (fuel + 1) listed a w := by
  obtain ⟨o, ho, hd, hop, hg, ht⟩ := op_ofT hi
  obtain ⟨o', ho', hd', hop', hg', ht'⟩ := op_ofT hj
  refine wpAnyH_all hr (by simp) (fun k hk => ?_)
  rcases List.mem_cons.1 hk with rfl | hk
  · refine wpOp_step ho (fun K hK => ?_)
    rw [if_pos (wanted_of hg rfl)]
    unfold Oper.wp
    rw [yi o hop ht, Oper.upon_value, hd]
    exact hK _ _ ⟨hS, h1⟩
  · rw [List.mem_singleton] at hk
    subst hk
    refine wpOp_step ho' (fun K hK => ?_)
    rw [if_pos (wanted_of hg' rfl)]
    unfold Oper.wp
    rw [yj o' hop' ht', Oper.upon_enter]
    refine h2.mono ?_
    rintro e w' ⟨v, rfl, hS', h'⟩
    rw [hd']
    exact hK _ _ ⟨hS', h'⟩
end
theorem own_row {w : World} {g : Nat} {bs : List Nat} (h : RowB w g bs) (base : Nat) (hb : base ≤ g) (hl : bs.length ≤ 1000000) : w.ownsRow base 5 1 (.slice (some ⟨g, 0, none⟩) bs.length bs.length) bs.length (u8s bs) :=
  ⟨by simp, .inr ⟨g, bs.length, (u8s bs).toArray, rfl, hb, h, Nat.le_refl _, by unfold maxLen; omega, by simp, List.take_of_length_le (by simp)⟩⟩
theorem own_src {w : World} {base : Nat} {v : Value} {bs : List Nat} (h : w.ownsRow base 5 1 v bs.length (u8s bs)) (hp : 0 < bs.length) : ∃ g cap, v = .slice (some ⟨g, 0, none⟩) bs.length cap ∧ base ≤ g ∧ SrcAt w v bs := by
  rcases h.2 with ⟨_, h0⟩ | ⟨g, cap, cur, rfl, hb, hg, hn, _, hs, ht⟩
  · omega
  · refine ⟨g, cap, rfl, hb, _, cap, g, 0, rfl, hn, fun _ => rfl, fun i hi => ?_⟩
    rw [Nat.zero_add, cell_of_row _ _ _ _ _ _ hg]
    have h1 := u8s_get bs i hi
    rw [← ht, List.getElem?_take_of_lt (by omega), Array.getElem?_toList] at h1
    exact h1
theorem info5' : ∃ i, Tryd.prog.info? 5 = some i ∧ i.zero = some (.int .u8 0) ∧ i.size = 1 ∧ i.bytes = 1 := by
  have h5 := info5
  cases hi : Tryd.prog.info? 5 with
  | none => rw [hi] at h5; cases h5
  | some i =>
    rw [hi] at h5
    simp only [Option.map_some, Option.some.injEq, Prod.mk.injEq] at h5
    exact ⟨i, rfl, h5.1, h5.2.1, h5.2.2⟩
/-- Bytes behind a row of bytes. -/
theorem add_bytes {Z : World} {base g1 g2 : Nat} {m l : List Nat} (ty : TypeId) (h1 : RowB Z g1 m) (hb1 : base ≤ g1) (h2 : RowB Z g2 l) (hl : m.length + l.length ≤ 1000000) (hbase : base ≤ Z.heap.size) :
    ∃ v1 w1, (Builtin.append_ #[77, 77] ty #[.slice (some ⟨g1, 0, none⟩) m.length m.length, .slice (some ⟨g2, 0, none⟩) l.length l.length]).run Tryd.prog Z = .ok v1 w1 ∧
      w1.ownsRow base 5 1 v1 (m ++ l).length (u8s (m ++ l)) ∧ Z.grownBy w1 (some g1) := by
  obtain ⟨i0, hi0, hz0, hz1, hz2⟩ := info5'
  obtain ⟨v', w', hrun, hown, hgr, _⟩ := run_append_own (P := Tryd.prog) Z base 77 ty 5 i0 _ 1 1 Tryd.underlying77 hi0 hz0 hz1 hz2 rfl (by decide) _ m.length (u8s m) (own_row h1 base hb1 (by omega)) ⟨g2, 0, none⟩ l.length l.length (u8s l) (by simp) (fun j u hu => by
    have hj : j < l.length := by have := (List.getElem?_eq_some_iff.1 hu).1; simpa using this
    rw [Addr.add_mid, Nat.zero_add, h2.cell j hj, ← hu, u8s_get l j hj]) (u8s_one l) (by unfold maxLen; omega) (by omega) hbase
  refine ⟨v', w', hrun, ?_, hgr⟩
  rw [List.length_append, u8s_append]
  exact hown
theorem u8s_cells (l : List Nat) (h : Small 256 l) : u8s l = (l.map UInt8.ofNat).map Extern.Stop.cell := by
  simp only [u8s, List.map_map]
  refine List.map_congr_left (fun x hx => ?_)
  have hx' := h x hx
  simp only [v8, Function.comp_def, Extern.Stop.cell]
  congr 1
  rw [UInt8.toNat_ofNat_of_lt' hx']
  rfl
theorem ofNat_inj {a b : List Nat} (ha : Small 256 a) (hb : Small 256 b) : (a.map UInt8.ofNat = b.map UInt8.ofNat) ↔ a = b := by
  refine ⟨fun h => ?_, fun h => by rw [h]⟩
  have h2 := congrArg (List.map UInt8.toNat) h
  have key : ∀ l : List Nat, Small 256 l → (l.map UInt8.ofNat).map UInt8.toNat = l := fun l hl => by
    rw [List.map_map]
    conv => rhs; rw [← List.map_id l]
    exact List.map_congr_left fun x hx => UInt8.toNat_ofNat_of_lt' (hl x hx)
  rwa [key a ha, key b hb] at h2
/-- Bytes behind a slice as a string. -/
theorem SrcAt.conv {w : World} {b o n cap : Nat} {bs : List Nat} (h : SrcAt w (.slice (some ⟨b, o, none⟩) n cap) bs) : (convert 77 9 (.slice (some ⟨b, o, none⟩) n cap)).run Tryd.prog w = .ok (.string (strOf bs)) w := by
  obtain ⟨a, c, sb, so, he, hc, ha, hcell⟩ := h
  injection he with h1 h2 h3
  subst h2 h3
  refine run_convert_bytes_arg w 77 5 Tryd.underlying77 Tryd.underlying5 b o bs.length cap (bs.map fun (n : Nat) => (n : Int)) (by simp) (fun i hi => ?_) 9 Tryd.underlying9
  have hi' : i < bs.length := by simpa using hi
  have h4 := ha (by omega)
  rw [h4] at h1
  injection h1 with h1
  injection h1 with h5 h6
  subst h5 h6
  rw [hcell i hi']
  simp [List.getD, List.getElem?_eq_getElem hi']

theorem strOf_one (x : Nat) (h : x < 256) : bytes (strOf [x]) = [x] := bytes_strOf _ (fun y hy => by simp at hy; omega)
theorem strOf_cons (x : Nat) (l : List Nat) (hx : x < 256) (h : Small 256 l) : strOf [x] ++ strOf l = strOf (x :: l) := by
  refine bytes_inj ?_
  rw [bytes_append, strOf_one x hx, bytes_strOf l h, bytes_strOf]
  · rfl
  · intro y hy
    rcases List.mem_cons.1 hy with rfl | hy
    · exact hx
    · exact h y hy
theorem src_len {w : World} {g n : Nat} {bs : List Nat} (h : SrcAt w (.slice (some ⟨g, 0, none⟩) bs.length bs.length) bs) (hn : bs.length = n) : SrcAt w (.slice (some ⟨g, 0, none⟩) n n) bs := by subst hn; exact h

theorem below_key {w w' : World} {g : Nat} {o : Obj} (h : w.heap[g]? = some o) (k : Below w.heap.size w w') : w'.heap[g]? = some o := by
  rw [k.block _ (Array.getElem?_eq_some_iff.1 h).1]; exact h

end Go.Proofs.YtdndpicfnlcgjaaDoor
