/- frame: Put. -/
import Derived.Test.YtcelhondifaloaaDoorD
import Derived.Deep.DeepCutAuto
set_option maxRecDepth 100000
namespace Go.Proofs.YtcelhondifaloaaDoor
open Go.RowKit MaskPlain FramePlain Mas

/-- An append that stands in its turn. -/
theorem wpList_app {P : Program} {ops : Array Oper} {rest : List Oper} {o : Oper} {a : Act} {Q : Exit → Act → World → Prop} {w : World} (hgd : o.guard = none) (s x : Operand) (t ty : TypeId)
    (ho : o.op = .call { callee := .builtin .append, args := #[s, x], argTypes := #[t, t] }) (hty : o.type = ty) (v v' : Value) (ad : Addr) (m c : Nat) (w' : World)
    (hs : a.eval s = v) (hx : a.eval x = .slice (some ad) m c) (hrun : (Builtin.append_ #[t, t] ty #[v, .slice (some ad) m c]).run P w = .ok v' w')
    (h : wpList P ops Q rest (a.put o.dst v') w') : wpList P ops Q (o :: rest) a w := by
  refine wpList_plain hgd fun K hK => ?_
  unfold Oper.wp
  have hy : (execOp a.eval o).run P w = .ok (.value v') w' := by
    rw [← hty] at hrun
    simp [execOp, ho, resolve, invoke, builtin, hs, hx, hrun, Result.andThen]
  rw [hy, Oper.upon_value]
  exact hK _ _ h
section
variable {P : Program} {md : Region.Mode} {ops : Array Oper} {Q : Exit → Act → World → Prop} {S : World → Prop}
/-- As heldCA, the call first in the list. -/
theorem heldCA2 {fuel : Nat} {listed : Array Bool} {a : Act} {w : World} {di dj : Option Tmp} {opi opj : Op} {ti tj : TypeId} (i j : Nat) (vi : Value) (wi : World) (f : FuncId) (args : Array Value)
    (hi : opIsT ops i di opi none ti) (hj : opIsT ops j dj opj none tj) (hr : Region.ready md ops listed = [j, i])
    (yi : ∀ o : Oper, o.op = opi → o.type = ti → (execOp a.eval o).run P w = .ok (.value vi) wi) (yj : ∀ o : Oper, o.op = opj → o.type = tj → (execOp a.eval o).run P w = .ok (.enter f args) w) (hS : S wi)
    (h1 : wpAnyH P md ops Q S fuel (listed.setIfInBounds i true) (a.put di vi) wi)
    (h2 : Calls P f args w fun e w' => ∃ v, e = .returned v ∧ S w' ∧ wpAnyH P md ops Q S fuel (listed.setIfInBounds j true) (a.put dj v) w') : wpAnyH P md ops Q S (fuel + 1) listed a w := by
  obtain ⟨o, ho, hd, hop, hg, ht⟩ := op_ofT hi
  obtain ⟨o', ho', hd', hop', hg', ht'⟩ := op_ofT hj
  refine wpAnyH_all hr (by simp) (fun k hk => ?_)
  rcases List.mem_cons.1 hk with rfl | hk
  · refine wpOp_step ho' (fun K hK => ?_)
    rw [if_pos (wanted_of hg' rfl)]
    unfold Oper.wp
    rw [yj o' hop' ht', Oper.upon_enter]
    refine h2.mono ?_
    rintro e w' ⟨v, rfl, hS', h'⟩
    rw [hd']
    exact hK _ _ ⟨hS', h'⟩
  · rw [List.mem_singleton] at hk
    subst hk
    refine wpOp_step ho (fun K hK => ?_)
    rw [if_pos (wanted_of hg rfl)]
    unfold Oper.wp
    rw [yi o hop ht, Oper.upon_value, hd]
    exact hK _ _ ⟨hS, h1⟩
end
/-- A row under way: the frame's box lies at its place, the row is one's own. -/
structure PS (w W : World) (bx : Array Value) (g n cap : Nat) (T : List Nat) : Prop where
  B : Below w.heap.size w W
  X : W.heap[w.heap.size]? = some (.cells bx 24 (0, 0))
  O : W.ownsRow (w.heap.size + 1) 5 1 (.slice (some ⟨g, 0, none⟩) n cap) n (u8s T)
  L : T.length = n
  M : Small 256 T
theorem PS.up {w W : World} {bx : Array Value} {g n cap : Nat} {T : List Nat} (h : PS w W bx g n cap T) : w.heap.size + 1 ≤ W.heap.size := (Array.getElem?_eq_some_iff.1 h.X).1
theorem PS.below {w W W' : World} {bx : Array Value} {g n cap : Nat} {T : List Nat} (h : PS w W bx g n cap T) (k : Below W.heap.size W W') : PS w W' bx g n cap T :=
  ⟨h.B.trans (k.mono h.B.size), below_key h.X k, own_below h.O k, h.L, h.M⟩
theorem PS.add {w W : World} {bx : Array Value} {g n cap : Nat} {T : List Nat} (h : PS w W bx g n cap T) (n' : Nat) {u : Value} {l : List Nat} (hs : SrcAt W u l) (hl : Small 256 l) (hm : n + l.length ≤ 1000000) (hp : 0 < n + l.length) (hn : n + l.length = n') :
    ∃ g' cap' W', (Builtin.append_ #[26, 26] 26 #[.slice (some ⟨g, 0, none⟩) n cap, u]).run Tryd.prog W = .ok (.slice (some ⟨g', 0, none⟩) n' cap') W' ∧ PS w W' bx g' n' cap' (T ++ l) := by
  have hT := h.L
  subst hT
  obtain ⟨g', cap', W', hr, ho, hg⟩ := add_src (base := w.heap.size + 1) h.O hs hm h.up (by rw [List.length_append]; exact hp)
  have hl2 : (T ++ l).length = n' := by rw [List.length_append]; exact hn
  rw [hl2] at hr ho
  refine ⟨g', cap', W', hr, h.B.grown hg h.B.size (fun k hk => by have := (h.O.lt k hk).1; omega), ?_, ho, hl2, h.M.append hl⟩
  rw [hg.block _ (Array.getElem?_eq_some_iff.1 h.X).1 (fun e => by have := (h.O.lt _ e.symm).1; omega)]
  exact h.X
theorem PS.set {w W : World} {bx : Array Value} {g n cap : Nat} {T : List Nat} (h : PS w W bx g n cap T) {i x : Nat} (hx : x < 256) : PS w (W.setCell ⟨g, i, none⟩ (.int .u8 (x : Int))) bx g n cap (T.set i x) := by
  obtain ⟨h1, h2⟩ := h.O.stored i (.int .u8 (x : Int))
  have hb := (h.O.lt g rfl).1
  refine ⟨h.B.grown h2 h.B.size (fun k hk => by injection hk with hk; omega), ?_, ?_, by rw [List.length_set]; exact h.L, fun y hy => ?_⟩
  · rw [h2.block _ (Array.getElem?_eq_some_iff.1 h.X).1 (fun e => by injection e with e; omega)]; exact h.X
  · rw [show u8s (T.set i x) = (u8s T).set i (.int .u8 (x : Int)) by simp [u8s, v8, List.map_set]]; exact h1
  · rcases List.mem_or_eq_of_mem_set hy with hy | rfl
    · exact h.M y hy
    · exact hx
theorem PS.cell {w W : World} {bx : Array Value} {g n cap : Nat} {T : List Nat} (h : PS w W bx g n cap T) {i : Nat} (hi : i < n) : W.cell? ⟨g, i, none⟩ = some (.int .u8 ((T.getD i 0 : Nat) : Int)) := by
  rw [h.O.cellAt i (by omega)]; exact u8s_get T i (by rw [h.L]; exact hi)
theorem PS.froz {w W : World} {bx : Array Value} {g n cap : Nat} {T : List Nat} (h : PS w W bx g n cap T) (i : Nat) : W.frozen? ⟨g, i, none⟩ = false := h.O.frozenAt i
theorem PS.src {w W : World} {bx : Array Value} {g n cap : Nat} {T : List Nat} (h : PS w W bx g n cap T) : SrcAt W (.slice (some ⟨g, 0, none⟩) n cap) T := by
  have hT := h.L
  subst hT
  rcases h.O.2 with ⟨h', _⟩ | ⟨g', cap', cur, h', _, hg, hn, _, _, ht⟩
  · cases h'
  · simp only [Value.slice.injEq, Option.some.injEq, Addr.mk.injEq, and_true, true_and] at h'
    obtain ⟨rfl, rfl⟩ := h'
    exact ⟨_, cap, g, 0, rfl, hn, fun _ => rfl, fun i hi => by rw [Nat.zero_add]; exact h.cell hi⟩
/-- The key's bytes where they lie in the box. -/
theorem key_src {W : World} {B a b c d : Nat} (h3 : W.cell? ⟨B, 3, none⟩ = some (.int .u8 (a : Int))) (h4 : W.cell? ⟨B, 4, none⟩ = some (.int .u8 (b : Int))) (h5 : W.cell? ⟨B, 5, none⟩ = some (.int .u8 (c : Int))) (h6 : W.cell? ⟨B, 6, none⟩ = some (.int .u8 (d : Int))) : SrcAt W (.slice (some ⟨B, 3, none⟩) 4 4) [a, b, c, d] :=
  ⟨_, 4, B, 3, rfl, Nat.le_refl _, fun _ => rfl, fun i hi => by
    match i, hi with
    | 0, _ => exact h3
    | 1, _ => exact h4
    | 2, _ => exact h5
    | 3, _ => exact h6⟩
theorem text_mask (f : Fr) {b0 : Nat} {L : List Nat} (l : Nat) (hm : f.masked = true) (hb : byte0 f = b0) (hL : lenB f.data.length = L) (hl : L.getD 0 0 = l) (hn : 0 < L.length) : text f = ((([b0] ++ L).set 1 (l + 128)) ++ f.key) ++ tb true f.key f.data := by
  unfold text headB tb
  rw [if_pos hm, if_pos hm, if_pos rfl, hb, hL, hl]
  cases L with
  | nil => cases hn
  | cons x xs => simp
theorem text_bare (f : Fr) {b0 : Nat} {L : List Nat} (hm : f.masked = false) (hb : byte0 f = b0) (hL : lenB f.data.length = L) : text f = ([b0] ++ L) ++ tb false f.key f.data := by
  unfold text headB tb
  rw [hm, hb, hL]
  simp

set_option maxHeartbeats 4000000 in
theorem putf_yes (fin : Bool) (k : Nat) (m : Bool) (a b c d : Nat) (s : ByteArray) (n : Nat) (w : World) (hg : Globs w) (hk : Small 256 [a, b, c, d]) (hc : chk (⟨fin, (k:Int), m, [a, b, c, d], bytes s⟩ : Fr) = 0) (hn : size (⟨fin, (k:Int), m, [a, b, c, d], bytes s⟩ : Fr) = n) :
    Calls Tryd.prog 11 #[(.agg #[.bool fin, .int .i64 (k:Int), .bool m, .int .u8 ((a : Nat) : Int), .int .u8 ((b : Nat) : Int), .int .u8 ((c : Nat) : Int), .int .u8 ((d : Nat) : Int), .string s])] w fun e w' => ∃ g cap, e = .returned (.tuple #[.slice (some ⟨g, 0, none⟩) n cap, .int .i64 0]) ∧ Sl (SrcAt w' (.slice (some ⟨g, 0, none⟩) n cap) (text (⟨fin, (k:Int), m, [a, b, c, d], bytes s⟩ : Fr))) ∧ Sl (Below w.heap.size w w') := by
  have HG := Sl.mk hg
  have HKS := Sl.mk hk
  obtain ⟨hform, hln⟩ := chk_ok hc
  have hln : s.size ≤ 65536 := by simpa only [bytes_length] using hln
  have HLN := Sl.mk hln
  have hfc := form_cases hform
  have hk10 : k ≤ 10 := by have := hfc.1; simp only at this; omega
  have C13 : ∀ W, Calls Tryd.prog 13 #[(.agg #[.bool fin, .int .i64 (k:Int), .bool m, .int .u8 ((a : Nat) : Int), .int .u8 ((b : Nat) : Int), .int .u8 ((c : Nat) : Int), .int .u8 ((d : Nat) : Int), .string s])] W fun e w' => e = .returned (.int .i64 0) ∧ Sl (Below W.heap.size W w') := fun W => by have := check_any fin (k : Int) m a b c d s W hk; rw [hc] at this; exact this
  have hF := size_parts fin (k : Int) m a b c d s (by omega)
  have C18 : ∀ W, Globs W → Calls Tryd.prog 18 #[(.agg #[.bool fin, .int .i64 (k:Int), .bool m, .int .u8 ((a : Nat) : Int), .int .u8 ((b : Nat) : Int), .int .u8 ((c : Nat) : Int), .int .u8 ((d : Nat) : Int), .string s])] W fun e w' => e = .returned (.int .i64 (n : Int)) ∧ Sl (Below W.heap.size W w') := fun W hW => by have := size_any fin (k : Int) m a b c d s W hW (by omega); rw [hn] at this; exact this
  have HB0 : Sl (byte0 (⟨fin, (k:Int), m, [a, b, c, d], bytes s⟩ : Fr) = k + if fin then 128 else 0) := ⟨rfl⟩
  have hle := lenB_le s.size (by omega)
  have HLs := lenB_small (n := s.size) (by omega)
  have hlow := (lenB_low (n := s.size) (by omega)).1
  have hpos : 0 < (lenB s.size).length := by rw [lenB_length (by omega)]; split <;> (try split) <;> omega
  obtain ⟨L, hL⟩ : ∃ L, lenB s.size = L := ⟨_, rfl⟩
  have HLB := Sl.mk hL
  rw [hL] at hle HLs hlow hF hpos
  have HLS : Sl (Small 256 L) := ⟨HLs⟩
  obtain ⟨l0, hl0e⟩ : ∃ l0, L.getD 0 0 = l0 := ⟨_, rfl⟩
  have HL0 := Sl.mk hl0e
  rw [hl0e] at hlow
  have hl0 := hlow
  have HPOS := Sl.mk hpos
  obtain ⟨n5, hn5⟩ : ∃ n5, 1 + L.length = n5 := ⟨_, rfl⟩
  rw [hn] at hF
  have HF : Sl (n = n5 + ksz m + s.size) := ⟨by rw [hF, hn5]⟩
  have hks : ksz m ≤ 4 := by unfold ksz; split <;> omega
  have hN : n ≤ 100000 := by omega
  have hn5b : n5 ≤ 10 ∧ 2 ≤ n5 := by omega
  have HSMK : Small 256 [k] := fun x hx => by simp at hx; omega
  have hwk : IntKind.u8.wrap (k : Int) = (k : Int) := by rw [IntKind.wrap_u8]; omega
  clear hg hk hform hln hfc hc hF hle HLs hlow hl0e hL
  obtain ⟨N, hNe⟩ : ∃ N, N = n := ⟨_, rfl⟩
  obtain ⟨w1, hw1⟩ : ∃ w1, w.alloc (.cells #[.bool fin, .int .i64 (k:Int), .bool m, .int .u8 ((a : Nat) : Int), .int .u8 ((b : Nat) : Int), .int .u8 ((c : Nat) : Int), .int .u8 ((d : Nat) : Int), .string s] 24) = w1 := ⟨_, rfl⟩
  have HB1 : Sl (Below w.heap.size w w1) := ⟨by rw [← hw1]; exact (bx_below w _).out⟩
  have HY1 : Sl (w1.heap[w.heap.size]? = some (.cells #[.bool fin, .int .i64 (k:Int), .bool m, .int .u8 ((a : Nat) : Int), .int .u8 ((b : Nat) : Int), .int .u8 ((c : Nat) : Int), .int .u8 ((d : Nat) : Int), .string s] 24 (0, 0))) := ⟨by rw [← hw1]; exact bx_new _ _⟩
  have HZ : Sl (w.heap.size < w1.heap.size) := ⟨(Array.getElem?_eq_some_iff.1 HY1.out).1⟩
  obtain ⟨p0, p1, p2, p3, p4, p5, p6, p7⟩ := bx_cells HY1.out
  go_enter Tryd.func11, Tryd.ntmps11
  go_wp2_with fail
  refine (C13 _).mono ?_
  rintro e w2 ⟨rfl, HX2⟩
  have HB2 : Sl (Below w.heap.size w w2) := ⟨HB1.out.trans (HX2.out.mono HB1.out.size)⟩
  have HY2 : Sl (w2.heap[w.heap.size]? = some (.cells #[.bool fin, .int .i64 (k:Int), .bool m, .int .u8 ((a : Nat) : Int), .int .u8 ((b : Nat) : Int), .int .u8 ((c : Nat) : Int), .int .u8 ((d : Nat) : Int), .string s] 24 (0, 0))) := ⟨below_key HY1.out HX2.out⟩
  clear HX2 HB1 HY1 hw1 C13 p0 p1 p2 p3 p4 p5 p6 p7
  go_upto_region 4 with fail
  go_cut [5] (fun s5 wx => ∃ g cap, s5 = .slice (some ⟨g, 0, none⟩) 1 cap ∧ Sl (PS w wx #[.bool fin, .int .i64 (k:Int), .bool m, .int .u8 ((a : Nat) : Int), .int .u8 ((b : Nat) : Int), .int .u8 ((c : Nat) : Int), .int .u8 ((d : Nat) : Int), .string s] g 1 cap [k]))
  case first =>
    subst hNe
    obtain ⟨R, hR⟩ : ∃ R, w2.drew = R := ⟨_, rfl⟩
    have HS0 : Below w.heap.size w R ∧ R.heap[w.heap.size]? = some (.cells #[.bool fin, .int .i64 (k:Int), .bool m, .int .u8 ((a : Nat) : Int), .int .u8 ((b : Nat) : Int), .int .u8 ((c : Nat) : Int), .int .u8 ((d : Nat) : Int), .string s] 24 (0, 0)) := ⟨by rw [← hR]; exact HB2.out.drew, by rw [← hR]; exact HY2.out⟩
    refine wp_region_noPanic ?_
    refine wp_region_held (S := fun W => Below w.heap.size w W ∧ W.heap[w.heap.size]? = some (.cells #[.bool fin, .int .i64 (k:Int), .bool m, .int .u8 ((a : Nat) : Int), .int .u8 ((b : Nat) : Int), .int .u8 ((c : Nat) : Int), .int .u8 ((d : Nat) : Int), .string s] 24 (0, 0))) (by kernel_rfl) ?_
    change wpAnyH _ _ _ _ _ _ _ _ w2.drew
    rw [hR]
    clear hR
    refine heldTake (d := some 11) (op := .load 24 (Operand.tmp 1)) (g := none) 0 ((.agg #[.bool fin, .int .i64 (k:Int), .bool m, .int .u8 ((a : Nat) : Int), .int .u8 ((b : Nat) : Int), .int .u8 ((c : Nat) : Int), .int .u8 ((d : Nat) : Int), .string s])) rfl (by kernel_rfl) (by kernel_rfl) (by kernel_rfl) (by kernel_rfl) ?y0 HS0 ?_
    case y0 => intro o' ho W hS; exact loadbox ho (by rfl) hS.2
    simp only [Act.put, List.setIfInBounds_toArray, List.set_cons_zero, List.set_cons_succ]
    refine heldTake (d := some 14) (op := .fieldAddr 24 (Operand.tmp 1) 1) (g := none) 3 ?v3 rfl (by kernel_rfl) (by kernel_rfl) (by kernel_rfl) (by kernel_rfl) ?y3 HS0 ?_
    case y3 => intro o' ho W hS; simp only [execOp, ho]; go_simp; try rfl
    simp only [Act.put, List.setIfInBounds_toArray, List.set_cons_zero, List.set_cons_succ]
    refine heldTake (d := some 15) (op := .load 3 (Operand.tmp 14)) (g := none) 4 ?v4 rfl (by kernel_rfl) (by kernel_rfl) (by kernel_rfl) (by kernel_rfl) ?y4 HS0 ?_
    case y4 => intro o' ho W hS; obtain ⟨c0, c1, c2, c3, c4, c5, c6, c7⟩ := bx_cells hS.2; simp only [execOp, ho]; go_simp; try rfl
    simp only [Act.put, List.setIfInBounds_toArray, List.set_cons_zero, List.set_cons_succ]
    refine heldTake (d := some 16) (op := .convert 3 5 (Operand.tmp 15)) (g := none) 5 ?v5 rfl (by kernel_rfl) (by kernel_rfl) (by kernel_rfl) (by kernel_rfl) ?y5 HS0 ?_
    case y5 => intro o' ho W hS; simp only [execOp, ho]; go_simp; try rfl
    simp only [Act.put, List.setIfInBounds_toArray, List.set_cons_zero, List.set_cons_succ]
    obtain ⟨A, hA⟩ : ∃ A, R.alloc (.cells #[.int .u8 (k : Int)] 5) = A := ⟨_, rfl⟩
    have HRA : RowB A R.heap.size [k] := by rw [← hA]; exact rowB_new R [k]
    have BA : Below R.heap.size R A := by rw [← hA]; exact (Below.refl _ _).alloc (Nat.le_refl _) _
    have HSA : Below w.heap.size w A ∧ A.heap[w.heap.size]? = some (.cells #[.bool fin, .int .i64 (k:Int), .bool m, .int .u8 ((a : Nat) : Int), .int .u8 ((b : Nat) : Int), .int .u8 ((c : Nat) : Int), .int .u8 ((d : Nat) : Int), .string s] 24 (0, 0)) := ⟨HS0.1.trans (BA.mono HS0.1.size), below_key HS0.2 BA⟩
    refine heldCA2 (di := some 17) (opi := .buildSlice 26 1 #[(0, Operand.tmp 16)]) (dj := some 12) (opj := .call { callee := Callee.value (Operand.func 18), args := #[Operand.tmp 11], argTypes := #[24] }) (ti := 26) (tj := 3) 6 1 (.slice (some ⟨R.heap.size, 0, none⟩) 1 1) A 18 #[(.agg #[.bool fin, .int .i64 (k:Int), .bool m, .int .u8 ((a : Nat) : Int), .int .u8 ((b : Nat) : Int), .int .u8 ((c : Nat) : Int), .int .u8 ((d : Nat) : Int), .string s])] rfl rfl (by kernel_rfl) ?y6a ?y1a HSA ?first ?second
    case y6a => intro o' ho ht; simp only [execOp, ho]; go_simp; first | done | rw [hA] | rfl
    case y1a => intro o' ho ht; simp only [execOp, ho]; go_simp; try rfl
    case first =>
      simp only [Act.put, List.setIfInBounds_toArray, List.set_cons_zero, List.set_cons_succ]
      refine heldCall (d := some 12) (op := .call { callee := Callee.value (Operand.func 18), args := #[Operand.tmp 11], argTypes := #[24] }) (g := none) 1 18 #[(.agg #[.bool fin, .int .i64 (k:Int), .bool m, .int .u8 ((a : Nat) : Int), .int .u8 ((b : Nat) : Int), .int .u8 ((c : Nat) : Int), .int .u8 ((d : Nat) : Int), .string s])] rfl (by kernel_rfl) (by kernel_rfl) ?y1p ?_
      case y1p => intro o' ho; simp only [execOp, ho]; go_simp; try rfl
      refine (C18 A (HG.out.below HSA.1 HG.out.size)).mono ?_
      rintro e X ⟨rfl, HXX⟩
      have HSX : Below w.heap.size w X ∧ X.heap[w.heap.size]? = some (.cells #[.bool fin, .int .i64 (k:Int), .bool m, .int .u8 ((a : Nat) : Int), .int .u8 ((b : Nat) : Int), .int .u8 ((c : Nat) : Int), .int .u8 ((d : Nat) : Int), .string s] 24 (0, 0)) := ⟨HSA.1.trans (HXX.out.mono HSA.1.size), below_key HSA.2 HXX.out⟩
      refine ⟨_, rfl, HSX, ?_⟩
      simp only [Act.put, List.setIfInBounds_toArray, List.set_cons_zero, List.set_cons_succ]
      obtain ⟨Y, hY⟩ : ∃ Y, X.alloc (.cells (u8s (zs N)).toArray 5) = Y := ⟨_, rfl⟩
      have hmkY := make_cap (N : Int) N rfl (by omega) X
      rw [hY] at hmkY
      have HPM : PS w Y #[.bool fin, .int .i64 (k:Int), .bool m, .int .u8 ((a : Nat) : Int), .int .u8 ((b : Nat) : Int), .int .u8 ((c : Nat) : Int), .int .u8 ((d : Nat) : Int), .string s] X.heap.size 0 N [] := ⟨by rw [← hY]; exact HSX.1.alloc HSX.1.size _, by rw [← hY, alloc_old _ _ _ (Array.getElem?_eq_some_iff.1 HSX.2).1]; exact HSX.2, by rw [← hY]; exact cap_own X _ N (Array.getElem?_eq_some_iff.1 HSX.2).1 (by omega), rfl, fun x hx => by cases hx⟩
      have HSY : Below w.heap.size w Y ∧ Y.heap[w.heap.size]? = some (.cells #[.bool fin, .int .i64 (k:Int), .bool m, .int .u8 ((a : Nat) : Int), .int .u8 ((b : Nat) : Int), .int .u8 ((c : Nat) : Int), .int .u8 ((d : Nat) : Int), .string s] 24 (0, 0)) := ⟨HPM.B, HPM.X⟩
      refine heldRunT (d := some 13) (op := .makeSlice 26 (Operand.const (Value.int IntKind.i64 0)) (Operand.tmp 12)) (g := none) (t := 26) 2 (.slice (some ⟨X.heap.size, 0, none⟩) 0 N) Y rfl (by kernel_rfl) (by kernel_rfl) ?y2p HSY ?_
      case y2p => intro o' ho ht; simp only [execOp, ho, Sem.run_bind, Sem.run_pure]; refine (congrArg (fun r => Result.andThen r _) hmkY).trans ?_; rfl
      simp only [Act.put, List.setIfInBounds_toArray, List.set_cons_zero, List.set_cons_succ]
      have HSK : SrcAt Y (.slice (some ⟨R.heap.size, 0, none⟩) 1 1) [k] := ((HRA.below HXX.out).below (by rw [← hY]; exact (Below.refl _ _).alloc (Nat.le_refl _) _)).src
      obtain ⟨gz, capz, Z, hrz, HPZ⟩ := HPM.add 1 HSK HSMK (by simp) (by simp) rfl
      have HSZ : Below w.heap.size w Z ∧ Z.heap[w.heap.size]? = some (.cells #[.bool fin, .int .i64 (k:Int), .bool m, .int .u8 ((a : Nat) : Int), .int .u8 ((b : Nat) : Int), .int .u8 ((c : Nat) : Int), .int .u8 ((d : Nat) : Int), .string s] 24 (0, 0)) := ⟨HPZ.B, HPZ.X⟩
      refine heldRunT (d := some 18) (op := .call { callee := Callee.builtin Builtin.append, args := #[Operand.tmp 13, Operand.tmp 17], argTypes := #[26, 26] }) (g := none) (t := 26) 7 (.slice (some ⟨gz, 0, none⟩) 1 capz) Z rfl (by kernel_rfl) (by kernel_rfl) ?y7p HSZ ?_
      case y7p => intro o' ho ht; simp only [execOp, ho, ht, resolve, invoke, builtin, Sem.run_bind, Sem.run_pure, Result.andThen_ok, List.map_toArray, List.map_cons, List.map_nil]; refine (congrArg (fun r => Result.andThen r _) hrz).trans ?_; rfl
      simp only [Act.put, List.setIfInBounds_toArray, List.set_cons_zero, List.set_cons_succ]
      refine heldTake (d := some 5) (op := .assign (Operand.tmp 18)) (g := none) 8 ?v8p rfl (by kernel_rfl) (by kernel_rfl) (by kernel_rfl) (by kernel_rfl) ?y8p HSZ ?_
      case y8p => intro o' ho W hS; simp only [execOp, ho]; go_simp; try rfl
      simp only [Act.put, List.setIfInBounds_toArray, List.set_cons_zero, List.set_cons_succ]
      refine wpAnyH_done (by kernel_rfl) ?_ _
      refine NoPanic.normal ?_
      go_wp2_with fail
      go_meet
      exact ⟨gz, capz, rfl, ⟨HPZ⟩⟩
    case second =>
      refine (C18 R (HG.out.below HS0.1 HG.out.size)).mono ?_
      rintro e X ⟨rfl, HXX⟩
      have HSX : Below w.heap.size w X ∧ X.heap[w.heap.size]? = some (.cells #[.bool fin, .int .i64 (k:Int), .bool m, .int .u8 ((a : Nat) : Int), .int .u8 ((b : Nat) : Int), .int .u8 ((c : Nat) : Int), .int .u8 ((d : Nat) : Int), .string s] 24 (0, 0)) := ⟨HS0.1.trans (HXX.out.mono HS0.1.size), below_key HS0.2 HXX.out⟩
      refine ⟨_, rfl, HSX, ?_⟩
      simp only [Act.put, List.setIfInBounds_toArray, List.set_cons_zero, List.set_cons_succ]
      obtain ⟨Y, hY⟩ : ∃ Y, X.alloc (.cells (u8s (zs N)).toArray 5) = Y := ⟨_, rfl⟩
      have hmkY := make_cap (N : Int) N rfl (by omega) X
      rw [hY] at hmkY
      have HPM : PS w Y #[.bool fin, .int .i64 (k:Int), .bool m, .int .u8 ((a : Nat) : Int), .int .u8 ((b : Nat) : Int), .int .u8 ((c : Nat) : Int), .int .u8 ((d : Nat) : Int), .string s] X.heap.size 0 N [] := ⟨by rw [← hY]; exact HSX.1.alloc HSX.1.size _, by rw [← hY, alloc_old _ _ _ (Array.getElem?_eq_some_iff.1 HSX.2).1]; exact HSX.2, by rw [← hY]; exact cap_own X _ N (Array.getElem?_eq_some_iff.1 HSX.2).1 (by omega), rfl, fun x hx => by cases hx⟩
      have HSY : Below w.heap.size w Y ∧ Y.heap[w.heap.size]? = some (.cells #[.bool fin, .int .i64 (k:Int), .bool m, .int .u8 ((a : Nat) : Int), .int .u8 ((b : Nat) : Int), .int .u8 ((c : Nat) : Int), .int .u8 ((d : Nat) : Int), .string s] 24 (0, 0)) := ⟨HPM.B, HPM.X⟩
      obtain ⟨B, hB⟩ : ∃ B, X.alloc (.cells #[.int .u8 (k : Int)] 5) = B := ⟨_, rfl⟩
      have HRB : RowB B X.heap.size [k] := by rw [← hB]; exact rowB_new X [k]
      have BB : Below X.heap.size X B := by rw [← hB]; exact (Below.refl _ _).alloc (Nat.le_refl _) _
      have HSB : Below w.heap.size w B ∧ B.heap[w.heap.size]? = some (.cells #[.bool fin, .int .i64 (k:Int), .bool m, .int .u8 ((a : Nat) : Int), .int .u8 ((b : Nat) : Int), .int .u8 ((c : Nat) : Int), .int .u8 ((d : Nat) : Int), .string s] 24 (0, 0)) := ⟨HSX.1.trans (BB.mono HSX.1.size), below_key HSX.2 BB⟩
      refine heldTwo (di := some 13) (opi := .makeSlice 26 (Operand.const (Value.int IntKind.i64 0)) (Operand.tmp 12)) (gi := none) (ti := 26) (dj := some 17) (opj := .buildSlice 26 1 #[(0, Operand.tmp 16)]) (gj := none) (tj := 26) 2 6 (.slice (some ⟨X.heap.size, 0, none⟩) 0 N) Y (.slice (some ⟨X.heap.size, 0, none⟩) 1 1) B rfl rfl (by kernel_rfl) (by kernel_rfl) (by kernel_rfl) ?y2t ?y6t HSY HSB ?t1 ?t2
      case y2t => intro o' ho ht; simp only [execOp, ho, Sem.run_bind, Sem.run_pure]; refine (congrArg (fun r => Result.andThen r _) hmkY).trans ?_; rfl
      case y6t => intro o' ho ht; simp only [execOp, ho]; go_simp; first | done | rw [hB] | rfl
      case t1 =>
        simp only [Act.put, List.setIfInBounds_toArray, List.set_cons_zero, List.set_cons_succ]
        obtain ⟨C, hC⟩ : ∃ C, Y.alloc (.cells #[.int .u8 (k : Int)] 5) = C := ⟨_, rfl⟩
        have HSK : SrcAt C (.slice (some ⟨Y.heap.size, 0, none⟩) 1 1) [k] := by rw [← hC]; exact (rowB_new Y [k]).src
        have BC : Below Y.heap.size Y C := by rw [← hC]; exact (Below.refl _ _).alloc (Nat.le_refl _) _
        replace HPM := HPM.below BC
        have HSC : Below w.heap.size w C ∧ C.heap[w.heap.size]? = some (.cells #[.bool fin, .int .i64 (k:Int), .bool m, .int .u8 ((a : Nat) : Int), .int .u8 ((b : Nat) : Int), .int .u8 ((c : Nat) : Int), .int .u8 ((d : Nat) : Int), .string s] 24 (0, 0)) := ⟨HPM.B, HPM.X⟩
        refine heldRunT (d := some 17) (op := .buildSlice 26 1 #[(0, Operand.tmp 16)]) (g := none) (t := 26) 6 (.slice (some ⟨Y.heap.size, 0, none⟩) 1 1) C rfl (by kernel_rfl) (by kernel_rfl) ?y6u HSC ?_
        case y6u => intro o' ho _; simp only [execOp, ho]; go_simp; first | done | rw [hC] | rfl
        simp only [Act.put, List.setIfInBounds_toArray, List.set_cons_zero, List.set_cons_succ]
        obtain ⟨gz, capz, Z, hrz, HPZ⟩ := HPM.add 1 HSK HSMK (by simp) (by simp) rfl
        have HSZ : Below w.heap.size w Z ∧ Z.heap[w.heap.size]? = some (.cells #[.bool fin, .int .i64 (k:Int), .bool m, .int .u8 ((a : Nat) : Int), .int .u8 ((b : Nat) : Int), .int .u8 ((c : Nat) : Int), .int .u8 ((d : Nat) : Int), .string s] 24 (0, 0)) := ⟨HPZ.B, HPZ.X⟩
        refine heldRunT (d := some 18) (op := .call { callee := Callee.builtin Builtin.append, args := #[Operand.tmp 13, Operand.tmp 17], argTypes := #[26, 26] }) (g := none) (t := 26) 7 (.slice (some ⟨gz, 0, none⟩) 1 capz) Z rfl (by kernel_rfl) (by kernel_rfl) ?y7u HSZ ?_
        case y7u => intro o' ho ht; simp only [execOp, ho, ht, resolve, invoke, builtin, Sem.run_bind, Sem.run_pure, Result.andThen_ok, List.map_toArray, List.map_cons, List.map_nil]; refine (congrArg (fun r => Result.andThen r _) hrz).trans ?_; rfl
        simp only [Act.put, List.setIfInBounds_toArray, List.set_cons_zero, List.set_cons_succ]
        refine heldTake (d := some 5) (op := .assign (Operand.tmp 18)) (g := none) 8 ?v8u rfl (by kernel_rfl) (by kernel_rfl) (by kernel_rfl) (by kernel_rfl) ?y8u HSZ ?_
        case y8u => intro o' ho W hS; simp only [execOp, ho]; go_simp; try rfl
        simp only [Act.put, List.setIfInBounds_toArray, List.set_cons_zero, List.set_cons_succ]
        refine wpAnyH_done (by kernel_rfl) ?_ _
        refine NoPanic.normal ?_
        go_wp2_with fail
        go_meet
        exact ⟨gz, capz, rfl, ⟨HPZ⟩⟩
      case t2 =>
        simp only [Act.put, List.setIfInBounds_toArray, List.set_cons_zero, List.set_cons_succ]
        clear HPM HSY hmkY hY
        clear Y
        obtain ⟨Y, hY⟩ : ∃ Y, B.alloc (.cells (u8s (zs N)).toArray 5) = Y := ⟨_, rfl⟩
        have hmkY := make_cap (N : Int) N rfl (by omega) B
        rw [hY] at hmkY
        have HPM : PS w Y #[.bool fin, .int .i64 (k:Int), .bool m, .int .u8 ((a : Nat) : Int), .int .u8 ((b : Nat) : Int), .int .u8 ((c : Nat) : Int), .int .u8 ((d : Nat) : Int), .string s] B.heap.size 0 N [] := ⟨by rw [← hY]; exact HSB.1.alloc HSB.1.size _, by rw [← hY, alloc_old _ _ _ (Array.getElem?_eq_some_iff.1 HSB.2).1]; exact HSB.2, by rw [← hY]; exact cap_own B _ N (Array.getElem?_eq_some_iff.1 HSB.2).1 (by omega), rfl, fun x hx => by cases hx⟩
        have HSY : Below w.heap.size w Y ∧ Y.heap[w.heap.size]? = some (.cells #[.bool fin, .int .i64 (k:Int), .bool m, .int .u8 ((a : Nat) : Int), .int .u8 ((b : Nat) : Int), .int .u8 ((c : Nat) : Int), .int .u8 ((d : Nat) : Int), .string s] 24 (0, 0)) := ⟨HPM.B, HPM.X⟩
        refine heldRunT (d := some 13) (op := .makeSlice 26 (Operand.const (Value.int IntKind.i64 0)) (Operand.tmp 12)) (g := none) (t := 26) 2 (.slice (some ⟨B.heap.size, 0, none⟩) 0 N) Y rfl (by kernel_rfl) (by kernel_rfl) ?y2v HSY ?_
        case y2v => intro o' ho ht; simp only [execOp, ho, Sem.run_bind, Sem.run_pure]; refine (congrArg (fun r => Result.andThen r _) hmkY).trans ?_; rfl
        simp only [Act.put, List.setIfInBounds_toArray, List.set_cons_zero, List.set_cons_succ]
        have HSK : SrcAt Y (.slice (some ⟨X.heap.size, 0, none⟩) 1 1) [k] := (HRB.below (by rw [← hY]; exact (Below.refl _ _).alloc (Nat.le_refl _) _)).src
        obtain ⟨gz, capz, Z, hrz, HPZ⟩ := HPM.add 1 HSK HSMK (by simp) (by simp) rfl
        have HSZ : Below w.heap.size w Z ∧ Z.heap[w.heap.size]? = some (.cells #[.bool fin, .int .i64 (k:Int), .bool m, .int .u8 ((a : Nat) : Int), .int .u8 ((b : Nat) : Int), .int .u8 ((c : Nat) : Int), .int .u8 ((d : Nat) : Int), .string s] 24 (0, 0)) := ⟨HPZ.B, HPZ.X⟩
        refine heldRunT (d := some 18) (op := .call { callee := Callee.builtin Builtin.append, args := #[Operand.tmp 13, Operand.tmp 17], argTypes := #[26, 26] }) (g := none) (t := 26) 7 (.slice (some ⟨gz, 0, none⟩) 1 capz) Z rfl (by kernel_rfl) (by kernel_rfl) ?y7v HSZ ?_
        case y7v => intro o' ho ht; simp only [execOp, ho, ht, resolve, invoke, builtin, Sem.run_bind, Sem.run_pure, Result.andThen_ok, List.map_toArray, List.map_cons, List.map_nil]; refine (congrArg (fun r => Result.andThen r _) hrz).trans ?_; rfl
        simp only [Act.put, List.setIfInBounds_toArray, List.set_cons_zero, List.set_cons_succ]
        refine heldTake (d := some 5) (op := .assign (Operand.tmp 18)) (g := none) 8 ?v8v rfl (by kernel_rfl) (by kernel_rfl) (by kernel_rfl) (by kernel_rfl) ?y8v HSZ ?_
        case y8v => intro o' ho W hS; simp only [execOp, ho]; go_simp; try rfl
        simp only [Act.put, List.setIfInBounds_toArray, List.set_cons_zero, List.set_cons_succ]
        refine wpAnyH_done (by kernel_rfl) ?_ _
        refine NoPanic.normal ?_
        go_wp2_with fail
        go_meet
        exact ⟨gz, capz, rfl, ⟨HPZ⟩⟩
  case rest =>
    obtain ⟨g, cap, rfl, HP1⟩ := hcut
    clear HB2 HY2 C18 HSMK hwk
    obtain ⟨c0, c1, c2, c3, c4, c5, c6, c7⟩ := bx_cells HP1.out.X
    by_cases hfin : fin = true
    · have HBY : Sl (byte0 (⟨fin, (k:Int), m, [a, b, c, d], bytes s⟩ : Fr) = (k + 128)) := ⟨by rw [HB0.out, hfin]; rfl⟩
      rw [hfin] at c0
      have q0 := HP1.out.cell (i := 0) (by decide)
      have z0 := HP1.out.froz 0
      have hor := or_128 k (by omega)
      obtain ⟨w3, hw3⟩ : ∃ W, wc.setCell ⟨g, 0, none⟩ (.int .u8 ((k : Int) + 128)) = W := ⟨_, rfl⟩
      have HP2 : Sl (PS w w3 #[.bool fin, .int .i64 (k:Int), .bool m, .int .u8 ((a : Nat) : Int), .int .u8 ((b : Nat) : Int), .int .u8 ((c : Nat) : Int), .int .u8 ((d : Nat) : Int), .string s] g 1 cap [k + 128]) := ⟨by have hs := HP1.out.set (i := 0) (x := k + 128) (by omega); rw [Int.natCast_add] at hs; rw [← hw3]; exact hs⟩
      obtain ⟨e0, e1, e2, e3, e4, e5, e6, e7⟩ := bx_cells HP2.out.X
      go_wp2_with fail
      refine (lenbytes_any _ _ _ a b c d s L.length _ (HG.out.below HP2.out.B HG.out.size) (by have := HLN.out; omega) (by rw [HLB.out])).mono ?_
      rintro e w4 ⟨gl, capl, rfl, HSL, HX4⟩
      rw [HLB.out] at HSL
      have HP3 := Sl.mk (HP2.out.below HX4.out)
      obtain ⟨g5, cap5, w5, hr5, HP5⟩ := HP3.out.add n5 HSL.out HLS.out (by omega) (by omega) hn5
      replace HP5 := Sl.mk HP5
      clear HP3 HX4 HSL HP2 hw3 q0 z0 hor
      obtain ⟨f0, f1, f2, f3, f4, f5, f6, f7⟩ := bx_cells HP5.out.X
      by_cases hm : m = true
      · rw [hm] at f2
        have q1 : w5.cell? ⟨g5, 1, none⟩ = some (.int .u8 ((l0 : Nat) : Int)) := by
          rw [HP5.out.cell (i := 1) (by omega)]
          show some (Value.int .u8 ((L.getD 0 0 : Nat) : Int)) = _
          rw [HL0.out]
        have z1 := HP5.out.froz 1
        have hor := or_128 l0 hl0
        have h15 : 1 < n5 := by omega
        obtain ⟨w6, hw6⟩ : ∃ W, w5.setCell ⟨g5, 1, none⟩ (.int .u8 ((l0 : Int) + 128)) = W := ⟨_, rfl⟩
        have HP6 := Sl.mk (HP5.out.set (i := 1) (x := l0 + 128) (by omega))
        rw [Int.natCast_add, show ((128 : Nat) : Int) = 128 from rfl, hw6] at HP6
        obtain ⟨j0, j1, j2, j3, j4, j5, j6, j7⟩ := bx_cells HP6.out.X
        obtain ⟨g7, cap7, w7, hr7, HP7⟩ := HP6.out.add (n5 + 4) (u := .slice (some ⟨w.heap.size, 3, none⟩) 4 4) (l := [a, b, c, d]) (key_src j3 j4 j5 j6) HKS.out (by show n5 + 4 ≤ _; omega) (by show 0 < n5 + 4; omega) rfl
        replace HP7 := Sl.mk HP7
        obtain ⟨h0, h1, h2, h3, h4, h5, h6, h7⟩ := bx_cells HP7.out.X
        rw [hm] at h2
        obtain ⟨capc, w8, hcv, HS8, HX8⟩ := conv_str s w7
        have HP8 := Sl.mk (HP7.out.below HX8.out)
        clear HP7
        go_wp2_with (at_builtin; first | (refine wpList_app rfl (.tmp 26) (.tmp 28) 26 26 rfl rfl _ _ ⟨gl, 0, none⟩ L.length capl w5 rfl rfl hr5 ?_) | (refine wpList_app rfl (.tmp 37) (.tmp 39) 26 26 rfl rfl _ _ ⟨w.heap.size, 3, none⟩ 4 4 w7 rfl rfl hr7 ?_))
        clear hr5 hr7 HP6 HP5 q1 z1 hor hw6
        refine (turned_any _ _ _ a b c d s w7.heap.size 0 s.size capc (bytes s) w8 HKS.out HS8.out (bytes_small s) (bytes_length s) (by have := HLN.out; omega)).mono ?_
        rintro e w9 ⟨gt, ot, capt, rfl, HS9, HX9⟩
        have HP9 := Sl.mk (HP8.out.below HX9.out)
        obtain ⟨gz, capz, w10, hr10, HP10⟩ := HP9.out.add n HS9.out (tb_small HKS.out (bytes_small s)) (by rw [tb_length, bytes_length]; have := HLN.out; omega) (by omega) (by rw [tb_length, bytes_length]; have := HF.out; rw [hm] at this; simp only [ksz, if_true] at this; omega)
        replace HP10 := Sl.mk HP10
        clear HP8 HP9 hcv HX8 HX9 HS8 HS9
        go_wp2_with (at_builtin; refine wpList_app rfl (.tmp 41) (.tmp 46) 26 26 rfl rfl _ _ ⟨gt, ot, none⟩ s.size capt w10 rfl rfl hr10 ?_)
        clear hr10
        go_wp2
        go_ret2
        refine ⟨gz, capz, rfl, ⟨?_⟩, ⟨HP10.out.B⟩⟩
        rw [text_mask _ _ hm HBY.out (L := L) (by rw [bytes_length]; exact HLB.out) HL0.out HPOS.out]
        exact HP10.out.src
      · have hm := Bool.eq_false_iff.2 hm
        rw [hm] at f2
        obtain ⟨h0, h1, h2, h3, h4, h5, h6, h7⟩ := bx_cells HP5.out.X
        rw [hm] at h2
        obtain ⟨capc, w8, hcv, HS8, HX8⟩ := conv_str s w5
        have HP8 := Sl.mk (HP5.out.below HX8.out)
        clear HP5
        go_wp2_with (at_builtin; refine wpList_app rfl (.tmp 26) (.tmp 28) 26 26 rfl rfl _ _ ⟨gl, 0, none⟩ L.length capl w5 rfl rfl hr5 ?_)
        clear hr5
        refine (turned_any _ _ _ a b c d s w5.heap.size 0 s.size capc (bytes s) w8 HKS.out HS8.out (bytes_small s) (bytes_length s) (by have := HLN.out; omega)).mono ?_
        rintro e w9 ⟨gt, ot, capt, rfl, HS9, HX9⟩
        have HP9 := Sl.mk (HP8.out.below HX9.out)
        obtain ⟨gz, capz, w10, hr10, HP10⟩ := HP9.out.add n HS9.out (tb_small HKS.out (bytes_small s)) (by rw [tb_length, bytes_length]; have := HLN.out; omega) (by omega) (by rw [tb_length, bytes_length]; have := HF.out; rw [hm] at this; simp only [ksz, Bool.false_eq_true, if_false] at this; omega)
        replace HP10 := Sl.mk HP10
        clear HP8 HP9 hcv HX8 HX9 HS8 HS9
        go_wp2_with (at_builtin; refine wpList_app rfl (.tmp 41) (.tmp 46) 26 26 rfl rfl _ _ ⟨gt, ot, none⟩ s.size capt w10 rfl rfl hr10 ?_)
        clear hr10
        go_wp2
        go_ret2
        refine ⟨gz, capz, rfl, ⟨?_⟩, ⟨HP10.out.B⟩⟩
        rw [text_bare _ hm HBY.out (L := L) (by rw [bytes_length]; exact HLB.out)]
        exact HP10.out.src
    · have hfin := Bool.eq_false_iff.2 hfin
      have HBY : Sl (byte0 (⟨fin, (k:Int), m, [a, b, c, d], bytes s⟩ : Fr) = k) := ⟨by rw [HB0.out, hfin]; rfl⟩
      rw [hfin] at c0
      go_wp2_with fail
      refine (lenbytes_any _ _ _ a b c d s L.length _ (HG.out.below HP1.out.B HG.out.size) (by have := HLN.out; omega) (by rw [HLB.out])).mono ?_
      rintro e w4 ⟨gl, capl, rfl, HSL, HX4⟩
      rw [HLB.out] at HSL
      have HP3 := Sl.mk (HP1.out.below HX4.out)
      obtain ⟨g5, cap5, w5, hr5, HP5⟩ := HP3.out.add n5 HSL.out HLS.out (by omega) (by omega) hn5
      replace HP5 := Sl.mk HP5
      clear HP3 HX4 HSL 
      obtain ⟨f0, f1, f2, f3, f4, f5, f6, f7⟩ := bx_cells HP5.out.X
      by_cases hm : m = true
      · rw [hm] at f2
        have q1 : w5.cell? ⟨g5, 1, none⟩ = some (.int .u8 ((l0 : Nat) : Int)) := by
          rw [HP5.out.cell (i := 1) (by omega)]
          show some (Value.int .u8 ((L.getD 0 0 : Nat) : Int)) = _
          rw [HL0.out]
        have z1 := HP5.out.froz 1
        have hor := or_128 l0 hl0
        have h15 : 1 < n5 := by omega
        obtain ⟨w6, hw6⟩ : ∃ W, w5.setCell ⟨g5, 1, none⟩ (.int .u8 ((l0 : Int) + 128)) = W := ⟨_, rfl⟩
        have HP6 := Sl.mk (HP5.out.set (i := 1) (x := l0 + 128) (by omega))
        rw [Int.natCast_add, show ((128 : Nat) : Int) = 128 from rfl, hw6] at HP6
        obtain ⟨j0, j1, j2, j3, j4, j5, j6, j7⟩ := bx_cells HP6.out.X
        obtain ⟨g7, cap7, w7, hr7, HP7⟩ := HP6.out.add (n5 + 4) (u := .slice (some ⟨w.heap.size, 3, none⟩) 4 4) (l := [a, b, c, d]) (key_src j3 j4 j5 j6) HKS.out (by show n5 + 4 ≤ _; omega) (by show 0 < n5 + 4; omega) rfl
        replace HP7 := Sl.mk HP7
        obtain ⟨h0, h1, h2, h3, h4, h5, h6, h7⟩ := bx_cells HP7.out.X
        rw [hm] at h2
        obtain ⟨capc, w8, hcv, HS8, HX8⟩ := conv_str s w7
        have HP8 := Sl.mk (HP7.out.below HX8.out)
        clear HP7
        go_wp2_with (at_builtin; first | (refine wpList_app rfl (.tmp 26) (.tmp 28) 26 26 rfl rfl _ _ ⟨gl, 0, none⟩ L.length capl w5 rfl rfl hr5 ?_) | (refine wpList_app rfl (.tmp 37) (.tmp 39) 26 26 rfl rfl _ _ ⟨w.heap.size, 3, none⟩ 4 4 w7 rfl rfl hr7 ?_))
        clear hr5 hr7 HP6 HP5 q1 z1 hor hw6
        refine (turned_any _ _ _ a b c d s w7.heap.size 0 s.size capc (bytes s) w8 HKS.out HS8.out (bytes_small s) (bytes_length s) (by have := HLN.out; omega)).mono ?_
        rintro e w9 ⟨gt, ot, capt, rfl, HS9, HX9⟩
        have HP9 := Sl.mk (HP8.out.below HX9.out)
        obtain ⟨gz, capz, w10, hr10, HP10⟩ := HP9.out.add n HS9.out (tb_small HKS.out (bytes_small s)) (by rw [tb_length, bytes_length]; have := HLN.out; omega) (by omega) (by rw [tb_length, bytes_length]; have := HF.out; rw [hm] at this; simp only [ksz, if_true] at this; omega)
        replace HP10 := Sl.mk HP10
        clear HP8 HP9 hcv HX8 HX9 HS8 HS9
        go_wp2_with (at_builtin; refine wpList_app rfl (.tmp 41) (.tmp 46) 26 26 rfl rfl _ _ ⟨gt, ot, none⟩ s.size capt w10 rfl rfl hr10 ?_)
        clear hr10
        go_wp2
        go_ret2
        refine ⟨gz, capz, rfl, ⟨?_⟩, ⟨HP10.out.B⟩⟩
        rw [text_mask _ _ hm HBY.out (L := L) (by rw [bytes_length]; exact HLB.out) HL0.out HPOS.out]
        exact HP10.out.src
      · have hm := Bool.eq_false_iff.2 hm
        rw [hm] at f2
        obtain ⟨h0, h1, h2, h3, h4, h5, h6, h7⟩ := bx_cells HP5.out.X
        rw [hm] at h2
        obtain ⟨capc, w8, hcv, HS8, HX8⟩ := conv_str s w5
        have HP8 := Sl.mk (HP5.out.below HX8.out)
        clear HP5
        go_wp2_with (at_builtin; refine wpList_app rfl (.tmp 26) (.tmp 28) 26 26 rfl rfl _ _ ⟨gl, 0, none⟩ L.length capl w5 rfl rfl hr5 ?_)
        clear hr5
        refine (turned_any _ _ _ a b c d s w5.heap.size 0 s.size capc (bytes s) w8 HKS.out HS8.out (bytes_small s) (bytes_length s) (by have := HLN.out; omega)).mono ?_
        rintro e w9 ⟨gt, ot, capt, rfl, HS9, HX9⟩
        have HP9 := Sl.mk (HP8.out.below HX9.out)
        obtain ⟨gz, capz, w10, hr10, HP10⟩ := HP9.out.add n HS9.out (tb_small HKS.out (bytes_small s)) (by rw [tb_length, bytes_length]; have := HLN.out; omega) (by omega) (by rw [tb_length, bytes_length]; have := HF.out; rw [hm] at this; simp only [ksz, Bool.false_eq_true, if_false] at this; omega)
        replace HP10 := Sl.mk HP10
        clear HP8 HP9 hcv HX8 HX9 HS8 HS9
        go_wp2_with (at_builtin; refine wpList_app rfl (.tmp 41) (.tmp 46) 26 26 rfl rfl _ _ ⟨gt, ot, none⟩ s.size capt w10 rfl rfl hr10 ?_)
        clear hr10
        go_wp2
        go_ret2
        refine ⟨gz, capz, rfl, ⟨?_⟩, ⟨HP10.out.B⟩⟩
        rw [text_bare _ hm HBY.out (L := L) (by rw [bytes_length]; exact HLB.out)]
        exact HP10.out.src
end Go.Proofs.YtcelhondifaloaaDoor
