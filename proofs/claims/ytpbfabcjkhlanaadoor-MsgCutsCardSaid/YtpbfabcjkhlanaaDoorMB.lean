/- msg: add: bytes more of a message. -/
import Derived.Test.YtpbfabcjkhlanaaDoorMA
set_option maxRecDepth 100000
namespace Go.Proofs.YtpbfabcjkhlanaaDoor.Msg
open Go.RowKit UtfPlain MsgPlain Fra Utf Cls
open FramePlain (Fr form chk ctl zero4)
open ClosePlain (getC)

/-- How the letters stand behind more bytes, and whether the message may be with them. -/
def addO (op : Int) (o : Option St) (bs : List Nat) : Option St := if op = 1 then en o bs else o
def addR (op : Int) (o : Option St) (last : Bool) (bs : List Nat) : Bool := if op = 1 then (if last then decide (en o bs = some s0) else (en o bs).isSome) else true
theorem app_str {w w1 : World} {ops : Array Oper} {rest : List Oper} {o : Oper} {a : Act} {Q : Exit → Act → World → Prop} (hgd : o.guard = none) (sl x : Operand)
    (ho : o.op = .call { callee := .builtin .append, args := #[sl, x], argTypes := #[22, 9] }) (hty : o.type = 22) (v v1 : Value) (s : ByteArray) (hs : a.eval sl = v) (hx : a.eval x = .string s)
    (hrun : (Builtin.append_ #[22, 9] 22 #[v, .string s]).run Tryd.prog w = .ok v1 w1) (h : wpList Tryd.prog ops Q rest (a.put o.dst v1) w1) : wpList Tryd.prog ops Q (o :: rest) a w := by
  refine wpList_plain hgd fun K hK => ?_
  unfold Oper.wp
  have hy : (execOp a.eval o).run Tryd.prog w = .ok (.value v1) w1 := by
    simp [execOp, ho, hty, resolve, invoke, builtin, hs, hx, hrun, Result.andThen]
  rw [hy, Oper.upon_value]
  exact hK _ _ h
section
variable {w0 W : World} {b : Nat} {most op : Int} {text : List Nat} {o : Option St} {err : Nat} {over : Bool} {v p : Value}
/-- Other bytes are kept. -/
theorem mac_fed (h : Mac w0 W b most op text o err over v p) {w2 : World} (g : W.grownBy w2 v.ownBlock) {T : List Nat} {v1 : Value} (ho : w2.ownsRow w0.heap.size 5 1 v1 T.length (u8s T)) (hv : ∀ k, v1.ownBlock = some k → v.ownBlock = some k ∨ W.heap.size ≤ k) :
    Mac w0 (w2.setCell ⟨b, 2, none⟩ v1) b most op T o err over v1 p ∧ Goes W (w2.setCell ⟨b, 2, none⟩ v1) b v p v1 p := by
  have hk := own_kind h.O h.X (by decide)
  have hb2 : w2.heap[b]? = some (.cells #[.int .i64 most, .int .i64 op, v, p, .int .i64 (err : Int), .bool over] 50 (0, 0)) := by rw [g.block b h.lt (fun e => hk e.symm)]; exact h.X
  have hk2 := own_kind ho hb2 (by decide)
  have g2 := grown_setCell w2 b 2 v1
  have hL : Below w0.heap.size w0 w2 := h.L.grown g h.L.size (fun k hk => (h.O.lt k hk).1)
  refine ⟨⟨by rw [heap_setCell_same _ _ _ _ _ _ hb2]; rfl, ho.kept g2 (.inr hk2), fun h0 => ?_, h.N, h.K, h.B, hL.grown g2 hL.size (fun k hk => by injection hk with hk; rw [← hk]; exact h.B)⟩, ⟨?_, fun k hk => ?_⟩⟩
  · obtain ⟨c, hc, hb, hx⟩ := h.C h0
    obtain ⟨cs, hcs⟩ := chk_kind hx
    have k1 := own_kind h.O hcs (by decide)
    have hx2 : ChkO w2 c o := by
      cases hv : v.ownBlock with
      | none => rw [hv] at g; exact chk_below hx ⟨g.os, g.tape, g.output, g.size, fun k hk => g.block k hk (fun e => by cases e)⟩
      | some j => rw [hv] at g k1; exact chk_grown hx g (fun e => k1 (by rw [e]))
    refine ⟨c, hc, hb, chk_grown hx2 g2 (fun e => ?_)⟩
    rw [e, h.X] at hcs
    injection hcs with hcs
    injection hcs with _ hcs
    exact absurd hcs (by decide)
  · exact Kept.trans (S := Mine b v p) (.grown g (fun k hk => .inr (.inl hk))) (.grown (S := fun k => k = b) g2 (fun k hk => by injection hk with hk; exact hk.symm)) (fun j _ e => .inl e)
  · rcases hk with hk | hk | hk
    · exact .inl (.inl hk)
    · rcases hv k hk with h1 | h1
      · exact .inl (.inr (.inl h1))
      · exact .inr h1
    · exact .inl (.inr (.inr hk))
/-- Its letters are looked at. -/
theorem mac_chk (h : Mac w0 W b most op text o err over v p) {W' : World} {c : Nat} {o' : Option St} (hc : p = .pointer (some ⟨c, 0, none⟩)) (hop : op ≠ 0) (g : W.grownBy W' (some c)) (hx : ChkO W' c o') (ok : OkO o') :
    Mac w0 W' b most op text o' err over v p ∧ Goes W W' b v p v p := by
  obtain ⟨c', hc', hb, hx0⟩ := h.C hop
  obtain rfl : c' = c := by rw [hc] at hc'; injection hc' with e; injection e with e; injection e with e; exact e.symm
  obtain ⟨cs, hcs⟩ := chk_kind hx0
  have k1 := own_kind h.O hcs (by decide)
  have k2 : b ≠ c' := fun e => by
    rw [← e, h.X] at hcs
    injection hcs with hcs
    injection hcs with _ hcs
    exact absurd hcs (by decide)
  exact ⟨⟨by rw [g.block b h.lt (fun e => k2 (by injection e))]; exact h.X, h.O.kept g (.inr k1), fun _ => ⟨c', hc, hb, hx⟩, h.N, ok, h.B, h.L.grown g h.L.size (fun k hk => by injection hk with hk; rw [← hk]; exact hb)⟩,
    ⟨.grown g (fun k hk => by injection hk with hk; subst hk; exact .inr (.inr hc)), fun k hk => .inl hk⟩⟩
set_option maxHeartbeats 1000000 in
theorem add_any (h : Mac w0 W b most op text o err over v p) (hop : op ≠ 0) (hg : Utf.Globs w0) (s : ByteArray) (last : Bool) (hs : s.size ≤ 100000) (ht : text.length ≤ 2000000) (r : Bool) (hr : addR op o last (bytes s) = r) :
    Calls Tryd.prog 28 #[.pointer (some ⟨b, 1, none⟩), .string s, .bool last] W fun e w' => ∃ v', e = .returned (.bool r) ∧ Sl (Mac w0 w' b most op (text ++ bytes s) (addO op o (bytes s)) err over v' p) ∧ Sl (Goes W w' b v p v' p) := by
  obtain ⟨v1, w2, hrun, ho1, hg1, hv1⟩ := add_str h.O s (by omega) h.L.size
  obtain ⟨hm, hgo⟩ := mac_fed h hg1 ho1 hv1
  obtain ⟨a1, n1, k1, rfl⟩ : ∃ a n k, v1 = .slice a n k := by obtain ⟨a, k, e⟩ := hm.slice; exact ⟨a, _, k, e⟩
  have HM := Sl.mk hm
  have HG1 : Sl (Goes W (w2.setCell ⟨b, 2, none⟩ (.slice a1 n1 k1)) b v p (.slice a1 n1 k1) p) := ⟨hgo⟩
  have hb2 : w2.heap[b]? = some (.cells #[.int .i64 most, .int .i64 op, v, p, .int .i64 (err : Int), .bool over] 50 (0, 0)) := by rw [hg1.block b h.lt (fun e => own_kind h.O h.X (by decide) e.symm)]; exact h.X
  have c2 : w2.cell? ⟨b, 2, none⟩ = some v := by rw [cell_of_row _ _ _ _ _ _ hb2]; rfl
  have f2 : w2.frozen? ⟨b, 2, none⟩ = false := frozen_of_row _ _ _ _ _ hb2
  have e2 := h.cells.2.2.1
  have HG := Sl.mk hg
  have HS := Sl.mk hs
  obtain ⟨w3, hw3⟩ : ∃ V, w2.setCell ⟨b, 2, none⟩ (.slice a1 n1 k1) = V := ⟨_, rfl⟩
  rw [hw3] at HM HG1
  have d1 : w3.cell? ⟨b, 1, none⟩ = some (.int .i64 op) := HM.out.cells.2.1
  have d3 : w3.cell? ⟨b, 3, none⟩ = some p := HM.out.cells.2.2.2.1
  have HOP := Sl.mk hop
  clear ho1 hg1 hv1 hm hgo hb2 hg hs ht hop h
  by_cases h1 : op = 1
  · subst h1
    obtain ⟨c, hc, hcb, hx⟩ := HM.out.C HOP.out
    subst hc
    have HX := Sl.mk hx
    have HCB := Sl.mk hcb
    obtain ⟨cap, w4, hcv, HSV, HBV⟩ := conv_str s w3
    have HM4 := Sl.mk (HM.out.below HBV.out)
    have HG4 := Sl.mk (HG1.out.trans (Goes.below b (.slice a1 n1 k1) (.pointer (some ⟨c, 0, none⟩)) HBV.out))
    have HX4 := chk_below hx HBV.out
    have hcl := chk_lt hx
    have F := feed_ex w0 w4 c o (bytes s) (.slice (some ⟨w3.heap.size, 0, none⟩) s.size cap) _ rfl hcb HM4.out.L HG.out HX4 HM.out.K (HSV.out.offs hcl) (by rw [bytes_length]; exact HS.out)
    have HK := Sl.mk HM.out.K
    have g3 : w4.cell? ⟨b, 3, none⟩ = some (.pointer (some ⟨c, 0, none⟩)) := HM4.out.cells.2.2.2.1
    unfold addR at hr
    rw [if_pos rfl] at hr
    have hao : addO 1 o (bytes s) = en o (bytes s) := if_pos rfl
    rw [hao]
    clear hx hcb HX4 hcl HSV HBV hao
    cases last with
    | true =>
      rw [if_pos rfl] at hr
      go_enter Tryd.func28, Tryd.ntmps28
      go_wp2_with (at_builtin; refine app_str rfl _ _ rfl rfl v (.slice a1 n1 k1) s rfl rfl hrun ?_)
      refine F.mono ?_
      rintro e w5 ⟨rfl, HX5, HG5, -⟩
      clear F
      obtain ⟨hm5, hg5⟩ := mac_chk HM4.out rfl HOP.out HG5.out HX5.out (HK.out.en _)
      have HM5 := Sl.mk hm5
      have HG6 := Sl.mk (HG4.out.trans hg5)
      have g5 : w5.cell? ⟨b, 3, none⟩ = some (.pointer (some ⟨c, 0, none⟩)) := hm5.cells.2.2.2.1
      have WH := whole_ex c _ w5 r HX5.out (HK.out.en _) hr
      clear hm5 hg5
      go_wp2_with fail
      refine WH.mono ?_
      rintro e w6 ⟨rfl, rfl⟩
      go_wp2
      go_ret
      exact ⟨_, rfl, HM5, HG6⟩
    | false =>
      rw [if_neg (by decide)] at hr
      go_enter Tryd.func28, Tryd.ntmps28
      go_wp2_with (at_builtin; refine app_str rfl _ _ rfl rfl v (.slice a1 n1 k1) s rfl rfl hrun ?_)
      refine F.mono ?_
      rintro e w5 ⟨rfl, HX5, HG5, -⟩
      clear F
      obtain ⟨hm5, hg5⟩ := mac_chk HM4.out rfl HOP.out HG5.out HX5.out (HK.out.en _)
      have HM5 := Sl.mk hm5
      have HG6 := Sl.mk (HG4.out.trans hg5)
      have g5 : w5.cell? ⟨b, 3, none⟩ = some (.pointer (some ⟨c, 0, none⟩)) := hm5.cells.2.2.2.1
      have WH := right_ex c _ w5 r HX5.out hr
      clear hm5 hg5
      go_wp2_with fail
      refine WH.mono ?_
      rintro e w6 ⟨rfl, rfl⟩
      go_wp2
      go_ret
      exact ⟨_, rfl, HM5, HG6⟩
  · have q1 : (op != 1) = true := by simpa using h1
    obtain rfl : r = true := by rw [← hr]; unfold addR; rw [if_neg h1]
    have ho : addO op o (bytes s) = o := if_neg h1
    rw [ho]
    clear h1 hr ho HG HS
    go_enter Tryd.func28, Tryd.ntmps28
    go_wp2_with (at_builtin; refine app_str rfl _ _ rfl rfl v (.slice a1 n1 k1) s rfl rfl hrun ?_)
    go_ret
    exact ⟨_, rfl, HM, HG1⟩
end
end Go.Proofs.YtpbfabcjkhlanaaDoor.Msg
