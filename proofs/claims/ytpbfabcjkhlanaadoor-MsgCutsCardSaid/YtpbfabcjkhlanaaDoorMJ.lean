/- msg: two machines side by side; what Take answers of whole frames. -/
import Derived.Test.YtpbfabcjkhlanaaDoorMI
set_option maxRecDepth 100000
namespace Go.Proofs.YtpbfabcjkhlanaaDoor.Msg
open Go.RowKit UtfPlain MsgPlain Fra Utf Cls
open FramePlain (Fr form chk ctl zero4 form_cases)
open ClosePlain (getC)

/-- Two machines that don't mind each other. -/
structure Pair (w0 W : World) (b : Nat) (most : Int) (st : Ms) (v p : Value) (b2 : Nat) (most2 : Int) (st2 : Ms) (v2 p2 : Value) : Prop where
  one : MacS w0 W b most st v p
  two : MacS w0 W b2 most2 st2 v2 p2
  ap : ∀ k, Mine b v p k → ¬ Mine b2 v2 p2 k
section
variable {w0 W W' : World} {b b2 : Nat} {most most2 : Int} {st st' st2 : Ms} {v p v' p' v2 p2 : Value}
theorem Pair.new (h : MacS w0 W b most st v p) (hB : Below W.heap.size W W') (h2 : MacS w0 W' W.heap.size most2 st2 (.slice none 0 0) (.pointer none)) : Pair w0 W' b most st v p W.heap.size most2 st2 (.slice none 0 0) (.pointer none) :=
  ⟨h.below hB, h2, fun k hk e => by have h1 := (h.m.own hk).2; have h3 := mine_zero e; omega⟩
theorem Pair.below (h : Pair w0 W b most st v p b2 most2 st2 v2 p2) (hB : Below W.heap.size W W') : Pair w0 W' b most st v p b2 most2 st2 v2 p2 := ⟨h.one.below hB, h.two.below hB, h.ap⟩
theorem Pair.symm (h : Pair w0 W b most st v p b2 most2 st2 v2 p2) : Pair w0 W b2 most2 st2 v2 p2 b most st v p := ⟨h.two, h.one, fun k hk e => h.ap k e hk⟩
theorem Pair.go (h : Pair w0 W b most st v p b2 most2 st2 v2 p2) (h1 : MacS w0 W' b most st' v' p') (g : Goes W W' b v p v' p') : Pair w0 W' b most st' v' p' b2 most2 st2 v2 p2 :=
  ⟨h1, h.two.apart g.kept (fun k hk e => h.ap k e hk) h1.m.L, fun k hk e => by
    rcases g.mine k hk with h2 | h2
    · exact h.ap k h2 e
    · have := (h.two.m.own e).2
      omega⟩
end
theorem take_m0 (most : Int) (f : Fr) : MsgPlain.take most M0 f = MsgPlain.step most M0 f := take_go most rfl rfl f
theorem take_mid (most : Int) (op : Int) (t : List Nat) (f : Fr) : MsgPlain.take most ⟨0, false, true, op, t⟩ f = MsgPlain.step most ⟨0, false, true, op, t⟩ f := take_go most rfl rfl f
end Go.Proofs.YtpbfabcjkhlanaaDoor.Msg
