/- msg, in a seat that has stream: whether frames are few; two machines side by side; what Take answers of whole frames. (In the place of MgD: cv, FrsAt and their like are stream's.) -/
import Derived.Test.YtimndpmbgfoofaaDoorMgC
import Derived.Test.YtimndpmbgfoofaaDoorSmD
set_option maxRecDepth 100000
namespace Go.Proofs.YtimndpmbgfoofaaDoor.Msg
open Go.RowKit Go.WideShapes Go.ChangeShapes UtfPlain MsgPlain Fra Utf Cls
open Stm (cv FrsAt FrOk cv_parts fr_parts)
open FramePlain (Fr Fr0 form chk ctl zero4 form_cases)
open ClosePlain (getC)

/-- Are frames few, and short? -/
def fewF (fs : List Fr) : Bool := fs.all (fun f => decide ((strOf f.data).size ≤ 300)) && decide (fs.length ≤ 30)
theorem few_any (fs : List Fr) (v : Value) (w : World) (hv : FrsAt w v fs) (hm : fs.length ≤ maxLen) : Calls Tryd.prog 16 #[v] w fun e w' => e = .returned (.bool (fewF fs)) ∧ w = w' := by
  obtain ⟨a, cap, rfl⟩ := hv.slice
  have HV := Sl.mk hv
  have HM := Sl.mk hm
  obtain ⟨n, hn⟩ : ∃ n, fs.length = n := ⟨_, rfl⟩
  have HN := Sl.mk hn
  rw [hn] at HV ⊢
  clear hv hm hn
  go_enter Tryd.func16, Tryd.ntmps16
  go_wp2
  go_loopw [3] (fun i wr => ∃ k : Nat, i = .int .i64 (k : Int) ∧ k ≤ n ∧ wr = w ∧ Sl ((fs.take k).all (fun f => decide ((strOf f.data).size ≤ 300)) = true)) (fun i _ => n - (intOf i).toNat)
  case atStart => exact ⟨0, rfl, Nat.zero_le _, rfl, ⟨rfl⟩⟩
  case round =>
    obtain ⟨k, rfl, hk, rfl, HT⟩ := hrel
    by_cases hkn : k < n
    · obtain ⟨sb, so, rfl⟩ := HV.out.cap.2 (by omega)
      obtain ⟨rf, ro, rm, ka, kb, kc, kd, rd, hcv, _⟩ := cv_parts (fs.getD k Fr0)
      have hrd : strOf (fs.getD k Fr0).data = rd := by
        have h := congrArg (fun (x : Array Value) => x[7]?) hcv
        simp [cv] at h
        exact h
      obtain ⟨c0, c1, c2, c3, c4, c5, c6, c7⟩ := HV.out.at8 k (by rw [HN.out]; exact hkn) hcv
      have hmax : n ≤ 9223372036854775807 := by have := HM.out; rw [HN.out] at this; unfold maxLen at this; omega
      have hlt : ((k : Int) < (n : Int)) = True := eq_true (by omega)
      have hget : fs[k]? = some (fs.getD k Fr0) := by rw [List.getD_eq_getElem?_getD, List.getElem?_eq_getElem (by rw [HN.out]; exact hkn)]; rfl
      by_cases hz : rd.size > 300
      · have hq : ((rd.size : Int) > 300) = True := eq_true (by omega)
        have HF : Sl (fewF fs = false) := ⟨by
          unfold fewF
          rw [Bool.and_eq_false_iff]; left
          rw [List.all_eq_false]
          exact ⟨_, List.mem_of_getElem? hget, by rw [hrd]; simpa using hz⟩⟩
        clear hz hmax hrd hget hcv
        go_wp2
        go_ret
        exact ⟨by rw [HF.out]; rfl, rfl⟩
      · have hq : ((rd.size : Int) > 300) = False := eq_false (by omega)
        have HT' : Sl ((fs.take (k + 1)).all (fun f => decide ((strOf f.data).size ≤ 300)) = true) := ⟨by
          rw [List.take_add_one, List.all_append, HT.out, hget]
          show (true && ([fs.getD k Fr0].all fun f => decide ((strOf f.data).size ≤ 300))) = true
          rw [List.all_cons, List.all_nil, hrd, decide_eq_true (by omega)]; rfl⟩
        clear hz hrd hget hcv
        go_wp2
        exact ⟨⟨k + 1, by go_num, by omega, trivial, HT'⟩, by simp [intOf]; omega⟩
    · obtain rfl : k = n := by omega
      have hlt : ((k : Int) < (k : Int)) = False := eq_false (by omega)
      have hF : fewF fs = decide (k ≤ 30) := by
        have := HT.out
        rw [List.take_of_length_le (by rw [HN.out]; exact Nat.le_refl _)] at this
        unfold fewF
        rw [this, HN.out, Bool.true_and]
      obtain ⟨d, hd⟩ : ∃ d, decide (k ≤ 30) = d := ⟨_, rfl⟩
      have hq : decide ((k : Int) ≤ 30) = d := by rw [← hd]; exact decide_eq_decide.2 (by omega)
      have HF : Sl (fewF fs = d) := ⟨by rw [hF, hd]⟩
      clear hF hd hkn
      go_wp2
      go_ret
      exact ⟨by rw [HF.out, ← hq]; rfl, rfl⟩
theorem few_all {fs : List Fr} (h : fewF fs = true) : (∀ f ∈ fs, (strOf f.data).size ≤ 300) ∧ fs.length ≤ 30 := by
  unfold fewF at h
  rw [Bool.and_eq_true, List.all_eq_true] at h
  exact ⟨fun f hf => of_decide_eq_true (h.1 f hf), of_decide_eq_true h.2⟩
end Go.Proofs.YtimndpmbgfoofaaDoor.Msg
/- msg: two machines side by side; what Take answers of whole frames. -/
set_option maxRecDepth 100000
namespace Go.Proofs.YtimndpmbgfoofaaDoor.Msg
open Go.RowKit UtfPlain MsgPlain Fra Utf Cls
open FramePlain (Fr form chk ctl zero4 form_cases)
open ClosePlain (getC)

/-- Two machines that don't mind each other. -/
structure Pair (w0 W : World) (b : Nat) (most : Int) (st : Ms) (v p : Value) (b2 : Nat) (most2 : Int) (st2 : Ms) (v2 p2 : Value) : Prop where
  one : MacS w0 W b most st v p
  two : MacS w0 W b2 most2 st2 v2 p2
  ap : ∀ k, Mine b v p k → ¬ Mine b2 v2 p2 k
section
variable {w0 W W' : World} {b b2 : Nat} {most most2 : Int} {st st' st2 : Ms} {v p v' p' v2 p2 : Value}
theorem Pair.new (h : MacS w0 W b most st v p) (hB : Below W.heap.size W W') (h2 : MacS w0 W' W.heap.size most2 st2 (.slice none 0 0) (.pointer none)) : Pair w0 W' b most st v p W.heap.size most2 st2 (.slice none 0 0) (.pointer none) :=
  ⟨h.below hB, h2, fun k hk e => by have h1 := (h.m.own hk).2; have h3 := mine_zero e; omega⟩
theorem Pair.below (h : Pair w0 W b most st v p b2 most2 st2 v2 p2) (hB : Below W.heap.size W W') : Pair w0 W' b most st v p b2 most2 st2 v2 p2 := ⟨h.one.below hB, h.two.below hB, h.ap⟩
theorem Pair.symm (h : Pair w0 W b most st v p b2 most2 st2 v2 p2) : Pair w0 W b2 most2 st2 v2 p2 b most st v p := ⟨h.two, h.one, fun k hk e => h.ap k e hk⟩
theorem Pair.go (h : Pair w0 W b most st v p b2 most2 st2 v2 p2) (h1 : MacS w0 W' b most st' v' p') (g : Goes W W' b v p v' p') : Pair w0 W' b most st' v' p' b2 most2 st2 v2 p2 :=
  ⟨h1, h.two.apart g.kept (fun k hk e => h.ap k e hk) h1.m.L, fun k hk e => by
    rcases g.mine k hk with h2 | h2
    · exact h.ap k h2 e
    · have := (h.two.m.own e).2
      omega⟩
end
theorem take_m0 (most : Int) (f : Fr) : MsgPlain.take most M0 f = MsgPlain.step most M0 f := take_go most rfl rfl f
theorem take_mid (most : Int) (op : Int) (t : List Nat) (f : Fr) : MsgPlain.take most ⟨0, false, true, op, t⟩ f = MsgPlain.step most ⟨0, false, true, op, t⟩ f := take_go most rfl rfl f
end Go.Proofs.YtimndpmbgfoofaaDoor.Msg
