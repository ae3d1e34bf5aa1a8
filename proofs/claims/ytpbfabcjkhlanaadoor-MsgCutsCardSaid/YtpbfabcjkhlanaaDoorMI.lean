/- msg: frames that come in: slices of frames in memory, and out of the data; whether they are few. -/
import Derived.Test.YtpbfabcjkhlanaaDoorMH
import Derived.SliceStrings
import Derived.ProofKit
import Derived.ChangeArms
import Derived.OpenShut
set_option maxRecDepth 100000
namespace Go.Proofs.YtpbfabcjkhlanaaDoor.Msg
open Go.RowKit Go.WideShapes Go.ChangeShapes UtfPlain MsgPlain Fra Utf Cls
open FramePlain (Fr Fr0 form chk ctl zero4 form_cases)
open ClosePlain (getC)

/-- A frame's cells. -/
def cv (f : Fr) : List Value := [.bool f.fin, .int .i64 f.op, .bool f.masked, .int .u8 ((f.key.getD 0 0 : Nat) : Int), .int .u8 ((f.key.getD 1 0 : Nat) : Int), .int .u8 ((f.key.getD 2 0 : Nat) : Int), .int .u8 ((f.key.getD 3 0 : Nat) : Int), .string (strOf f.data)]
/-- The frames fs are the elements of the slice v. -/
def FrsAt (W : World) (v : Value) (fs : List Fr) : Prop :=
  ∃ (a : Option Addr) (cap sb so : Nat), v = .slice a fs.length cap ∧ fs.length ≤ cap ∧ (0 < fs.length → a = some ⟨sb, so, none⟩) ∧ ∀ i, i < fs.length → ∀ j, j < 8 → W.cell? ⟨sb, so + i * 8 + j, none⟩ = (cv (fs.getD i Fr0))[j]?
theorem cv_some (f : Fr) (j : Nat) (hj : j < 8) : ∃ u, (cv f)[j]? = some u := ⟨_, List.getElem?_eq_getElem (by simpa [cv] using hj)⟩
theorem FrsAt.below {w w' : World} {v : Value} {fs : List Fr} (h : FrsAt w v fs) (hb : Below w.heap.size w w') : FrsAt w' v fs := by
  obtain ⟨a, cap, sb, so, h1, hc, h3, h4⟩ := h
  refine ⟨a, cap, sb, so, h1, hc, h3, fun i hi j hj => ?_⟩
  have g := h4 i hi j hj
  obtain ⟨u, hu⟩ := cv_some (fs.getD i Fr0) j hj
  rw [hu] at g ⊢
  have k0 := block_lt_of_cell g
  rw [hb.cell (p := ⟨sb, so + i * 8 + j, none⟩) k0]; exact g
/-- The cells of a frame in a row. -/
theorem FrsAt.at8 {W : World} {sb so n cap : Nat} {fs : List Fr} (h : FrsAt W (.slice (some ⟨sb, so, none⟩) n cap) fs) (i : Nat) (hi : i < fs.length) {c0 c1 c2 c3 c4 c5 c6 c7 : Value} (hc : (cv (fs.getD i Fr0)).toArray = #[c0, c1, c2, c3, c4, c5, c6, c7]) :
    W.cell? ⟨sb, so + i * 8, none⟩ = some c0 ∧ W.cell? ⟨sb, so + i * 8 + 1, none⟩ = some c1 ∧ W.cell? ⟨sb, so + i * 8 + 2, none⟩ = some c2 ∧ W.cell? ⟨sb, so + i * 8 + 3, none⟩ = some c3 ∧ W.cell? ⟨sb, so + i * 8 + 4, none⟩ = some c4 ∧ W.cell? ⟨sb, so + i * 8 + 5, none⟩ = some c5 ∧ W.cell? ⟨sb, so + i * 8 + 6, none⟩ = some c6 ∧ W.cell? ⟨sb, so + i * 8 + 7, none⟩ = some c7 := by
  obtain ⟨a, cap', sb', so', he, _, h3, h4⟩ := h
  injection he with e1 e2 e3
  rw [h3 (by omega)] at e1
  injection e1 with e1
  injection e1 with e4 e5
  subst e4 e5
  have hc' : cv (fs.getD i Fr0) = [c0, c1, c2, c3, c4, c5, c6, c7] := by simpa using congrArg Array.toList hc
  have g := h4 i hi
  rw [hc'] at g
  exact ⟨g 0 (by decide), g 1 (by decide), g 2 (by decide), g 3 (by decide), g 4 (by decide), g 5 (by decide), g 6 (by decide), g 7 (by decide)⟩
theorem FrsAt.cap {W : World} {a : Option Addr} {n cap : Nat} {fs : List Fr} (h : FrsAt W (.slice a n cap) fs) : n = fs.length ∧ (0 < n → ∃ sb so, a = some ⟨sb, so, none⟩) := by
  obtain ⟨a', cap', sb', so', he, _, h3, _⟩ := h
  injection he with e1 e2 e3
  refine ⟨e2, fun hp => ⟨sb', so', ?_⟩⟩
  rw [e1]; exact h3 (by omega)
theorem FrsAt.slice {W : World} {v : Value} {fs : List Fr} (h : FrsAt W v fs) : ∃ a c, v = .slice a fs.length c := by
  obtain ⟨a, c, _, _, rfl, _⟩ := h; exact ⟨a, c, rfl⟩
theorem cv_parts (f : Fr) : ∃ rf ro rm, ∃ ka kb kc kd : Nat, ∃ rd, (cv f).toArray = #[.bool rf, .int .i64 ro, .bool rm, .int .u8 ((ka : Nat) : Int), .int .u8 ((kb : Nat) : Int), .int .u8 ((kc : Nat) : Int), .int .u8 ((kd : Nat) : Int), .string rd] ∧ (Small 256 f.key → Small 256 [ka, kb, kc, kd]) :=
  ⟨_, _, _, _, _, _, _, _, rfl, fun h x hx => by
    simp only [List.mem_cons, List.not_mem_nil, or_false] at hx
    rcases hx with rfl | rfl | rfl | rfl <;> exact h.getD (by decide) _⟩
/-- A frame as memory can hold it. -/
structure FrOk (f : Fr) : Prop where
  k4 : f.key.length = 4
  ks : Small 256 f.key
  ds : Small 256 f.data
  dl : f.data.length ≤ maxLen
  op : -9223372036854775808 ≤ f.op ∧ f.op ≤ 9223372036854775807
theorem list8 {α : Type} {l : List α} (h : l.length = 8) : ∃ a b c d e f g i, l = [a, b, c, d, e, f, g, i] :=
  match l, h with
  | [a, b, c, d, e, f, g, i], _ => ⟨a, b, c, d, e, f, g, i, rfl⟩
theorem list_of {α : Type} (d : α) (n : Nat) (p : Nat → α → Prop) (h : ∀ i, i < n → ∃ x, p i x) : ∃ l : List α, l.length = n ∧ ∀ i, i < n → p i (l.getD i d) := by
  induction n with
  | zero => exact ⟨[], rfl, fun i hi => absurd hi (Nat.not_lt_zero _)⟩
  | succ n ih =>
    obtain ⟨l, hl, hp⟩ := ih (fun i hi => h i (by omega))
    obtain ⟨x, hx⟩ := h n (by omega)
    refine ⟨l ++ [x], by simp [hl], fun i hi => ?_⟩
    by_cases hin : i < n
    · have e : (l ++ [x]).getD i d = l.getD i d := by
        simp only [List.getD_eq_getElem?_getD]; rw [List.getElem?_append_left (by omega)]
      rw [e]; exact hp i hin
    · obtain rfl : i = n := by omega
      have e : (l ++ [x]).getD i d = x := by
        simp only [List.getD_eq_getElem?_getD]; rw [List.getElem?_append_right (by omega)]; simp [hl]
      rw [e]; exact hx
theorem cv_of_trod {H : Type} {enc : TypeId × Value → H} {W : World} {base fuel : Nat} {sp : Nat → Bool} {held : Bool} {cs : List Value} {x : DataW H × List MemPlace}
    (hf : DataW.trod enc Tryd.prog W base sp held fuel 35 cs = some x) : ∃ f, cs = cv f ∧ FrOk f := by
  obtain ⟨xs, n, _, hx, hl, hxl, hf⟩ := DataW.trod_struct Tryd.underlying35 hf
  have c3 : Tryd.prog.cellsOf 3 = 1 := by kernel_rfl
  have c4 : Tryd.prog.cellsOf 4 = 1 := by kernel_rfl
  have c5 : Tryd.prog.cellsOf 5 = 1 := by kernel_rfl
  have c9 : Tryd.prog.cellsOf 9 = 1 := by kernel_rfl
  have ck : Tryd.prog.cellsOf 33 = 4 := by kernel_rfl
  have cf : Tryd.prog.cellsOf 35 = 8 := by kernel_rfl
  rw [cf] at hl
  match xs, hxl with
  | [y0, y1, y2, y3, y4], _ =>
    have h0 : DataW.trod enc Tryd.prog W base sp held n 4 ((cs.drop 0).take (Tryd.prog.cellsOf 4)) = some y0 := hf 0 _ rfl
    have h1 : DataW.trod enc Tryd.prog W base sp held n 3 ((cs.drop 1).take (Tryd.prog.cellsOf 3)) = some y1 := hf 1 _ rfl
    have h2 : DataW.trod enc Tryd.prog W base sp held n 4 ((cs.drop 2).take (Tryd.prog.cellsOf 4)) = some y2 := hf 2 _ rfl
    have h3 : DataW.trod enc Tryd.prog W base sp held n 33 ((cs.drop 3).take (Tryd.prog.cellsOf 33)) = some y3 := hf 3 _ rfl
    have h4 : DataW.trod enc Tryd.prog W base sp held n 9 ((cs.drop 7).take (Tryd.prog.cellsOf 9)) = some y4 := hf 4 _ rfl
    obtain ⟨a0, a1, a2, a3, a4, a5, a6, a7, hcs⟩ := list8 hl
    rw [hcs] at h0 h1 h2 h3 h4
    rw [c4] at h0 h2
    rw [c3] at h1
    rw [ck] at h3
    rw [c9] at h4
    simp only [List.drop_zero, List.drop_succ_cons, List.take_succ_cons, List.take_zero] at h0 h1 h2 h3 h4
    obtain ⟨f0, g0, _⟩ := DataW.trod_bool Tryd.underlying4 h0
    obtain ⟨f1, g1, _, w1⟩ := DataW.trod_int Tryd.underlying3 h1
    obtain ⟨f2, g2, _⟩ := DataW.trod_bool Tryd.underlying4 h2
    obtain ⟨f7, g7, _, w7⟩ := DataW.trod_string Tryd.underlying9 h4
    simp only [List.cons.injEq, and_true] at g0 g1 g2 g7
    subst g0 g1 g2 g7
    obtain ⟨zs, k, _, _, _, hzl, hz⟩ := DataW.trod_array Tryd.underlying33 h3
    rw [c5] at hz
    match zs, hzl with
    | [z0, z1, z2, z3], _ =>
      obtain ⟨n0, q0, _, w0⟩ := DataW.trod_int Tryd.underlying5 (hz 0 (by decide))
      obtain ⟨n1, q1, _, w2⟩ := DataW.trod_int Tryd.underlying5 (hz 1 (by decide))
      obtain ⟨n2, q2, _, w3⟩ := DataW.trod_int Tryd.underlying5 (hz 2 (by decide))
      obtain ⟨n3, q3, _, w4⟩ := DataW.trod_int Tryd.underlying5 (hz 3 (by decide))
      simp at q0 q1 q2 q3
      subst q0 q1 q2 q3
      have b0 := bounds_u8 w0
      have b1 := bounds_u8 w2
      have b2 := bounds_u8 w3
      have b3 := bounds_u8 w4
      have bi := bounds_i64 w1
      obtain ⟨m0, rfl⟩ := Int.eq_ofNat_of_zero_le b0.1
      obtain ⟨m1, rfl⟩ := Int.eq_ofNat_of_zero_le b1.1
      obtain ⟨m2, rfl⟩ := Int.eq_ofNat_of_zero_le b2.1
      obtain ⟨m3, rfl⟩ := Int.eq_ofNat_of_zero_le b3.1
      refine ⟨⟨f0, f1, f2, [m0, m1, m2, m3], bytes f7⟩, ?_, rfl, fun x hx => by simp at hx; omega, bytes_small f7, by rw [bytes_length]; exact w7, bi⟩
      rw [hcs]
      show _ = [Value.bool f0, .int .i64 f1, .bool f2, .int .u8 (m0 : Int), .int .u8 (m1 : Int), .int .u8 (m2 : Int), .int .u8 (m3 : Int), .string (strOf (bytes f7))]
      rw [strOf_bytes]
theorem frsAt_of_trod {H : Type} {enc : TypeId × Value → H} {W : World} {ad : Option Addr} {len cap : Nat} {d : DataW H} {p : List MemPlace} (h : DataW.Trod enc Tryd.prog W 0 (fun _ => true) true 23 (.slice ad len cap) d p) :
    ∃ l, FrsAt W (.slice ad len cap) l ∧ (∀ f ∈ l, FrOk f) ∧ l.length ≤ maxLen := by
  obtain ⟨fuel, hf⟩ := h
  have cf : Tryd.prog.cellsOf 35 = 8 := by kernel_rfl
  rcases DataW.trod_slice Tryd.underlying23 hf with ⟨hcs, _⟩ | ⟨a, len', cap', el, rest, n, _, hcs, _, hb, hl, hm, hz, hcell, _⟩
  · simp [Value.cells] at hcs
    obtain ⟨rfl, rfl, rfl⟩ := hcs
    exact ⟨[], ⟨none, 0, 0, 0, rfl, by simp, fun h => by simp at h, fun i hi => by simp at hi⟩, fun f hf => by simp at hf, by simp⟩
  · simp [Value.cells] at hcs
    obtain ⟨rfl, rfl, rfl⟩ := hcs
    rw [cf] at hcell
    have hsome : ∀ i, i < len → ∃ x, el[i]? = some x := fun i hi => ⟨el[i]'(by omega), List.getElem?_eq_getElem (by omega)⟩
    by_cases h0 : len = 0
    · subst h0
      exact ⟨[], ⟨some a, cap, 0, 0, rfl, by simp, fun h => by simp at h, fun i hi => by simp at hi⟩, fun f hf => by simp at hf, by simp⟩
    · have hspot : a.spot = none := by
        obtain ⟨x, hx⟩ := hsome 0 (by omega)
        have hc := hcell 0 (by omega)
        rw [hx, Option.bind_eq_some_iff] at hc
        obtain ⟨cs, hcs, _⟩ := hc
        obtain ⟨_, hlen, hce⟩ := World.cells?_some hcs
        have := hce 0 (by omega)
        rw [List.getElem?_eq_getElem (by omega)] at this
        simpa [Addr.add] using World.cell?_spot this
      obtain ⟨b, off, spot⟩ := a
      simp only at hspot
      subst hspot
      obtain ⟨l, hll, hp⟩ := list_of Fr0 len (fun i f => FrOk f ∧ ∀ j, j < 8 → W.cell? ⟨b, off + i * 8 + j, none⟩ = (cv f)[j]?) (fun i hi => by
        obtain ⟨x, hx⟩ := hsome i hi
        have hc := hcell i hi
        rw [hx, Addr.add_mid, Option.bind_eq_some_iff] at hc
        obtain ⟨cs, hcs, hd⟩ := hc
        obtain ⟨_, hlen, hce⟩ := World.cells?_some hcs
        obtain ⟨f, hf, hok⟩ := cv_of_trod hd
        subst hf
        refine ⟨f, hok, fun j hj => ?_⟩
        have := hce j hj
        rw [Addr.add_mid] at this
        exact this)
      refine ⟨l, ⟨some ⟨b, off, none⟩, cap, b, off, by rw [hll], by rw [hll]; omega, fun _ => rfl, fun i hi => (hp i (by omega)).2⟩, fun f hf => ?_, by rw [hll]; omega⟩
      obtain ⟨i, hi, rfl⟩ := List.getElem_of_mem hf
      have := (hp i (by omega)).1
      rwa [List.getD_eq_getElem?_getD, List.getElem?_eq_getElem hi] at this
theorem fr_parts {f : Fr} (h : FrOk f) : ∃ fin op m, ∃ ka kb kc kd : Nat, ∃ s, f = (⟨fin, op, m, [ka, kb, kc, kd], bytes s⟩ : Fr) ∧ (cv f).toArray = #[.bool fin, .int .i64 op, .bool m, .int .u8 ((ka : Nat) : Int), .int .u8 ((kb : Nat) : Int), .int .u8 ((kc : Nat) : Int), .int .u8 ((kd : Nat) : Int), .string s] ∧ Small 256 [ka, kb, kc, kd] := by
  obtain ⟨fin, op, m, key, data⟩ := f
  obtain ⟨h1, h2, h3, _, _⟩ := h
  match key, h1 with
  | [ka, kb, kc, kd], _ => exact ⟨fin, op, m, ka, kb, kc, kd, strOf data, by rw [bytes_strOf data h3], rfl, h2⟩
/-- Are frames few, and short? -/
def fewF (fs : List Fr) : Bool := fs.all (fun f => decide ((strOf f.data).size ≤ 300)) && decide (fs.length ≤ 30)
theorem few_any (fs : List Fr) (v : Value) (w : World) (hv : FrsAt w v fs) (hm : fs.length ≤ maxLen) : Calls Tryd.prog 12 #[v] w fun e w' => e = .returned (.bool (fewF fs)) ∧ w = w' := by
  obtain ⟨a, cap, rfl⟩ := hv.slice
  have HV := Sl.mk hv
  have HM := Sl.mk hm
  obtain ⟨n, hn⟩ : ∃ n, fs.length = n := ⟨_, rfl⟩
  have HN := Sl.mk hn
  rw [hn] at HV ⊢
  clear hv hm hn
  go_enter Tryd.func12, Tryd.ntmps12
  go_wp2
  go_loopw [3] (fun i wr => ∃ k : Nat, i = .int .i64 (k : Int) ∧ k ≤ n ∧ wr = w ∧ Sl ((fs.take k).all (fun f => decide ((strOf f.data).size ≤ 300)) = true)) (fun i _ => n - (intOf i).toNat)
  case atStart => exact ⟨0, rfl, Nat.zero_le _, rfl, ⟨rfl⟩⟩
  case round =>
    obtain ⟨k, rfl, hk, rfl, HT⟩ := hrel
    by_cases hkn : k < n
    · obtain ⟨sb, so, rfl⟩ := HV.out.cap.2 (by omega)
      obtain ⟨rf, ro, rm, ka, kb, kc, kd, rd, hcv, _⟩ := cv_parts (fs.getD k Fr0)
      have hrd : strOf (fs.getD k Fr0).data = rd := by
        have h := congrArg (fun (x : Array Value) => x[7]?) hcv
        simp [cv] at h
        exact h
      obtain ⟨c0, c1, c2, c3, c4, c5, c6, c7⟩ := HV.out.at8 k (by rw [HN.out]; exact hkn) hcv
      have hmax : n ≤ 9223372036854775807 := by have := HM.out; rw [HN.out] at this; unfold maxLen at this; omega
      have hlt : ((k : Int) < (n : Int)) = True := eq_true (by omega)
      have hget : fs[k]? = some (fs.getD k Fr0) := by rw [List.getD_eq_getElem?_getD, List.getElem?_eq_getElem (by rw [HN.out]; exact hkn)]; rfl
      by_cases hz : rd.size > 300
      · have hq : ((rd.size : Int) > 300) = True := eq_true (by omega)
        have HF : Sl (fewF fs = false) := ⟨by
          unfold fewF
          rw [Bool.and_eq_false_iff]; left
          rw [List.all_eq_false]
          exact ⟨_, List.mem_of_getElem? hget, by rw [hrd]; simpa using hz⟩⟩
        clear hz hmax hrd hget hcv
        go_wp2
        go_ret
        exact ⟨by rw [HF.out]; rfl, rfl⟩
      · have hq : ((rd.size : Int) > 300) = False := eq_false (by omega)
        have HT' : Sl ((fs.take (k + 1)).all (fun f => decide ((strOf f.data).size ≤ 300)) = true) := ⟨by
          rw [List.take_add_one, List.all_append, HT.out, hget]
          show (true && ([fs.getD k Fr0].all fun f => decide ((strOf f.data).size ≤ 300))) = true
          rw [List.all_cons, List.all_nil, hrd, decide_eq_true (by omega)]; rfl⟩
        clear hz hrd hget hcv
        go_wp2
        exact ⟨⟨k + 1, by go_num, by omega, trivial, HT'⟩, by simp [intOf]; omega⟩
    · obtain rfl : k = n := by omega
      have hlt : ((k : Int) < (k : Int)) = False := eq_false (by omega)
      have hF : fewF fs = decide (k ≤ 30) := by
        have := HT.out
        rw [List.take_of_length_le (by rw [HN.out]; exact Nat.le_refl _)] at this
        unfold fewF
        rw [this, HN.out, Bool.true_and]
      obtain ⟨d, hd⟩ : ∃ d, decide (k ≤ 30) = d := ⟨_, rfl⟩
      have hq : decide ((k : Int) ≤ 30) = d := by rw [← hd]; exact decide_eq_decide.2 (by omega)
      have HF : Sl (fewF fs = d) := ⟨by rw [hF, hd]⟩
      clear hF hd hkn
      go_wp2
      go_ret
      exact ⟨by rw [HF.out, ← hq]; rfl, rfl⟩
theorem few_all {fs : List Fr} (h : fewF fs = true) : (∀ f ∈ fs, (strOf f.data).size ≤ 300) ∧ fs.length ≤ 30 := by
  unfold fewF at h
  rw [Bool.and_eq_true, List.all_eq_true] at h
  exact ⟨fun f hf => of_decide_eq_true (h.1 f hf), of_decide_eq_true h.2⟩
end Go.Proofs.YtpbfabcjkhlanaaDoor.Msg
