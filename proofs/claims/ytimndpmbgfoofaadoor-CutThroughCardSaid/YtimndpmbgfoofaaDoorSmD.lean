/- A slice of frames out of the data that comes in. -/
import Derived.Test.YtimndpmbgfoofaaDoorSmA
import Derived.SliceStrings
import Derived.ProofKit
import Derived.ChangeArms
import Derived.OpenShut
import Derived.Test.YtimndpmbgfoofaaDoorFrD
import Derived.Test.YtimndpmbgfoofaaDoorSmC
namespace Go.Proofs.YtimndpmbgfoofaaDoor.Stm
open Go.RowKit Go.WideShapes Go.ChangeShapes MaskPlain FramePlain StreamPlain Mas Fra

/-- A frame as memory can hold it. -/
structure FrOk (f : Fr) : Prop where
  k4 : f.key.length = 4
  ks : Small 256 f.key
  ds : Small 256 f.data
  dl : f.data.length ≤ maxLen
  op : -9223372036854775808 ≤ f.op ∧ f.op ≤ 9223372036854775807
theorem list8 {α : Type} {l : List α} (h : l.length = 8) : ∃ a b c d e f g i, l = [a, b, c, d, e, f, g, i] :=
  match l, h with
  | [a, b, c, d, e, f, g, i], _ => ⟨a, b, c, d, e, f, g, i, rfl⟩
theorem list_of {α : Type} (d : α) (n : Nat) (p : Nat → α → Prop) (h : ∀ i, i < n → ∃ x, p i x) : ∃ l : List α, l.length = n ∧ ∀ i, i < n → p i (l.getD i d) := by
  induction n with
  | zero => exact ⟨[], rfl, fun i hi => absurd hi (Nat.not_lt_zero _)⟩
  | succ n ih =>
    obtain ⟨l, hl, hp⟩ := ih (fun i hi => h i (by omega))
    obtain ⟨x, hx⟩ := h n (by omega)
    refine ⟨l ++ [x], by simp [hl], fun i hi => ?_⟩
    by_cases hin : i < n
    · have e : (l ++ [x]).getD i d = l.getD i d := by
        simp only [List.getD_eq_getElem?_getD]; rw [List.getElem?_append_left (by omega)]
      rw [e]; exact hp i hin
    · obtain rfl : i = n := by omega
      have e : (l ++ [x]).getD i d = x := by
        simp only [List.getD_eq_getElem?_getD]; rw [List.getElem?_append_right (by omega)]; simp [hl]
      rw [e]; exact hx
theorem cv_of_trod {H : Type} {enc : TypeId × Value → H} {W : World} {base fuel : Nat} {sp : Nat → Bool} {held : Bool} {cs : List Value} {x : DataW H × List MemPlace}
    (hf : DataW.trod enc Tryd.prog W base sp held fuel 44 cs = some x) : ∃ f, cs = cv f ∧ FrOk f := by
  obtain ⟨xs, n, _, hx, hl, hxl, hf⟩ := DataW.trod_struct Tryd.underlying44 hf
  have c3 : Tryd.prog.cellsOf 3 = 1 := by kernel_rfl
  have c4 : Tryd.prog.cellsOf 4 = 1 := by kernel_rfl
  have c5 : Tryd.prog.cellsOf 5 = 1 := by kernel_rfl
  have c9 : Tryd.prog.cellsOf 9 = 1 := by kernel_rfl
  have ck : Tryd.prog.cellsOf 42 = 4 := by kernel_rfl
  have cf : Tryd.prog.cellsOf 44 = 8 := by kernel_rfl
  rw [cf] at hl
  match xs, hxl with
  | [y0, y1, y2, y3, y4], _ =>
    have h0 : DataW.trod enc Tryd.prog W base sp held n 4 ((cs.drop 0).take (Tryd.prog.cellsOf 4)) = some y0 := hf 0 _ rfl
    have h1 : DataW.trod enc Tryd.prog W base sp held n 3 ((cs.drop 1).take (Tryd.prog.cellsOf 3)) = some y1 := hf 1 _ rfl
    have h2 : DataW.trod enc Tryd.prog W base sp held n 4 ((cs.drop 2).take (Tryd.prog.cellsOf 4)) = some y2 := hf 2 _ rfl
    have h3 : DataW.trod enc Tryd.prog W base sp held n 42 ((cs.drop 3).take (Tryd.prog.cellsOf 42)) = some y3 := hf 3 _ rfl
    have h4 : DataW.trod enc Tryd.prog W base sp held n 9 ((cs.drop 7).take (Tryd.prog.cellsOf 9)) = some y4 := hf 4 _ rfl
    obtain ⟨a0, a1, a2, a3, a4, a5, a6, a7, hcs⟩ := list8 hl
    rw [hcs] at h0 h1 h2 h3 h4
    rw [c4] at h0 h2
    rw [c3] at h1
    rw [ck] at h3
    rw [c9] at h4
    simp only [List.drop_zero, List.drop_succ_cons, List.take_succ_cons, List.take_zero] at h0 h1 h2 h3 h4
    obtain ⟨f0, g0, _⟩ := DataW.trod_bool Tryd.underlying4 h0
    obtain ⟨f1, g1, _, w1⟩ := DataW.trod_int Tryd.underlying3 h1
    obtain ⟨f2, g2, _⟩ := DataW.trod_bool Tryd.underlying4 h2
    obtain ⟨f7, g7, _, w7⟩ := DataW.trod_string Tryd.underlying9 h4
    simp only [List.cons.injEq, and_true] at g0 g1 g2 g7
    subst g0 g1 g2 g7
    obtain ⟨zs, k, _, _, _, hzl, hz⟩ := DataW.trod_array Tryd.underlying42 h3
    rw [c5] at hz
    match zs, hzl with
    | [z0, z1, z2, z3], _ =>
      obtain ⟨n0, q0, _, w0⟩ := DataW.trod_int Tryd.underlying5 (hz 0 (by decide))
      obtain ⟨n1, q1, _, w2⟩ := DataW.trod_int Tryd.underlying5 (hz 1 (by decide))
      obtain ⟨n2, q2, _, w3⟩ := DataW.trod_int Tryd.underlying5 (hz 2 (by decide))
      obtain ⟨n3, q3, _, w4⟩ := DataW.trod_int Tryd.underlying5 (hz 3 (by decide))
      simp at q0 q1 q2 q3
      subst q0 q1 q2 q3
      have b0 := bounds_u8 w0
      have b1 := bounds_u8 w2
      have b2 := bounds_u8 w3
      have b3 := bounds_u8 w4
      have bi := bounds_i64 w1
      obtain ⟨m0, rfl⟩ := Int.eq_ofNat_of_zero_le b0.1
      obtain ⟨m1, rfl⟩ := Int.eq_ofNat_of_zero_le b1.1
      obtain ⟨m2, rfl⟩ := Int.eq_ofNat_of_zero_le b2.1
      obtain ⟨m3, rfl⟩ := Int.eq_ofNat_of_zero_le b3.1
      refine ⟨⟨f0, f1, f2, [m0, m1, m2, m3], bytes f7⟩, ?_, rfl, fun x hx => by simp at hx; omega, bytes_small f7, by rw [bytes_length]; exact w7, bi⟩
      rw [hcs]
      show _ = [Value.bool f0, .int .i64 f1, .bool f2, .int .u8 (m0 : Int), .int .u8 (m1 : Int), .int .u8 (m2 : Int), .int .u8 (m3 : Int), .string (strOf (bytes f7))]
      rw [strOf_bytes]
theorem frsAt_of_trod {H : Type} {enc : TypeId × Value → H} {W : World} {ad : Option Addr} {len cap : Nat} {d : DataW H} {p : List MemPlace} (h : DataW.Trod enc Tryd.prog W 0 (fun _ => true) true 23 (.slice ad len cap) d p) :
    ∃ l, FrsAt W (.slice ad len cap) l ∧ (∀ f ∈ l, FrOk f) ∧ l.length ≤ maxLen := by
  obtain ⟨fuel, hf⟩ := h
  have cf : Tryd.prog.cellsOf 44 = 8 := by kernel_rfl
  rcases DataW.trod_slice Tryd.underlying23 hf with ⟨hcs, _⟩ | ⟨a, len', cap', el, rest, n, _, hcs, _, hb, hl, hm, hz, hcell, _⟩
  · simp [Value.cells] at hcs
    obtain ⟨rfl, rfl, rfl⟩ := hcs
    exact ⟨[], ⟨none, 0, 0, 0, rfl, by simp, fun h => by simp at h, fun i hi => by simp at hi⟩, fun f hf => by simp at hf, by simp⟩
  · simp [Value.cells] at hcs
    obtain ⟨rfl, rfl, rfl⟩ := hcs
    rw [cf] at hcell
    have hsome : ∀ i, i < len → ∃ x, el[i]? = some x := fun i hi => ⟨el[i]'(by omega), List.getElem?_eq_getElem (by omega)⟩
    by_cases h0 : len = 0
    · subst h0
      exact ⟨[], ⟨some a, cap, 0, 0, rfl, by simp, fun h => by simp at h, fun i hi => by simp at hi⟩, fun f hf => by simp at hf, by simp⟩
    · have hspot : a.spot = none := by
        obtain ⟨x, hx⟩ := hsome 0 (by omega)
        have hc := hcell 0 (by omega)
        rw [hx, Option.bind_eq_some_iff] at hc
        obtain ⟨cs, hcs, _⟩ := hc
        obtain ⟨_, hlen, hce⟩ := World.cells?_some hcs
        have := hce 0 (by omega)
        rw [List.getElem?_eq_getElem (by omega)] at this
        simpa [Addr.add] using World.cell?_spot this
      obtain ⟨b, off, spot⟩ := a
      simp only at hspot
      subst hspot
      obtain ⟨l, hll, hp⟩ := list_of Fr0 len (fun i f => FrOk f ∧ ∀ j, j < 8 → W.cell? ⟨b, off + i * 8 + j, none⟩ = (cv f)[j]?) (fun i hi => by
        obtain ⟨x, hx⟩ := hsome i hi
        have hc := hcell i hi
        rw [hx, Addr.add_mid, Option.bind_eq_some_iff] at hc
        obtain ⟨cs, hcs, hd⟩ := hc
        obtain ⟨_, hlen, hce⟩ := World.cells?_some hcs
        obtain ⟨f, hf, hok⟩ := cv_of_trod hd
        subst hf
        refine ⟨f, hok, fun j hj => ?_⟩
        have := hce j hj
        rw [Addr.add_mid] at this
        exact this)
      refine ⟨l, ⟨some ⟨b, off, none⟩, cap, b, off, by rw [hll], by rw [hll]; omega, fun _ => rfl, fun i hi => (hp i (by omega)).2⟩, fun f hf => ?_, by rw [hll]; omega⟩
      obtain ⟨i, hi, rfl⟩ := List.getElem_of_mem hf
      have := (hp i (by omega)).1
      rwa [List.getD_eq_getElem?_getD, List.getElem?_eq_getElem hi] at this
end Go.Proofs.YtimndpmbgfoofaaDoor.Stm
/- stream, plain and frames of the data: a frame's bytes are that frame. -/
set_option maxRecDepth 100000
namespace Go.Proofs.YtimndpmbgfoofaaDoor.Stm
open Go.RowKit MaskPlain FramePlain StreamPlain Mas Fra

theorem fr_parts {f : Fr} (h : FrOk f) : ∃ fin op m, ∃ ka kb kc kd : Nat, ∃ s, f = (⟨fin, op, m, [ka, kb, kc, kd], bytes s⟩ : Fr) ∧ (cv f).toArray = #[.bool fin, .int .i64 op, .bool m, .int .u8 ((ka : Nat) : Int), .int .u8 ((kb : Nat) : Int), .int .u8 ((kc : Nat) : Int), .int .u8 ((kd : Nat) : Int), .string s] ∧ Small 256 [ka, kb, kc, kd] := by
  obtain ⟨fin, op, m, key, data⟩ := f
  obtain ⟨h1, h2, h3, _, _⟩ := h
  match key, h1 with
  | [ka, kb, kc, kd], _ => exact ⟨fin, op, m, ka, kb, kc, kd, strOf data, by rw [bytes_strOf data h3], rfl, h2⟩
theorem form_op {f : Fr} {op : Int} (h : form f = true) (ho : f.op = op) : 0 ≤ op := by
  have h1 := (form_cases h).1
  rw [ho] at h1
  omega
theorem text_le {f : Fr} (hk : f.key.length = 4) (hd : f.data.length ≤ 500) : (text f).length ≤ 600 := by
  have hn := text_length f (by omega) hk
  rw [hn]
  unfold size
  split <;> split <;> (try split) <;> omega
theorem text_size {f : Fr} (hk : f.key.length = 4) (hd : f.data.length ≤ 65536) : (text f).length = size f := text_length f (by omega) hk
/-- A frame's bytes are that frame, and what stands behind comes then. -/
theorem all_text {f : Fr} {masked : Bool} {most : Int} (hf : form f = true) (hm : f.masked = masked) (hk : f.key.length = 4) (hd : (f.data.length : Int) ≤ most) (hmo : most ≤ 65536) (hs : Small 256 (text f)) (more : List Nat) (hsm : Small 256 more) :
    all (text f ++ more) masked most = (f :: (all more masked most).1, (all more masked most).2) := by
  have h := one_text hf hm hk hd (by omega) more
  rw [all_step _ masked most (hs.append hsm), h, if_neg (by simp), if_neg (by simp), ← text_size hk (by omega), List.drop_left]
theorem all_text_one {f : Fr} {masked : Bool} (hf : form f = true) (hm : f.masked = masked) (hk : f.key.length = 4) (hd : f.data.length ≤ 500) (hs : Small 256 (text f)) : all ([] ++ text f) masked 65536 = ([f], 0, 0) := by
  have h := all_text (most := 65536) hf hm hk (by omega) (by omega) hs [] (fun x hx => by cases hx)
  rw [List.append_nil] at h
  rw [List.nil_append, h]
  rfl
end Go.Proofs.YtimndpmbgfoofaaDoor.Stm
/- stream: the document's Text: frames' bytes. -/
set_option maxRecDepth 100000
namespace Go.Proofs.YtimndpmbgfoofaaDoor.Stm
open Go.RowKit MaskPlain FramePlain StreamPlain Mas Fra

/-- Frames' bytes. -/
def texts (fs : List Fr) : List Nat := fs.flatMap text
theorem texts_cons (f : Fr) (fs : List Fr) : texts (f :: fs) = text f ++ texts fs := rfl
theorem texts_take (fs : List Fr) (j : Nat) (h : j < fs.length) : texts (fs.take (j + 1)) = texts (fs.take j) ++ text (fs.getD j Fr0) := by
  unfold texts
  rw [List.take_add_one, List.flatMap_append, List.getElem?_eq_getElem h, List.getD_eq_getElem?_getD, List.getElem?_eq_getElem h]
  simp
/-- A frame that StreamBack lets. -/
structure FrLet (f : Fr) (masked : Bool) : Prop where
  ok : FrOk f
  fm : form f = true
  dl : f.data.length ≤ 500
  ms : f.masked = masked
theorem FrLet.chk {f : Fr} {masked : Bool} (h : FrLet f masked) : chk f = 0 := chk_yes h.fm (by have := h.dl; omega)
theorem FrLet.small {f : Fr} {masked : Bool} (h : FrLet f masked) : Small 256 (text f) := text_small h.chk h.ok.ks h.ok.ds
theorem FrLet.le {f : Fr} {masked : Bool} (h : FrLet f masked) : (text f).length ≤ 600 := text_le h.ok.k4 h.dl
theorem texts_small {fs : List Fr} {masked : Bool} (h : ∀ f ∈ fs, FrLet f masked) : Small 256 (texts fs) := fun x hx => by
  obtain ⟨f, hf, hxf⟩ := List.mem_flatMap.1 hx
  exact (h f hf).small x hxf
theorem texts_le : ∀ {fs : List Fr} {masked : Bool}, (∀ f ∈ fs, FrLet f masked) → (texts fs).length ≤ 600 * fs.length
  | [], _, _ => Nat.le_refl _
  | f :: fs, masked, h => by
    rw [texts_cons, List.length_append, List.length_cons]
    have h1 := (h f (by simp)).le
    have h2 := texts_le (fs := fs) (masked := masked) (fun g hg => h g (by simp [hg]))
    omega
/-- Frames' bytes are these frames. -/
theorem all_texts : ∀ {fs : List Fr} {masked : Bool}, (∀ f ∈ fs, FrLet f masked) → all (texts fs) masked 65536 = (fs, 0, 0)
  | [], masked, _ => rfl
  | f :: fs, masked, h => by
    have h1 := h f (by simp)
    have h2 : ∀ g ∈ fs, FrLet g masked := fun g hg => h g (by simp [hg])
    rw [texts_cons, all_text h1.fm h1.ms h1.ok.k4 (by have := h1.dl; omega) (by omega) h1.small _ (texts_small h2), all_texts h2]
end Go.Proofs.YtimndpmbgfoofaaDoor.Stm
