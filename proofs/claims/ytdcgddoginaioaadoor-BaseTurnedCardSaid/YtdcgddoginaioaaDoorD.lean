/- The contract of Put of package base: the letters of the bytes; nothing that was in memory changes. Conditions: the table of letters is as the text lays it; at most 100000 bytes. -/
import Derived.Test.YtdcgddoginaioaaDoorC
namespace Go.Proofs.YtdcgddoginaioaaDoor
open Go.RowKit

theorem info5 : (Tryd.prog.info? 5).map (fun i => (i.zero, i.size, i.bytes)) = some (some (.int .u8 0), 1, 1) := by kernel_rfl

/-- The bytes bs lie behind the slice v. -/
def SrcAt (w : World) (v : Value) (bs : List Nat) : Prop :=
  ∃ (a : Option Addr) (cap sb so : Nat), v = .slice a bs.length cap ∧ bs.length ≤ cap ∧ (0 < bs.length → a = some ⟨sb, so, none⟩) ∧
    ∀ i, i < bs.length → w.cell? ⟨sb, so + i, none⟩ = some (.int .u8 ((bs.getD i 0 : Nat) : Int))

theorem enc_chunk (l : List Nat) (h1 : 1 ≤ l.length) (h3 : l.length ≤ 3) (hs : Small 256 l) : enc l = fourTo (l.getD 0 0) (l.getD 1 0) (l.getD 2 0) (l.length + 1) := by
  match l, h1, h3 with
  | [a], _, _ =>
    have ha := hs a (by simp)
    show [_, _, _, _] = [let4 a 0 0 0, let4 a 0 0 1, 61, 61]
    unfold let4 tri
    simp only [List.cons.injEq, and_true]
    exact ⟨by congr 1; omega, by congr 1; omega⟩
  | [a, b], _, _ =>
    have ha := hs a (by simp)
    have hb := hs b (by simp)
    show [_, _, _, _] = [let4 a b 0 0, let4 a b 0 1, let4 a b 0 2, 61]
    unfold let4 tri
    simp only [List.cons.injEq, and_true]
    exact ⟨by congr 1; omega, by congr 1; omega, by congr 1; omega⟩
  | [a, b, c], _, _ =>
    have ha := hs a (by simp)
    have hb := hs b (by simp)
    have hc := hs c (by simp)
    show [_, _, _, _] = [let4 a b c 0, let4 a b c 1, let4 a b c 2, let4 a b c 3]
    unfold let4 tri
    simp only [List.cons.injEq, and_true]
    exact ⟨by congr 1; omega, by congr 1; omega, by congr 1; omega, by congr 1; omega⟩

theorem enc_more (bs : List Nat) (m k : Nat) (hm : m % 3 = 0) (hk : m + k ≤ bs.length) : enc (bs.take (m + k)) = enc (bs.take m) ++ enc ((bs.drop m).take k) := by
  rw [List.take_add, enc_append _ _ (by rw [List.length_take, Nat.min_eq_left (by omega)]; exact hm)]

theorem slice_rest (sb o r cp c : Nat) (hc : c ≤ r) (hr : r ≤ cp) : ∃ a : Addr, (c < r → a = ⟨sb, o + c, none⟩) ∧ ∀ w,
    (Instr.slice 24 (.slice (some ⟨sb, o, none⟩) r cp) (some (.int .i64 (c : Int))) none none).run Tryd.prog w = .ok (.slice (some a) (r - c) (cp - c)) w := by
  refine ⟨if cp = c then ⟨sb, o, none⟩ else ⟨sb, o + c, none⟩, fun h => by rw [if_neg (by omega)], fun w => ?_⟩
  have hz : (sizeOf (Tryd.prog.elem 24)).run Tryd.prog w = .ok 1 w := by kernel_rfl
  rw [run_slice_l w 24 (some ⟨sb, o, none⟩) r cp (by kernel_rfl) .i64 (c : Int) (by omega) (by omega), hz]
  simp [Result.andThen, sliced, Addr.add_mid]
  by_cases h : cp = c
  · simp [h]
  · simp [h]

/-- Copy of at most three bytes into a new array. -/
theorem group_src (a b c n : Nat) (w : World) (ha : a < 256) (hb : b < 256) (hc : c < 256) (h1 : 1 ≤ n) (hn : n ≤ 3) (hg : Globs w) :
    Calls Tryd.prog 19 #[.agg (u8s [a, b, c]).toArray, .int .i64 n] w fun e w' => ∃ f, Sl (f = fourTo a b c (n + 1)) ∧ e = .returned (.agg (u8s f).toArray) ∧ Sl (Below w.heap.size w w') :=
  (group_any a b c n w ha hb hc h1 hn hg).mono fun _ _ ⟨he, hb⟩ => ⟨_, ⟨rfl⟩, he, ⟨hb⟩⟩
theorem copy_three {W : World} {g sb so r cap k : Nat} {ch : List Nat} (hg : W.heap[g]? = some (.cells (u8s [0, 0, 0]).toArray 41 (0, 0))) (hlen : ch.length = k) (hk : k = min r 3)
    (hsrc : ∀ i, i < k → W.cell? ⟨sb, so + i, none⟩ = some (.int .u8 ((ch.getD i 0 : Nat) : Int))) :
    (Builtin.copy_ #[24, 24] 3 #[.slice (some ⟨g, 0, none⟩) 3 3, .slice (some ⟨sb, so, none⟩) r cap]).run Tryd.prog W =
      .ok (.int .i64 (k : Int)) (W.setRow g (u8s [ch.getD 0 0, ch.getD 1 0, ch.getD 2 0]).toArray) := by
  subst hlen
  have h := run_copy_row (P := Tryd.prog) W 24 24 3 5 g 0 3 3 ⟨sb, so, none⟩ r cap (u8s [0, 0, 0]).toArray 41 (u8s ch) Tryd.underlying24 (by kernel_rfl) hg
    (by rw [u8s_length, hk])
    (fun j v hv => by
      have hj : j < ch.length := by simpa using (List.getElem?_eq_some_iff.1 hv).1
      rw [Addr.add_mid, hsrc j hj, ← hv, u8s_get ch j hj])
    (by simp; omega) (u8s_one ch)
  rw [h, u8s_length]
  have e : (List.take 0 (u8s [0, 0, 0]).toArray.toList ++ u8s ch ++ List.drop (0 + ch.length) (u8s [0, 0, 0]).toArray.toList) = u8s [ch.getD 0 0, ch.getD 1 0, ch.getD 2 0] := by
    have h3 : ch.length ≤ 3 := by omega
    match ch, h3 with
    | [], _ => rfl
    | [_], _ => rfl
    | [_, _], _ => rfl
    | [_, _, _], _ => rfl
  rw [e]; rfl

theorem grown_below {w w' : World} (h : Below w.heap.size w w') (r : Option Nat) : w.grownBy w' r := ⟨h.os, h.tape, h.output, h.size, fun k hk _ => h.block k hk⟩
theorem own_below {w w' : World} {base : Nat} {e : TypeId} {size : Nat} {v : Value} {n : Nat} {xs : List Value} (h : w.ownsRow base e size v n xs) (hb : Below w.heap.size w w') : w'.ownsRow base e size v n xs :=
  h.kept (grown_below hb none) (by cases h2 : v.ownBlock with | none => exact .inl rfl | some k => exact .inr (fun e => by cases e))
theorem below_grown {base : Nat} {w0 W w' : World} {v : Value} {e : TypeId} {n : Nat} {xs : List Value} (hb : Below base w0 W) (hown : W.ownsRow base e 1 v n xs) (hg : W.grownBy w' v.ownBlock) (hbase : base ≤ W.heap.size) : Below base w0 w' :=
  hb.grown hg hbase (fun k hk => (hown.lt k hk).1)
theorem range_setRow (w : World) {g : Nat} {old : Array Value} {t : TypeId} {fr : Nat × Nat} (l : List Value) (h : w.heap[g]? = some (.cells old t fr)) : (w.setRow g l.toArray).rangeAt g 0 l := fun j v hv => by
  rw [Nat.zero_add, cell_of_row _ _ _ _ _ _ (setRow_heap _ _ _ _ _ _ h)]
  simpa using hv
/-- The string of a row of bytes. -/
theorem conv_own {W : World} {base : Nat} {v : Value} {l : List Nat} (h : W.ownsRow base 5 1 v l.length (u8s l)) : (convert 24 9 v).run Tryd.prog W = .ok (.string (strOfNums (l.map fun (n : Nat) => (n : Int)))) W := by
  obtain ⟨h1, h2⟩ := h
  rcases h2 with ⟨rfl, h2⟩ | ⟨g, cap, cur, rfl, hg, hh, hn, hm, hs, ht⟩
  · obtain rfl : l = [] := List.length_eq_zero_iff.1 h2
    kernel_rfl
  · refine run_convert_bytes_arg _ 24 5 Tryd.underlying24 Tryd.underlying5 g 0 l.length cap (l.map fun (n : Nat) => (n : Int)) (by simp) (fun i hi => ?_) 9 Tryd.underlying9
    have hi' : i < l.length := by simpa using hi
    rw [Nat.zero_add, cell_of_row _ _ _ _ _ _ hh]
    have e : cur.toList[i]? = (u8s l)[i]? := by rw [← ht]; simp [hi']
    rw [Array.getElem?_toList] at e
    rw [e, u8s_get l i hi']
    simp [List.getD, List.getElem?_eq_getElem hi']

def lenOf : Value → Nat
  | .slice _ n _ => n
  | _ => 0
/-- What the loop of Put holds to. -/
structure PR (w : World) (bs : List Nat) (m : Nat) (v : Value) (wr : World) : Prop where
  o : wr.ownsRow w.heap.size 5 1 v (enc (bs.take m)).length (u8s (enc (bs.take m)))
  b : Below w.heap.size w wr

/-- Bytes as a string. -/
def strOf (l : List Nat) : ByteArray := strOfNums (l.map fun (n : Nat) => (n : Int))

set_option maxHeartbeats 1000000 in
theorem put_any (bs : List Nat) (v : Value) (w : World) (hv : SrcAt w v bs) (hsm : Small 256 bs) (hg : Globs w) (hL : bs.length ≤ 100000) :
    Calls Tryd.prog 12 #[v] w fun e w' => e = .returned (.string (strOf (enc bs))) ∧ Below w.heap.size w w' := by
  obtain ⟨i0, hi, hz0, hz1, hz2⟩ := info_parts info5
  obtain ⟨a, cap, sb, so, rfl, h1, h3, h5⟩ := hv
  have SM := Sl.mk hsm
  have HG := Sl.mk hg
  have H3 := Sl.mk h3
  have H5 := Sl.mk h5
  have H1 := Sl.mk h1
  have HI := Sl.mk hi
  have HZ0 := Sl.mk hz0
  have HZ1 := Sl.mk hz1
  have HZ2 := Sl.mk hz2
  obtain ⟨C, hC⟩ : ∃ C : Nat, C = 4 * ((bs.length + 2) / 3) := ⟨_, rfl⟩
  have HLT : Sl (∀ W, Calls Tryd.prog 18 #[.int .i64 (bs.length : Int)] W fun e w' => e = .returned (.int .i64 (C : Int)) ∧ W = w') := ⟨fun W => by rw [hC]; exact letters_any bs.length W (by omega)⟩
  have hC2 : C ≤ 200000 := by omega
  clear hC
  obtain ⟨w1, hmk, HOW, HGR⟩ := run_make_own (P := Tryd.prog) (w := w) w.heap.size 24 5 i0 (.int .u8 0) 1 Tryd.underlying24 hi hz0 hz1 .i64 .i64 C (by rw [hz2]; omega) (by unfold maxLen; omega) (Nat.le_refl _)
  have HPR : Sl (PR w bs 0 (.slice (some ⟨w.heap.size, 0, none⟩) 0 C) w1) := ⟨⟨HOW, (Below.refl _ _).grown HGR (Nat.le_refl _) (fun k hk => by cases hk)⟩⟩
  clear hsm hg h1 h3 h5 hi hz0 hz1 hz2 HOW HGR
  go_enter Tryd.func12, Tryd.ntmps12
  go_wp2_with fail
  refine (HLT.out _).mono ?_
  rintro e w0 ⟨rfl, rfl⟩
  go_wp2
  clear hmk
  go_loopw [0, 3] (fun v u wr => ∃ (m r cp : Nat) (a : Option Addr), bs.length = m + r ∧ v = .slice a r cp ∧ r ≤ cp ∧ (0 < r → a = some ⟨sb, so + m, none⟩) ∧ (0 < r → m % 3 = 0) ∧ PR w bs m u wr) (fun v _ _ => lenOf v)
  case atStart => exact ⟨0, bs.length, cap, a, by omega, rfl, H1.out, fun h => by simpa using H3.out h, fun _ => rfl, HPR.out⟩
  case round =>
    clear HPR
    obtain ⟨m, r, cp, a', hm, rfl, hr, ha, hm3, hrel⟩ := hrel
    have HR := Sl.mk hrel
    have HM := Sl.mk hm
    have HA := Sl.mk ha
    have HM3 := Sl.mk hm3
    clear hm hrel ha hm3
    by_cases hpos : 0 < r
    · obtain rfl := HA.out hpos
      clear HA
      obtain ⟨k, hk⟩ : ∃ k, k = min r 3 := ⟨_, rfl⟩
      obtain ⟨ch, hch⟩ : ∃ ch, ch = (bs.drop m).take k := ⟨_, rfl⟩
      have HCH := Sl.mk hch
      have hks : 1 ≤ k ∧ k ≤ r ∧ k ≤ 3 := by omega
      have HCL : Sl (ch.length = k) := ⟨by rw [hch]; have := HM.out; simp; omega⟩
      have HCS : Sl (Small 256 ch) := ⟨by rw [hch]; exact (SM.out.drop m).take k⟩
      have HEN : Sl (enc (bs.take (m + k)) = enc (bs.take m) ++ fourTo (ch.getD 0 0) (ch.getD 1 0) (ch.getD 2 0) (k + 1)) := ⟨by
        rw [enc_more bs m k (HM3.out hpos) (by have := HM.out; omega), ← hch, enc_chunk ch (by rw [HCL.out]; omega) (by rw [HCL.out]; omega) HCS.out, HCL.out]⟩
      have hx := HCS.out.getD (by decide) 0
      have hy := HCS.out.getD (by decide) 1
      have hz := HCS.out.getD (by decide) 2
      have hcopy := copy_three (W := wr.alloc (.cells #[.int .u8 0, .int .u8 0, .int .u8 0] 41)) (g := wr.heap.size) (sb := sb) (so := so + m) (r := r) (cap := cp) (k := k) (ch := ch) (alloc_new _ _ _ rfl) HCL.out hk (fun i hi => by
        have h5 := H5.out (m + i) (by have := HM.out; omega)
        have hlt := block_lt_of_cell h5
        have hb : Below w.heap.size w (wr.alloc (.cells #[.int .u8 0, .int .u8 0, .int .u8 0] 41)) := HR.out.b.alloc HR.out.b.size _
        rw [hb.cell (p := ⟨sb, so + m + i, none⟩) hlt, Nat.add_assoc, h5, hch]
        simp [List.getD, List.getElem?_drop, hi])
      generalize ch.getD 0 0 = x at *
      generalize ch.getD 1 0 = y at *
      generalize ch.getD 2 0 = z at *
      have HW2 : Sl ((((wr.alloc (.cells #[.int .u8 0, .int .u8 0, .int .u8 0] 41)).setRow wr.heap.size (u8s [x, y, z]).toArray).heap[wr.heap.size]? = some (.cells (u8s [x, y, z]).toArray 41 (0, 0)))) := ⟨setRow_heap _ _ _ _ _ _ (alloc_new _ _ _ rfl)⟩
      have HB2 : Sl (Below wr.heap.size wr ((wr.alloc (.cells #[.int .u8 0, .int .u8 0, .int .u8 0] 41)).setRow wr.heap.size (u8s [x, y, z]).toArray)) := ⟨below_setRow ((Below.refl _ _).alloc (Nat.le_refl _) _) (Nat.le_refl _) _⟩
      have HI41 : Sl ((Tryd.prog.info? 41).map (·.size) = some (u8s [x, y, z]).toArray.size) := ⟨by
        have : (Tryd.prog.info? 41).map (·.size) = some 3 := by kernel_rfl
        simpa using this⟩
      obtain ⟨a2, ha2, hsr⟩ := slice_rest sb (so + m) r cp k hks.2.1 hr
      have HA2 := Sl.mk ha2
      clear ha2 hch
      have HK := Sl.mk hk
      clear hk
      go_wp2_with (first | (refine wpList_load_row rfl 41 (.tmp 4) rfl wr.heap.size rfl 41 _ (0, 0) (.array 3 5) HW2.out Tryd.underlying41 rfl HI41.out ?_) | fail)
      refine (group_src x y z k _ hx hy hz hks.1 hks.2.2 (HG.out.below (HR.out.b.trans (HB2.out.mono HR.out.b.size)) HG.out.size)).mono ?_
      rintro e w3 ⟨f, HF, rfl, HB3⟩
      have HLT3 : Sl (wr.heap.size < w3.heap.size) := ⟨by have := HB3.out.size; rw [setRow_size, alloc_size] at this; omega⟩
      have HB23 : Sl (Below wr.heap.size wr w3) := ⟨HB2.out.trans (HB3.out.mono HB2.out.size)⟩
      have HO4 : Sl (((w3.alloc (.cells #[.int .u8 0, .int .u8 0, .int .u8 0, .int .u8 0] 42)).setRow w3.heap.size (u8s f).toArray).ownsRow w.heap.size 5 1 u3 (enc (bs.take m)).length (u8s (enc (bs.take m)))) := ⟨own_below (own_below HR.out.o HB23.out) (below_setRow ((Below.refl _ _).alloc (Nat.le_refl _) _) (Nat.le_refl _) _)⟩
      have HB4 : Sl (Below w.heap.size w ((w3.alloc (.cells #[.int .u8 0, .int .u8 0, .int .u8 0, .int .u8 0] 42)).setRow w3.heap.size (u8s f).toArray)) := ⟨by
        have h3 := HR.out.b.trans (HB23.out.mono HR.out.b.size)
        exact below_setRow (h3.alloc h3.size _) h3.size _⟩
      have HR4 : Sl (((w3.alloc (.cells #[.int .u8 0, .int .u8 0, .int .u8 0, .int .u8 0] 42)).setRow w3.heap.size (u8s f).toArray).rangeAt w3.heap.size 0 (u8s f)) := ⟨range_setRow _ _ (alloc_new _ _ _ rfl)⟩
      have HFL : Sl (f.length = 4) := ⟨by rw [HF.out]; exact fourTo_length _ _ _ _⟩
      have HI42 : Sl ((Tryd.prog.info? 42).map (·.size) = some (u8s f).toArray.size) := ⟨by
        have : (Tryd.prog.info? 42).map (·.size) = some 4 := by kernel_rfl
        simpa [HFL.out] using this⟩
      have HO42 : Sl ((u8s [0, 0, 0, 0]).toArray.size = (u8s f).toArray.size) := ⟨by simp [HFL.out]⟩
      clear hcopy HW2 HB2 HB3
      go_wp2_with (first | (refine wpList_store_row rfl 42 (.tmp 6) (.tmp 19) rfl w3.heap.size _ rfl rfl 42 (u8s [0, 0, 0, 0]).toArray (alloc_new _ _ _ rfl) HI42.out HO42.out (all_oneCell_toArray (u8s_one _)) ?_) | (at_builtin; refine wpList_append_own _ rfl (.tmp 20) (.tmp 21) 24 rfl w.heap.size 5 i0 (.int .u8 0) 1 1 Tryd.underlying24 HI.out HZ0.out HZ1.out HZ2.out rfl (by decide) _ (enc (bs.take m)).length _ rfl HO4.out ⟨w3.heap.size, 0, none⟩ 4 4 (u8s f) rfl ?c0 ?c1 ?c2 ?c3 ?c4 ?c5 ?_))
      case c0 => rw [u8s_length, HFL.out]
      case c1 => intro j u hu; rw [Addr.add_mid]; exact HR4.out j u hu
      case c2 => exact u8s_one f
      case c3 => rw [enc_length, List.length_take]; unfold maxLen; omega
      case c4 => rw [enc_length, List.length_take]; omega
      case c5 => exact HB4.out.size
      intro v' w5 hown' hgrow _
      have HP5 : Sl (PR w bs (m + k) v' w5) := ⟨⟨by
        rw [HEN.out, ← HF.out, u8s_append, List.length_append, HFL.out]; exact hown', below_grown HB4.out HO4.out hgrow HB4.out.size⟩⟩
      clear hown' hgrow HR HO4 HB4 HR4 HB23 HLT3
      go_wp2
      go_roundw
      case rel => exact ⟨m + k, r - k, cp - k, some a2, by have := HM.out; omega, rfl, by omega, fun h => by rw [HA2.out (by omega), Nat.add_assoc], fun h => by have h3 := HM3.out hpos; have hk := HK.out; omega, HP5.out⟩
      case measure => simp [lenOf]; omega
    · have hr0 : (r : Int) ≤ 0 := by omega
      have HF : Sl (PR w bs bs.length u3 wr) := ⟨by
        have hm := HM.out
        have e : m = bs.length := by omega
        rw [← e]; exact HR.out⟩
      have HO : Sl (wr.ownsRow w.heap.size 5 1 u3 (enc bs).length (u8s (enc bs))) := ⟨by have := HF.out.o; rw [List.take_length] at this; exact this⟩
      have hcv := conv_own HO.out
      clear HR HA
      go_wp2
      go_ret
      exact ⟨rfl, HF.out.b⟩
end Go.Proofs.YtdcgddoginaioaaDoor
