/- The contract of Put of package base: the letters of the bytes; nothing that was in memory changes. Conditions: the table of letters is as the text lays it; at most 100000 bytes. -/
import Derived.Test.YthlagngpllahkaaGreatDoorBaA
import Derived.WalkSmall
set_option maxRecDepth 100000
namespace Go.Proofs.YthlagngpllahkaaGreatDoor.Bas
open Go.RowKit

theorem info5 : (Tryz.prog.info? 5).map (fun i => (i.zero, i.size, i.bytes)) = some (some (.int .u8 0), 1, 1) := by kernel_rfl

/-- The bytes bs lie behind the slice v. -/
def SrcAt (w : World) (v : Value) (bs : List Nat) : Prop :=
  ∃ (a : Option Addr) (cap sb so : Nat), v = .slice a bs.length cap ∧ bs.length ≤ cap ∧ (0 < bs.length → a = some ⟨sb, so, none⟩) ∧
    ∀ i, i < bs.length → w.cell? ⟨sb, so + i, none⟩ = some (.int .u8 ((bs.getD i 0 : Nat) : Int))

theorem enc_chunk (l : List Nat) (h1 : 1 ≤ l.length) (h3 : l.length ≤ 3) (hs : Small 256 l) : enc l = fourTo (l.getD 0 0) (l.getD 1 0) (l.getD 2 0) (l.length + 1) := by
  match l, h1, h3 with
  | [a], _, _ =>
    have ha := hs a (by simp)
    show [_, _, _, _] = [let4 a 0 0 0, let4 a 0 0 1, 61, 61]
    unfold let4 tri
    simp only [List.cons.injEq, and_true]
    exact ⟨by congr 1; omega, by congr 1; omega⟩
  | [a, b], _, _ =>
    have ha := hs a (by simp)
    have hb := hs b (by simp)
    show [_, _, _, _] = [let4 a b 0 0, let4 a b 0 1, let4 a b 0 2, 61]
    unfold let4 tri
    simp only [List.cons.injEq, and_true]
    exact ⟨by congr 1; omega, by congr 1; omega, by congr 1; omega⟩
  | [a, b, c], _, _ =>
    have ha := hs a (by simp)
    have hb := hs b (by simp)
    have hc := hs c (by simp)
    show [_, _, _, _] = [let4 a b c 0, let4 a b c 1, let4 a b c 2, let4 a b c 3]
    unfold let4 tri
    simp only [List.cons.injEq, and_true]
    exact ⟨by congr 1; omega, by congr 1; omega, by congr 1; omega, by congr 1; omega⟩

theorem enc_more (bs : List Nat) (m k : Nat) (hm : m % 3 = 0) (hk : m + k ≤ bs.length) : enc (bs.take (m + k)) = enc (bs.take m) ++ enc ((bs.drop m).take k) := by
  rw [List.take_add, enc_append _ _ (by rw [List.length_take, Nat.min_eq_left (by omega)]; exact hm)]

theorem slice_rest (sb o r cp c : Nat) (hc : c ≤ r) (hr : r ≤ cp) : ∃ a : Addr, (c < r → a = ⟨sb, o + c, none⟩) ∧ ∀ w,
    (Instr.slice 53 (.slice (some ⟨sb, o, none⟩) r cp) (some (.int .i64 (c : Int))) none none).run Tryz.prog w = .ok (.slice (some a) (r - c) (cp - c)) w := by
  refine ⟨if cp = c then ⟨sb, o, none⟩ else ⟨sb, o + c, none⟩, fun h => by rw [if_neg (by omega)], fun w => ?_⟩
  have hz : (sizeOf (Tryz.prog.elem 53)).run Tryz.prog w = .ok 1 w := by kernel_rfl
  rw [run_slice_l w 53 (some ⟨sb, o, none⟩) r cp (by kernel_rfl) .i64 (c : Int) (by omega) (by omega), hz]
  simp [Result.andThen, sliced, Addr.add_mid]
  by_cases h : cp = c
  · simp [h]
  · simp [h]

/-- Copy of at most three bytes into a new array. -/
theorem group_src (a b c n : Nat) (w : World) (ha : a < 256) (hb : b < 256) (hc : c < 256) (h1 : 1 ≤ n) (hn : n ≤ 3) (hg : Globs w) :
    Calls Tryz.prog 86 #[.agg (u8s [a, b, c]).toArray, .int .i64 n] w fun e w' => ∃ f, Sl (f = fourTo a b c (n + 1)) ∧ e = .returned (.agg (u8s f).toArray) ∧ Sl (Below w.heap.size w w') :=
  (group_any a b c n w ha hb hc h1 hn hg).mono fun _ _ ⟨he, hb⟩ => ⟨_, ⟨rfl⟩, he, ⟨hb⟩⟩
theorem copy_three {W : World} {g sb so r cap k : Nat} {ch : List Nat} (hg : W.heap[g]? = some (.cells (u8s [0, 0, 0]).toArray 103 (0, 0))) (hlen : ch.length = k) (hk : k = min r 3)
    (hsrc : ∀ i, i < k → W.cell? ⟨sb, so + i, none⟩ = some (.int .u8 ((ch.getD i 0 : Nat) : Int))) :
    (Builtin.copy_ #[53, 53] 3 #[.slice (some ⟨g, 0, none⟩) 3 3, .slice (some ⟨sb, so, none⟩) r cap]).run Tryz.prog W =
      .ok (.int .i64 (k : Int)) (W.setRow g (u8s [ch.getD 0 0, ch.getD 1 0, ch.getD 2 0]).toArray) := by
  subst hlen
  have h := run_copy_row (P := Tryz.prog) W 53 53 3 5 g 0 3 3 ⟨sb, so, none⟩ r cap (u8s [0, 0, 0]).toArray 103 (u8s ch) Tryz.underlying53 (by kernel_rfl) hg
    (by rw [u8s_length, hk])
    (fun j v hv => by
      have hj : j < ch.length := by simpa using (List.getElem?_eq_some_iff.1 hv).1
      rw [Addr.add_mid, hsrc j hj, ← hv, u8s_get ch j hj])
    (by simp; omega) (u8s_one ch)
  rw [h, u8s_length]
  have e : (List.take 0 (u8s [0, 0, 0]).toArray.toList ++ u8s ch ++ List.drop (0 + ch.length) (u8s [0, 0, 0]).toArray.toList) = u8s [ch.getD 0 0, ch.getD 1 0, ch.getD 2 0] := by
    have h3 : ch.length ≤ 3 := by omega
    match ch, h3 with
    | [], _ => rfl
    | [_], _ => rfl
    | [_, _], _ => rfl
    | [_, _, _], _ => rfl
  rw [e]; rfl

theorem grown_below {w w' : World} (h : Below w.heap.size w w') (r : Option Nat) : w.grownBy w' r := ⟨h.os, h.tape, h.output, h.size, fun k hk _ => h.block k hk⟩
theorem own_below {w w' : World} {base : Nat} {e : TypeId} {size : Nat} {v : Value} {n : Nat} {xs : List Value} (h : w.ownsRow base e size v n xs) (hb : Below w.heap.size w w') : w'.ownsRow base e size v n xs :=
  h.kept (grown_below hb none) (by cases h2 : v.ownBlock with | none => exact .inl rfl | some k => exact .inr (fun e => by cases e))
theorem below_grown {base : Nat} {w0 W w' : World} {v : Value} {e : TypeId} {n : Nat} {xs : List Value} (hb : Below base w0 W) (hown : W.ownsRow base e 1 v n xs) (hg : W.grownBy w' v.ownBlock) (hbase : base ≤ W.heap.size) : Below base w0 w' :=
  hb.grown hg hbase (fun k hk => (hown.lt k hk).1)
theorem range_setRow (w : World) {g : Nat} {old : Array Value} {t : TypeId} {fr : Nat × Nat} (l : List Value) (h : w.heap[g]? = some (.cells old t fr)) : (w.setRow g l.toArray).rangeAt g 0 l := fun j v hv => by
  rw [Nat.zero_add, cell_of_row _ _ _ _ _ _ (setRow_heap _ _ _ _ _ _ h)]
  simpa using hv
/-- The string of a row of bytes. -/
theorem conv_own {W : World} {base : Nat} {v : Value} {l : List Nat} (h : W.ownsRow base 5 1 v l.length (u8s l)) : (convert 53 9 v).run Tryz.prog W = .ok (.string (strOfNums (l.map fun (n : Nat) => (n : Int)))) W := by
  obtain ⟨h1, h2⟩ := h
  rcases h2 with ⟨rfl, h2⟩ | ⟨g, cap, cur, rfl, hg, hh, hn, hm, hs, ht⟩
  · obtain rfl : l = [] := List.length_eq_zero_iff.1 h2
    kernel_rfl
  · refine run_convert_bytes_arg _ 53 5 Tryz.underlying53 Tryz.underlying5 g 0 l.length cap (l.map fun (n : Nat) => (n : Int)) (by simp) (fun i hi => ?_) 9 Tryz.underlying9
    have hi' : i < l.length := by simpa using hi
    rw [Nat.zero_add, cell_of_row _ _ _ _ _ _ hh]
    have e : cur.toList[i]? = (u8s l)[i]? := by rw [← ht]; simp [hi']
    rw [Array.getElem?_toList] at e
    rw [e, u8s_get l i hi']
    simp [List.getD, List.getElem?_eq_getElem hi']

def lenOf : Value → Nat
  | .slice _ n _ => n
  | _ => 0
/-- What the loop of Put holds to. -/
structure PR (w : World) (bs : List Nat) (m : Nat) (v : Value) (wr : World) : Prop where
  o : wr.ownsRow w.heap.size 5 1 v (enc (bs.take m)).length (u8s (enc (bs.take m)))
  b : Below w.heap.size w wr

/-- Bytes as a string. -/
def strOf (l : List Nat) : ByteArray := strOfNums (l.map fun (n : Nat) => (n : Int))

set_option maxHeartbeats 1000000 in
theorem put_any (bs : List Nat) (v : Value) (w : World) (hv : SrcAt w v bs) (hsm : Small 256 bs) (hg : Globs w) (hL : bs.length ≤ 100000) :
    Calls Tryz.prog 46 #[v] w fun e w' => e = .returned (.string (strOf (enc bs))) ∧ Below w.heap.size w w' := by
  obtain ⟨i0, hi, hz0, hz1, hz2⟩ := info_parts info5
  obtain ⟨a, cap, sb, so, rfl, h1, h3, h5⟩ := hv
  have SM := Sl.mk hsm
  have HG := Sl.mk hg
  have H3 := Sl.mk h3
  have H5 := Sl.mk h5
  have H1 := Sl.mk h1
  have HI := Sl.mk hi
  have HZ0 := Sl.mk hz0
  have HZ1 := Sl.mk hz1
  have HZ2 := Sl.mk hz2
  obtain ⟨C, hC⟩ : ∃ C : Nat, C = 4 * ((bs.length + 2) / 3) := ⟨_, rfl⟩
  have HLT : Sl (∀ W, Calls Tryz.prog 85 #[.int .i64 (bs.length : Int)] W fun e w' => e = .returned (.int .i64 (C : Int)) ∧ W = w') := ⟨fun W => by rw [hC]; exact letters_any bs.length W (by omega)⟩
  have hC2 : C ≤ 200000 := by omega
  clear hC
  obtain ⟨w1, hmk, HOW, HGR⟩ := run_make_own (P := Tryz.prog) (w := w) w.heap.size 53 5 i0 (.int .u8 0) 1 Tryz.underlying53 hi hz0 hz1 .i64 .i64 C (by rw [hz2]; omega) (by unfold maxLen; omega) (Nat.le_refl _)
  have HPR : Sl (PR w bs 0 (.slice (some ⟨w.heap.size, 0, none⟩) 0 C) w1) := ⟨⟨HOW, (Below.refl _ _).grown HGR (Nat.le_refl _) (fun k hk => by cases hk)⟩⟩
  clear hsm hg h1 h3 h5 hi hz0 hz1 hz2 HOW HGR
  go_enter Tryz.func46, Tryz.ntmps46
  go_wp2_with fail
  refine (HLT.out _).mono ?_
  rintro e w0 ⟨rfl, rfl⟩
  go_wp2
  clear hmk
  go_loopw [0, 3] (fun v u wr => ∃ (m r cp : Nat) (a : Option Addr), bs.length = m + r ∧ v = .slice a r cp ∧ r ≤ cp ∧ (0 < r → a = some ⟨sb, so + m, none⟩) ∧ (0 < r → m % 3 = 0) ∧ PR w bs m u wr) (fun v _ _ => lenOf v)
  case atStart => exact ⟨0, bs.length, cap, a, by omega, rfl, H1.out, fun h => by simpa using H3.out h, fun _ => rfl, HPR.out⟩
  case round =>
    clear HPR
    obtain ⟨m, r, cp, a', hm, rfl, hr, ha, hm3, hrel⟩ := hrel
    have HR := Sl.mk hrel
    have HM := Sl.mk hm
    have HA := Sl.mk ha
    have HM3 := Sl.mk hm3
    clear hm hrel ha hm3
    by_cases hpos : 0 < r
    · obtain rfl := HA.out hpos
      clear HA
      obtain ⟨k, hk⟩ : ∃ k, k = min r 3 := ⟨_, rfl⟩
      obtain ⟨ch, hch⟩ : ∃ ch, ch = (bs.drop m).take k := ⟨_, rfl⟩
      have HCH := Sl.mk hch
      have hks : 1 ≤ k ∧ k ≤ r ∧ k ≤ 3 := by omega
      have HCL : Sl (ch.length = k) := ⟨by rw [hch]; have := HM.out; simp; omega⟩
      have HCS : Sl (Small 256 ch) := ⟨by rw [hch]; exact (SM.out.drop m).take k⟩
      have HEN : Sl (enc (bs.take (m + k)) = enc (bs.take m) ++ fourTo (ch.getD 0 0) (ch.getD 1 0) (ch.getD 2 0) (k + 1)) := ⟨by
        rw [enc_more bs m k (HM3.out hpos) (by have := HM.out; omega), ← hch, enc_chunk ch (by rw [HCL.out]; omega) (by rw [HCL.out]; omega) HCS.out, HCL.out]⟩
      have hx := HCS.out.getD (by decide) 0
      have hy := HCS.out.getD (by decide) 1
      have hz := HCS.out.getD (by decide) 2
      have hcopy := copy_three (W := wr.alloc (.cells #[.int .u8 0, .int .u8 0, .int .u8 0] 103)) (g := wr.heap.size) (sb := sb) (so := so + m) (r := r) (cap := cp) (k := k) (ch := ch) (alloc_new _ _ _ rfl) HCL.out hk (fun i hi => by
        have h5 := H5.out (m + i) (by have := HM.out; omega)
        have hlt := block_lt_of_cell h5
        have hb : Below w.heap.size w (wr.alloc (.cells #[.int .u8 0, .int .u8 0, .int .u8 0] 103)) := HR.out.b.alloc HR.out.b.size _
        rw [hb.cell (p := ⟨sb, so + m + i, none⟩) hlt, Nat.add_assoc, h5, hch]
        simp [List.getD, List.getElem?_drop, hi])
      generalize ch.getD 0 0 = x at *
      generalize ch.getD 1 0 = y at *
      generalize ch.getD 2 0 = z at *
      have HW2 : Sl ((((wr.alloc (.cells #[.int .u8 0, .int .u8 0, .int .u8 0] 103)).setRow wr.heap.size (u8s [x, y, z]).toArray).heap[wr.heap.size]? = some (.cells (u8s [x, y, z]).toArray 103 (0, 0)))) := ⟨setRow_heap _ _ _ _ _ _ (alloc_new _ _ _ rfl)⟩
      have HB2 : Sl (Below wr.heap.size wr ((wr.alloc (.cells #[.int .u8 0, .int .u8 0, .int .u8 0] 103)).setRow wr.heap.size (u8s [x, y, z]).toArray)) := ⟨below_setRow ((Below.refl _ _).alloc (Nat.le_refl _) _) (Nat.le_refl _) _⟩
      have HI41 : Sl ((Tryz.prog.info? 103).map (·.size) = some (u8s [x, y, z]).toArray.size) := ⟨by
        have : (Tryz.prog.info? 103).map (·.size) = some 3 := by kernel_rfl
        simpa using this⟩
      obtain ⟨a2, ha2, hsr⟩ := slice_rest sb (so + m) r cp k hks.2.1 hr
      have HA2 := Sl.mk ha2
      clear ha2 hch
      have HK := Sl.mk hk
      clear hk
      go_wp2_with (first | (refine wpList_load_row rfl 103 (.tmp 4) rfl wr.heap.size rfl 103 _ (0, 0) (.array 3 5) HW2.out Tryz.underlying103 rfl HI41.out ?_) | fail)
      refine (group_src x y z k _ hx hy hz hks.1 hks.2.2 (HG.out.below (HR.out.b.trans (HB2.out.mono HR.out.b.size)) HG.out.size)).mono ?_
      rintro e w3 ⟨f, HF, rfl, HB3⟩
      have HLT3 : Sl (wr.heap.size < w3.heap.size) := ⟨by have := HB3.out.size; rw [setRow_size, alloc_size] at this; omega⟩
      have HB23 : Sl (Below wr.heap.size wr w3) := ⟨HB2.out.trans (HB3.out.mono HB2.out.size)⟩
      have HO4 : Sl (((w3.alloc (.cells #[.int .u8 0, .int .u8 0, .int .u8 0, .int .u8 0] 104)).setRow w3.heap.size (u8s f).toArray).ownsRow w.heap.size 5 1 u3 (enc (bs.take m)).length (u8s (enc (bs.take m)))) := ⟨own_below (own_below HR.out.o HB23.out) (below_setRow ((Below.refl _ _).alloc (Nat.le_refl _) _) (Nat.le_refl _) _)⟩
      have HB4 : Sl (Below w.heap.size w ((w3.alloc (.cells #[.int .u8 0, .int .u8 0, .int .u8 0, .int .u8 0] 104)).setRow w3.heap.size (u8s f).toArray)) := ⟨by
        have h3 := HR.out.b.trans (HB23.out.mono HR.out.b.size)
        exact below_setRow (h3.alloc h3.size _) h3.size _⟩
      have HR4 : Sl (((w3.alloc (.cells #[.int .u8 0, .int .u8 0, .int .u8 0, .int .u8 0] 104)).setRow w3.heap.size (u8s f).toArray).rangeAt w3.heap.size 0 (u8s f)) := ⟨range_setRow _ _ (alloc_new _ _ _ rfl)⟩
      have HFL : Sl (f.length = 4) := ⟨by rw [HF.out]; exact fourTo_length _ _ _ _⟩
      have HI42 : Sl ((Tryz.prog.info? 104).map (·.size) = some (u8s f).toArray.size) := ⟨by
        have : (Tryz.prog.info? 104).map (·.size) = some 4 := by kernel_rfl
        simpa [HFL.out] using this⟩
      have HO42 : Sl ((u8s [0, 0, 0, 0]).toArray.size = (u8s f).toArray.size) := ⟨by simp [HFL.out]⟩
      clear hcopy HW2 HB2 HB3
      go_wp2_with (first | (refine wpList_store_row rfl 104 (.tmp 6) (.tmp 19) rfl w3.heap.size _ rfl rfl 104 (u8s [0, 0, 0, 0]).toArray (alloc_new _ _ _ rfl) HI42.out HO42.out (all_oneCell_toArray (u8s_one _)) ?_) | (at_builtin; refine wpList_append_own _ rfl (.tmp 20) (.tmp 21) 53 rfl w.heap.size 5 i0 (.int .u8 0) 1 1 Tryz.underlying53 HI.out HZ0.out HZ1.out HZ2.out rfl (by decide) _ (enc (bs.take m)).length _ rfl HO4.out ⟨w3.heap.size, 0, none⟩ 4 4 (u8s f) rfl ?c0 ?c1 ?c2 ?c3 ?c4 ?c5 ?_))
      case c0 => rw [u8s_length, HFL.out]
      case c1 => intro j u hu; rw [Addr.add_mid]; exact HR4.out j u hu
      case c2 => exact u8s_one f
      case c3 => rw [enc_length, List.length_take]; unfold maxLen; omega
      case c4 => rw [enc_length, List.length_take]; omega
      case c5 => exact HB4.out.size
      intro v' w5 hown' hgrow _
      have HP5 : Sl (PR w bs (m + k) v' w5) := ⟨⟨by
        rw [HEN.out, ← HF.out, u8s_append, List.length_append, HFL.out]; exact hown', below_grown HB4.out HO4.out hgrow HB4.out.size⟩⟩
      clear hown' hgrow HR HO4 HB4 HR4 HB23 HLT3
      go_wp2
      go_roundw
      case rel => exact ⟨m + k, r - k, cp - k, some a2, by have := HM.out; omega, rfl, by omega, fun h => by rw [HA2.out (by omega), Nat.add_assoc], fun h => by have h3 := HM3.out hpos; have hk := HK.out; omega, HP5.out⟩
      case measure => simp [lenOf]; omega
    · have hr0 : (r : Int) ≤ 0 := by omega
      have HF : Sl (PR w bs bs.length u3 wr) := ⟨by
        have hm := HM.out
        have e : m = bs.length := by omega
        rw [← e]; exact HR.out⟩
      have HO : Sl (wr.ownsRow w.heap.size 5 1 u3 (enc bs).length (u8s (enc bs))) := ⟨by have := HF.out.o; rw [List.take_length] at this; exact this⟩
      have hcv := conv_own HO.out
      clear HR HA
      go_wp2
      go_ret
      exact ⟨rfl, HF.out.b⟩
end Go.Proofs.YthlagngpllahkaaGreatDoor.Bas
/- The contract of read of package base, over whatever the closure keeps: letters that are bytes' tell these bytes one by one and answer true, others answer false. Conditions: at most 100000 letters. -/
namespace Go.Proofs.YthlagngpllahkaaGreatDoor.Bas
open Go.RowKit

/-- What the closure that is told bytes keeps. -/
structure Tells (fid C B : Nat) (I : List Nat → World → Prop) : Prop where
  call : ∀ (acc : List Nat) (b : Nat) (W : World), I acc W → b < 256 → acc.length ≤ 200000 → Calls Tryz.prog fid #[.int .u8 (b : Int), .pointer (some ⟨C, 0, none⟩)] W fun e (w' : World) =>
    e = .returned (.tuple #[]) ∧ I (acc ++ [b]) w' ∧ ∀ (k : Nat) (s : ByteArray) (p : Nat), W.heap[k]? = some (.stringIter s p) → w'.heap[k]? = some (.stringIter s p)
  alloc : ∀ (acc : List Nat) (W : World) (s : ByteArray) (p : Nat), I acc W → I acc (W.iter s p)
  iter : ∀ (acc : List Nat) (W : World) (k : Nat) (s : ByteArray) (p p' : Nat), I acc W → W.heap[k]? = some (.stringIter s p) → B ≤ k → I acc (W.iterAt k s p')
  base : ∀ (acc : List Nat) (W : World), I acc W → B ≤ W.heap.size
  enter : ∀ (args : Array Value) (W : World), (callFunc fid args).run Tryz.prog W = .ok (.enter fid args) W
theorem Tells.callX {fid C B : Nat} {I : List Nat → World → Prop} (h : Tells fid C B I) (acc : List Nat) (b : Nat) (W : World) (it : Nat) (t : ByteArray) (p : Nat) (hI : I acc W) (hb : b < 256) (hl : acc.length ≤ 200000) (hk : W.heap[it]? = some (.stringIter t p)) :
    Calls Tryz.prog fid #[.int .u8 (b : Int), .pointer (some ⟨C, 0, none⟩)] W fun e w' => e = .returned (.tuple #[]) ∧ Sl (I (acc ++ [b]) w') ∧ Sl (w'.heap[it]? = some (.stringIter t p)) :=
  (h.call acc b W hI hb hl).mono fun _ _ ⟨he, h1, h2⟩ => ⟨he, ⟨h1⟩, ⟨h2 _ _ _ hk⟩⟩

/-- What is answered in the end. -/
def fin : Option (Nat × Nat × List Nat) → Option (List Nat)
  | none => none
  | some (b, _, out) => if b = 0 then some out else none
theorem rd_fin (s : List Nat) : rd s = if s.length % 4 = 0 then fin (rdGo (trim1 (trim1 s)) (0, 0, [])) else none := by
  unfold rd fin; split
  · cases rdGo (trim1 (trim1 s)) (0, 0, []) with
    | none => rfl
    | some x => rfl
  · rfl
theorem rdGo_append (l m : List Nat) (s : Nat × Nat × List Nat) : rdGo (l ++ m) s = (rdGo l s).bind (rdGo m) := by
  induction l generalizing s with
  | nil => rfl
  | cons c l ih =>
    simp only [List.cons_append, rdGo]
    cases num c with
    | none => rfl
    | some n => exact ih _
theorem rdGo_snoc {l : List Nat} {c n : Nat} {s t : Nat × Nat × List Nat} (h : rdGo l s = some t) (hc : num c = some n) : rdGo (l ++ [c]) s = some (step t n) := by
  rw [rdGo_append, h]; simp [rdGo, hc]
theorem rdGo_bad {l m : List Nat} {c : Nat} (s : Nat × Nat × List Nat) (hc : num c = none) : rdGo (l ++ c :: m) s = none := by
  rw [rdGo_append]
  cases rdGo l s with
  | none => rfl
  | some t => simp [rdGo, hc]
theorem num_high {c : Nat} (h : 123 ≤ c) : num c = none := by
  unfold num
  rw [if_neg (by omega), if_neg (by omega), if_neg (by omega), if_neg (by omega), if_neg (by omega)]
theorem take_snoc (t : ByteArray) (pos : Nat) (h : pos < t.size) : (bytes t).take (pos + 1) = (bytes t).take pos ++ [(t[pos]'h).toNat] := by
  rw [List.take_succ_eq_append_getElem (by rw [bytes_length]; exact h)]
  congr 2
  simp [bytes]; rfl
theorem split_at (t : ByteArray) (pos : Nat) (h : pos < t.size) : bytes t = (bytes t).take pos ++ (t[pos]'h).toNat :: (bytes t).drop (pos + 1) := by
  conv => lhs; rw [← List.take_append_drop (pos + 1) (bytes t), take_snoc t pos h]
  simp

theorem or6 (b n : Nat) (hb : b < 64) (hn : n < 64) : bits BinOp.or IntKind.u32 ((b : Int) * 64) (n : Int) = ((b * 64 + n : Nat) : Int) := by
  have e1 : ((b : Int) * 64) = ((b * 64 : Nat) : Int) := by simp
  rw [e1, u32_or_nat _ _ (by omega) (by omega)]
  have := Nat.two_pow_add_eq_or_of_lt (i := 6) (b := n) (by omega) b
  rw [show (2 : Nat) ^ 6 = 64 from rfl, Nat.mul_comm] at this
  rw [← this]
theorem and_low (q h : Nat) (hq : q < 4294967296) (hh : h ≤ 4) : bits BinOp.and IntKind.u32 (q : Int) (2 ^ h - 1) = ((q % 2 ^ h : Nat) : Int) := by
  have hp : (2 : Nat) ^ h - 1 < 4294967296 := by
    have : (2 : Nat) ^ h ≤ 2 ^ 4 := Nat.pow_le_pow_right (by decide) hh
    omega
  have e : ((2 : Int) ^ h - 1) = ((2 ^ h - 1 : Nat) : Int) := by
    have : 1 ≤ (2 : Nat) ^ h := Nat.one_le_two_pow
    rw [Int.natCast_sub this]; simp
  rw [e, u32_and_nat _ _ hq hp, Nat.and_two_pow_sub_one_eq_mod]

theorem number_yes (c n : Nat) (w : World) (h : c ≤ 2147483647) (hn : num c = some n) : Calls Tryz.prog 172 #[.int .i32 (c : Int)] w fun e w' => e = .returned (.tuple #[.int .u32 (n : Int), .bool true]) ∧ w = w' :=
  (number_any c w h).mono fun _ _ ⟨he, hw⟩ => ⟨by rw [he]; unfold numV; rw [hn]; rfl, hw⟩
theorem number_no (c : Nat) (w : World) (h : c ≤ 2147483647) (hn : num c = none) : Calls Tryz.prog 172 #[.int .i32 (c : Int)] w fun e w' => e = .returned (.tuple #[.int .u32 0, .bool false]) ∧ w = w' :=
  (number_any c w h).mono fun _ _ ⟨he, hw⟩ => ⟨by rw [he]; unfold numV; rw [hn]; rfl, hw⟩
theorem and_15 (q : Nat) (hq : q < 4294967296) : bits BinOp.and IntKind.u32 (q : Int) 15 = ((q % 16 : Nat) : Int) := and_low q 4 hq (by decide)
theorem and_3 (q : Nat) (hq : q < 4294967296) : bits BinOp.and IntKind.u32 (q : Int) 3 = ((q % 4 : Nat) : Int) := and_low q 2 hq (by decide)
theorem and_0 (q : Nat) (hq : q < 4294967296) : bits BinOp.and IntKind.u32 (q : Int) 0 = ((0 : Nat) : Int) := by
  have := and_low q 0 hq (by decide)
  rw [Nat.pow_zero, Nat.mod_one] at this; exact this

/-- What the loop of read holds to. -/
structure RR (I : List Nat → World → Prop) (it : Nat) (t : ByteArray) (pos b h : Nat) (acc : List Nat) (wr : World) : Prop where
  i : I acc wr
  k : wr.heap[it]? = some (.stringIter t pos)
  r : rdGo ((bytes t).take pos) (0, 0, []) = some (b, h, acc)
  n : acc.length ≤ pos
/-- How many bits are held, and that they are so many. -/
def Held (b h : Nat) : Prop := (h = 0 ∧ b < 1) ∨ (h = 2 ∧ b < 4) ∨ (h = 4 ∧ b < 16) ∨ (h = 6 ∧ b < 64)

theorem RR.next {I : List Nat → World → Prop} {it : Nat} {t : ByteArray} {pos b h n : Nat} {acc : List Nat} {wr w' : World} (hr : RR I it t pos b h acc wr) (hp : pos < t.size) (hn : num (t[pos]'hp).toNat = some n) {b' h' : Nat} {acc' : List Nat}
    (hs : step (b, h, acc) n = (b', h', acc')) (hi : I acc' w') (hk : w'.heap[it]? = some (.stringIter t (pos + 1))) (hl : acc'.length ≤ acc.length + 1) : RR I it t (pos + 1) b' h' acc' w' :=
  ⟨hi, hk, by rw [take_snoc t pos hp, rdGo_snoc hr.r hn, hs], by have := hr.n; omega⟩

set_option maxHeartbeats 2000000 in
theorem read_any (fid C B : Nat) (I : List Nat → World → Prop) (hT : Tells fid C B I) (s : ByteArray) (w : World) (hI : I [] w) (hs : s.size ≤ 100000) :
    Calls Tryz.prog 149 #[.string s, .func (.func fid) #[] #[.pointer (some ⟨C, 0, none⟩)]] w fun e w' => e = .returned (.bool (rd (bytes s)).isSome) ∧ ∃ acc, I acc w' ∧ ∀ b, rd (bytes s) = some b → acc = b := by
  by_cases h4 : s.size % 4 = 0
  · have hrd : rd (bytes s) = fin (rdGo (bytes (trimS (trimS s))) (0, 0, [])) := by
      rw [rd_fin, bytes_length, if_pos h4, bytes_trimS, bytes_trimS]
    have htl : (trimS (trimS s)).size ≤ 100000 := Nat.le_trans (size_trimS _) (Nat.le_trans (size_trimS _) hs)
    have HRD := Sl.mk hrd
    clear hrd
    have HT := Sl.mk hT
    have HI := Sl.mk hI
    clear hT hI
    have h4' : ((s.size : Int) % 4 != 0) = false := by simp; omega
    have HB : Sl (B ≤ w.heap.size) := ⟨HT.out.base _ _ HI.out⟩
    go_enter Tryz.func149, Tryz.ntmps149
    go_wp2_with fail
    refine (trim_any s _ (by omega)).mono ?_
    rintro e w' ⟨rfl, rfl⟩
    go_wp2_with fail
    refine (trim_any (trimS s) _ (by have := size_trimS s; omega)).mono ?_
    rintro e w' ⟨rfl, rfl⟩
    generalize trimS (trimS s) = t at *
    go_wp2
    go_loopw [5, 6] (fun u v wr => ∃ (pos b h : Nat) (acc : List Nat), pos ≤ t.size ∧ u = .int .u32 b ∧ v = .int .i64 h ∧ Held b h ∧ RR I w.heap.size t pos b h acc wr) (fun _ _ wr => t.size - wr.iterPos w.heap.size)
    case atStart => exact ⟨0, 0, 0, [], Nat.zero_le _, rfl, rfl, .inl ⟨rfl, by decide⟩, ⟨HT.out.alloc _ _ _ _ HI.out, World.iter_heap _ _ _, rfl, Nat.le_refl _⟩⟩
    case round =>
      obtain ⟨pos, b, h, acc, hpos, rfl, rfl, hh, hrel⟩ := hrel
      have HR := Sl.mk hrel
      have HH := Sl.mk hh
      have HIP : Sl (wr.iterPos w.heap.size = pos) := ⟨iterPos_of hrel.k⟩
      clear hrel hh
      by_cases hp : pos < t.size
      · have hnx := fun ty => Lib.run_next_any_at (P := Tryz.prog) wr w.heap.size t pos ty HR.out.k hp
        have HI1 : ∀ p, Sl (I acc (wr.iterAt w.heap.size t p)) := fun p => ⟨HT.out.iter _ _ _ _ _ _ HR.out.i HR.out.k HB.out⟩
        have HK1 : ∀ p, Sl ((wr.iterAt w.heap.size t p).heap[w.heap.size]? = some (.stringIter t p)) := fun p => ⟨Lib.iterAt_heap _ _ _ _ _ HR.out.k⟩
        cases hnum : num (t[pos]'hp).toNat with
        | none =>
          have HBAD : Sl (rd (bytes s) = none) := ⟨by rw [HRD.out, split_at t pos hp, rdGo_bad _ hnum]; rfl⟩
          have HNO : Sl (num (Utf8.decode t pos).1 = none) := ⟨by
            by_cases ha : (t[pos]'hp).toNat < 128
            · rw [decode_ascii t pos hp ha]; exact hnum
            · exact num_high (by have := (decode_high t pos hp (by omega)).1; omega)⟩
          have HLE : Sl ((Utf8.decode t pos).1 ≤ 2147483647) := ⟨decode_le t pos⟩
          clear hnum
          generalize (Utf8.decode t pos).1 = r at *
          generalize (Utf8.decode t pos).2 = d at *
          have HI2 := HI1 (pos + d)
          clear HI1 HK1
          go_wp2_with fail
          refine (number_no r _ HLE.out HNO.out).mono ?_
          rintro e w2 ⟨rfl, rfl⟩
          go_wp2
          go_ret
          exact ⟨by rw [HBAD.out]; rfl, acc, HI2.out, fun b hb => by rw [HBAD.out] at hb; cases hb⟩
        | some n =>
          have hn := num_some hnum
          have ha : (t[pos]'hp).toNat < 128 := by rw [← hn.2]; exact letter_lt _ hn.1
          have hn64 := hn.1
          rw [decode_ascii t pos hp ha] at hnx
          simp only at hnx
          have HI2 := HI1 (pos + 1)
          have HK2 := HK1 (pos + 1)
          have HNX : ∀ {w' : World} {b' h' : Nat} {acc' : List Nat}, step (b, h, acc) n = (b', h', acc') → I acc' w' → w'.heap[w.heap.size]? = some (.stringIter t (pos + 1)) → acc'.length ≤ acc.length + 1 → RR I w.heap.size t (pos + 1) b' h' acc' w' := fun h1 h2 h3 h4 => HR.out.next hp hnum h1 h2 h3 h4
          have HNX := Sl.mk @HNX
          have HN := Sl.mk hnum
          have HAL : Sl (acc.length ≤ 200000) := ⟨by have := HR.out.n; omega⟩
          clear HI1 HK1 hn
          generalize (t[pos]'hp).toNat = c at *
          clear hnum
          rcases HH.out with ⟨rfl, hb⟩ | ⟨rfl, hb⟩ | ⟨rfl, hb⟩ | ⟨rfl, hb⟩
          · have hor := or6 b n (by omega) hn64
            obtain ⟨x, hx⟩ : ∃ x, x = b * 64 + n := ⟨_, rfl⟩
            rw [← hx] at hor
            have HX := Sl.mk hx
            have hxl : x < 64 := by omega
            clear hx HH
            go_wp2_with fail
            refine (number_yes c n _ (by omega) HN.out).mono ?_
            rintro e w2 ⟨rfl, rfl⟩
            go_wp2
            go_roundw
            case rel => exact ⟨pos + 1, x, 6, acc, by omega, rfl, rfl, .inr (.inr (.inr ⟨rfl, hxl⟩)), HNX.out (by rw [HX.out]; simp [step]) HI2.out HK2.out (by omega)⟩
            case measure => rw [iterPos_of HK2.out, HIP.out]; omega
          · have hor := or6 b n (by omega) hn64
            obtain ⟨x, hx⟩ : ∃ x, x = b * 64 + n := ⟨_, rfl⟩
            rw [← hx] at hor
            have HX := Sl.mk hx
            have hxl : x < 4096 := by omega
            have hxl2 : x < 256 := by omega
            have hand := and_0 x (by omega)
            clear hx HH
            go_wp2_with fail
            refine (number_yes c n _ (by omega) HN.out).mono ?_
            rintro e w2 ⟨rfl, rfl⟩
            have hcf := HT.out.enter
            go_wp2_with fail
            refine (HT.out.callX acc x _ w.heap.size t (pos + 1) HI2.out hxl2 HAL.out HK2.out).mono ?_
            rintro e w3 ⟨rfl, HI3, HK3⟩
            clear HI2 HK2 hcf
            go_wp2
            go_roundw
            case rel => exact ⟨pos + 1, 0, 0, acc ++ [x], by omega, rfl, rfl, .inl ⟨rfl, by decide⟩, HNX.out (by rw [HX.out]; simp [step]; omega) HI3.out HK3.out (by simp)⟩
            case measure => rw [iterPos_of HK3.out, HIP.out]; omega
          · have hor := or6 b n (by omega) hn64
            obtain ⟨x, hx⟩ : ∃ x, x = b * 64 + n := ⟨_, rfl⟩
            rw [← hx] at hor
            have HX := Sl.mk hx
            have hxl : x < 4096 := by omega
            obtain ⟨q, hq⟩ : ∃ q, q = x / 4 := ⟨_, rfl⟩
            have hq' : (x : Int) / 4 = (q : Int) := by omega
            have hql : q < 256 := by omega
            have HQ := Sl.mk hq
            obtain ⟨y, hy⟩ : ∃ y, y = x % 4 := ⟨_, rfl⟩
            have hand := and_3 x (by omega)
            rw [← hy] at hand
            have hyl : y < 4 := by omega
            have HY := Sl.mk hy
            clear hx hq hy HH
            go_wp2_with fail
            refine (number_yes c n _ (by omega) HN.out).mono ?_
            rintro e w2 ⟨rfl, rfl⟩
            have hcf := HT.out.enter
            go_wp2_with fail
            refine (HT.out.callX acc q _ w.heap.size t (pos + 1) HI2.out hql HAL.out HK2.out).mono ?_
            rintro e w3 ⟨rfl, HI3, HK3⟩
            clear HI2 HK2 hcf
            go_wp2
            go_roundw
            case rel => exact ⟨pos + 1, y, 2, acc ++ [q], by omega, rfl, rfl, .inr (.inl ⟨rfl, hyl⟩), HNX.out (by rw [HQ.out, HY.out, HX.out]; simp [step]) HI3.out HK3.out (by simp)⟩
            case measure => rw [iterPos_of HK3.out, HIP.out]; omega
          · have hor := or6 b n (by omega) hn64
            obtain ⟨x, hx⟩ : ∃ x, x = b * 64 + n := ⟨_, rfl⟩
            rw [← hx] at hor
            have HX := Sl.mk hx
            have hxl : x < 4096 := by omega
            obtain ⟨q, hq⟩ : ∃ q, q = x / 16 := ⟨_, rfl⟩
            have hq' : (x : Int) / 16 = (q : Int) := by omega
            have hql : q < 256 := by omega
            have HQ := Sl.mk hq
            obtain ⟨y, hy⟩ : ∃ y, y = x % 16 := ⟨_, rfl⟩
            have hand := and_15 x (by omega)
            rw [← hy] at hand
            have hyl : y < 16 := by omega
            have HY := Sl.mk hy
            clear hx hq hy HH
            go_wp2_with fail
            refine (number_yes c n _ (by omega) HN.out).mono ?_
            rintro e w2 ⟨rfl, rfl⟩
            have hcf := HT.out.enter
            go_wp2_with fail
            refine (HT.out.callX acc q _ w.heap.size t (pos + 1) HI2.out hql HAL.out HK2.out).mono ?_
            rintro e w3 ⟨rfl, HI3, HK3⟩
            clear HI2 HK2 hcf
            go_wp2
            go_roundw
            case rel => exact ⟨pos + 1, y, 4, acc ++ [q], by omega, rfl, rfl, .inr (.inr (.inl ⟨rfl, hyl⟩)), HNX.out (by rw [HQ.out, HY.out, HX.out]; simp [step]) HI3.out HK3.out (by simp)⟩
            case measure => rw [iterPos_of HK3.out, HIP.out]; omega
      · have hnx := fun ty => Lib.run_next_end_at (P := Tryz.prog) wr w.heap.size t pos ty HR.out.k hp
        have HFI : Sl (rd (bytes s) = fin (some (b, h, acc))) := ⟨by
          rw [HRD.out]
          have := HR.out.r
          rw [List.take_of_length_le (by rw [bytes_length]; omega)] at this
          rw [this]⟩
        have HE : Sl (((b : Int) == 0) = (rd (bytes s)).isSome) := ⟨by
          rw [HFI.out]; unfold fin
          by_cases hb : b = 0
          · simp [hb]
          · simp [hb]⟩
        clear HH
        go_wp2
        go_ret
        refine ⟨ret_bool HE.out, acc, HR.out.i, fun b' hb => ?_⟩
        rw [HFI.out] at hb
        unfold fin at hb
        simp only at hb
        split at hb
        · injection hb
        · cases hb
  · have HRD : Sl (rd (bytes s) = none) := ⟨by rw [rd_fin, bytes_length, if_neg h4]⟩
    have HI := Sl.mk hI
    clear hI hT
    have h4' : ((s.size : Int) % 4 != 0) = true := by simp; omega
    go_enter Tryz.func149, Tryz.ntmps149
    go_wp2
    go_ret
    exact ⟨by rw [HRD.out]; rfl, [], HI.out, fun b hb => by rw [HRD.out] at hb; cases hb⟩
end Go.Proofs.YthlagngpllahkaaGreatDoor.Bas
/- The contracts of Get and Has of package base, and of the closures that they hand to read. Conditions: at most 100000 letters. -/
namespace Go.Proofs.YthlagngpllahkaaGreatDoor.Bas
open Go.RowKit

/-- What Get's closure keeps: the bytes so far. -/
structure GetI (w0 : World) (C : Nat) (acc : List Nat) (W : World) : Prop where
  ex : ∃ v, W.heap[C]? = some (.cells #[v] 53 (0, 0)) ∧ W.ownsRow w0.heap.size 5 1 v acc.length (u8s acc)
  b : Below w0.heap.size w0 W
/-- What Has's closure keeps: how many bytes so far. -/
structure HasI (w0 : World) (C : Nat) (acc : List Nat) (W : World) : Prop where
  c : W.heap[C]? = some (.cells #[.int .i64 (acc.length : Int)] 3 (0, 0))
  b : Below w0.heap.size w0 W

set_option maxHeartbeats 400000 in
theorem has1 (w0 : World) (C : Nat) (acc : List Nat) (b : Nat) (W : World) (h : HasI w0 C acc W) (hl : acc.length ≤ 200000) :
    Calls Tryz.prog 150 #[.int .u8 (b : Int), .pointer (some ⟨C, 0, none⟩)] W fun e w' => e = .returned (.tuple #[]) ∧ w' = W.setCell ⟨C, 0, none⟩ (.int .i64 ((acc.length : Int) + 1)) := by
  have hc := cell_of_one h.c
  have hf := free_of_one h.c
  clear h
  go_enter Tryz.func150, Tryz.ntmps150
  go_wp2
  go_end0
  exact ⟨rfl, rfl⟩
theorem iter_setCell {W : World} {C : Nat} {x : Value} {t : TypeId} (v : Value) (hC : W.heap[C]? = some (.cells #[x] t (0, 0))) : ∀ (k : Nat) (s : ByteArray) (p : Nat), W.heap[k]? = some (.stringIter s p) → (W.setCell ⟨C, 0, none⟩ v).heap[k]? = some (.stringIter s p) := fun k s p h => by
  rw [heap_setCell_other _ _ _ _ (fun e => by simp only at e; rw [e, hC] at h; cases h)]; exact h
theorem hasTells (w0 : World) (C : Nat) (hC : w0.heap.size ≤ C) : Tells 150 C w0.heap.size (HasI w0 C) where
  call := fun acc b W h _ hl => (has1 w0 C acc b W h hl).mono fun _ w' ⟨he, hw⟩ => by
    subst hw
    refine ⟨he, ⟨?_, h.b.setCell hC _⟩, iter_setCell _ h.c⟩
    rw [one_setCell h.c]; simp
  alloc := fun acc W s p h => ⟨by rw [World.iter, Below.heap_alloc _ _ _ (lt_of_block h.c)]; exact h.c, h.b.alloc h.b.size _⟩
  iter := fun acc W k s p p' h hk hB => ⟨by rw [Lib.iterAt_other _ _ _ _ _ (fun e => by rw [← e, h.c] at hk; cases hk)]; exact h.c, Lib.below_iterAt h.b hB _ _⟩
  base := fun acc W h => h.b.size
  enter := fun args W => by kernel_rfl

set_option maxHeartbeats 400000 in
theorem has_any (s : ByteArray) (n : Int) (w : World) (hs : s.size ≤ 100000) :
    Calls Tryz.prog 119 #[.string s, .int .i64 n] w fun e w' => e = .returned (.bool (match rd (bytes s) with | none => false | some b => decide ((b.length : Int) = n))) ∧ Below w.heap.size w w' := by
  have HG : Sl (HasI w w.heap.size [] (w.alloc (.cells #[.int .i64 0] 3))) := ⟨⟨alloc_new _ _ _ rfl, (Below.refl _ _).alloc (Nat.le_refl _) _⟩⟩
  have hmf : ∀ (fn : Fn) (first cap : Array Value) (w : World), (Instr.makeFunc fn first cap).run Tryz.prog w = .ok (.func fn first cap) w := fun _ _ _ _ => rfl
  cases hr : rd (bytes s) with
  | none =>
    have HRD : Sl ((rd (bytes s)).isSome = false) := ⟨by rw [hr]; rfl⟩
    clear hr
    simp only
    go_enter Tryz.func119, Tryz.ntmps119
    go_wp2_with fail
    refine (read_any 150 w.heap.size w.heap.size _ (hasTells w w.heap.size (Nat.le_refl _)) s _ HG.out hs).mono ?_
    rw [HRD.out]
    rintro e w2 ⟨rfl, acc, hI, _⟩
    have HI := Sl.mk hI
    clear hI
    go_wp2
    go_ret
    exact ⟨rfl, HI.out.b⟩
  | some b =>
    have HRD : Sl ((rd (bytes s)).isSome = true) := ⟨by rw [hr]; rfl⟩
    have HRE := Sl.mk hr
    clear hr
    simp only
    go_enter Tryz.func119, Tryz.ntmps119
    go_wp2_with fail
    refine (read_any 150 w.heap.size w.heap.size _ (hasTells w w.heap.size (Nat.le_refl _)) s _ HG.out hs).mono ?_
    rw [HRD.out]
    rintro e w2 ⟨rfl, acc, hI, hacc⟩
    obtain rfl := hacc b HRE.out
    have cc := cell_of_one hI.c
    have HI := Sl.mk hI
    clear hI hacc
    go_wp2
    go_ret
    exact ⟨ret_bool (by rw [Bool.eq_iff_iff]; simp), HI.out.b⟩
end Go.Proofs.YthlagngpllahkaaGreatDoor.Bas
/- What is the same in all of the statements' walks: contracts in the form in which they are used, and that of awake. -/
namespace Go.Proofs.YthlagngpllahkaaGreatDoor.Bas
open Go.RowKit

theorem strOf_size (l : List Nat) : (strOf l).size = l.length := by unfold strOf; rw [strOfNums_size]; simp
theorem bytes_strOf (l : List Nat) (h : Small 256 l) : bytes (strOf l) = l := by
  unfold bytes strOf
  rw [strOfNums_data, List.map_map, List.map_map]
  conv => rhs; rw [← List.map_id l]
  refine List.map_congr_left (fun x hx => ?_)
  have := h x hx
  simp only [Function.comp_def, Int.toNat_natCast, id]
  exact UInt8.toNat_ofNat_of_lt' this
theorem strOf_bytes (s : ByteArray) : strOf (bytes s) = s := bytes_inj (bytes_strOf _ (bytes_small s))
theorem small_128 {l : List Nat} (h : Small 128 l) : Small 256 l := fun x hx => Nat.lt_trans (h x hx) (by decide)
theorem bytes_enc (l : List Nat) (h : Small 256 l) : bytes (strOf (enc l)) = enc l := bytes_strOf _ (small_128 (enc_small l h))

/-- What Has answers. -/
def hasB (s : List Nat) (n : Int) : Bool := match rd s with | none => false | some b => decide ((b.length : Int) = n)
theorem has_ex (s : ByteArray) (n : Int) (r : Bool) (w : World) (hs : s.size ≤ 100000) (hr : hasB (bytes s) n = r) :
    Calls Tryz.prog 119 #[.string s, .int .i64 n] w fun e w' => e = .returned (.bool r) ∧ Sl (Below w.heap.size w w') :=
  (has_any s n w hs).mono fun _ _ ⟨he, hb⟩ => ⟨by rw [he, ← hr]; rfl, ⟨hb⟩⟩
theorem put_ex (bs : List Nat) (v : Value) (w : World) (hv : SrcAt w v bs) (hsm : Small 256 bs) (hg : Globs w) (hL : bs.length ≤ 100000) :
    Calls Tryz.prog 46 #[v] w fun e w' => e = .returned (.string (strOf (enc bs))) ∧ Sl (Below w.heap.size w w') :=
  (put_any bs v w hv hsm hg hL).mono fun _ _ ⟨he, hb⟩ => ⟨he, ⟨hb⟩⟩
/-- A slice that is the whole of a new block. -/
theorem src_new (w : World) (bs : List Nat) (vs : Array Value) (t : TypeId) (fr : Nat × Nat) (h : vs = (u8s bs).toArray) : SrcAt (w.alloc (.cells vs t fr)) (.slice (some ⟨w.heap.size, 0, none⟩) bs.length bs.length) bs :=
  ⟨_, _, w.heap.size, 0, rfl, Nat.le_refl _, fun _ => rfl, fun i hi => by
    rw [Nat.zero_add, cell_of_row _ _ _ _ _ _ (alloc_new _ _ _ rfl), h, List.getElem?_toArray]; exact u8s_get bs i hi⟩
/-- The bytes of a string, made new. -/
theorem conv_str (s : ByteArray) (W : World) : ∃ cap w', (convert 9 53 (.string s)).run Tryz.prog W = .ok (.slice (some ⟨W.heap.size, 0, none⟩) s.size cap) w' ∧
    Sl (SrcAt w' (.slice (some ⟨W.heap.size, 0, none⟩) s.size cap) (bytes s)) ∧ Sl (Below W.heap.size W w') := by
  refine ⟨_, _, run_bytes_of_string (P := Tryz.prog) W 9 53 5 s Tryz.underlying9 Tryz.underlying53 Tryz.underlying5, ⟨?_⟩, ⟨((Below.refl _ _).drew).alloc (Nat.le_refl _) _⟩⟩
  refine ⟨some ⟨W.heap.size, 0, none⟩, _, W.heap.size, 0, by rw [bytes_length], by rw [bytes_length]; exact grownCap_ge _ _ _ _, fun _ => rfl, fun i hi => ?_⟩
  rw [bytes_length] at hi
  rw [Nat.zero_add]
  have h := World.cell?_alloc_mark W.drew (bytesRow s (grownCap W s.size 0 5)) 5 ((bytesRow s (grownCap W s.size 0 5)).size, (bytesRow s (grownCap W s.size 0 5)).size + 1) i
  rw [show W.drew.heap.size = W.heap.size from rfl] at h
  rw [h, bytesRow_at s _ i hi, bytes_getD s i hi]
/-- The string of a row that was handed out, in a later world. -/
theorem conv_later {w W W' : World} {v : Value} {l : List Nat} (h : W.ownsRow w.heap.size 5 1 v l.length (u8s l)) (hb : Below W.heap.size W W') : (convert 53 9 v).run Tryz.prog W' = .ok (.string (strOf l)) W' := conv_own (own_below h hb)

end Go.Proofs.YthlagngpllahkaaGreatDoor.Bas
