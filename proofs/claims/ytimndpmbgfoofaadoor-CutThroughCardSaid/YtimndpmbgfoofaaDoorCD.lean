/- cut: Frames: a message as frames. -/
import Derived.Test.YtimndpmbgfoofaaDoorCC
set_option maxRecDepth 100000
namespace Go.Proofs.YtimndpmbgfoofaaDoor.Cut
open Go.RowKit MaskPlain Mas Fra Stm CutPlain
open FramePlain (Fr Fr0 form chk ctl zero4)

theorem SrcN.from {W : World} {b : Nat} {a : Option Addr} {L cap r : Nat} {bs : List Nat} (h : SrcN W b (.slice a L cap) bs) (hr : r ≤ L) (hl : bs.length = L) : SrcN W b (.slice (fromA a r cap) (L - r) (cap - r)) (bs.drop r) := by
  obtain ⟨a', c', sb, so, he, h1, h2, h4, h3⟩ := h
  injection he with e1 e2 e3
  subst e1 e3
  refine ⟨_, _, sb, so + r, by rw [List.length_drop, hl], by rw [List.length_drop]; omega, fun hp => ?_, fun hp => h4 (by rw [List.length_drop] at hp; omega), fun i hi => ?_⟩
  · rw [List.length_drop] at hp
    unfold fromA
    rw [if_neg (by omega), h2 (by omega), Option.map_some, Addr.add_mid]
  · rw [List.length_drop] at hi
    rw [Nat.add_assoc, h3 (r + i) (by omega)]
    congr 3
    rw [List.getD_eq_getElem?_getD, List.getD_eq_getElem?_getD, List.getElem?_drop]
theorem SrcAt.upto {W : World} {a : Option Addr} {L cap r c : Nat} {bs : List Nat} (h : SrcAt W (.slice a L cap) bs) (hr : r ≤ L) (hl : bs.length = L) (hc : r ≤ c) : SrcAt W (.slice a r c) (bs.take r) := by
  obtain ⟨a', c', sb, so, he, h1, h2, h3⟩ := h
  injection he with e1 e2 e3
  subst e1 e3
  refine ⟨a, c, sb, so, by rw [List.length_take, hl, Nat.min_eq_left hr], by rw [List.length_take]; omega, fun hp => h2 (by rw [List.length_take] at hp; omega), fun i hi => ?_⟩
  rw [List.length_take] at hi
  rw [h3 i (by omega)]
  congr 3
  rw [List.getD_eq_getElem?_getD, List.getD_eq_getElem?_getD, List.getElem?_take_of_lt (by omega)]
theorem slice_end (V : World) (q o R c N o' : Nat) (hN : N ≤ R) (ho : (if c = N then o else o + N) = o') :
    (Instr.slice 36 (.slice (some ⟨q, o, none⟩) R c) (some (.int .i64 (N : Int))) none none).run Tryd.prog V = .ok (.slice (some ⟨q, o', none⟩) (R - N) (c - N)) V := by
  obtain ⟨i0, hi, hz0, hz1, hz2⟩ := info5'
  rw [run_slice_l (ht := Tryd.underlying36) (h0 := by omega) (h1 := by omega)]
  subst ho
  simp [sizeOf, typeInfo, show Tryd.prog.elem 36 = 5 from rfl, hi, hz1, sliced]
  split <;> simp [Addr.add]
theorem slice_hm (V : World) (q o R c N : Nat) (hN : N ≤ c) :
    (Instr.slice 36 (.slice (some ⟨q, o, none⟩) R c) none (some (.int .i64 (N : Int))) (some (.int .i64 (N : Int)))).run Tryd.prog V = .ok (.slice (some ⟨q, o, none⟩) N N) V := by
  obtain ⟨i0, hi, hz0, hz1, hz2⟩ := info5'
  rw [run_slice_hm (ht := Tryd.underlying36) (h0 := by omega) (h2 := by omega) (h3 := by omega)]
  simp [sizeOf, typeInfo, show Tryd.prog.elem 36 = 5 from rfl, hi, hz1, sliced, Addr.add]
/-- The frames that are made so far. -/
def part (n m k : Nat) (bs : List Nat) : List Fr := (List.range n).map fun j => ⟨false, 0, false, zero4, if j < k then (bs.drop (j * m)).take m else []⟩
theorem part_length (n m k : Nat) (bs : List Nat) : (part n m k bs).length = n := by simp [part]
theorem part_get {n m k : Nat} {bs : List Nat} {i : Nat} (hi : i < n) : (part n m k bs).getD i Fr0 = ⟨false, 0, false, zero4, if i < k then (bs.drop (i * m)).take m else []⟩ := by
  simp [part, List.getD, hi]
theorem fr_ext {a b : List Fr} (hl : a.length = b.length) (h : ∀ i, i < a.length → a.getD i Fr0 = b.getD i Fr0) : a = b := by
  refine List.ext_getElem hl fun i h1 h2 => ?_
  have := h i h1
  rwa [List.getD_eq_getElem?_getD, List.getD_eq_getElem?_getD, List.getElem?_eq_getElem h1, List.getElem?_eq_getElem h2] at this
theorem set_get {l : List Fr} {i j : Nat} {f : Fr} (hi : i < l.length) : (l.set i f).getD j Fr0 = if j = i then f else l.getD j Fr0 := by
  rw [List.getD_eq_getElem?_getD, List.getElem?_set]
  by_cases h : i = j
  · subst h; rw [if_pos rfl, if_pos hi, if_pos rfl]; rfl
  · rw [if_neg h, if_neg (fun e => h e.symm), List.getD_eq_getElem?_getD]
theorem part_zero (n m : Nat) (bs : List Nat) : List.replicate n Fr0 = part n m 0 bs := by
  refine fr_ext (by rw [part_length]; simp) fun i hi => ?_
  have hi' : i < n := by simpa using hi
  rw [part_get hi', if_neg (Nat.not_lt_zero _)]
  simp [List.getD, hi', Fr0]
theorem part_set {n m k : Nat} {bs : List Nat} (hk : k < n) : (part n m k bs).set k ⟨false, 0, false, zero4, (bs.drop (k * m)).take m⟩ = part n m (k + 1) bs := by
  refine fr_ext (by simp [part_length]) fun i hi => ?_
  have hi' : i < n := by simpa [part_length] using hi
  rw [set_get (by rw [part_length]; exact hk), part_get hi', part_get hi']
  by_cases h : i = k
  · subst h; rw [if_pos rfl, if_pos (by omega)]
  · rw [if_neg h]
    by_cases h2 : i < k
    · rw [if_pos h2, if_pos (by omega)]
    · rw [if_neg h2, if_neg (by omega)]
theorem part_end {n m : Nat} {bs : List Nat} (op : Int) (hm : 1 ≤ m) (hn : (frs m op bs).length = n) :
    ((part n m n bs).set 0 ⟨false, op, false, zero4, bs.take m⟩).set (n - 1) ⟨true, if n - 1 = 0 then op else 0, false, zero4, (bs.drop ((n - 1) * m)).take m⟩ = frs m op bs := by
  have hp := frs_pos m hm op bs
  refine fr_ext (by simp [part_length, hn]) fun i hi => ?_
  have hi' : i < n := by simpa [part_length] using hi
  rw [set_get (by simp [part_length]; omega), set_get (by rw [part_length]; omega), part_get hi', frs_get hm i op bs (by omega), hn]
  by_cases h : i = n - 1
  · subst h; rw [if_pos rfl, decide_eq_true (by omega)]
  · rw [if_neg h, decide_eq_false (by omega)]
    by_cases h2 : i = 0
    · subst h2; simp
    · rw [if_neg h2, if_neg h2, if_pos hi']
theorem cv_data (f : Fr) (d : List Nat) : cv { f with data := d } = (cv f).set 7 (.string (strOf d)) := rfl
theorem cv_op (f : Fr) (o : Int) : cv { f with op := o } = (cv f).set 1 (.int .i64 o) := rfl
theorem cv_fin (f : Fr) (b : Bool) : cv { f with fin := b } = (cv f).set 0 (.bool b) := rfl
theorem frames_no (op : Int) (s : ByteArray) (most : Int) (w : World) (h : ¬ (op = 1 ∨ op = 2) ∨ cntI (s.size : Int) most = 0) :
    Calls Tryd.prog 12 #[.int .i64 op, .string s, .int .i64 most] w fun e w' => e = .returned (.tuple #[.slice none 0 0, .int .i64 130]) ∧ w = w' := by
  obtain ⟨n, hn⟩ : ∃ n, cntI (s.size : Int) most = n := ⟨_, rfl⟩
  have hc := fun W => count_ex (s.size : Int) most n hn W
  obtain ⟨r, hr⟩ : ∃ r, decide (op = 1 ∨ op = 2) = r := ⟨_, rfl⟩
  have hb := fun W => begins_any op r hr W
  rw [hn] at h
  clear hn
  cases r with
  | false =>
    clear h hr
    go_enter Tryd.func12, Tryd.ntmps12
    go_wp2_with fail
    refine (hc _).mono ?_
    rintro e w1 ⟨rfl, rfl⟩
    go_wp2_with fail
    refine (hb _).mono ?_
    rintro e w1 ⟨rfl, rfl⟩
    go_wp2
    go_ret2
    exact ⟨rfl, rfl⟩
  | true =>
    obtain rfl : n = 0 := by
      rcases h with h | h
      · exact absurd (of_decide_eq_true hr) h
      · exact h
    clear h hr
    go_enter Tryd.func12, Tryd.ntmps12
    go_wp2_with fail
    refine (hc _).mono ?_
    rintro e w1 ⟨rfl, rfl⟩
    go_wp2_with fail
    refine (hb _).mono ?_
    rintro e w1 ⟨rfl, rfl⟩
    go_wp2
    go_ret2
    exact ⟨rfl, rfl⟩
set_option maxHeartbeats 8000000 in
theorem frames_yes (op : Int) (s : ByteArray) (m n : Nat) (w : World) (ho : op = 1 ∨ op = 2) (hs : s.size ≤ 1048576) (hm : 1 ≤ m ∧ m ≤ 65536) (hn : (frs m op (bytes s)).length = n) :
    Calls Tryd.prog 12 #[.int .i64 op, .string s, .int .i64 (m : Int)] w fun e w' => ∃ g, e = .returned (.tuple #[.slice (some ⟨g, 0, none⟩) n n, .int .i64 0]) ∧ Sl (RowF w' g (frs m op (bytes s))) ∧ w.heap.size ≤ g ∧ Sl (Below w.heap.size w w') := by
  have hcn : cnt s.size m = n := by rw [← hn, frs_length hm.1 _ op (bytes s) (Nat.le_refl _), bytes_length]
  obtain ⟨hn1, hn2, hn3, hn4⟩ := cnt_enough (size := s.size) hm.1
  rw [hcn] at hn1 hn2 hn3 hn4
  have hc := fun W => count_ex (s.size : Int) (m : Int) n (by rw [cntI_yes hs hm.1 hm.2, hcn]) W
  have hb := fun W => begins_any op true (decide_eq_true ho) W
  have hq0 : ((n : Int) == 0) = false := by simp; omega
  obtain ⟨V1, hmk, hV1⟩ := make_frs (n : Int) n rfl (by omega) w
  obtain ⟨g, hg⟩ : ∃ g, w.heap.size = g := ⟨_, rfl⟩
  have HR1 : Sl (RowF V1 g (part n m 0 (bytes s))) := ⟨by rw [hV1, ← part_zero, ← hg]; exact row_made w n⟩
  have HB1 : Sl (Below g w V1) := ⟨by rw [hV1, ← hg]; exact (Below.refl _ _).alloc (Nat.le_refl _) _⟩
  have HG1 : Sl (g < V1.heap.size) := ⟨HR1.out.lt⟩
  obtain ⟨cap0, W2, hcv, HS2, HX2⟩ := conv_str s V1
  have HB2 : Sl (Below g w W2) := ⟨HB1.out.trans (HX2.out.mono (Nat.le_of_lt HG1.out))⟩
  have HR2 : Sl (RowF W2 g (part n m 0 (bytes s))) := ⟨HR1.out.below HX2.out⟩
  have HN2 : Sl (SrcN W2 g (.slice (some ⟨V1.heap.size, 0, none⟩) s.size cap0) (bytes s)) := ⟨SrcAt.offs HS2.out HG1.out⟩
  have HFR := Sl.mk hn
  have HM := Sl.mk hm
  have HLN : Sl (s.size ≤ n * m ∧ (n = 1 ∨ (n - 1) * m < s.size)) := ⟨hn2, hn3⟩
  rw [hg] at hmk
  obtain ⟨bs, hbs⟩ : ∃ bs, bytes s = bs := ⟨_, rfl⟩
  obtain ⟨L, hL⟩ : ∃ L, s.size = L := ⟨_, rfl⟩
  have HBL : Sl (bs.length = L) := ⟨by rw [← hbs, ← hL, bytes_length]⟩
  have z1 : IntKind.i64.wrap ((n : Int) - 1) = ((n - 1 : Nat) : Int) := by rw [IntKind.wrap_i64]; omega
  rw [hbs] at HR1 HR2 HN2 HFR HS2 ⊢
  rw [hL] at hcv HS2 HN2 HLN hc hs
  have HN1 := Sl.mk hn1
  have HS0 := Sl.mk hs
  have hmm : m ≤ 9223372036854775807 := by omega
  have hnn : n ≤ 9223372036854775807 := by omega
  clear hn hm ho hcn hn1 hn2 hn3 hn4 hV1 hbs HR1 HB1 HG1 HX2 hs HS2
  go_enter Tryd.func12, Tryd.ntmps12
  go_wp2_with fail
  refine (hc _).mono ?_
  rintro e w1 ⟨rfl, rfl⟩
  go_wp2_with fail
  refine (hb _).mono ?_
  rintro e w1 ⟨rfl, rfl⟩
  go_wp2
  clear hc hb hmk hcv
  obtain ⟨q, hq⟩ : ∃ q, V1.heap.size = q := ⟨_, rfl⟩
  rw [hq] at HN2
  have HCAP : Sl (L ≤ cap0) := ⟨by obtain ⟨_, _, _, _, he, h2, _⟩ := HN2.out; injection he with _ _ e3; rw [HBL.out] at h2; omega⟩
  (try rw [hq])
  clear hq
  go_loopw [10, 31] (fun u i wr => ∃ (k o c R : Nat), u = .slice (some ⟨q, o, none⟩) R c ∧ i = .int .i64 (k : Int) ∧ k ≤ n ∧ R ≤ c ∧ Sl (R = L - k * m) ∧ Sl (RowF wr g (part n m k bs)) ∧ Sl (SrcN wr g (.slice (some ⟨q, o, none⟩) R c) (bs.drop (k * m))) ∧ Sl (Below g w wr)) (fun _ i _ => n - (intOf i).toNat)
  case atStart => exact ⟨0, 0, cap0, L, rfl, rfl, Nat.zero_le _, HCAP.out, ⟨by omega⟩, HR2, ⟨by rw [Nat.zero_mul, List.drop_zero]; exact HN2.out⟩, HB2⟩
  case round =>
    obtain ⟨k, o, c, R, rfl, rfl, hk, hRc, HRR, HRW, HSN, HBW⟩ := hrel
    have HGL : Sl (g ≤ wr.heap.size) := ⟨Nat.le_of_lt HRW.out.lt⟩
    have HRL : Sl ((bs.drop (k * m)).length = R) := ⟨by rw [List.length_drop, HBL.out, HRR.out]⟩
    by_cases hkn : k < n
    · have hlt : ((k : Int) < (n : Int)) = True := eq_true (by omega)
      have c7 : wr.cell? ⟨g, k * 8 + 7, none⟩ = some (.string (strOf [])) := by
        rw [HRW.out.cell (by rw [part_length]; exact hkn) (by decide), part_get hkn, if_neg (Nat.lt_irrefl _)]; rfl
      have f7 := HRW.out.froz (k * 8 + 7)
      have hRm : R ≤ 9223372036854775807 := by have := HRR.out; have := HS0.out; omega
      by_cases hb : R < m
      · have hbb : ((R : Int) < (m : Int)) = True := eq_true (by omega)
        have hbb2 : ((m : Int) < (R : Int)) = False := eq_false (by omega)
        obtain ⟨o', ho'⟩ : ∃ o', (if c = R then o else o + R) = o' := ⟨_, rfl⟩
        have hsl := fun V => slice_end V q o R c R o' (by omega) ho'
        have hs3 := fun V => slice_hm V q o R c R (by omega)
        obtain ⟨T, hT⟩ : ∃ T, strOf ((bs.drop (k * m)).take R) = T := ⟨_, rfl⟩
        have hcv2 : (convert 36 9 (.slice (some ⟨q, o, none⟩) R R)).run Tryd.prog wr = .ok (.string T) wr := by
          rw [← hT]; exact SrcAt.conv (SrcAt.upto (Utf.SrcN.any HSN.out) (by omega) HRL.out (Nat.le_refl _))
        obtain ⟨X, hX⟩ : ∃ V, wr.setCell ⟨g, k * 8 + 7, none⟩ (.string T) = V := ⟨_, rfl⟩
        have hgr : wr.grownBy X (some g) := by rw [← hX]; exact grown_setCell _ _ _ _
        have HRX : Sl (RowF X g (part n m (k + 1) bs)) := ⟨by
          rw [← part_set hkn, ← (show (bs.drop (k * m)).take R = (bs.drop (k * m)).take m from by rw [List.take_of_length_le (by rw [HRL.out]; exact Nat.le_refl _), List.take_of_length_le (by rw [HRL.out]; omega)])]
          rw [← hX, ← hT]
          exact HRW.out.set k 7 _ _ (by rw [part_length]; exact hkn) (by decide) (by rw [part_get hkn, if_neg (Nat.lt_irrefl _)]; rfl)⟩
        have HBX : Sl (Below g w X) := ⟨HBW.out.grown hgr HGL.out (fun j hj => by injection hj with hj; rw [← hj]; exact Nat.le_refl _)⟩
        have HSX : Sl (SrcN X g (.slice (some ⟨q, o', none⟩) (0) (c - R)) (bs.drop ((k + 1) * m))) := ⟨by
          have h1 := SrcN.from (Utf.SrcN.grown HSN.out hgr) (r := R) (by omega) HRL.out
          have h2 : fromA (some ⟨q, o, none⟩) R c = some ⟨q, o', none⟩ := by
            unfold fromA
            rw [← ho']
            split <;> simp [Addr.add]
          rw [h2, List.drop_drop] at h1
          rw [Nat.sub_self] at h1
          rw [show bs.drop ((k + 1) * m) = bs.drop (k * m + R) from by rw [List.drop_eq_nil_of_le (by rw [HBL.out, Nat.succ_mul]; have := HRR.out; omega), List.drop_eq_nil_of_le (by rw [HBL.out]; have := HRR.out; omega)]]
          exact h1⟩
        have HRE : Sl (0 = L - (k + 1) * m) := ⟨by rw [Nat.succ_mul]; have := HRR.out; omega⟩
        have hle : 0 ≤ c - R := by omega
        clear hT ho' hgr
        go_upto_region 12 with fail
        (try rw [hX])
        clear hX c7 f7 hcv2
        go_wp2
        exact ⟨⟨k + 1, o', c - R, 0, rfl, by go_num, by omega, hle, HRE, HRX, HSX, HBX⟩, by simp [intOf]; omega⟩
      · have hbb : ((R : Int) < (m : Int)) = False := eq_false (by omega)
        have hbb2 : ((m : Int) ≤ (R : Int)) := by omega
        obtain ⟨o', ho'⟩ : ∃ o', (if c = m then o else o + m) = o' := ⟨_, rfl⟩
        have hsl := fun V => slice_end V q o R c m o' (by omega) ho'
        have hs3 := fun V => slice_hm V q o R c m (by omega)
        obtain ⟨T, hT⟩ : ∃ T, strOf ((bs.drop (k * m)).take m) = T := ⟨_, rfl⟩
        have hcv2 : (convert 36 9 (.slice (some ⟨q, o, none⟩) m m)).run Tryd.prog wr = .ok (.string T) wr := by
          rw [← hT]; exact SrcAt.conv (SrcAt.upto (Utf.SrcN.any HSN.out) (by omega) HRL.out (Nat.le_refl _))
        obtain ⟨X, hX⟩ : ∃ V, wr.setCell ⟨g, k * 8 + 7, none⟩ (.string T) = V := ⟨_, rfl⟩
        have hgr : wr.grownBy X (some g) := by rw [← hX]; exact grown_setCell _ _ _ _
        have HRX : Sl (RowF X g (part n m (k + 1) bs)) := ⟨by
          rw [← part_set hkn]
          rw [← hX, ← hT]
          exact HRW.out.set k 7 _ _ (by rw [part_length]; exact hkn) (by decide) (by rw [part_get hkn, if_neg (Nat.lt_irrefl _)]; rfl)⟩
        have HBX : Sl (Below g w X) := ⟨HBW.out.grown hgr HGL.out (fun j hj => by injection hj with hj; rw [← hj]; exact Nat.le_refl _)⟩
        have HSX : Sl (SrcN X g (.slice (some ⟨q, o', none⟩) (R - m) (c - m)) (bs.drop ((k + 1) * m))) := ⟨by
          have h1 := SrcN.from (Utf.SrcN.grown HSN.out hgr) (r := m) (by omega) HRL.out
          have h2 : fromA (some ⟨q, o, none⟩) m c = some ⟨q, o', none⟩ := by
            unfold fromA
            rw [← ho']
            split <;> simp [Addr.add]
          rw [h2, List.drop_drop] at h1
          rw [Nat.succ_mul]
          exact h1⟩
        have HRE : Sl (R - m = L - (k + 1) * m) := ⟨by rw [Nat.succ_mul]; have := HRR.out; omega⟩
        have hle : R - m ≤ c - m := by omega
        clear hT ho' hgr
        go_upto_region 12 with fail
        (try rw [hX])
        clear hX c7 f7 hcv2
        go_wp2
        exact ⟨⟨k + 1, o', c - m, R - m, rfl, by go_num, by omega, hle, HRE, HRX, HSX, HBX⟩, by simp [intOf]; omega⟩
    · obtain rfl : k = n := by omega
      have hlt : ((k : Int) < (k : Int)) = False := eq_false (by omega)
      have h1k : 1 ≤ k := HN1.out
      have c1 : wr.cell? ⟨g, 1, none⟩ = some (.int .i64 0) := by
        have := HRW.out.cell (i := 0) (j := 1) (by rw [part_length]; omega) (by decide)
        rw [part_get (by omega)] at this
        exact this
      have f1 := HRW.out.froz 1
      obtain ⟨X, hX⟩ : ∃ V, wr.setCell ⟨g, 1, none⟩ (.int .i64 op) = V := ⟨_, rfl⟩
      have hR1 : RowF X g ((part k m k bs).set 0 ⟨false, op, false, zero4, bs.take m⟩) := by
        have h := HRW.out.set 0 1 (.int .i64 op) ⟨false, op, false, zero4, bs.take m⟩ (by rw [part_length]; omega) (by decide) (by rw [part_get (by omega), if_pos (by omega), Nat.zero_mul, List.drop_zero]; rfl)
        rw [← hX]; exact h
      have hget : ((part k m k bs).set 0 ⟨false, op, false, zero4, bs.take m⟩).getD (k - 1) Fr0 = ⟨false, if k - 1 = 0 then op else 0, false, zero4, (bs.drop ((k - 1) * m)).take m⟩ := by
        rw [set_get (by rw [part_length]; omega)]
        by_cases h : k - 1 = 0
        · rw [if_pos h, if_pos h, h, Nat.zero_mul, List.drop_zero]
        · rw [if_neg h, if_neg h, part_get (by omega), if_pos (by omega)]
      have c2 : X.cell? ⟨g, (k - 1) * 8, none⟩ = some (.bool false) := by
        have := hR1.cell (i := k - 1) (j := 0) (by rw [List.length_set, part_length]; omega) (by decide)
        rw [hget] at this
        exact this
      have f2 := hR1.froz ((k - 1) * 8)
      obtain ⟨Y, hY⟩ : ∃ V, X.setCell ⟨g, (k - 1) * 8, none⟩ (.bool true) = V := ⟨_, rfl⟩
      have HRY : Sl (RowF Y g (frs m op bs)) := ⟨by
        have h := hR1.set (k - 1) 0 (.bool true) ⟨true, if k - 1 = 0 then op else 0, false, zero4, (bs.drop ((k - 1) * m)).take m⟩ (by rw [List.length_set, part_length]; omega) (by decide) (by rw [hget]; rfl)
        rw [part_end op HM.out.1 HFR.out] at h
        rw [← hY]; exact h⟩
      have HBY : Sl (Below g w Y) := ⟨by
        have h1 : Below g w X := HBW.out.grown (row := some g) (by rw [← hX]; exact grown_setCell _ _ _ _) HGL.out (fun j hj => by injection hj with hj; rw [← hj]; exact Nat.le_refl _)
        exact h1.grown (row := some g) (by rw [← hY]; exact grown_setCell _ _ _ _) (Nat.le_of_lt hR1.lt) (fun j hj => by injection hj with hj; rw [← hj]; exact Nat.le_refl _)⟩
      clear hR1 hget
      go_upto_region 15 with fail
      (try rw [hX])
      go_upto_region 16 with fail
      (try rw [hY])
      clear hX hY c1 f1 c2 f2
      go_wp2
      go_ret2
      exact ⟨g, rfl, HRY, Nat.le_of_eq hg, ⟨by rw [hg]; exact HBY.out⟩⟩
end Go.Proofs.YtimndpmbgfoofaaDoor.Cut
