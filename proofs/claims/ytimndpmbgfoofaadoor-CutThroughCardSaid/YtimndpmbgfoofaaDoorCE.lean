/- cut: Masked: frames with masks by numbers. -/
import Derived.Test.YtimndpmbgfoofaaDoorCD
import Derived.Test.YtimndpmbgfoofaaDoorClA
import Derived.Test.YtimndpmbgfoofaaDoorMaD
set_option maxRecDepth 100000
namespace Go.Proofs.YtimndpmbgfoofaaDoor.Cut
open Go.RowKit MaskPlain Mas Fra Stm CutPlain
open FramePlain (Fr Fr0 form chk ctl zero4)

/-- The numbers ds of 32 bits are the elements of the slice v. -/
def U32At (W : World) (v : Value) (ds : List Nat) : Prop :=
  ∃ (a : Option Addr) (cap sb so : Nat), v = .slice a ds.length cap ∧ ds.length ≤ cap ∧ (0 < ds.length → a = some ⟨sb, so, none⟩) ∧ ∀ i, i < ds.length → W.cell? ⟨sb, so + i, none⟩ = some (.int .u32 ((ds.getD i 0 : Nat) : Int))
theorem U32At.below {w w' : World} {v : Value} {ds : List Nat} (h : U32At w v ds) (hb : Below w.heap.size w w') : U32At w' v ds := by
  obtain ⟨a, cap, sb, so, h0, h1, h3, h5⟩ := h
  exact ⟨a, cap, sb, so, h0, h1, h3, fun i hi => by rw [hb.cell (p := ⟨sb, so + i, none⟩) (block_lt_of_cell (h5 i hi))]; exact h5 i hi⟩
theorem U32At.slice {w : World} {v : Value} {ds : List Nat} (h : U32At w v ds) : ∃ a c, v = .slice a ds.length c := by
  obtain ⟨a, c, _, _, h, _⟩ := h; exact ⟨a, c, h⟩
theorem U32At.cap {w : World} {a : Option Addr} {n cap : Nat} {ds : List Nat} (h : U32At w (.slice a n cap) ds) (hp : 0 < n) : ∃ sb so, a = some ⟨sb, so, none⟩ ∧ ∀ i, i < n → w.cell? ⟨sb, so + i, none⟩ = some (.int .u32 ((ds.getD i 0 : Nat) : Int)) := by
  obtain ⟨a', c', sb, so, he, _, h3, h5⟩ := h
  injection he with e1 e2 e3
  subst e1 e2
  exact ⟨sb, so, h3 hp, h5⟩
/-- A box whose mask and key are written. -/
theorem rekeyed {W : World} {b : Nat} {fin m m' : Bool} {op : Int} {ka kb kc kd : Nat} {s : ByteArray} (x0 x1 x2 x3 : Int) (h : W.heap[b]? = some (.cells #[.bool fin, .int .i64 op, .bool m, .int .u8 ((ka : Nat) : Int), .int .u8 ((kb : Nat) : Int), .int .u8 ((kc : Nat) : Int), .int .u8 ((kd : Nat) : Int), .string s] 44 (0, 0))) :
    ((W.setCell ⟨b, 2, none⟩ (.bool m')).setCells b 3 [.int .u8 x0, .int .u8 x1, .int .u8 x2, .int .u8 x3]).heap[b]? = some (.cells #[.bool fin, .int .i64 op, .bool m', .int .u8 x0, .int .u8 x1, .int .u8 x2, .int .u8 x3, .string s] 44 (0, 0)) ∧ W.grownBy ((W.setCell ⟨b, 2, none⟩ (.bool m')).setCells b 3 [.int .u8 x0, .int .u8 x1, .int .u8 x2, .int .u8 x3]) (some b) := by
  refine ⟨?_, grown_trans (grown_setCell _ _ _ _) (grown_setCells b _ 3 _)⟩
  simp only [World.setCells]
  rw [heap_setCell_same _ _ _ _ _ _ (heap_setCell_same _ _ _ _ _ _ (heap_setCell_same _ _ _ _ _ _ (heap_setCell_same _ _ _ _ _ _ (heap_setCell_same _ _ _ _ _ _ h))))]
  rfl
theorem reclone {W : World} {b : Nat} {c0 c1 c2 c3 c4 c5 c6 : Value} {s : ByteArray} (h : W.heap[b]? = some (.cells #[c0, c1, c2, c3, c4, c5, c6, .string s] 44 (0, 0))) :
    (W.setCell ⟨b, 7, none⟩ (.string s)).heap[b]? = some (.cells #[c0, c1, c2, c3, c4, c5, c6, .string s] 44 (0, 0)) := by
  rw [heap_setCell_same _ _ _ _ _ _ h]; rfl
/-- A number's key: its four bytes. -/
def K4 (d : Nat) : List Nat := be d 4
theorem be4 (d : Nat) : ∃ x0 x1 x2 x3, K4 d = [x0, x1, x2, x3] := by
  have h : (be d 4).length = 4 := be_length d 4
  unfold K4
  match be d 4, h with
  | [x0, x1, x2, x3], _ => exact ⟨_, _, _, _, rfl⟩
theorem K4_small (d : Nat) : Small 256 (K4 d) := be_small d 4
theorem K4_length (d : Nat) : (K4 d).length = 4 := be_length d 4
/-- The frames that are masked so far. -/
def item (fs : List Fr) (ds : List Nat) (j : Nat) : Fr := ⟨(fs.getD j Fr0).fin, (fs.getD j Fr0).op, true, K4 (ds.getD j 0), (fs.getD j Fr0).data⟩
def mp (fs : List Fr) (ds : List Nat) (n k : Nat) : List Fr := (List.range n).map fun j => if j < k then item fs ds j else Fr0
theorem mp_length (fs : List Fr) (ds : List Nat) (n k : Nat) : (mp fs ds n k).length = n := by simp [mp]
theorem mp_get {fs : List Fr} {ds : List Nat} {n k i : Nat} (hi : i < n) : (mp fs ds n k).getD i Fr0 = if i < k then item fs ds i else Fr0 := by
  simp [mp, List.getD, hi]
theorem mp_zero (fs : List Fr) (ds : List Nat) (n : Nat) : List.replicate n Fr0 = mp fs ds n 0 := by
  refine fr_ext (by rw [mp_length]; simp) fun i hi => ?_
  have hi' : i < n := by simpa using hi
  rw [mp_get hi', if_neg (Nat.not_lt_zero _)]
  simp [List.getD, hi']
theorem mp_set {fs : List Fr} {ds : List Nat} {n k : Nat} (hk : k < n) : (mp fs ds n k).set k (item fs ds k) = mp fs ds n (k + 1) := by
  refine fr_ext (by simp [mp_length]) fun i hi => ?_
  have hi' : i < n := by simpa [mp_length] using hi
  rw [set_get (by rw [mp_length]; exact hk), mp_get hi', mp_get hi']
  by_cases h : i = k
  · subst h; rw [if_pos rfl, if_pos (by omega)]
  · rw [if_neg h]
    by_cases h2 : i < k
    · rw [if_pos h2, if_pos (by omega)]
    · rw [if_neg h2, if_neg (by omega)]
theorem mp_end {fs : List Fr} {ds : List Nat} {n : Nat} (hn : fs.length = n) (hd : n ≤ ds.length) : mp fs ds n n = msk K4 fs ds := by
  refine fr_ext (by rw [mp_length, msk_length K4 fs ds (by omega), hn]) fun i hi => ?_
  have hi' : i < n := by simpa [mp_length] using hi
  rw [mp_get hi', if_pos hi', msk_get K4 fs ds i (by omega) (by omega)]
  rfl
theorem masked_no (fs : List Fr) (ds : List Nat) (v u : Value) (w : World) (hv : FrsAt w v fs) (hu : U32At w u ds) (h : ds.length < fs.length) (hm : fs.length ≤ maxLen) :
    Calls Tryd.prog 21 #[v, u] w fun e w' => e = .returned (.tuple #[.slice none 0 0, .int .i64 130]) ∧ w = w' := by
  obtain ⟨a, c, rfl⟩ := hv.slice
  obtain ⟨a', c', rfl⟩ := hu.slice
  have hq : ((ds.length : Int) < (fs.length : Int)) = True := eq_true (by omega)
  obtain ⟨n, hn⟩ : ∃ n, fs.length = n := ⟨_, rfl⟩
  obtain ⟨n', hn'⟩ : ∃ n, ds.length = n := ⟨_, rfl⟩
  rw [hn, hn'] at hq
  rw [hn, hn']
  clear hv hu h hm hn hn'
  go_enter Tryd.func21, Tryd.ntmps21
  go_wp2
  go_ret2
  exact ⟨rfl, rfl⟩
set_option maxHeartbeats 8000000 in
theorem masked_yes (fs : List Fr) (ds : List Nat) (v u : Value) (n : Nat) (w : World) (hv : FrsAt w v fs) (ok : ∀ f ∈ fs, FrOk f) (hz : ∀ f ∈ fs, f.data.length ≤ 1000000) (hu : U32At w u ds) (hs : Small 4294967296 ds) (hd : fs.length ≤ ds.length) (hm : ds.length ≤ maxLen) (hn : fs.length = n) (hn1 : n ≤ 1000000) :
    Calls Tryd.prog 21 #[v, u] w fun e w' => e = .returned (.tuple #[.slice (some ⟨w.heap.size, 0, none⟩) n n, .int .i64 0]) ∧ Sl (RowF w' w.heap.size (msk K4 fs ds)) ∧ Sl (Below w.heap.size w w') := by
  obtain ⟨a, c, rfl⟩ := hv.slice
  obtain ⟨a', c', rfl⟩ := hu.slice
  have HV := Sl.mk hv
  have HU := Sl.mk hu
  have HOK := Sl.mk ok
  have HZ := Sl.mk hz
  have HSM := Sl.mk hs
  obtain ⟨V1, hmk, hV1⟩ := make_frs (n : Int) n rfl (by omega) w
  obtain ⟨g, hg⟩ : ∃ g, w.heap.size = g := ⟨_, rfl⟩
  have HR1 : Sl (RowF V1 g (mp fs ds n 0)) := ⟨by rw [hV1, ← mp_zero, ← hg]; exact row_made w n⟩
  have HB1 : Sl (Below g w V1) := ⟨by rw [hV1, ← hg]; exact (Below.refl _ _).alloc (Nat.le_refl _) _⟩
  rw [hg] at hmk ⊢
  have HGG := Sl.mk hg
  obtain ⟨nd, hnd⟩ : ∃ nd, ds.length = nd := ⟨_, rfl⟩
  have HFN := Sl.mk hn
  have HE : Sl (mp fs ds n n = msk K4 fs ds) := ⟨mp_end hn (by omega)⟩
  rw [hn] at HV hd ⊢
  rw [hnd] at HU hm hd ⊢
  have hq : ((nd : Int) < (n : Int)) = False := eq_false (by omega)
  have hnn : n ≤ 9223372036854775807 := by omega
  have hdn : nd ≤ 9223372036854775807 := by unfold maxLen at hm; omega
  clear hv hu ok hz hs hV1 hm hn hg
  go_enter Tryd.func21, Tryd.ntmps21
  go_wp2
  go_loopw [19] (fun i wr => ∃ k : Nat, i = .int .i64 (k : Int) ∧ k ≤ n ∧ Sl (RowF wr g (mp fs ds n k)) ∧ Sl (Below g w wr)) (fun i _ => n - (intOf i).toNat)
  case atStart => exact ⟨0, rfl, Nat.zero_le _, HR1, HB1⟩
  case round =>
    obtain ⟨k, rfl, hk, HR, HB⟩ := hrel
    by_cases hkn : k < n
    · have hlt : ((k : Int) < (n : Int)) = True := eq_true (by omega)
      have hkf : k < fs.length := by rw [HFN.out]; exact hkn
      obtain ⟨sb, so, rfl⟩ := HV.out.cap.2 (by omega)
      obtain ⟨sb2, so2, rfl, hdc⟩ := HU.out.cap (by omega)
      obtain ⟨fin, op, m, ka, kb, kc, kd, s, hf, hcv, hsm, hmem⟩ := fr_at HOK.out k hkf
      obtain ⟨c0, c1, c2, c3, c4, c5, c6, c7⟩ := (HV.out.below (by rw [HGG.out]; exact HB.out)).at8 k hkf hcv
      obtain ⟨d, hdd⟩ : ∃ d, ds.getD k 0 = d := ⟨_, rfl⟩
      have hdl : d < 4294967296 := by rw [← hdd]; exact HSM.out.getD (by decide) _
      have hd0 := hdc k (by omega)
      rw [hdd] at hd0
      have hdlt : sb2 < g := by have := block_lt_of_cell hd0; rw [← HGG.out]; exact this
      have hdw : wr.cell? ⟨sb2, so2 + k, none⟩ = some (.int .u32 (d : Int)) := (HB.out.cell hdlt).trans hd0
      obtain ⟨x0, x1, x2, x3, hx⟩ := be4 d
      have hK : ∀ W, Calls Tryd.prog 37 #[.int .u32 (d : Int)] W fun e w' => e = .returned (.agg #[.int .u8 (x0 : Int), .int .u8 (x1 : Int), .int .u8 (x2 : Int), .int .u8 (x3 : Int)]) ∧ Sl (Below W.heap.size W w') := fun W => key_ex d [x0, x1, x2, x3] W hdl hx
      have hsz : s.size ≤ 1000000 := by
        have := HZ.out _ hmem
        rw [hf] at this
        simpa [bytes_length] using this
      have hC := fun W => Cls.clone_any s W hsz
      have HI := fr_info (cs := #[.bool fin, .int .i64 op, .bool m, .int .u8 ((ka : Nat) : Int), .int .u8 ((kb : Nat) : Int), .int .u8 ((kc : Nat) : Int), .int .u8 ((kd : Nat) : Int), .string s]) rfl
      have HIK := fr_info (cs := #[.bool fin, .int .i64 op, .bool true, .int .u8 (x0 : Int), .int .u8 (x1 : Int), .int .u8 (x2 : Int), .int .u8 (x3 : Int), .string s]) rfl
      have HIT : Sl (cv (item fs ds k) = [.bool fin, .int .i64 op, .bool true, .int .u8 (x0 : Int), .int .u8 (x1 : Int), .int .u8 (x2 : Int), .int .u8 (x3 : Int), .string s]) := ⟨by
        unfold item
        rw [hf, hdd, hx]
        show [Value.bool fin, .int .i64 op, .bool true, .int .u8 (x0 : Int), .int .u8 (x1 : Int), .int .u8 (x2 : Int), .int .u8 (x3 : Int), .string (strOf (bytes s))] = _
        rw [strOf_bytes]⟩
      have HGL : Sl (g ≤ wr.heap.size) := ⟨Nat.le_of_lt HR.out.lt⟩
      have HNG : Sl (wr.heap.size ≠ g) := ⟨Nat.ne_of_gt HR.out.lt⟩
      clear hf hcv hsm hmem hdd hdl hdc hkf hx hsz hd0
      obtain ⟨X, hX, HBX, HFX⟩ := laid_fv wr #[.bool fin, .int .i64 op, .bool m, .int .u8 ((ka : Nat) : Int), .int .u8 ((kb : Nat) : Int), .int .u8 ((kc : Nat) : Int), .int .u8 ((kd : Nat) : Int), .string s]
      go_upto_region 7 with (refine wpList_store_row rfl 44 (.tmp 8) (.tmp 23) rfl wr.heap.size #[.bool fin, .int .i64 op, .bool m, .int .u8 ((ka : Nat) : Int), .int .u8 ((kb : Nat) : Int), .int .u8 ((kc : Nat) : Int), .int .u8 ((kd : Nat) : Int), .string s] rfl rfl 44 #[.bool false, .int .i64 0, .bool false, .int .u8 0, .int .u8 0, .int .u8 0, .int .u8 0, .string { data := #[] }] (bx_new wr _) HI rfl (fr_all _ _ _ _ _ _ _ _) ?_)
      (try rw [hX])
      clear hX
      have cdX : X.cell? ⟨sb2, so2 + k, none⟩ = some (.int .u32 (d : Int)) := (HBX.out.cell (block_lt_of_cell hdw)).trans hdw
      clear c0 c1 c2 c3 c4 c5 c6 c7
      go_wp2_with fail
      refine (hK _).mono ?_
      rintro e w2 ⟨rfl, HX2⟩
      have HQ2 : Sl (w2.heap[wr.heap.size]? = some (.cells #[.bool fin, .int .i64 op, .bool m, .int .u8 ((ka : Nat) : Int), .int .u8 ((kb : Nat) : Int), .int .u8 ((kc : Nat) : Int), .int .u8 ((kd : Nat) : Int), .string s] 44 (0, 0))) := ⟨below_key HFX.out HX2.out⟩
      have HB2 : Sl (Below wr.heap.size wr w2) := ⟨HBX.out.trans (HX2.out.mono HBX.out.size)⟩
      clear hK cdX HX2 HFX HBX
      obtain ⟨q, hq9⟩ : ∃ q, wr.heap.size = q := ⟨_, rfl⟩
      have HQL : Sl (wr.heap.size ≤ q) := ⟨by omega⟩
      rw [hq9] at HQ2 HNG ⊢
      clear hq9
      obtain ⟨a0, a1, a2, a3, a4, a5, a6, a7⟩ := bx8 HQ2.out
      have g2 : w2.frozen? ⟨q, 2, none⟩ = false := frozen_of_row _ _ _ _ _ HQ2.out
      have g3 : w2.frozen? ⟨q, 3, none⟩ = false := frozen_of_row _ _ _ _ _ HQ2.out
      have g4 : w2.frozen? ⟨q, 4, none⟩ = false := frozen_of_row _ _ _ _ _ HQ2.out
      have g5 : w2.frozen? ⟨q, 5, none⟩ = false := frozen_of_row _ _ _ _ _ HQ2.out
      have g6 : w2.frozen? ⟨q, 6, none⟩ = false := frozen_of_row _ _ _ _ _ HQ2.out
      obtain ⟨hq1E, hgE⟩ := rekeyed (m' := true) (x0 : Int) (x1 : Int) (x2 : Int) (x3 : Int) HQ2.out
      simp only [World.setCells] at hq1E hgE
      obtain ⟨E, hE⟩ : ∃ V, ((((w2.setCell ⟨q, 2, none⟩ (.bool true)).setCell ⟨q, 3, none⟩ (.int .u8 (x0 : Int))).setCell ⟨q, 3 + 1, none⟩ (.int .u8 (x1 : Int))).setCell ⟨q, 3 + 1 + 1, none⟩ (.int .u8 (x2 : Int))).setCell ⟨q, 3 + 1 + 1 + 1, none⟩ (.int .u8 (x3 : Int)) = V := ⟨_, rfl⟩
      rw [hE] at hq1E hgE
      have hE2 : ((((w2.setCell ⟨q, 2, none⟩ (.bool true)).setCell ⟨q, 3, none⟩ (.int .u8 (x0 : Int))).setCell ⟨q, 4, none⟩ (.int .u8 (x1 : Int))).setCell ⟨q, 5, none⟩ (.int .u8 (x2 : Int))).setCell ⟨q, 6, none⟩ (.int .u8 (x3 : Int)) = E := hE
      have HQE := Sl.mk hq1E
      have HBE : Sl (Below wr.heap.size wr E) := ⟨HB2.out.grown hgE HB2.out.size (fun j hj => by injection hj with hj; rw [← hj]; exact HQL.out)⟩
      clear hq1E hgE hE
      go_upto_region 8 with fail
      (try rw [hE2])
      clear hE2 a0 a1 a2 a3 a4 a5 a6 a7 g2 g3 g4 g5 g6 HQ2 HB2
      obtain ⟨a0, a1, a2, a3, a4, a5, a6, a7⟩ := bx8 HQE.out
      go_wp2_with fail
      refine (hC _).mono ?_
      rintro e w3 ⟨rfl, HX3⟩
      have HQ3 : Sl (w3.heap[q]? = some (.cells #[.bool fin, .int .i64 op, .bool true, .int .u8 (x0 : Int), .int .u8 (x1 : Int), .int .u8 (x2 : Int), .int .u8 (x3 : Int), .string s] 44 (0, 0))) := ⟨below_key HQE.out HX3.out⟩
      have HB3 : Sl (Below wr.heap.size wr w3) := ⟨HBE.out.trans (HX3.out.mono HBE.out.size)⟩
      clear hC a0 a1 a2 a3 a4 a5 a6 a7 HX3 HQE HBE
      have a7 : w3.cell? ⟨q, 7, none⟩ = some (.string s) := (bx8 HQ3.out).2.2.2.2.2.2.2
      have g7 : w3.frozen? ⟨q, 7, none⟩ = false := frozen_of_row _ _ _ _ _ HQ3.out
      have hq4 := reclone HQ3.out
      obtain ⟨Y, hY⟩ : ∃ V, w3.setCell ⟨q, 7, none⟩ (.string s) = V := ⟨_, rfl⟩
      rw [hY] at hq4
      have HQ4 := Sl.mk hq4
      have HB4 : Sl (Below wr.heap.size wr Y) := ⟨HB3.out.grown (row := some q) (by rw [← hY]; exact grown_setCell _ _ _ _) HB3.out.size (fun j hj => by injection hj with hj; rw [← hj]; exact HQL.out)⟩
      clear hq4 HQ3 HB3
      go_upto_region 9 with fail
      (try rw [hY])
      clear hY a7 g7
      obtain ⟨a0, a1, a2, a3, a4, a5, a6, a7⟩ := bx8 HQ4.out
      have HRY : Sl (RowF Y g (mp fs ds n k)) := ⟨HR.out.below HB4.out⟩
      have hth : Y.there g (k * 8) 8 := HRY.out.there k (by rw [mp_length]; exact hkn)
      obtain ⟨Z, hZ⟩ : ∃ V, Y.setCells g (k * 8) [.bool fin, .int .i64 op, .bool true, .int .u8 (x0 : Int), .int .u8 (x1 : Int), .int .u8 (x2 : Int), .int .u8 (x3 : Int), .string s] = V := ⟨_, rfl⟩
      have HRZ : Sl (RowF Z g (mp fs ds n (k + 1))) := ⟨by
        have h := HRY.out.put k (item fs ds k) (by rw [mp_length]; exact hkn)
        rw [HIT.out, hZ, mp_set hkn] at h
        exact h⟩
      have HBZ : Sl (Below g w Z) := ⟨(HB.out.trans (HB4.out.mono HGL.out)).grown (row := some g) (by rw [← hZ]; exact grown_setCells _ _ _ _) (Nat.le_trans HGL.out HB4.out.size) (fun j hj => by injection hj with hj; rw [← hj]; exact Nat.le_refl _)⟩
      go_upto_region 10 with (refine wpList_store_mid rfl 44 (.tmp 38) (.tmp 37) rfl g (k * 8) #[.bool fin, .int .i64 op, .bool true, .int .u8 (x0 : Int), .int .u8 (x1 : Int), .int .u8 (x2 : Int), .int .u8 (x3 : Int), .string s] rfl rfl hth HIK (fr_all _ _ _ _ _ _ _ _) ?_)
      (try rw [hZ])
      clear hZ a0 a1 a2 a3 a4 a5 a6 a7 hth
      go_wp2
      exact ⟨⟨k + 1, by go_num, by omega, HRZ, HBZ⟩, by simp [intOf]; omega⟩
    · obtain rfl : k = n := by omega
      have hlt : ((k : Int) < (k : Int)) = False := eq_false (by omega)
      rw [HE.out] at HR
      go_wp2
      go_ret2
      exact ⟨rfl, HR, HB⟩
end Go.Proofs.YtimndpmbgfoofaaDoor.Cut
