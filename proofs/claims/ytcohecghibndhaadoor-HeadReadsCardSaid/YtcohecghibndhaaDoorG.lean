/- Check: whether a head may be. -/
import Derived.Test.YtcohecghibndhaaDoorF
namespace Go.Proofs.YtcohecghibndhaaDoor
open Go.RowKit HeadPlain

theorem formB_eq (h : HdV) : formB h.hd = (firstB h.a h.b h.c && h.fs.all fun f => fieldB f.1 f.2) := by
  unfold formB firstB wordB HdV.hd fieldB
  simp only [List.all_map, Bool.and_assoc]
  rfl
/-- Check's answer. -/
def chk (h : HdV) : Nat := if formB h.hd = true then (if 32 < h.fs.length ∨ 2048 < (text h.hd).length then 51 else 0) else 52

theorem wrong_any (n v : ByteArray) (W : World) (hg : Globs W) (hn : n.size ≤ maxLen) (hv : v.size ≤ maxLen) :
    Calls Tryd.prog 30 #[.agg #[.string n, .string v]] W fun e w' => e = .returned (.bool (!fieldB n v)) ∧ Sl (Below W.heap.size W w') := by
  have HF : Sl (∀ V : World, Below W.heap.size W V → Calls Tryd.prog 31 #[.agg #[.string n, .string v]] V fun e w' => e = .returned (.bool (fieldB n v)) ∧ Sl (Below V.heap.size V w')) := ⟨fun V h => field_any n v V (hg.of h) hn hv⟩
  obtain ⟨p, hp⟩ : ∃ p, fieldB n v = p := ⟨_, rfl⟩
  rw [hp] at HF
  rw [hp]
  clear hp hn hv hg
  go_enter Tryd.func30, Tryd.ntmps30
  go_wp2_with fail
  refine (HF.out _ ((Below.refl _ _).alloc (Nat.le_refl _) _)).mono ?_
  rintro e w2 ⟨rfl, HB2⟩
  have HB3 : Sl (Below W.heap.size W w2) := ⟨below_trans ((Below.refl _ _).alloc (Nat.le_refl _) _) HB2.out⟩
  go_wp2
  go_ret
  exact ⟨rfl, HB3⟩

set_option maxHeartbeats 400000 in
theorem index_any (l : List FV) (v : Value) (W : World) (hg : Globs W) (hv : FieldsAt W v l) :
    Calls Tryd.prog 46 #[v, .func (.func 30) #[] #[]] W fun e w' => (∃ z : Int, e = .returned (.int .i64 z) ∧ Sl (decide (0 ≤ z) = !l.all fun f => fieldB f.1 f.2)) ∧ Sl (Below W.heap.size W w') := by
  obtain ⟨ad, cap, sb, so, rfl, hcap, hm, had, hcell⟩ := hv
  have HG := Sl.mk hg
  have HCE := Sl.mk hcell
  have HAD := Sl.mk had
  unfold maxLen at hm
  clear hg hcell had
  go_enter Tryd.func46, Tryd.ntmps46
  go_wp2
  go_loopw [8] (fun i wr => ∃ k : Nat, k ≤ l.length ∧ i = .int .i64 k ∧ Sl (Below W.heap.size W wr) ∧ Sl (∀ j, j < k → fieldB (l.getD j f0).1 (l.getD j f0).2 = true)) (fun i _ => l.length - (intOf i).toNat)
  case atStart => exact ⟨0, Nat.zero_le _, rfl, ⟨Below.refl _ _⟩, ⟨fun j hj => by omega⟩⟩
  case round =>
    obtain ⟨k, hk, rfl, HB, HA⟩ := hrel
    by_cases hlt : k < l.length
    · obtain rfl := HAD.out (by omega)
      obtain ⟨g1, g2, g3, g4⟩ := HCE.out k hlt
      obtain ⟨f, hf⟩ : ∃ f, l.getD k f0 = f := ⟨_, rfl⟩
      have HF := Sl.mk hf
      rw [hf] at g1 g2 g3 g4
      clear hf
      obtain ⟨n, x⟩ := f
      simp only at g1 g2 g3 g4
      have k0 := block_lt_of_cell g1
      have e0 : wr.cell? ⟨sb, so + k * 2, none⟩ = some (.string n) := by rw [HB.out.cell (p := ⟨sb, so + k * 2, none⟩) k0]; exact g1
      have e1 : wr.cell? ⟨sb, so + k * 2 + 1, none⟩ = some (.string x) := by rw [HB.out.cell (p := ⟨sb, so + k * 2 + 1, none⟩) k0]; exact g2
      have HW := Sl.mk (wrong_any n x wr (HG.out.of HB.out) g3 g4)
      have hk0 : (0 : Int) ≤ (k : Int) := by omega
      have hk1 : (k : Int) < (l.length : Int) := by omega
      clear g1 g2 g3 g4 k0
      obtain ⟨p, hp⟩ : ∃ p, fieldB n x = p := ⟨_, rfl⟩
      have HP := Sl.mk hp
      rw [hp] at HW
      clear hp
      go_wp2_with fail
      refine HW.out.mono ?_
      rintro e w2 ⟨rfl, HB2⟩
      have HB3 : Sl (Below W.heap.size W w2) := ⟨below_trans HB.out HB2.out⟩
      clear HW
      cases p with
      | true =>
        go_wp2
        refine ⟨⟨k + 1, by omega, by go_num, HB3, ⟨fun j hj => ?_⟩⟩, by simp [intOf]; omega⟩
        by_cases e : j = k
        · subst e; rw [HF.out]; exact HP.out
        · exact HA.out j (by omega)
      | false =>
        have HN : Sl ((l.all fun f => fieldB f.1 f.2) = false) := ⟨by
          rw [Bool.eq_false_iff]
          intro h
          rw [List.all_eq_true] at h
          have h2 := h (l.getD k f0) (by simp [List.getD_eq_getElem?_getD, List.getElem?_eq_getElem hlt])
          rw [HF.out] at h2
          simp only at h2
          rw [HP.out] at h2
          cases h2⟩
        go_wp2
        go_ret
        exact ⟨⟨_, rfl, ⟨by rw [HN.out, decide_eq_true hk0]; rfl⟩⟩, HB3⟩
    · have hge : ((k : Int) < (l.length : Int)) = False := eq_false (by omega)
      have HY : Sl ((l.all fun f => fieldB f.1 f.2) = true) := ⟨by
        rw [List.all_eq_true]
        intro f hf
        obtain ⟨j, hj, rfl⟩ := List.getElem_of_mem hf
        have := HA.out j (by omega)
        simpa [List.getD_eq_getElem?_getD, List.getElem?_eq_getElem hj] using this⟩
      go_wp2
      go_ret
      exact ⟨⟨_, rfl, ⟨by rw [HY.out]; rfl⟩⟩, HB⟩
theorem contains_any (l : List FV) (v : Value) (W : World) (hg : Globs W) (hv : FieldsAt W v l) :
    Calls Tryd.prog 33 #[v, .func (.func 30) #[] #[]] W fun e w' => e = .returned (.bool (!l.all fun f => fieldB f.1 f.2)) ∧ Sl (Below W.heap.size W w') := by
  have HX := Sl.mk (index_any l v W hg hv)
  clear hg hv
  go_enter Tryd.func33, Tryd.ntmps33
  go_wp2_with fail
  refine HX.out.mono ?_
  rintro e w2 ⟨⟨z, rfl, HZ⟩, HB2⟩
  by_cases hz : 0 ≤ z
  · have HR : Sl ((!l.all fun f => fieldB f.1 f.2) = true) := ⟨by rw [← HZ.out]; exact decide_eq_true hz⟩
    go_wp2
    go_ret
    exact ⟨ret_bool HR.out.symm, HB2⟩
  · go_wp2
    go_ret
    exact ⟨ret_bool HZ.out, HB2⟩

set_option maxHeartbeats 1000000 in
theorem check_any (h : HdV) (v : Value) (W : World) (hg : Globs W) (hv : FieldsAt W v h.fs) (hf : h.Fit) (hL : (text h.hd).length ≤ 1000000) :
    Calls Tryd.prog 15 #[.agg #[.string h.a, .string h.b, .string h.c, v]] W fun e w' => e = .returned (.int .i64 (chk h : Nat)) ∧ Sl (Below W.heap.size W w') := by
  have HG := Sl.mk hg
  have HV := Sl.mk hv
  have HLL := Sl.mk hL
  obtain ⟨vad, vn, vc, hvv, hvn⟩ : ∃ a n c, v = .slice a n c ∧ n = h.fs.length := by obtain ⟨a, cap, _, _, h1, _⟩ := hv; exact ⟨_, _, _, h1, rfl⟩
  subst hvv
  subst hvn
  have HM : Sl (h.fs.length ≤ 9223372036854775807) := ⟨by
    obtain ⟨a, cap, sb, so, h1, hc, h2, h3, h4⟩ := hv
    unfold maxLen at h2; omega⟩
  have hm := HM.out
  have HF1 : Sl (∀ V : World, Calls Tryd.prog 32 #[.agg #[.string h.a, .string h.b, .string h.c]] V fun e w' => e = .returned (.bool (firstB h.a h.b h.c)) ∧ Sl (Below V.heap.size V w')) := ⟨fun V => first_any _ _ _ V hf.a hf.b hf.c⟩
  have HFB := Sl.mk (formB_eq h)
  have HCK : Sl (chk h = if formB h.hd = true then (if 32 < h.fs.length ∨ 2048 < (text h.hd).length then 51 else 0) else 52) := ⟨rfl⟩
  obtain ⟨p, hp⟩ : ∃ p, firstB h.a h.b h.c = p := ⟨_, rfl⟩
  obtain ⟨q, hq⟩ : ∃ q, (h.fs.all fun f => fieldB f.1 f.2) = q := ⟨_, rfl⟩
  obtain ⟨L, hl⟩ : ∃ L, (text h.hd).length = L := ⟨_, rfl⟩
  have HLE := Sl.mk hl
  have HQ := Sl.mk hq
  rw [hp] at HF1 HFB
  rw [hq] at HFB
  rw [hl] at HCK
  rw [HFB.out] at HCK
  clear hp hq hl hg hv hf hL
  go_enter Tryd.func15, Tryd.ntmps15
  go_wp2_with fail
  refine (HF1.out _).mono ?_
  rintro e w2 ⟨rfl, HB2⟩
  have HB3 : Sl (Below W.heap.size W w2) := ⟨below_trans ((Below.refl _ _).alloc (Nat.le_refl _) _) HB2.out⟩
  have HX2 : Sl (w2.heap[W.heap.size]? = some (.cells #[.string h.a, .string h.b, .string h.c, .slice vad h.fs.length vc] 25 (0, 0))) := ⟨by
    rw [HB2.out.block _ (by rw [alloc_size]; omega)]; exact alloc_new _ _ _ rfl⟩
  clear HB2 HF1
  cases p with
  | false =>
    have HR : Sl (chk h = 52) := ⟨by rw [HCK.out]; rfl⟩
    go_wp2
    go_ret
    exact ⟨ret_int (by rw [HR.out]; rfl), HB3⟩
  | true =>
    have c3 : w2.cell? ⟨W.heap.size, 3, none⟩ = some (.slice vad h.fs.length vc) := by rw [cell_of_row _ _ _ _ _ _ HX2.out]; rfl
    go_wp2_with fail
    refine (contains_any h.fs _ _ (HG.out.of HB3.out) (HV.out.below HB3.out)).mono ?_
    rw [HQ.out]
    rintro e w4 ⟨rfl, HB4⟩
    have HX4 : Sl (w4.heap[W.heap.size]? = some (.cells #[.string h.a, .string h.b, .string h.c, .slice vad h.fs.length vc] 25 (0, 0))) := ⟨by
      rw [HB4.out.block _ (lt_of_block HX2.out)]; exact HX2.out⟩
    have HB5 : Sl (Below W.heap.size W w4) := ⟨below_trans HB3.out HB4.out⟩
    clear HB4 HX2 c3 HB3
    cases q with
    | false =>
      have HR : Sl (chk h = 52) := ⟨by rw [HCK.out]; rfl⟩
      go_wp2
      go_ret
      exact ⟨ret_int (by rw [HR.out]; rfl), HB5⟩
    | true =>
      have HX5 : Sl ((w4.alloc (.cells #[.int .i64 0] 3)).heap[W.heap.size]? = some (.cells #[.string h.a, .string h.b, .string h.c, .slice vad h.fs.length vc] 25 (0, 0))) := ⟨by
        rw [alloc_old _ _ _ (lt_of_block HX4.out)]; exact HX4.out⟩
      have d0 : (w4.alloc (.cells #[.int .i64 0] 3)).cell? ⟨W.heap.size, 0, none⟩ = some (.string h.a) := by rw [cell_of_row _ _ _ _ _ _ HX5.out]; rfl
      have d1 : (w4.alloc (.cells #[.int .i64 0] 3)).cell? ⟨W.heap.size, 1, none⟩ = some (.string h.b) := by rw [cell_of_row _ _ _ _ _ _ HX5.out]; rfl
      have d2 : (w4.alloc (.cells #[.int .i64 0] 3)).cell? ⟨W.heap.size, 2, none⟩ = some (.string h.c) := by rw [cell_of_row _ _ _ _ _ _ HX5.out]; rfl
      have d3 : (w4.alloc (.cells #[.int .i64 0] 3)).cell? ⟨W.heap.size, 3, none⟩ = some (.slice vad h.fs.length vc) := by rw [cell_of_row _ _ _ _ _ _ HX5.out]; rfl
      have HI0 : Sl (CntI W w4.heap.size [] (w4.alloc (.cells #[.int .i64 0] 3))) := ⟨⟨alloc_new _ _ _ rfl, HB5.out.alloc HB5.out.size _⟩⟩
      go_wp2_with fail
      refine (tell_any 34 w4.heap.size W (CntI W w4.heap.size) (cntTells W _ HB5.out.size) h _ _ HI0.out HV.out HLL.out).mono ?_
      rintro e w6 ⟨rfl, HI6, HK6⟩
      have HX6 : Sl (w6.heap[W.heap.size]? = some (.cells #[.string h.a, .string h.b, .string h.c, .slice vad h.fs.length vc] 25 (0, 0))) := ⟨HK6.out _ _ _ (Or.inl rfl) HX5.out⟩
      have e3 : w6.cell? ⟨W.heap.size, 3, none⟩ = some (.slice vad h.fs.length vc) := by rw [cell_of_row _ _ _ _ _ _ HX6.out]; rfl
      have e4 : w6.cell? ⟨w4.heap.size, 0, none⟩ = some (.int .i64 (L : Int)) := by rw [cell_of_one HI6.out.c, HLE.out]
      have HB6 : Sl (Below W.heap.size W w6) := ⟨HI6.out.b⟩
      clear d0 d1 d2 d3 HK6 HX6 HX5 HX4 HI0 HI6
      by_cases h1 : 32 < h.fs.length
      · have h1' : (h.fs.length : Int) > 32 := by omega
        have HR : Sl (chk h = 51) := ⟨by rw [HCK.out, if_pos (show (true && true) = true from rfl), if_pos (Or.inl h1)]⟩
        go_wp2
        go_ret
        exact ⟨ret_int (by rw [HR.out]; rfl), HB6⟩
      · have h1' : ((h.fs.length : Int) > 32) = False := eq_false (by omega)
        by_cases h2 : 2048 < L
        · have h2' : (L : Int) > 2048 := by omega
          have HR : Sl (chk h = 51) := ⟨by rw [HCK.out, if_pos (show (true && true) = true from rfl), if_pos (Or.inr h2)]⟩
          go_wp2
          go_ret
          exact ⟨ret_int (by rw [HR.out]; rfl), HB6⟩
        · have h2' : ((L : Int) > 2048) = False := eq_false (by omega)
          have HR : Sl (chk h = 0) := ⟨by rw [HCK.out, if_pos (show (true && true) = true from rfl), if_neg (by omega)]⟩
          go_wp2
          go_ret
          exact ⟨ret_int (by rw [HR.out]; rfl), HB6⟩
end Go.Proofs.YtcohecghibndhaaDoor
