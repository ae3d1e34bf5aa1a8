/- The document's value, Form, Few. -/
import Derived.Test.YtcohecghibndhaaDoorO
import Derived.Deep.DeepCutAuto
namespace Go.Proofs.YtcohecghibndhaaDoor
open Go.RowKit HeadPlain

theorem head_get (s : ByteArray) (h : 0 < s.size) : (bytes s).head? = some ((bytes s).getD 0 0) := by
  have hl : 0 < (bytes s).length := by rw [bytes_length]; exact h
  rw [List.head?_eq_getElem?, List.getD_eq_getElem?_getD, List.getElem?_eq_getElem hl]; rfl
theorem last_get (s : ByteArray) (h : 0 < s.size) : (bytes s).getLast? = some ((bytes s).getD (s.size - 1) 0) := by
  have hl : (bytes s).length = s.size := bytes_length s
  rw [List.getLast?_eq_getElem?, hl, List.getD_eq_getElem?_getD, List.getElem?_eq_getElem (by omega)]; rfl
set_option maxHeartbeats 1000000 in
theorem valueR_any (s : ByteArray) (W : World) (hs : s.size ≤ maxLen) : Calls Tryd.prog 43 #[.string s] W fun e w' => e = .returned (.bool (valueB (bytes s))) ∧ w' = W := by
  have HP := Sl.mk (plain_any s 32 W hs)
  have HV : Sl (valueB (bytes s) = (plainB 32 (bytes s) && ((bytes s).head? != some 32 && (bytes s).getLast? != some 32))) := ⟨rfl⟩
  obtain ⟨p, hp⟩ : ∃ p, plainB 32 (bytes s) = p := ⟨_, rfl⟩
  rw [hp] at HP HV
  clear hp
  unfold maxLen at hs
  cases p with
  | false =>
    go_enter Tryd.func43, Tryd.ntmps43
    go_wp2_with fail
    refine HP.out.mono ?_
    rintro e w' ⟨rfl, rfl⟩
    go_wp2
    go_ret
    exact ⟨ret_bool (by rw [HV.out]; rfl), rfl⟩
  | true =>
    by_cases h0 : s.size = 0
    · obtain rfl : s = ByteArray.empty := ByteArray.size_eq_zero_iff.1 h0
      have HV2 : Sl (valueB (bytes ByteArray.empty) = true) := ⟨rfl⟩
      clear h0 hs HV
      go_enter Tryd.func43, Tryd.ntmps43
      go_wp2_with fail
      refine HP.out.mono ?_
      rintro e w' ⟨rfl, rfl⟩
      go_wp2
      go_ret
      exact ⟨ret_bool HV2.out.symm, rfl⟩
    · have hq : (s.toList == []) = false := by
        rw [beq_bytes]
        refine decide_eq_false (fun e => h0 ?_)
        rw [← bytes_length, e]; rfl
      have hpos : 0 < s.size := by omega
      have hlast : s.size - 1 < s.size := by omega
      obtain ⟨x, hx⟩ : ∃ x, (s[0]'hpos).toNat = x := ⟨_, rfl⟩
      obtain ⟨y, hy⟩ : ∃ y, (s[s.size - 1]'hlast).toNat = y := ⟨_, rfl⟩
      have HXX : Sl ((bytes s).getD 0 0 = x) := ⟨by rw [bytes_getD s 0 hpos, ← hx]; rfl⟩
      have HYY : Sl ((bytes s).getD (s.size - 1) 0 = y) := ⟨by rw [bytes_getD s _ hlast, ← hy]; rfl⟩
      have HV2 : Sl (valueB (bytes s) = (decide (x ≠ 32) && decide (y ≠ 32))) := ⟨by
        rw [HV.out, Bool.true_and, head_get s hpos, last_get s hpos, HXX.out, HYY.out]
        rw [Bool.eq_iff_iff]
        simp⟩
      have hz : ((s.size : Int) - 1) = ((s.size - 1 : Nat) : Int) := by omega
      by_cases hx32 : x = 32
      · have hx' : ((x : Int) == 32) = true := by simp [hx32]
        go_enter Tryd.func43, Tryd.ntmps43
        go_wp2_with fail
        refine HP.out.mono ?_
        rintro e w' ⟨rfl, rfl⟩
        go_wp2
        go_ret
        exact ⟨ret_bool (by rw [HV2.out]; simp [hx32]), rfl⟩
      · have hx' : ((x : Int) == 32) = false := by simp; omega
        go_enter Tryd.func43, Tryd.ntmps43
        go_wp2_with fail
        refine HP.out.mono ?_
        rintro e w' ⟨rfl, rfl⟩
        go_wp2
        go_ret
        refine ⟨ret_bool ?_, rfl⟩
        rw [HV2.out, Bool.eq_iff_iff]
        simp
        omega

/-- The first k fields may be. -/
def fldTo (fs : List FV) (k : Nat) : Bool := (fs.take k).all fun f => fieldB f.1 f.2
theorem fldTo_succ (fs : List FV) (k : Nat) (hk : k < fs.length) : fldTo fs (k + 1) = (fldTo fs k && fieldB (fs.getD k f0).1 (fs.getD k f0).2) := by
  have e : fs.getD k f0 = fs[k] := by simp [List.getD_eq_getElem?_getD, List.getElem?_eq_getElem hk]
  unfold fldTo
  rw [List.take_succ_eq_append_getElem hk, List.all_append, e]
  simp

set_option maxHeartbeats 2000000 in
set_option maxRecDepth 100000 in
theorem formR_any (h : HdV) (bx : Value) (W : World) (hv : FieldsAt W bx h.fs) (hf : h.Fit) :
    Calls Tryd.prog 29 #[.agg #[.string h.a, .string h.b, .string h.c, bx]] W fun e w' => e = .returned (.bool (formB h.hd)) ∧ Sl (Below W.heap.size W w') := by
  obtain ⟨ad, cap, sb, so, rfl, hcap, hm, had, hcell⟩ := hv
  have HCE := Sl.mk hcell
  have HAD := Sl.mk had
  have HFB : Sl (formB h.hd = (firstB h.a h.b h.c && fldTo h.fs h.fs.length)) := ⟨by
    rw [formB_eq]; unfold fldTo; rw [List.take_of_length_le (Nat.le_refl _)]⟩
  have PA : Sl (∀ V : World, Calls Tryd.prog 42 #[.string h.a, .int .u8 33] V fun e w' => e = .returned (.bool (plainB 33 (bytes h.a))) ∧ w' = V) := ⟨fun V => plain_any h.a 33 V hf.a⟩
  have PB : Sl (∀ V : World, Calls Tryd.prog 42 #[.string h.b, .int .u8 33] V fun e w' => e = .returned (.bool (plainB 33 (bytes h.b))) ∧ w' = V) := ⟨fun V => plain_any h.b 33 V hf.b⟩
  have PC : Sl (∀ V : World, Calls Tryd.prog 43 #[.string h.c] V fun e w' => e = .returned (.bool (valueB (bytes h.c))) ∧ w' = V) := ⟨fun V => valueR_any h.c V hf.c⟩
  have HTK : Sl (∀ (s : ByteArray) (V : World), s.size ≤ maxLen → Calls Tryd.prog 24 #[.string s] V fun e w' => e = .returned (.bool (token (bytes s))) ∧ w' = V) := ⟨fun s V hs => tokenR_any s V hs⟩
  have HVL : Sl (∀ (s : ByteArray) (V : World), s.size ≤ maxLen → Calls Tryd.prog 43 #[.string s] V fun e w' => e = .returned (.bool (valueB (bytes s))) ∧ w' = V) := ⟨fun s V hs => valueR_any s V hs⟩
  obtain ⟨za, hza⟩ : ∃ z, (h.a.toList == []) = z := ⟨_, rfl⟩
  obtain ⟨zb, hzb⟩ : ∃ z, (h.b.toList == []) = z := ⟨_, rfl⟩
  have HFS : Sl (firstB h.a h.b h.c = ((!za && plainB 33 (bytes h.a)) && ((!zb && plainB 33 (bytes h.b)) && valueB (bytes h.c)))) := ⟨by
    have k : ∀ s : ByteArray, (s.toList == []) = (bytes s).isEmpty := fun s => by
      rw [beq_bytes]
      cases bytes s <;> simp
    rw [← hza, ← hzb, k, k]
    rfl⟩
  obtain ⟨pa, hpa⟩ : ∃ z, plainB 33 (bytes h.a) = z := ⟨_, rfl⟩
  obtain ⟨pb, hpb⟩ : ∃ z, plainB 33 (bytes h.b) = z := ⟨_, rfl⟩
  obtain ⟨pc, hpc⟩ : ∃ z, valueB (bytes h.c) = z := ⟨_, rfl⟩
  rw [hpa] at PA HFS
  rw [hpb] at PB HFS
  rw [hpc] at PC HFS
  obtain ⟨ok0, hok0⟩ : ∃ z, firstB h.a h.b h.c = z := ⟨_, rfl⟩
  rw [hok0] at HFS HFB
  unfold maxLen at hm
  clear hcell had hf hpa hpb hpc hok0
  obtain ⟨w1, hw1⟩ : ∃ w1, W.alloc (.cells #[.string h.a, .string h.b, .string h.c, .slice ad h.fs.length cap] 25) = w1 := ⟨_, rfl⟩
  have HB1 : Sl (Below W.heap.size W w1) := ⟨by rw [← hw1]; exact (Below.refl _ _).alloc (Nat.le_refl _) _⟩
  have HX1 : Sl (w1.heap[W.heap.size]? = some (.cells #[.string h.a, .string h.b, .string h.c, .slice ad h.fs.length cap] 25 (0, 0))) := ⟨by rw [← hw1]; exact alloc_new _ _ _ rfl⟩
  obtain ⟨p0, p1, p2, p3⟩ := head_cells HX1.out
  go_enter Tryd.func29, Tryd.ntmps29
  go_upto_region 1 with fail
  go_cut [3] (fun s3 wx => s3 = .bool ok0 ∧ w1 = wx)
  case first =>
    cases za with
    | true =>
      have e : ok0 = false := by rw [HFS.out]; rfl
      go_wp2_with fail
      go_meet
      exact ⟨by rw [e], rfl⟩
    | false =>
      go_wp2_with fail
      refine (PA.out _).mono ?_
      rintro e w2 ⟨rfl, rfl⟩
      cases pa with
      | false =>
        have e : ok0 = false := by rw [HFS.out]; rfl
        go_wp2_with fail
        go_meet
        exact ⟨by rw [e], rfl⟩
      | true =>
        cases zb with
        | true =>
          have e : ok0 = false := by rw [HFS.out]; rfl
          go_wp2_with fail
          go_meet
          exact ⟨by rw [e], rfl⟩
        | false =>
          go_wp2_with fail
          refine (PB.out _).mono ?_
          rintro e w2 ⟨rfl, rfl⟩
          cases pb with
          | false =>
            have e : ok0 = false := by rw [HFS.out]; rfl
            go_wp2_with fail
            go_meet
            exact ⟨by rw [e], rfl⟩
          | true =>
            go_wp2_with fail
            refine (PC.out _).mono ?_
            rintro e w2 ⟨rfl, rfl⟩
            have e : ok0 = pc := by rw [HFS.out]; rfl
            go_wp2_with fail
            go_meet
            exact ⟨by rw [e], rfl⟩
  case rest =>
    obtain ⟨rfl, rfl⟩ := hcut
    clear PA PB PC HFS hza hzb p0 p1 p2 hw1
    have HF0 : Sl (fldTo h.fs 0 = true) := ⟨rfl⟩
    go_wp2
    go_loopw [3, 4] (fun o i wr => ∃ k : Nat, k ≤ h.fs.length ∧ o = .bool (ok0 && fldTo h.fs k) ∧ i = .int .i64 k ∧ w1 = wr) (fun _ i _ => h.fs.length - (intOf i).toNat)
    case atStart => exact ⟨0, Nat.zero_le _, by rw [HF0.out, Bool.and_true], rfl, rfl⟩
    case round =>
      obtain ⟨k, hk, rfl, rfl, rfl⟩ := hrel
      by_cases hlt : k < h.fs.length
      · obtain rfl := HAD.out (by omega)
        obtain ⟨g1, g2, g3, g4⟩ := HCE.out k hlt
        have HS := Sl.mk (fldTo_succ h.fs k hlt)
        obtain ⟨f, hf⟩ : ∃ f, h.fs.getD k f0 = f := ⟨_, rfl⟩
        rw [hf] at g1 g2 g3 g4 HS
        clear hf
        obtain ⟨n, x⟩ := f
        simp only at g1 g2 g3 g4 HS
        have HN := Sl.mk g3
        have HXv := Sl.mk g4
        have k0 := block_lt_of_cell g1
        have q0 : w1.cell? ⟨sb, so + k * 2, none⟩ = some (.string n) := by rw [HB1.out.cell (p := ⟨sb, so + k * 2, none⟩) k0]; exact g1
        have q1 : w1.cell? ⟨sb, so + k * 2 + 1, none⟩ = some (.string x) := by rw [HB1.out.cell (p := ⟨sb, so + k * 2 + 1, none⟩) k0]; exact g2
        have hk0 : (0 : Int) ≤ (k : Int) := by omega
        have hk1 : (k : Int) < (h.fs.length : Int) := by omega
        have HFI : Sl (fieldB n x = (token (bytes n) && valueB (bytes x))) := ⟨rfl⟩
        obtain ⟨u, hu⟩ : ∃ u, (ok0 && fldTo h.fs k) = u := ⟨_, rfl⟩
        have HU : Sl ((ok0 && fldTo h.fs (k + 1)) = (u && fieldB n x)) := ⟨by rw [HS.out, ← Bool.and_assoc, hu]⟩
        rw [hu]
        clear g1 g2 g3 g4 k0 hu
        cases u with
        | false =>
          go_wp2
          refine ⟨⟨k + 1, by omega, by rw [HU.out]; rfl, by go_num, trivial⟩, by simp [intOf]; omega⟩
        | true =>
          obtain ⟨tk, htk⟩ : ∃ z, token (bytes n) = z := ⟨_, rfl⟩
          obtain ⟨vl, hvl⟩ : ∃ z, valueB (bytes x) = z := ⟨_, rfl⟩
          have C1 := Sl.mk (HTK.out n w1 HN.out)
          have C2 := Sl.mk (HVL.out x w1 HXv.out)
          rw [htk] at C1 HFI
          rw [hvl] at C2 HFI
          clear htk hvl
          go_wp2_with fail
          refine C1.out.mono ?_
          rintro e w2 ⟨rfl, rfl⟩
          cases tk with
          | false =>
            go_wp2
            refine ⟨⟨k + 1, by omega, by rw [HU.out, HFI.out]; rfl, by go_num, trivial⟩, by simp [intOf]; omega⟩
          | true =>
            go_wp2_with fail
            refine C2.out.mono ?_
            rintro e w2 ⟨rfl, rfl⟩
            go_wp2
            refine ⟨⟨k + 1, by omega, by rw [HU.out, HFI.out]; rfl, by go_num, trivial⟩, by simp [intOf]; omega⟩
      · have hge : ((k : Int) < (h.fs.length : Int)) = False := eq_false (by omega)
        obtain rfl : k = h.fs.length := by omega
        rw [← HFB.out]
        go_wp2
        go_ret
        exact ⟨rfl, HB1⟩

/-- A head that isn't too great. -/
structure Few (h : HdV) : Prop where
  n : h.fs.length ≤ 50
  a : h.a.size ≤ 3000
  b : h.b.size ≤ 3000
  c : h.c.size ≤ 3000
  f : ∀ j, j < h.fs.length → (h.fs.getD j f0).1.size ≤ 3000 ∧ (h.fs.getD j f0).2.size ≤ 3000
def FewR (h : HdV) (e : Ending) : Prop := (e = .returned (.bool true) ∧ Few h) ∨ (e = .returned (.bool false) ∧ ¬ Few h)
set_option maxHeartbeats 2000000 in
set_option maxRecDepth 100000 in
theorem few_any (h : HdV) (bx : Value) (W : World) (hv : FieldsAt W bx h.fs) (hf : h.Fit) :
    Calls Tryd.prog 12 #[.agg #[.string h.a, .string h.b, .string h.c, bx]] W fun e w' => Sl (FewR h e) ∧ Sl (Below W.heap.size W w') := by
  obtain ⟨ad, cap, sb, so, rfl, hcap, hm, had, hcell⟩ := hv
  have HCE := Sl.mk hcell
  have HAD := Sl.mk had
  have ha := hf.a
  have hb := hf.b
  have hc := hf.c
  unfold maxLen at hm ha hb hc
  clear hcell had hf
  obtain ⟨w1, hw1⟩ : ∃ w1, W.alloc (.cells #[.string h.a, .string h.b, .string h.c, .slice ad h.fs.length cap] 25) = w1 := ⟨_, rfl⟩
  have HB1 : Sl (Below W.heap.size W w1) := ⟨by rw [← hw1]; exact (Below.refl _ _).alloc (Nat.le_refl _) _⟩
  have HX1 : Sl (w1.heap[W.heap.size]? = some (.cells #[.string h.a, .string h.b, .string h.c, .slice ad h.fs.length cap] 25 (0, 0))) := ⟨by rw [← hw1]; exact alloc_new _ _ _ rfl⟩
  obtain ⟨p0, p1, p2, p3⟩ := head_cells HX1.out
  go_enter Tryd.func12, Tryd.ntmps12
  go_wp2
  clear hw1
  go_loopw [3] (fun i wr => ∃ k : Nat, k ≤ h.fs.length ∧ i = .int .i64 k ∧ w1 = wr ∧ Sl (∀ j, j < k → (h.fs.getD j f0).1.size ≤ 3000 ∧ (h.fs.getD j f0).2.size ≤ 3000)) (fun i _ => h.fs.length - (intOf i).toNat)
  case atStart => exact ⟨0, Nat.zero_le _, rfl, rfl, ⟨fun j hj => by omega⟩⟩
  case round =>
    obtain ⟨k, hk, rfl, rfl, HA⟩ := hrel
    by_cases hlt : k < h.fs.length
    · obtain rfl := HAD.out (by omega)
      obtain ⟨g1, g2, g3, g4⟩ := HCE.out k hlt
      obtain ⟨f, hf⟩ : ∃ f, h.fs.getD k f0 = f := ⟨_, rfl⟩
      have HF := Sl.mk hf
      rw [hf] at g1 g2 g3 g4
      clear hf
      obtain ⟨n, x⟩ := f
      simp only at g1 g2 g3 g4
      unfold maxLen at g3 g4
      have k0 := block_lt_of_cell g1
      have q0 : w1.cell? ⟨sb, so + k * 2, none⟩ = some (.string n) := by rw [HB1.out.cell (p := ⟨sb, so + k * 2, none⟩) k0]; exact g1
      have q1 : w1.cell? ⟨sb, so + k * 2 + 1, none⟩ = some (.string x) := by rw [HB1.out.cell (p := ⟨sb, so + k * 2 + 1, none⟩) k0]; exact g2
      have hk0 : (0 : Int) ≤ (k : Int) := by omega
      have hk1 : (k : Int) < (h.fs.length : Int) := by omega
      clear g1 g2 k0
      by_cases h1 : n.size ≤ 3000
      · have h1' : ((n.size : Int) > 3000) = False := eq_false (by omega)
        by_cases h2 : x.size ≤ 3000
        · have h2' : ((x.size : Int) > 3000) = False := eq_false (by omega)
          go_wp2
          refine ⟨⟨k + 1, by omega, by go_num, trivial, ⟨fun j hj => ?_⟩⟩, by simp [intOf]; omega⟩
          by_cases e : j = k
          · subst e; rw [HF.out]; exact ⟨h1, h2⟩
          · exact HA.out j (by omega)
        · have h2' : (x.size : Int) > 3000 := by omega
          go_wp2
          go_ret
          exact ⟨⟨Or.inr ⟨rfl, fun hF => by have := (hF.f k hlt).2; rw [HF.out] at this; exact absurd this h2⟩⟩, HB1⟩
      · have h1' : (n.size : Int) > 3000 := by omega
        go_wp2
        go_ret
        exact ⟨⟨Or.inr ⟨rfl, fun hF => by have := (hF.f k hlt).1; rw [HF.out] at this; exact absurd this h1⟩⟩, HB1⟩
    · have hge : ((k : Int) < (h.fs.length : Int)) = False := eq_false (by omega)
      obtain rfl : k = h.fs.length := by omega
      by_cases b1 : h.fs.length ≤ 50
      · have b1' : (h.fs.length : Int) ≤ 50 := by omega
        by_cases b2 : h.a.size ≤ 3000
        · have b2' : (h.a.size : Int) ≤ 3000 := by omega
          by_cases b3 : h.b.size ≤ 3000
          · have b3' : (h.b.size : Int) ≤ 3000 := by omega
            by_cases b4 : h.c.size ≤ 3000
            · have b4' : (h.c.size : Int) ≤ 3000 := by omega
              go_wp2
              go_ret
              exact ⟨⟨Or.inl ⟨rfl, ⟨b1, b2, b3, b4, HA.out⟩⟩⟩, HB1⟩
            · have b4' : ((h.c.size : Int) ≤ 3000) = False := eq_false (by omega)
              go_wp2
              go_ret
              exact ⟨⟨Or.inr ⟨rfl, fun hF => absurd hF.c b4⟩⟩, HB1⟩
          · have b3' : ((h.b.size : Int) ≤ 3000) = False := eq_false (by omega)
            go_wp2
            go_ret
            exact ⟨⟨Or.inr ⟨rfl, fun hF => absurd hF.b b3⟩⟩, HB1⟩
        · have b2' : ((h.a.size : Int) ≤ 3000) = False := eq_false (by omega)
          go_wp2
          go_ret
          exact ⟨⟨Or.inr ⟨rfl, fun hF => absurd hF.a b2⟩⟩, HB1⟩
      · have b1' : ((h.fs.length : Int) ≤ 50) = False := eq_false (by omega)
        go_wp2
        go_ret
        exact ⟨⟨Or.inr ⟨rfl, fun hF => absurd hF.n b1⟩⟩, HB1⟩
end Go.Proofs.YtcohecghibndhaaDoor
