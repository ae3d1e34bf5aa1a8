/- The document's value, Form, Few. -/
import Derived.Test.YthlagngpllahkaaGreatDoorHdD
import Derived.Deep.DeepCutAuto
import Derived.SliceStrings
import Derived.ProofKit
import Derived.Deep.Strs
import Derived.ChangeArms
import Derived.OpenShut
import Derived.Laws.IdiomArrays
set_option maxRecDepth 100000
namespace Go.Proofs.YthlagngpllahkaaGreatDoor
open Go.RowKit HeadPlain

theorem head_get (s : ByteArray) (h : 0 < s.size) : (bytes s).head? = some ((bytes s).getD 0 0) := by
  have hl : 0 < (bytes s).length := by rw [bytes_length]; exact h
  rw [List.head?_eq_getElem?, List.getD_eq_getElem?_getD, List.getElem?_eq_getElem hl]; rfl
theorem last_get (s : ByteArray) (h : 0 < s.size) : (bytes s).getLast? = some ((bytes s).getD (s.size - 1) 0) := by
  have hl : (bytes s).length = s.size := bytes_length s
  rw [List.getLast?_eq_getElem?, hl, List.getD_eq_getElem?_getD, List.getElem?_eq_getElem (by omega)]; rfl
set_option maxHeartbeats 1000000 in
theorem valueR_any (s : ByteArray) (W : World) (hs : s.size ≤ maxLen) : Calls Tryz.prog 94 #[.string s] W fun e w' => e = .returned (.bool (valueB (bytes s))) ∧ w' = W := by
  have HP := Sl.mk (plain_any s 32 W hs)
  have HV : Sl (valueB (bytes s) = (plainB 32 (bytes s) && ((bytes s).head? != some 32 && (bytes s).getLast? != some 32))) := ⟨rfl⟩
  obtain ⟨p, hp⟩ : ∃ p, plainB 32 (bytes s) = p := ⟨_, rfl⟩
  rw [hp] at HP HV
  clear hp
  unfold maxLen at hs
  cases p with
  | false =>
    go_enter Tryz.func94, Tryz.ntmps94
    go_wp2_with fail
    refine HP.out.mono ?_
    rintro e w' ⟨rfl, rfl⟩
    go_wp2
    go_ret
    exact ⟨ret_bool (by rw [HV.out]; rfl), rfl⟩
  | true =>
    by_cases h0 : s.size = 0
    · obtain rfl : s = ByteArray.empty := ByteArray.size_eq_zero_iff.1 h0
      have HV2 : Sl (valueB (bytes ByteArray.empty) = true) := ⟨rfl⟩
      clear h0 hs HV
      go_enter Tryz.func94, Tryz.ntmps94
      go_wp2_with fail
      refine HP.out.mono ?_
      rintro e w' ⟨rfl, rfl⟩
      go_wp2
      go_ret
      exact ⟨ret_bool HV2.out.symm, rfl⟩
    · have hq : (s.toList == []) = false := by
        rw [beq_bytes]
        refine decide_eq_false (fun e => h0 ?_)
        rw [← bytes_length, e]; rfl
      have hpos : 0 < s.size := by omega
      have hlast : s.size - 1 < s.size := by omega
      obtain ⟨x, hx⟩ : ∃ x, (s[0]'hpos).toNat = x := ⟨_, rfl⟩
      obtain ⟨y, hy⟩ : ∃ y, (s[s.size - 1]'hlast).toNat = y := ⟨_, rfl⟩
      have HXX : Sl ((bytes s).getD 0 0 = x) := ⟨by rw [bytes_getD s 0 hpos, ← hx]; rfl⟩
      have HYY : Sl ((bytes s).getD (s.size - 1) 0 = y) := ⟨by rw [bytes_getD s _ hlast, ← hy]; rfl⟩
      have HV2 : Sl (valueB (bytes s) = (decide (x ≠ 32) && decide (y ≠ 32))) := ⟨by
        rw [HV.out, Bool.true_and, head_get s hpos, last_get s hpos, HXX.out, HYY.out]
        rw [Bool.eq_iff_iff]
        simp⟩
      have hz : ((s.size : Int) - 1) = ((s.size - 1 : Nat) : Int) := by omega
      by_cases hx32 : x = 32
      · have hx' : ((x : Int) == 32) = true := by simp [hx32]
        go_enter Tryz.func94, Tryz.ntmps94
        go_wp2_with fail
        refine HP.out.mono ?_
        rintro e w' ⟨rfl, rfl⟩
        go_wp2
        go_ret
        exact ⟨ret_bool (by rw [HV2.out]; simp [hx32]), rfl⟩
      · have hx' : ((x : Int) == 32) = false := by simp; omega
        go_enter Tryz.func94, Tryz.ntmps94
        go_wp2_with fail
        refine HP.out.mono ?_
        rintro e w' ⟨rfl, rfl⟩
        go_wp2
        go_ret
        refine ⟨ret_bool ?_, rfl⟩
        rw [HV2.out, Bool.eq_iff_iff]
        simp
        omega

/-- The first k fields may be. -/
def fldTo (fs : List FV) (k : Nat) : Bool := (fs.take k).all fun f => fieldB f.1 f.2
theorem fldTo_succ (fs : List FV) (k : Nat) (hk : k < fs.length) : fldTo fs (k + 1) = (fldTo fs k && fieldB (fs.getD k f0).1 (fs.getD k f0).2) := by
  have e : fs.getD k f0 = fs[k] := by simp [List.getD_eq_getElem?_getD, List.getElem?_eq_getElem hk]
  unfold fldTo
  rw [List.take_succ_eq_append_getElem hk, List.all_append, e]
  simp

set_option maxHeartbeats 2000000 in
set_option maxRecDepth 100000 in
theorem formR_any (h : HdV) (bx : Value) (W : World) (hv : FieldsAt W bx h.fs) (hf : h.Fit) :
    Calls Tryz.prog 49 #[.agg #[.string h.a, .string h.b, .string h.c, bx]] W fun e w' => e = .returned (.bool (formB h.hd)) ∧ Sl (Below W.heap.size W w') := by
  obtain ⟨ad, cap, sb, so, rfl, hcap, hm, had, hcell⟩ := hv
  have HCE := Sl.mk hcell
  have HAD := Sl.mk had
  have HFB : Sl (formB h.hd = (firstB h.a h.b h.c && fldTo h.fs h.fs.length)) := ⟨by
    rw [formB_eq]; unfold fldTo; rw [List.take_of_length_le (Nat.le_refl _)]⟩
  have PA : Sl (∀ V : World, Calls Tryz.prog 93 #[.string h.a, .int .u8 33] V fun e w' => e = .returned (.bool (plainB 33 (bytes h.a))) ∧ w' = V) := ⟨fun V => plain_any h.a 33 V hf.a⟩
  have PB : Sl (∀ V : World, Calls Tryz.prog 93 #[.string h.b, .int .u8 33] V fun e w' => e = .returned (.bool (plainB 33 (bytes h.b))) ∧ w' = V) := ⟨fun V => plain_any h.b 33 V hf.b⟩
  have PC : Sl (∀ V : World, Calls Tryz.prog 94 #[.string h.c] V fun e w' => e = .returned (.bool (valueB (bytes h.c))) ∧ w' = V) := ⟨fun V => valueR_any h.c V hf.c⟩
  have HTK : Sl (∀ (s : ByteArray) (V : World), s.size ≤ maxLen → Calls Tryz.prog 57 #[.string s] V fun e w' => e = .returned (.bool (token (bytes s))) ∧ w' = V) := ⟨fun s V hs => tokenR_any s V hs⟩
  have HVL : Sl (∀ (s : ByteArray) (V : World), s.size ≤ maxLen → Calls Tryz.prog 94 #[.string s] V fun e w' => e = .returned (.bool (valueB (bytes s))) ∧ w' = V) := ⟨fun s V hs => valueR_any s V hs⟩
  obtain ⟨za, hza⟩ : ∃ z, (h.a.toList == []) = z := ⟨_, rfl⟩
  obtain ⟨zb, hzb⟩ : ∃ z, (h.b.toList == []) = z := ⟨_, rfl⟩
  have HFS : Sl (firstB h.a h.b h.c = ((!za && plainB 33 (bytes h.a)) && ((!zb && plainB 33 (bytes h.b)) && valueB (bytes h.c)))) := ⟨by
    have k : ∀ s : ByteArray, (s.toList == []) = (bytes s).isEmpty := fun s => by
      rw [beq_bytes]
      cases bytes s <;> simp
    rw [← hza, ← hzb, k, k]
    rfl⟩
  obtain ⟨pa, hpa⟩ : ∃ z, plainB 33 (bytes h.a) = z := ⟨_, rfl⟩
  obtain ⟨pb, hpb⟩ : ∃ z, plainB 33 (bytes h.b) = z := ⟨_, rfl⟩
  obtain ⟨pc, hpc⟩ : ∃ z, valueB (bytes h.c) = z := ⟨_, rfl⟩
  rw [hpa] at PA HFS
  rw [hpb] at PB HFS
  rw [hpc] at PC HFS
  obtain ⟨ok0, hok0⟩ : ∃ z, firstB h.a h.b h.c = z := ⟨_, rfl⟩
  rw [hok0] at HFS HFB
  unfold maxLen at hm
  clear hcell had hf hpa hpb hpc hok0
  obtain ⟨w1, hw1⟩ : ∃ w1, W.alloc (.cells #[.string h.a, .string h.b, .string h.c, .slice ad h.fs.length cap] 25) = w1 := ⟨_, rfl⟩
  have HB1 : Sl (Below W.heap.size W w1) := ⟨by rw [← hw1]; exact (Below.refl _ _).alloc (Nat.le_refl _) _⟩
  have HX1 : Sl (w1.heap[W.heap.size]? = some (.cells #[.string h.a, .string h.b, .string h.c, .slice ad h.fs.length cap] 25 (0, 0))) := ⟨by rw [← hw1]; exact alloc_new _ _ _ rfl⟩
  obtain ⟨p0, p1, p2, p3⟩ := head_cells HX1.out
  go_enter Tryz.func49, Tryz.ntmps49
  go_upto_region 1 with fail
  go_cut [3] (fun s3 wx => s3 = .bool ok0 ∧ w1 = wx)
  case first =>
    cases za with
    | true =>
      have e : ok0 = false := by rw [HFS.out]; rfl
      go_wp2_with fail
      go_meet
      exact ⟨by rw [e], rfl⟩
    | false =>
      go_wp2_with fail
      refine (PA.out _).mono ?_
      rintro e w2 ⟨rfl, rfl⟩
      cases pa with
      | false =>
        have e : ok0 = false := by rw [HFS.out]; rfl
        go_wp2_with fail
        go_meet
        exact ⟨by rw [e], rfl⟩
      | true =>
        cases zb with
        | true =>
          have e : ok0 = false := by rw [HFS.out]; rfl
          go_wp2_with fail
          go_meet
          exact ⟨by rw [e], rfl⟩
        | false =>
          go_wp2_with fail
          refine (PB.out _).mono ?_
          rintro e w2 ⟨rfl, rfl⟩
          cases pb with
          | false =>
            have e : ok0 = false := by rw [HFS.out]; rfl
            go_wp2_with fail
            go_meet
            exact ⟨by rw [e], rfl⟩
          | true =>
            go_wp2_with fail
            refine (PC.out _).mono ?_
            rintro e w2 ⟨rfl, rfl⟩
            have e : ok0 = pc := by rw [HFS.out]; rfl
            go_wp2_with fail
            go_meet
            exact ⟨by rw [e], rfl⟩
  case rest =>
    obtain ⟨rfl, rfl⟩ := hcut
    clear PA PB PC HFS hza hzb p0 p1 p2 hw1
    have HF0 : Sl (fldTo h.fs 0 = true) := ⟨rfl⟩
    go_wp2
    go_loopw [3, 4] (fun o i wr => ∃ k : Nat, k ≤ h.fs.length ∧ o = .bool (ok0 && fldTo h.fs k) ∧ i = .int .i64 k ∧ w1 = wr) (fun _ i _ => h.fs.length - (intOf i).toNat)
    case atStart => exact ⟨0, Nat.zero_le _, by rw [HF0.out, Bool.and_true], rfl, rfl⟩
    case round =>
      obtain ⟨k, hk, rfl, rfl, rfl⟩ := hrel
      by_cases hlt : k < h.fs.length
      · obtain rfl := HAD.out (by omega)
        obtain ⟨g1, g2, g3, g4⟩ := HCE.out k hlt
        have HS := Sl.mk (fldTo_succ h.fs k hlt)
        obtain ⟨f, hf⟩ : ∃ f, h.fs.getD k f0 = f := ⟨_, rfl⟩
        rw [hf] at g1 g2 g3 g4 HS
        clear hf
        obtain ⟨n, x⟩ := f
        simp only at g1 g2 g3 g4 HS
        have HN := Sl.mk g3
        have HXv := Sl.mk g4
        have k0 := block_lt_of_cell g1
        have q0 : w1.cell? ⟨sb, so + k * 2, none⟩ = some (.string n) := by rw [HB1.out.cell (p := ⟨sb, so + k * 2, none⟩) k0]; exact g1
        have q1 : w1.cell? ⟨sb, so + k * 2 + 1, none⟩ = some (.string x) := by rw [HB1.out.cell (p := ⟨sb, so + k * 2 + 1, none⟩) k0]; exact g2
        have hk0 : (0 : Int) ≤ (k : Int) := by omega
        have hk1 : (k : Int) < (h.fs.length : Int) := by omega
        have HFI : Sl (fieldB n x = (token (bytes n) && valueB (bytes x))) := ⟨rfl⟩
        obtain ⟨u, hu⟩ : ∃ u, (ok0 && fldTo h.fs k) = u := ⟨_, rfl⟩
        have HU : Sl ((ok0 && fldTo h.fs (k + 1)) = (u && fieldB n x)) := ⟨by rw [HS.out, ← Bool.and_assoc, hu]⟩
        rw [hu]
        clear g1 g2 g3 g4 k0 hu
        cases u with
        | false =>
          go_wp2
          refine ⟨⟨k + 1, by omega, by rw [HU.out]; rfl, by go_num, trivial⟩, by simp [intOf]; omega⟩
        | true =>
          obtain ⟨tk, htk⟩ : ∃ z, token (bytes n) = z := ⟨_, rfl⟩
          obtain ⟨vl, hvl⟩ : ∃ z, valueB (bytes x) = z := ⟨_, rfl⟩
          have C1 := Sl.mk (HTK.out n w1 HN.out)
          have C2 := Sl.mk (HVL.out x w1 HXv.out)
          rw [htk] at C1 HFI
          rw [hvl] at C2 HFI
          clear htk hvl
          go_wp2_with fail
          refine C1.out.mono ?_
          rintro e w2 ⟨rfl, rfl⟩
          cases tk with
          | false =>
            go_wp2
            refine ⟨⟨k + 1, by omega, by rw [HU.out, HFI.out]; rfl, by go_num, trivial⟩, by simp [intOf]; omega⟩
          | true =>
            go_wp2_with fail
            refine C2.out.mono ?_
            rintro e w2 ⟨rfl, rfl⟩
            go_wp2
            refine ⟨⟨k + 1, by omega, by rw [HU.out, HFI.out]; rfl, by go_num, trivial⟩, by simp [intOf]; omega⟩
      · have hge : ((k : Int) < (h.fs.length : Int)) = False := eq_false (by omega)
        obtain rfl : k = h.fs.length := by omega
        rw [← HFB.out]
        go_wp2
        go_ret
        exact ⟨rfl, HB1⟩

/-- A head that isn't too great. -/
structure Few (h : HdV) : Prop where
  n : h.fs.length ≤ 50
  a : h.a.size ≤ 3000
  b : h.b.size ≤ 3000
  c : h.c.size ≤ 3000
  f : ∀ j, j < h.fs.length → (h.fs.getD j f0).1.size ≤ 3000 ∧ (h.fs.getD j f0).2.size ≤ 3000
def FewR (h : HdV) (e : Ending) : Prop := (e = .returned (.bool true) ∧ Few h) ∨ (e = .returned (.bool false) ∧ ¬ Few h)
set_option maxHeartbeats 2000000 in
set_option maxRecDepth 100000 in
theorem few_any (h : HdV) (bx : Value) (W : World) (hv : FieldsAt W bx h.fs) (hf : h.Fit) :
    Calls Tryz.prog 13 #[.agg #[.string h.a, .string h.b, .string h.c, bx]] W fun e w' => Sl (FewR h e) ∧ Sl (Below W.heap.size W w') := by
  obtain ⟨ad, cap, sb, so, rfl, hcap, hm, had, hcell⟩ := hv
  have HCE := Sl.mk hcell
  have HAD := Sl.mk had
  have ha := hf.a
  have hb := hf.b
  have hc := hf.c
  unfold maxLen at hm ha hb hc
  clear hcell had hf
  obtain ⟨w1, hw1⟩ : ∃ w1, W.alloc (.cells #[.string h.a, .string h.b, .string h.c, .slice ad h.fs.length cap] 25) = w1 := ⟨_, rfl⟩
  have HB1 : Sl (Below W.heap.size W w1) := ⟨by rw [← hw1]; exact (Below.refl _ _).alloc (Nat.le_refl _) _⟩
  have HX1 : Sl (w1.heap[W.heap.size]? = some (.cells #[.string h.a, .string h.b, .string h.c, .slice ad h.fs.length cap] 25 (0, 0))) := ⟨by rw [← hw1]; exact alloc_new _ _ _ rfl⟩
  obtain ⟨p0, p1, p2, p3⟩ := head_cells HX1.out
  go_enter Tryz.func13, Tryz.ntmps13
  go_wp2
  clear hw1
  go_loopw [3] (fun i wr => ∃ k : Nat, k ≤ h.fs.length ∧ i = .int .i64 k ∧ w1 = wr ∧ Sl (∀ j, j < k → (h.fs.getD j f0).1.size ≤ 3000 ∧ (h.fs.getD j f0).2.size ≤ 3000)) (fun i _ => h.fs.length - (intOf i).toNat)
  case atStart => exact ⟨0, Nat.zero_le _, rfl, rfl, ⟨fun j hj => by omega⟩⟩
  case round =>
    obtain ⟨k, hk, rfl, rfl, HA⟩ := hrel
    by_cases hlt : k < h.fs.length
    · obtain rfl := HAD.out (by omega)
      obtain ⟨g1, g2, g3, g4⟩ := HCE.out k hlt
      obtain ⟨f, hf⟩ : ∃ f, h.fs.getD k f0 = f := ⟨_, rfl⟩
      have HF := Sl.mk hf
      rw [hf] at g1 g2 g3 g4
      clear hf
      obtain ⟨n, x⟩ := f
      simp only at g1 g2 g3 g4
      unfold maxLen at g3 g4
      have k0 := block_lt_of_cell g1
      have q0 : w1.cell? ⟨sb, so + k * 2, none⟩ = some (.string n) := by rw [HB1.out.cell (p := ⟨sb, so + k * 2, none⟩) k0]; exact g1
      have q1 : w1.cell? ⟨sb, so + k * 2 + 1, none⟩ = some (.string x) := by rw [HB1.out.cell (p := ⟨sb, so + k * 2 + 1, none⟩) k0]; exact g2
      have hk0 : (0 : Int) ≤ (k : Int) := by omega
      have hk1 : (k : Int) < (h.fs.length : Int) := by omega
      clear g1 g2 k0
      by_cases h1 : n.size ≤ 3000
      · have h1' : ((n.size : Int) > 3000) = False := eq_false (by omega)
        by_cases h2 : x.size ≤ 3000
        · have h2' : ((x.size : Int) > 3000) = False := eq_false (by omega)
          go_wp2
          refine ⟨⟨k + 1, by omega, by go_num, trivial, ⟨fun j hj => ?_⟩⟩, by simp [intOf]; omega⟩
          by_cases e : j = k
          · subst e; rw [HF.out]; exact ⟨h1, h2⟩
          · exact HA.out j (by omega)
        · have h2' : (x.size : Int) > 3000 := by omega
          go_wp2
          go_ret
          exact ⟨⟨Or.inr ⟨rfl, fun hF => by have := (hF.f k hlt).2; rw [HF.out] at this; exact absurd this h2⟩⟩, HB1⟩
      · have h1' : (n.size : Int) > 3000 := by omega
        go_wp2
        go_ret
        exact ⟨⟨Or.inr ⟨rfl, fun hF => by have := (hF.f k hlt).1; rw [HF.out] at this; exact absurd this h1⟩⟩, HB1⟩
    · have hge : ((k : Int) < (h.fs.length : Int)) = False := eq_false (by omega)
      obtain rfl : k = h.fs.length := by omega
      by_cases b1 : h.fs.length ≤ 50
      · have b1' : (h.fs.length : Int) ≤ 50 := by omega
        by_cases b2 : h.a.size ≤ 3000
        · have b2' : (h.a.size : Int) ≤ 3000 := by omega
          by_cases b3 : h.b.size ≤ 3000
          · have b3' : (h.b.size : Int) ≤ 3000 := by omega
            by_cases b4 : h.c.size ≤ 3000
            · have b4' : (h.c.size : Int) ≤ 3000 := by omega
              go_wp2
              go_ret
              exact ⟨⟨Or.inl ⟨rfl, ⟨b1, b2, b3, b4, HA.out⟩⟩⟩, HB1⟩
            · have b4' : ((h.c.size : Int) ≤ 3000) = False := eq_false (by omega)
              go_wp2
              go_ret
              exact ⟨⟨Or.inr ⟨rfl, fun hF => absurd hF.c b4⟩⟩, HB1⟩
          · have b3' : ((h.b.size : Int) ≤ 3000) = False := eq_false (by omega)
            go_wp2
            go_ret
            exact ⟨⟨Or.inr ⟨rfl, fun hF => absurd hF.b b3⟩⟩, HB1⟩
        · have b2' : ((h.a.size : Int) ≤ 3000) = False := eq_false (by omega)
          go_wp2
          go_ret
          exact ⟨⟨Or.inr ⟨rfl, fun hF => absurd hF.a b2⟩⟩, HB1⟩
      · have b1' : ((h.fs.length : Int) ≤ 50) = False := eq_false (by omega)
        go_wp2
        go_ret
        exact ⟨⟨Or.inr ⟨rfl, fun hF => absurd hF.n b1⟩⟩, HB1⟩
end Go.Proofs.YthlagngpllahkaaGreatDoor
/- The document's Text, Check; whether two heads are the same. -/
namespace Go.Proofs.YthlagngpllahkaaGreatDoor
open Go.RowKit HeadPlain

theorem eq48 (a b x y : ByteArray) (W : World) : (Op.equalIn 10000 60 (.agg #[.string a, .string b]) (.agg #[.string x, .string y])).run Tryz.prog W = .ok ((a.toList == x.toList) && (b.toList == y.toList)) W := by
  have ht : Tryz.prog.underlying 60 = some (.struct (Tryz.prog.fieldsOf 60)) := by kernel_rfl
  have hp : Tryz.prog.stoodInHeld 60 = false := by kernel_rfl
  have hf : (Tryz.prog.fieldsOf 60).toList.map (fun f => (f.name, f.type, f.offset)) = [("Name", 9, 0), ("Value", 9, 1)] := by kernel_rfl
  have ha : ∀ w, (isAgg 9).run Tryz.prog w = .ok false w := run_isAgg_plain Tryz.underlying9 rfl
  have e9 : ∀ (p q : ByteArray) (w : World), (Op.equalIn 9999 9 (.string p) (.string q)).run Tryz.prog w = .ok (p.toList == q.toList) w := fun p q w => run_equalIn_string w 9998 9 p q Tryz.underlying9
  have hpt : ∀ (xs : Array Value) (k : Nat) (v : Value) (w : World), xs[k]? = some v → (part 9 xs k).run Tryz.prog w = .ok v w := fun xs k v w h => by
    simp [part, ha, h, Result.andThen]
  rw [run_equalIn_struct W 9999 60 _ _ ht hp]
  generalize (Tryz.prog.fieldsOf 60).toList = fl at *
  have hlen : fl.length = 2 := by simpa using congrArg List.length hf
  match fl, hlen, hf with
  | [f, g], _, hf =>
    simp only [List.map_cons, List.map_nil, List.cons.injEq, Prod.mk.injEq, and_true] at hf
    obtain ⟨⟨n1, t1, o1⟩, ⟨n2, t2, o2⟩⟩ := hf
    have q0 := fun w => hpt #[.string a, .string b] 0 (.string a) w rfl
    have q1 := fun w => hpt #[.string a, .string b] 1 (.string b) w rfl
    have q3 := fun w => hpt #[.string x, .string y] 0 (.string x) w rfl
    have q4 := fun w => hpt #[.string x, .string y] 1 (.string y) w rfl
    cases h1 : (a.toList == x.toList) <;> cases h2 : (b.toList == y.toList) <;>
      simp [Op.eqFields, n1, t1, o1, n2, t2, o2, q0, q1, q3, q4, e9, h1, h2, Result.andThen]

set_option maxHeartbeats 2000000 in
set_option maxRecDepth 100000 in
theorem textR_any (h : HdV) (bx : Value) (W : World) (hv : FieldsAt W bx h.fs) (hL : (text h.hd).length ≤ 1000000) :
    Calls Tryz.prog 50 #[.agg #[.string h.a, .string h.b, .string h.c, bx]] W fun e w' => ∃ t : ByteArray, e = .returned (.string t) ∧ Sl (bytes t = text h.hd) ∧ Sl (Below W.heap.size W w') := by
  obtain ⟨ad, cap, sb, so, rfl, hcap, hm, had, hcell⟩ := hv
  have HCE := Sl.mk hcell
  have HAD := Sl.mk had
  have HLk : Sl (∀ k, k ≤ h.fs.length → (told h k).length ≤ 1000000) := ⟨fun k hk => Nat.le_trans (told_mono h k hk) hL⟩
  have HAL : Sl (told h h.fs.length ++ [13, 10] = text h.hd) := ⟨told_all h⟩
  have HLa : h.a.size + h.b.size + h.c.size ≤ 1000000 := by
    have := HLk.out 0 (Nat.zero_le _)
    rw [told_zero] at this
    simp only [List.length_append, List.length_cons, bytes_length] at this
    omega
  have la : h.a.size ≤ 1000000 := by omega
  have lb : h.b.size ≤ 1000000 := by omega
  have lc : h.c.size ≤ 1000000 := by omega
  unfold maxLen at hm
  clear hcell had hL HLa
  obtain ⟨w1, hw1⟩ : ∃ w1, W.alloc (.cells #[.string h.a, .string h.b, .string h.c, .slice ad h.fs.length cap] 25) = w1 := ⟨_, rfl⟩
  have HB1 : Sl (Below W.heap.size W w1) := ⟨by rw [← hw1]; exact (Below.refl _ _).alloc (Nat.le_refl _) _⟩
  have HX1 : Sl (w1.heap[W.heap.size]? = some (.cells #[.string h.a, .string h.b, .string h.c, .slice ad h.fs.length cap] 25 (0, 0))) := ⟨by rw [← hw1]; exact alloc_new _ _ _ rfl⟩
  obtain ⟨p0, p1, p2, p3⟩ := head_cells HX1.out
  obtain ⟨t0, ht0⟩ : ∃ t0, h.a ++ { data := #[32] } ++ h.b ++ { data := #[32] } ++ h.c ++ { data := #[13, 10] } = t0 := ⟨_, rfl⟩
  have HT0 : Sl (bytes t0 = told h 0) := ⟨by
    rw [← ht0, told_zero]
    simp only [bytes_append, List.append_assoc]
    rfl⟩
  go_enter Tryz.func50, Tryz.ntmps50
  go_wp2
  clear hw1 la lb lc ht0 p0 p1 p2
  go_loopw [3, 4] (fun s i wr => ∃ (k : Nat) (x : ByteArray), k ≤ h.fs.length ∧ s = .string x ∧ i = .int .i64 k ∧ Sl (bytes x = told h k) ∧ Sl (Still w1 wr)) (fun _ i _ => h.fs.length - (intOf i).toNat)
  case atStart => exact ⟨0, _, Nat.zero_le _, rfl, rfl, HT0, ⟨Still.refl _⟩⟩
  case round =>
    obtain ⟨k, x, hk, rfl, rfl, HXT, HST⟩ := hrel
    have b3 : wr.cell? ⟨W.heap.size, 3, none⟩ = some (.slice ad h.fs.length cap) := by rw [World.cell?_of_block (w := w1) (by rw [HST.out.heap])]; exact p3
    have hx : x.size ≤ 1000000 := by
      have := HLk.out k hk
      rw [← HXT.out, bytes_length] at this
      exact this
    by_cases hlt : k < h.fs.length
    · obtain rfl := HAD.out (by omega)
      obtain ⟨g1, g2, g3, g4⟩ := HCE.out k hlt
      have HS : Sl (told h (k + 1) = told h k ++ (bytes (h.fs.getD k f0).1 ++ 58 :: 32 :: (bytes (h.fs.getD k f0).2 ++ [13, 10]))) := ⟨told_succ h k hlt⟩
      obtain ⟨f, hf⟩ : ∃ f, h.fs.getD k f0 = f := ⟨_, rfl⟩
      rw [hf] at g1 g2 g3 g4 HS
      clear hf
      obtain ⟨n, y⟩ := f
      simp only at g1 g2 g3 g4 HS
      have HLL : (told h k).length + n.size + y.size + 4 ≤ 1000000 := by
        have := HLk.out (k + 1) (by omega)
        rw [HS.out] at this
        simp only [List.length_append, List.length_cons, List.length_nil, bytes_length] at this
        omega
      have ln : n.size ≤ 1000000 := by omega
      have ly : y.size ≤ 1000000 := by omega
      have k0 := block_lt_of_cell g1
      have e0 : wr.cell? ⟨sb, so + k * 2, none⟩ = some (.string n) := by rw [World.cell?_of_block (w := w1) (by rw [HST.out.heap]), HB1.out.cell (p := ⟨sb, so + k * 2, none⟩) k0]; exact g1
      have e1 : wr.cell? ⟨sb, so + k * 2 + 1, none⟩ = some (.string y) := by rw [World.cell?_of_block (w := w1) (by rw [HST.out.heap]), HB1.out.cell (p := ⟨sb, so + k * 2 + 1, none⟩) k0]; exact g2
      have hk0 : (0 : Int) ≤ (k : Int) := by omega
      have hk1 : (k : Int) < (h.fs.length : Int) := by omega
      obtain ⟨z, hz⟩ : ∃ z, x ++ (n ++ { data := #[58, 32] } ++ y ++ { data := #[13, 10] }) = z := ⟨_, rfl⟩
      have HZ : Sl (bytes z = told h (k + 1)) := ⟨by
        rw [← hz, HS.out]
        simp only [bytes_append, HXT.out, List.append_assoc]
        rfl⟩
      clear g1 g2 g3 g4 k0 HLL
      go_wp2
      go_quiet (fail)
      go_wp2
      refine ⟨⟨k + 1, _, by omega, rfl, by go_num, ?_, ⟨HST.out.drewN _⟩⟩, by simp [intOf]; omega⟩
      first | exact HZ | (rw [hz]; exact HZ)
    · have hge : ((k : Int) < (h.fs.length : Int)) = False := eq_false (by omega)
      obtain rfl : k = h.fs.length := by omega
      have HB2 : Sl (Below W.heap.size W wr) := ⟨below_trans HB1.out HST.out.below⟩
      go_wp2
      go_ret
      refine ⟨_, rfl, ⟨?_⟩, HB2⟩
      rw [bytes_append, HXT.out, ← HAL.out]
      rfl

set_option maxHeartbeats 400000 in
theorem checkR_any (h : HdV) (bx : Value) (W : World) (hv : FieldsAt W bx h.fs) (hf : h.Fit) (hL : (text h.hd).length ≤ 1000000) :
    Calls Tryz.prog 25 #[.agg #[.string h.a, .string h.b, .string h.c, bx]] W fun e w' => e = .returned (.int .i64 (chk h : Nat)) ∧ Sl (Below W.heap.size W w') := by
  obtain ⟨vad, vn, vc, hvv, hvn⟩ : ∃ a n c, bx = .slice a n c ∧ n = h.fs.length := by obtain ⟨a, cap, _, _, h1, _⟩ := hv; exact ⟨_, _, _, h1, rfl⟩
  subst hvv
  subst hvn
  have hm : h.fs.length ≤ 9223372036854775807 := by
    obtain ⟨a, cap, sb, so, h1, hc, h2, h3, h4⟩ := hv
    unfold maxLen at h2; omega
  have HFO : Sl (∀ V : World, Below W.heap.size W V → Calls Tryz.prog 49 #[.agg #[.string h.a, .string h.b, .string h.c, .slice vad h.fs.length vc]] V fun e w' => e = .returned (.bool (formB h.hd)) ∧ Sl (Below V.heap.size V w')) := ⟨fun V hb => formR_any h _ V (hv.below hb) hf⟩
  have HTX : Sl (∀ V : World, Below W.heap.size W V → Calls Tryz.prog 50 #[.agg #[.string h.a, .string h.b, .string h.c, .slice vad h.fs.length vc]] V fun e w' => ∃ t : ByteArray, e = .returned (.string t) ∧ Sl (bytes t = text h.hd) ∧ Sl (Below V.heap.size V w')) := ⟨fun V hb => textR_any h _ V (hv.below hb) hL⟩
  have HCK : Sl (chk h = if formB h.hd = true then (if 32 < h.fs.length ∨ 2048 < (text h.hd).length then 51 else 0) else 52) := ⟨rfl⟩
  obtain ⟨fo, hfo⟩ : ∃ z, formB h.hd = z := ⟨_, rfl⟩
  rw [hfo] at HFO HCK
  have HLL := Sl.mk hL
  clear hfo hv hf hL
  go_enter Tryz.func25, Tryz.ntmps25
  go_wp2_with fail
  refine (HFO.out _ ((Below.refl _ _).alloc (Nat.le_refl _) _)).mono ?_
  rintro e w2 ⟨rfl, HB2⟩
  have HB3 : Sl (Below W.heap.size W w2) := ⟨below_trans ((Below.refl _ _).alloc (Nat.le_refl _) _) HB2.out⟩
  have HX2 : Sl (w2.heap[W.heap.size]? = some (.cells #[.string h.a, .string h.b, .string h.c, .slice vad h.fs.length vc] 25 (0, 0))) := ⟨by
    rw [HB2.out.block _ (by rw [alloc_size]; omega)]; exact alloc_new _ _ _ rfl⟩
  clear HB2 HFO
  cases fo with
  | false =>
    have HR : Sl (chk h = 52) := ⟨by rw [HCK.out]; rfl⟩
    go_wp2
    go_ret
    exact ⟨ret_int (by rw [HR.out]; rfl), HB3⟩
  | true =>
    have HCQ : Sl (chk h = if 32 < h.fs.length ∨ 2048 < (text h.hd).length then 51 else 0) := ⟨by rw [HCK.out, if_pos rfl]⟩
    clear HCK
    obtain ⟨p0, p1, p2, p3⟩ := head_cells HX2.out
    by_cases h1 : 32 < h.fs.length
    · have h1' : (h.fs.length : Int) > 32 := by omega
      have HR : Sl (chk h = 51) := ⟨by rw [HCQ.out, if_pos (Or.inl h1)]⟩
      go_wp2
      go_ret
      exact ⟨ret_int (by rw [HR.out]; rfl), HB3⟩
    · have h1' : ((h.fs.length : Int) > 32) = False := eq_false (by omega)
      go_wp2_with fail
      refine (HTX.out _ HB3.out).mono ?_
      rintro e w4 ⟨t, rfl, HBT, HB4⟩
      have HB5 : Sl (Below W.heap.size W w4) := ⟨below_trans HB3.out HB4.out⟩
      have HTS : Sl (t.size = (text h.hd).length) := ⟨by rw [← HBT.out, bytes_length]⟩
      have hts : t.size ≤ 1000000 := by rw [HTS.out]; exact HLL.out
      by_cases h2 : 2048 < t.size
      · have h2' : (t.size : Int) > 2048 := by omega
        have HR : Sl (chk h = 51) := ⟨by rw [HCQ.out, if_pos (Or.inr (by rw [← HTS.out]; exact h2))]⟩
        go_wp2
        go_ret
        exact ⟨ret_int (by rw [HR.out]; rfl), HB5⟩
      · have h2' : ((t.size : Int) > 2048) = False := eq_false (by omega)
        have HR : Sl (chk h = 0) := ⟨by rw [HCQ.out, if_neg (by rw [← HTS.out]; omega)]⟩
        go_wp2
        go_ret
        exact ⟨ret_int (by rw [HR.out]; rfl), HB5⟩
theorem hd_eq {g h : HdV} (ha : bytes g.a = bytes h.a) (hb : bytes g.b = bytes h.b) (hc : bytes g.c = bytes h.c) (hl : g.fs.length = h.fs.length) (hf : ∀ j, j < g.fs.length → fN (g.fs.getD j f0) = fN (h.fs.getD j f0)) : g.hd = h.hd := by
  unfold HdV.hd
  have e : g.fs.map fN = h.fs.map fN := by
    apply List.ext_getElem (by simpa using hl)
    intro i h1 h2
    have hi : i < g.fs.length := by simpa using h1
    have := hf i hi
    simpa [List.getD_eq_getElem?_getD, List.getElem?_eq_getElem hi, List.getElem?_eq_getElem (hl ▸ hi : i < h.fs.length)] using this
  rw [ha, hb, hc, e]
theorem hd_ne {g h : HdV} (e : g.hd = h.hd) : bytes g.a = bytes h.a ∧ bytes g.b = bytes h.b ∧ bytes g.c = bytes h.c ∧ g.fs.length = h.fs.length ∧ ∀ j, j < g.fs.length → fN (g.fs.getD j f0) = fN (h.fs.getD j f0) := by
  unfold HdV.hd at e
  injection e with e1 e2 e3 e4
  have hl : g.fs.length = h.fs.length := by simpa using congrArg List.length e4
  refine ⟨e1, e2, e3, hl, fun j hj => ?_⟩
  have := congrArg (fun l => l[j]?) e4
  simpa [List.getD_eq_getElem?_getD, List.getElem?_eq_getElem hj, List.getElem?_eq_getElem (hl ▸ hj : j < h.fs.length)] using this
end Go.Proofs.YthlagngpllahkaaGreatDoor
/- Whether two heads are the same. -/
namespace Go.Proofs.YthlagngpllahkaaGreatDoor
open Go.RowKit HeadPlain

def alikeB (g h : HdV) : Bool := decide (bytes g.a = bytes h.a ∧ bytes g.b = bytes h.b ∧ bytes g.c = bytes h.c ∧ g.fs.length = h.fs.length ∧ ∀ j, j < g.fs.length → fN (g.fs.getD j f0) = fN (h.fs.getD j f0))
theorem alike_no {g h : HdV} (hn : ¬ (bytes g.a = bytes h.a ∧ bytes g.b = bytes h.b ∧ bytes g.c = bytes h.c ∧ g.fs.length = h.fs.length ∧ ∀ j, j < g.fs.length → fN (g.fs.getD j f0) = fN (h.fs.getD j f0))) : alikeB g h = false := decide_eq_false hn
theorem alike_yes {g h : HdV} (hn : bytes g.a = bytes h.a ∧ bytes g.b = bytes h.b ∧ bytes g.c = bytes h.c ∧ g.fs.length = h.fs.length ∧ ∀ j, j < g.fs.length → fN (g.fs.getD j f0) = fN (h.fs.getD j f0)) : alikeB g h = true := decide_eq_true hn
theorem alike_iff {g h : HdV} : alikeB g h = true ↔ g.hd = h.hd :=
  ⟨fun e => by
    obtain ⟨h1, h2, h3, h4, h5⟩ := of_decide_eq_true e
    exact hd_eq h1 h2 h3 h4 h5, fun e => alike_yes (hd_ne e)⟩

set_option maxHeartbeats 2000000 in
set_option maxRecDepth 100000 in
theorem alike_any (g h : HdV) (x y : Value) (W : World) (hx : FieldsAt W x g.fs) (hy : FieldsAt W y h.fs) :
    Calls Tryz.prog 21 #[.agg #[.string g.a, .string g.b, .string g.c, x], .agg #[.string h.a, .string h.b, .string h.c, y]] W fun e w' => e = .returned (.bool (alikeB g h)) ∧ Sl (Below W.heap.size W w') := by
  obtain ⟨ax, cx, sx, ox, rfl, hcx, hmx, hadx, hcellx⟩ := hx
  obtain ⟨ay, cy, sy, oy, rfl, hcy, hmy, hady, hcelly⟩ := hy
  have HCX := Sl.mk hcellx
  have HCY := Sl.mk hcelly
  have HAX := Sl.mk hadx
  have HAY := Sl.mk hady
  unfold maxLen at hmx hmy
  clear hcellx hcelly hadx hady
  obtain ⟨w1, hw1⟩ : ∃ w1, (W.alloc (.cells #[.string g.a, .string g.b, .string g.c, .slice ax g.fs.length cx] 25)).alloc (.cells #[.string h.a, .string h.b, .string h.c, .slice ay h.fs.length cy] 25) = w1 := ⟨_, rfl⟩
  have HB1 : Sl (Below W.heap.size W w1) := ⟨by rw [← hw1]; exact ((Below.refl _ _).alloc (Nat.le_refl _) _).alloc (by rw [alloc_size]; omega) _⟩
  have HX1 : Sl (w1.heap[W.heap.size]? = some (.cells #[.string g.a, .string g.b, .string g.c, .slice ax g.fs.length cx] 25 (0, 0))) := ⟨by rw [← hw1, alloc_old _ _ _ (by rw [alloc_size]; omega)]; exact alloc_new _ _ _ rfl⟩
  have HY1 : Sl (w1.heap[W.heap.size + 1]? = some (.cells #[.string h.a, .string h.b, .string h.c, .slice ay h.fs.length cy] 25 (0, 0))) := ⟨by rw [← hw1]; exact alloc_new _ _ _ (by rw [alloc_size])⟩
  obtain ⟨p0, p1, p2, p3⟩ := head_cells HX1.out
  obtain ⟨q0, q1, q2, q3⟩ := head_cells HY1.out
  have e22 := fun V => eq22 g.a g.b g.c h.a h.b h.c V
  obtain ⟨r, hr⟩ : ∃ r, (g.a.toList == h.a.toList && (g.b.toList == h.b.toList && g.c.toList == h.c.toList)) = r := ⟨_, rfl⟩
  have HRR : Sl (r = true ↔ bytes g.a = bytes h.a ∧ bytes g.b = bytes h.b ∧ bytes g.c = bytes h.c) := ⟨by
    rw [← hr, beq_bytes2, beq_bytes2, beq_bytes2]
    simp⟩
  rw [hr] at e22
  clear hr
  go_enter Tryz.func21, Tryz.ntmps21
  cases r with
  | false =>
    have HNO : Sl (alikeB g h = false) := ⟨alike_no (fun ⟨h1, h2, h3, _⟩ => by have := HRR.out.2 ⟨h1, h2, h3⟩; cases this)⟩
    go_wp2
    go_ret
    exact ⟨ret_bool HNO.out.symm, HB1⟩
  | true =>
    have HABC : Sl (bytes g.a = bytes h.a ∧ bytes g.b = bytes h.b ∧ bytes g.c = bytes h.c) := ⟨HRR.out.1 rfl⟩
    clear HRR
    by_cases hl : g.fs.length = h.fs.length
    · have HL := Sl.mk hl
      rw [← hl] at q3 HCY HAY
      clear hl
      go_wp2
      clear p0 p1 p2 q0 q1 q2 e22 hw1
      go_loopw [5] (fun i wr => ∃ k : Nat, k ≤ g.fs.length ∧ i = .int .i64 k ∧ Sl (Still w1 wr) ∧ Sl (∀ j, j < k → fN (g.fs.getD j f0) = fN (h.fs.getD j f0))) (fun i _ => g.fs.length - (intOf i).toNat)
      case atStart => exact ⟨0, Nat.zero_le _, rfl, ⟨Still.refl _⟩, ⟨fun j hj => by omega⟩⟩
      case round =>
        obtain ⟨k, hk, rfl, HST, HA⟩ := hrel
        have HB2 : Sl (Below W.heap.size W wr) := ⟨below_trans HB1.out HST.out.below⟩
        have b3 : wr.cell? ⟨W.heap.size, 3, none⟩ = some (.slice ax g.fs.length cx) := by rw [World.cell?_of_block (w := w1) (by rw [HST.out.heap])]; exact p3
        have b4 : wr.cell? ⟨W.heap.size + 1, 3, none⟩ = some (.slice ay g.fs.length cy) := by rw [World.cell?_of_block (w := w1) (by rw [HST.out.heap])]; exact q3
        by_cases hlt : k < g.fs.length
        · obtain rfl := HAX.out (by omega)
          obtain rfl := HAY.out (by omega)
          obtain ⟨g1, g2, _, _⟩ := HCX.out k hlt
          obtain ⟨i1, i2, _, _⟩ := HCY.out k hlt
          obtain ⟨u, hu⟩ : ∃ f, g.fs.getD k f0 = f := ⟨_, rfl⟩
          obtain ⟨v, hv⟩ : ∃ f, h.fs.getD k f0 = f := ⟨_, rfl⟩
          have HU := Sl.mk hu
          have HV := Sl.mk hv
          rw [hu] at g1 g2
          rw [hv] at i1 i2
          clear hu hv
          obtain ⟨n, x⟩ := u
          obtain ⟨m, y⟩ := v
          simp only at g1 g2 i1 i2
          have k0 := block_lt_of_cell g1
          have k1 := block_lt_of_cell i1
          have c0 : wr.cell? ⟨sx, ox + k * 2, none⟩ = some (.string n) := by rw [HB2.out.cell (p := ⟨sx, ox + k * 2, none⟩) k0]; exact g1
          have c1 : wr.cell? ⟨sx, ox + k * 2 + 1, none⟩ = some (.string x) := by rw [HB2.out.cell (p := ⟨sx, ox + k * 2 + 1, none⟩) k0]; exact g2
          have c2 : wr.cell? ⟨sy, oy + k * 2, none⟩ = some (.string m) := by rw [HB2.out.cell (p := ⟨sy, oy + k * 2, none⟩) k1]; exact i1
          have c3 : wr.cell? ⟨sy, oy + k * 2 + 1, none⟩ = some (.string y) := by rw [HB2.out.cell (p := ⟨sy, oy + k * 2 + 1, none⟩) k1]; exact i2
          have hk0 : (0 : Int) ≤ (k : Int) := by omega
          have hk1 : (k : Int) < (g.fs.length : Int) := by omega
          have e48 := fun V => eq48 n x m y V
          obtain ⟨s, hs⟩ : ∃ s, (n.toList == m.toList && x.toList == y.toList) = s := ⟨_, rfl⟩
          have HSS : Sl (s = true ↔ fN (n, x) = fN (m, y)) := ⟨by
            rw [← hs, beq_bytes2, beq_bytes2]
            simp [fN]⟩
          rw [hs] at e48
          clear g1 g2 i1 i2 k0 k1 hs p3 q3
          go_wp2
          go_quiet (fail)
          cases s with
          | true =>
            go_wp2
            refine ⟨⟨k + 1, by omega, by go_num, ⟨HST.out.drewN _⟩, ⟨fun j hj => ?_⟩⟩, by simp [intOf]; omega⟩
            by_cases e : j = k
            · subst e; rw [HU.out, HV.out]; exact HSS.out.1 (by first | rfl | trivial)
            · exact HA.out j (by omega)
          | false =>
            have HNO : Sl (alikeB g h = false) := ⟨alike_no (fun ⟨_, _, _, _, h5⟩ => by
              have := h5 k hlt
              rw [HU.out, HV.out] at this
              have := HSS.out.2 this
              cases this)⟩
            go_wp2
            go_ret
            exact ⟨ret_bool HNO.out.symm, ⟨below_trans HB2.out (Still.below ⟨_, rfl⟩)⟩⟩
        · have hge : ((k : Int) < (g.fs.length : Int)) = False := eq_false (by omega)
          have HY : Sl (alikeB g h = true) := ⟨by
            obtain ⟨h1, h2, h3⟩ := HABC.out
            exact alike_yes ⟨h1, h2, h3, HL.out, fun j hj => HA.out j (by omega)⟩⟩
          go_wp2
          go_ret
          exact ⟨ret_bool HY.out.symm, HB2⟩
    · have hl' : ((g.fs.length : Int) == (h.fs.length : Int)) = false := by simp; omega
      have HNO : Sl (alikeB g h = false) := ⟨alike_no (fun ⟨_, _, _, h4, _⟩ => hl h4)⟩
      go_wp2
      go_ret
      exact ⟨ret_bool HNO.out.symm, HB1⟩
end Go.Proofs.YthlagngpllahkaaGreatDoor
/- Heads and fields out of the data that comes in. -/
namespace Go.Proofs.YthlagngpllahkaaGreatDoor
open Go.RowKit Go.WideShapes Go.ChangeShapes HeadPlain

theorem list_of {α : Type} (d : α) (n : Nat) (p : Nat → α → Prop) (h : ∀ i, i < n → ∃ x, p i x) : ∃ l : List α, l.length = n ∧ ∀ i, i < n → p i (l.getD i d) := by
  induction n with
  | zero => exact ⟨[], rfl, fun i hi => absurd hi (Nat.not_lt_zero _)⟩
  | succ n ih =>
    obtain ⟨l, hl, hp⟩ := ih (fun i hi => h i (by omega))
    obtain ⟨x, hx⟩ := h n (by omega)
    refine ⟨l ++ [x], by simp [hl], fun i hi => ?_⟩
    by_cases hin : i < n
    · have e : (l ++ [x]).getD i d = l.getD i d := by
        simp only [List.getD_eq_getElem?_getD]; rw [List.getElem?_append_left (by omega)]
      rw [e]; exact hp i hin
    · obtain rfl : i = n := by omega
      have e : (l ++ [x]).getD i d = x := by
        simp only [List.getD_eq_getElem?_getD]; rw [List.getElem?_append_right (by omega)]; simp [hl]
      rw [e]; exact hx
theorem two_of_trod {H : Type} {enc : TypeId × Value → H} {W : World} {base fuel : Nat} {sp : Nat → Bool} {held : Bool} {cs : List Value} {x : DataW H × List MemPlace}
    (h : DataW.trod enc Tryz.prog W base sp held fuel 60 cs = some x) : ∃ a b : ByteArray, cs = [.string a, .string b] ∧ a.size ≤ maxLen ∧ b.size ≤ maxLen := by
  obtain ⟨xs, n, _, hx, hl, hxl, hf⟩ := DataW.trod_struct Tryz.underlying60 h
  have c9 : Tryz.prog.cellsOf 9 = 1 := by kernel_rfl
  have c48 : Tryz.prog.cellsOf 60 = 2 := by kernel_rfl
  rw [c48] at hl
  match xs, hxl with
  | [y0, y1], _ =>
    have h0 := hf 0 _ rfl
    have h1 := hf 1 _ rfl
    simp only [List.getElem?_cons_zero, List.getElem?_cons_succ] at h0 h1
    obtain ⟨z0, g0, e0, w0⟩ := DataW.trod_string Tryz.underlying9 h0
    obtain ⟨z1, g1, e1, w1⟩ := DataW.trod_string Tryz.underlying9 h1
    match cs, hl with
    | [a0, a1], _ =>
      simp [c9] at g0 g1
      subst g0 g1
      exact ⟨z0, z1, rfl, w0, w1⟩
theorem fAt_of_trod {H : Type} {enc : TypeId × Value → H} {W : World} {base fuel : Nat} {sp : Nat → Bool} {held : Bool} {ad : Addr} {x : DataW H × List MemPlace} (hs : ad.spot = none)
    (h : (W.cells? base ad 2).bind (DataW.trod enc Tryz.prog W base sp held fuel 60) = some x) : ∃ y : FV, FAt W ad.block ad.off y := by
  obtain ⟨b, o, spot⟩ := ad
  subst hs
  rw [Option.bind_eq_some_iff] at h
  obtain ⟨cs, hc, h⟩ := h
  obtain ⟨_, hlen, hcell⟩ := World.cells?_some hc
  obtain ⟨s, t, rfl, hs, ht⟩ := two_of_trod h
  have k0 := hcell 0 (by omega)
  have k1 := hcell 1 (by omega)
  rw [Addr.add_mid] at k0 k1
  exact ⟨(s, t), k0, k1, hs, ht⟩
theorem fields_of_trod {H : Type} {enc : TypeId × Value → H} {W : World} {fuel : Nat} {cs : List Value} {x : DataW H × List MemPlace} (h : DataW.trod enc Tryz.prog W 0 (fun _ => true) true fuel 23 cs = some x) :
    ∃ v l, cs = [v] ∧ FieldsAt W v l := by
  have c48 : Tryz.prog.cellsOf 60 = 2 := by kernel_rfl
  rcases DataW.trod_slice Tryz.underlying23 h with ⟨rfl, _⟩ | ⟨a, len, cap, el, rest, n, _, rfl, _, hb, hl, hm, hz, hcell, _⟩
  · exact ⟨_, [], rfl, none, 0, 0, 0, rfl, Nat.le_refl _, Nat.zero_le _, fun h => absurd h (Nat.lt_irrefl _), fun i hi => absurd hi (Nat.not_lt_zero _)⟩
  · rw [c48] at hcell
    have hsome : ∀ i, i < len → ∃ x, el[i]? = some x := fun i hi => ⟨el[i]'(by omega), List.getElem?_eq_getElem (by omega)⟩
    by_cases h0 : len = 0
    · subst h0
      exact ⟨_, [], rfl, some a, cap, 0, 0, rfl, Nat.zero_le _, Nat.zero_le _, fun h => absurd h (Nat.lt_irrefl _), fun i hi => absurd hi (Nat.not_lt_zero _)⟩
    · have hspot : a.spot = none := by
        obtain ⟨x, hx⟩ := hsome 0 (by omega)
        have hc := hcell 0 (by omega)
        rw [hx, Option.bind_eq_some_iff] at hc
        obtain ⟨cs, hcs, _⟩ := hc
        obtain ⟨_, hlen, hce⟩ := World.cells?_some hcs
        have := hce 0 (by omega)
        rw [List.getElem?_eq_getElem (by omega)] at this
        simpa [Addr.add] using World.cell?_spot this
      obtain ⟨b, off, spot⟩ := a
      simp only at hspot
      subst hspot
      obtain ⟨l, hll, hp⟩ := list_of f0 len (fun i x => FAt W b (off + i * 2) x) (fun i hi => by
        obtain ⟨x, hx⟩ := hsome i hi
        have hc := hcell i hi
        rw [hx, Addr.add_mid] at hc
        exact fAt_of_trod rfl hc)
      exact ⟨_, l, rfl, some ⟨b, off, none⟩, cap, b, off, by rw [hll], by omega, by rw [hll]; omega, fun _ => rfl, fun i hi => hp i (by omega)⟩
theorem agg_of_cells {v : Value} {l : List Value} (h : v.cells.toList = l) (hl : l.length ≠ 1) : v = .agg l.toArray := by
  subst h
  cases v with
  | agg cs => simp [Value.cells]
  | _ => exact absurd rfl hl
theorem list4 {α : Type} {l : List α} (h : l.length = 4) : ∃ a b c d, l = [a, b, c, d] :=
  match l, h with
  | [a, b, c, d], _ => ⟨a, b, c, d, rfl⟩
theorem headAt_of_trod {H : Type} {enc : TypeId × Value → H} {W : World} {v : Value} {d : DataW H} {p : List MemPlace} (h : DataW.Trod enc Tryz.prog W 0 (fun _ => true) true 25 v d p) :
    ∃ (hh : HdV) (hv : Value), v = .agg #[.string hh.a, .string hh.b, .string hh.c, hv] ∧ hh.Fit ∧ FieldsAt W hv hh.fs := by
  obtain ⟨fuel, hf⟩ := h
  obtain ⟨xs, n, _, hx, hl, hxl, hf⟩ := DataW.trod_struct Tryz.underlying25 hf
  have c9 : Tryz.prog.cellsOf 9 = 1 := by kernel_rfl
  have c22 : Tryz.prog.cellsOf 22 = 3 := by kernel_rfl
  have c23 : Tryz.prog.cellsOf 23 = 1 := by kernel_rfl
  have c25 : Tryz.prog.cellsOf 25 = 4 := by kernel_rfl
  rw [c25] at hl
  match xs, hxl with
  | [y0, y1], _ =>
    have h0 : DataW.trod enc Tryz.prog W 0 (fun _ => true) true n 22 ((v.cells.toList.drop 0).take (Tryz.prog.cellsOf 22)) = some y0 := hf 0 _ rfl
    have h1 : DataW.trod enc Tryz.prog W 0 (fun _ => true) true n 23 ((v.cells.toList.drop 3).take (Tryz.prog.cellsOf 23)) = some y1 := hf 1 _ rfl
    obtain ⟨a0, a1, a2, a3, hcs⟩ := list4 hl
    rw [hcs] at h0 h1
    rw [c22] at h0
    rw [c23] at h1
    · have e := agg_of_cells hcs (by simp)
      obtain ⟨l, fs, el, hfs⟩ := fields_of_trod h1
      simp at el
      subst el
      simp only [List.drop_zero, List.take_succ_cons, List.take_zero] at h0
      obtain ⟨z0, z1, z2, m, _, g0, g1, g2⟩ := trod_array3 Tryz.underlying22 c9 h0
      obtain ⟨s0, k0, _, w0⟩ := DataW.trod_string Tryz.underlying9 g0
      obtain ⟨s1, k1, _, w1⟩ := DataW.trod_string Tryz.underlying9 g1
      obtain ⟨s2, k2, _, w2⟩ := DataW.trod_string Tryz.underlying9 g2
      simp only [List.cons.injEq, and_true] at k0 k1 k2
      subst k0 k1 k2
      exact ⟨⟨s0, s1, s2, fs⟩, _, e, ⟨w0, w1, w2⟩, hfs⟩
theorem fieldAt_of_trod {H : Type} {enc : TypeId × Value → H} {W : World} {v : Value} {d : DataW H} {p : List MemPlace} (h : DataW.Trod enc Tryz.prog W 0 (fun _ => true) true 60 v d p) :
    ∃ a b : ByteArray, v = .agg #[.string a, .string b] ∧ a.size ≤ maxLen ∧ b.size ≤ maxLen := by
  obtain ⟨fuel, hf⟩ := h
  obtain ⟨a, b, e, ha, hb⟩ := two_of_trod hf
  exact ⟨a, b, agg_of_cells e (by simp), ha, hb⟩
end Go.Proofs.YthlagngpllahkaaGreatDoor
