/- shake: Check: the protocol that an answer grants. -/
import Derived.Test.YthlagngpllahkaaGreatDoorS9
set_option maxRecDepth 100000
namespace Go.Proofs.YthlagngpllahkaaGreatDoor
open Go.RowKit HeadPlain

theorem toList_mk (l : List UInt8) : (ByteArray.mk l.toArray).toList = l := by rw [ByteArray.toList_eq]
/-- Whether an answer grants anything. -/
def grantedB (h : HdV) (key : ByteArray) : Bool :=
  (h.a.toList == bH11.toList) && ((h.b.toList == b101.toList) && (Nam.hasB bWs (getV h.fs bUp) && (Nam.hasB bUp (getV h.fs bConn) && (((oneS (getV h.fs bAcc)).toList == (accS key).toList) && decide ((getV h.fs bExt).length = 0)))))
/-- The protocol that an answer grants. -/
def checkV (h : HdV) (key : ByteArray) (l : List ByteArray) : Option ByteArray :=
  if grantedB h key = true then
    if (getV h.fs bProt).length = 0 then some ByteArray.empty
    else if (getV h.fs bProt).length = 1 then (if inB l (oneS (getV h.fs bProt)) = true then some (oneS (getV h.fs bProt)) else none) else none
  else none
def chkV (o : Option ByteArray) : Value := match o with
  | some p => .tuple #[.string p, .int .i64 0]
  | none => .tuple #[.string ByteArray.empty, .int .i64 70]
theorem one_acc (l : List ByteArray) (key : ByteArray) : ((oneS l).toList == (accS key).toList) = decide (oneL (l.map bytes) = some (accB (bytes key))) := by
  rw [beq_bytes2, accS_bytes, Bool.eq_iff_iff, decide_eq_true_iff, decide_eq_true_iff]
  have hne : accB (bytes key) ≠ [] := fun e => by
    have := accS_size key
    rw [← bytes_length, accS_bytes, e] at this
    cases this
  match l with
  | [] => exact ⟨fun h => absurd h.symm hne, fun h => by cases h⟩
  | [x] => exact ⟨fun h => congrArg some h, fun h => by injection h⟩
  | x :: y :: r =>
    unfold oneS
    rw [if_neg (by simp)]
    exact ⟨fun h => absurd h.symm hne, fun h => by cases h⟩
theorem str_eq (a b : ByteArray) (l : List Nat) (h : bytes b = l) : (a.toList == b.toList) = decide (bytes a = l) := by rw [beq_bytes2, h]
theorem hasB_get (h : HdV) (token name : ByteArray) : Nam.hasB token (getV h.fs name) = hasT (bytes token) (get h.hd.fs (bytes name)) := by unfold Nam.hasB; rw [get_hd]
theorem checkV_plain (h : HdV) (key : ByteArray) (l : List ByteArray) : (checkV h key l).map bytes = checkH accB h.hd (bytes key) (l.map bytes) := by
  have hg : grantedB h key = decide (h.hd.a = sH11 ∧ h.hd.b = s101 ∧ hasT sWs (get h.hd.fs sUp) = true ∧ hasT sUp (get h.hd.fs sConn) = true ∧ oneL (get h.hd.fs sAcc) = some (accB (bytes key)) ∧ get h.hd.fs sExt = []) := by
    unfold grantedB
    rw [str_eq h.a bH11 sH11 rfl, str_eq h.b b101 s101 rfl, one_acc, get_hd, hasB_get, hasB_get, show bytes bAcc = sAcc from rfl, show bytes bWs = sWs from rfl, show bytes bUp = sUp from rfl, show bytes bConn = sConn from rfl]
    rw [Bool.eq_iff_iff]
    simp only [Bool.and_eq_true, decide_eq_true_iff]
    have e : ((getV h.fs bExt).length = 0) ↔ get h.hd.fs sExt = [] := by
      rw [show sExt = bytes bExt from rfl, ← get_hd]
      simp
    rw [e]
    exact Iff.rfl
  unfold checkV checkH
  by_cases c : h.hd.a = sH11 ∧ h.hd.b = s101 ∧ hasT sWs (get h.hd.fs sUp) = true ∧ hasT sUp (get h.hd.fs sConn) = true ∧ oneL (get h.hd.fs sAcc) = some (accB (bytes key)) ∧ get h.hd.fs sExt = []
  · rw [if_pos c, if_pos (by rw [hg]; exact decide_eq_true c)]
    rw [show sProt = bytes bProt from rfl, ← get_hd]
    match getV h.fs bProt with
    | [] => rfl
    | [p] =>
      show (if (1 : Nat) = 0 then _ else if (1 : Nat) = 1 then (if inB l p = true then some p else none) else none : Option ByteArray).map bytes = (if bytes p ∈ l.map bytes then some (bytes p) else none)
      rw [if_neg (by omega), if_pos rfl, inB_eq]
      by_cases hp : bytes p ∈ l.map bytes
      · rw [if_pos (decide_eq_true hp), if_pos hp]; rfl
      · rw [if_neg (by simpa using hp), if_neg hp]; rfl
    | p :: q :: r =>
      rw [if_neg (by simp), if_neg (by simp)]; rfl
  · rw [if_neg c, if_neg (by rw [hg]; simpa using c)]
    rfl
set_option maxHeartbeats 4000000 in
theorem check_shake (h : HdV) (bx : Value) (key : ByteArray) (l : List ByteArray) (v : Value) (w : World) (o : Option ByteArray) (ho : checkV h key l = o) (hg : GlobA w) (hv : FieldsAt w bx h.fs) (hf : Fw h) (hk : key.size ≤ 100000) (hl : StrA w v l) (hll : l.length ≤ 1000000) :
    Calls Tryz.prog 30 #[.agg #[.string h.a, .string h.b, .string h.c, bx], .string key, v] w fun e w' => e = .returned (chkV o) ∧ Sl (Below w.heap.size w w') := by
  have hfl : h.fs.length ≤ 100000 := by have := hf.n; omega
  have C3 : Sl (∀ V, Below w.heap.size w V → Calls Tryz.prog 58 #[.agg #[.string h.a, .string h.b, .string h.c, bx], .string { data := #[85, 112, 103, 114, 97, 100, 101] }, .string { data := #[119, 101, 98, 115, 111, 99, 107, 101, 116] }] V fun e w' => e = .returned (.bool (Nam.hasB bWs (getV h.fs bUp))) ∧ Sl (Below V.heap.size V w')) := ⟨fun V hB => hasT_any h bx _ _ _ V rfl (hg.of hB) (hv.below hB) hf (show bWs.size ≤ maxLen by decide)⟩
  have C4 : Sl (∀ V, Below w.heap.size w V → Calls Tryz.prog 58 #[.agg #[.string h.a, .string h.b, .string h.c, bx], .string { data := #[67, 111, 110, 110, 101, 99, 116, 105, 111, 110] }, .string { data := #[85, 112, 103, 114, 97, 100, 101] }] V fun e w' => e = .returned (.bool (Nam.hasB bUp (getV h.fs bConn))) ∧ Sl (Below V.heap.size V w')) := ⟨fun V hB => hasT_any h bx _ _ _ V rfl (hg.of hB) (hv.below hB) hf (show bUp.size ≤ maxLen by decide)⟩
  have C5 : Sl (∀ V, Below w.heap.size w V → Calls Tryz.prog 59 #[.agg #[.string h.a, .string h.b, .string h.c, bx], .string { data := #[83, 101, 99, 45, 87, 101, 98, 83, 111, 99, 107, 101, 116, 45, 65, 99, 99, 101, 112, 116] }] V fun e w' => e = .returned (.string (oneS (getV h.fs bAcc))) ∧ Sl (Below V.heap.size V w')) := ⟨fun V hB => only_any h bx _ V (hv.below hB) hfl⟩
  have CA : Sl (∀ V, Below w.heap.size w V → Calls Tryz.prog 19 #[.string key] V fun e w' => e = .returned (.string (accS key)) ∧ Sl (Below V.heap.size V w')) := ⟨fun V hB => accept_any key V (hg.of hB) hk⟩
  have C6 : Sl (∀ V, Below w.heap.size w V → Calls Tryz.prog 36 #[.agg #[.string h.a, .string h.b, .string h.c, bx], .string { data := #[83, 101, 99, 45, 87, 101, 98, 83, 111, 99, 107, 101, 116, 45, 69, 120, 116, 101, 110, 115, 105, 111, 110, 115] }] V fun e w' => ∃ a c, e = .returned (.slice a (getV h.fs bExt).length c) ∧ Sl (Below V.heap.size V w')) := ⟨fun V hB => (get_ex V V h bx _ (Below.refl _ _) (hv.below hB) hfl).mono fun _ _ ⟨a, c, h1, _, h2, _⟩ => ⟨a, c, h1, h2⟩⟩
  have C7 : Sl (∀ V, Below w.heap.size w V → Calls Tryz.prog 36 #[.agg #[.string h.a, .string h.b, .string h.c, bx], .string { data := #[83, 101, 99, 45, 87, 101, 98, 83, 111, 99, 107, 101, 116, 45, 80, 114, 111, 116, 111, 99, 111, 108] }] V fun e w' => ∃ a c, e = .returned (.slice a (getV h.fs bProt).length c) ∧ Sl (StrA w' (.slice a (getV h.fs bProt).length c) (getV h.fs bProt)) ∧ Sl (Below V.heap.size V w')) := ⟨fun V hB => (get_ex V V h bx _ (Below.refl _ _) (hv.below hB) hfl).mono fun _ _ ⟨a, c, h1, h2, h3, _⟩ => ⟨a, c, h1, h2, h3⟩⟩
  have CN : Sl (∀ x V, Below w.heap.size w V → Calls Tryz.prog 51 #[v, .string x] V fun e w' => e = .returned (.bool (inB l x)) ∧ V = w') := ⟨fun x V hB => contains_str l v x V _ rfl (hl.below hB) hll⟩
  have HG : Sl (grantedB h key = ((h.a.toList == bH11.toList) && ((h.b.toList == b101.toList) && (Nam.hasB bWs (getV h.fs bUp) && (Nam.hasB bUp (getV h.fs bConn) && (((oneS (getV h.fs bAcc)).toList == (accS key).toList) && decide ((getV h.fs bExt).length = 0))))))) := ⟨rfl⟩
  have HO := Sl.mk ho
  have HP : Sl ((getV h.fs bProt).length ≤ 1000000) := ⟨Nat.le_trans (getV_le _ _) (by omega)⟩
  obtain ⟨c1, hc1⟩ : ∃ c, (h.a.toList == bH11.toList) = c := ⟨_, rfl⟩
  obtain ⟨c2, hc2⟩ : ∃ c, (h.b.toList == b101.toList) = c := ⟨_, rfl⟩
  obtain ⟨c3, hc3⟩ : ∃ c, Nam.hasB bWs (getV h.fs bUp) = c := ⟨_, rfl⟩
  obtain ⟨c4, hc4⟩ : ∃ c, Nam.hasB bUp (getV h.fs bConn) = c := ⟨_, rfl⟩
  obtain ⟨s5, hs5⟩ : ∃ s, oneS (getV h.fs bAcc) = s := ⟨_, rfl⟩
  obtain ⟨sA, hsA⟩ : ∃ s, accS key = s := ⟨_, rfl⟩
  obtain ⟨n6, hn6⟩ : ∃ n, (getV h.fs bExt).length = n := ⟨_, rfl⟩
  rw [hc3] at C3
  rw [hc4] at C4
  rw [hs5] at C5
  rw [hsA] at CA
  rw [hn6] at C6
  rw [hc1, hc2, hc3, hc4, hs5, hsA, hn6] at HG
  obtain ⟨c5, hc5⟩ : ∃ c, (s5.toList == sA.toList) = c := ⟨_, rfl⟩
  rw [hc5] at HG
  have hk1 : (h.a.toList == [72, 84, 84, 80, 47, 49, 46, 49]) = c1 := by rw [← hc1, show bH11.toList = [72, 84, 84, 80, 47, 49, 46, 49] from toList_mk _]
  have hk2 : (h.b.toList == [49, 48, 49]) = c2 := by rw [← hc2, show b101.toList = [49, 48, 49] from toList_mk _]
  have HK1 := Sl.mk hk1
  have HK2 := Sl.mk hk2
  have HK5 := Sl.mk hc5
  clear hc1 hc2 hc3 hc4 hs5 hsA hn6 ho hg hv hf hk hll hfl hk1 hk2 hc5
  have HZ : Sl (checkV h key l = if grantedB h key = true then
    if (getV h.fs bProt).length = 0 then some ByteArray.empty
    else if (getV h.fs bProt).length = 1 then (if inB l (oneS (getV h.fs bProt)) = true then some (oneS (getV h.fs bProt)) else none) else none
  else none) := ⟨rfl⟩
  obtain ⟨w0, hw0⟩ : ∃ w0, w.alloc (.cells #[.string h.a, .string h.b, .string h.c, bx] 25) = w0 := ⟨_, rfl⟩
  have HX0 : Sl (w0.heap[w.heap.size]? = some (.cells #[.string h.a, .string h.b, .string h.c, bx] 25 (0, 0))) := ⟨by rw [← hw0]; exact alloc_new _ _ _ rfl⟩
  have HB0 : Sl (Below w.heap.size w w0) := ⟨by rw [← hw0]; exact (Below.refl _ _).alloc (Nat.le_refl _) _⟩
  cases c1 with
  | false =>
    have q1 := HK1.out
    have q2 := HK2.out
    have q5 := HK5.out
    obtain ⟨p0, p1, p2, p3⟩ := head_cells HX0.out
    go_enter Tryz.func30, Tryz.ntmps30
    go_wp2
    go_ret2
    refine ⟨?_, HB0⟩
    rw [← HO.out, HZ.out, HG.out]
    rfl
  | true =>
    cases c2 with
    | false =>
      have q1 := HK1.out
      have q2 := HK2.out
      have q5 := HK5.out
      obtain ⟨p0, p1, p2, p3⟩ := head_cells HX0.out
      go_enter Tryz.func30, Tryz.ntmps30
      go_wp2
      go_ret2
      refine ⟨?_, HB0⟩
      rw [← HO.out, HZ.out, HG.out]
      rfl
    | true =>
      cases c3 with
      | false =>
        have q1 := HK1.out
        have q2 := HK2.out
        have q5 := HK5.out
        obtain ⟨p0, p1, p2, p3⟩ := head_cells HX0.out
        go_enter Tryz.func30, Tryz.ntmps30
        go_wp2_with fail
        clear hw0
        refine (C3.out _ HB0.out).mono ?_
        rintro e w1 ⟨rfl, HX⟩
        have HB1 := Sl.mk (below_trans HB0.out HX.out)
        have HX1 := Sl.mk (box_below HX0.out HX.out)
        clear p0 p1 p2 p3 HX
        obtain ⟨p0, p1, p2, p3⟩ := head_cells HX1.out
        go_wp2
        go_ret2
        refine ⟨?_, HB1⟩
        rw [← HO.out, HZ.out, HG.out]
        rfl
      | true =>
        cases c4 with
        | false =>
          have q1 := HK1.out
          have q2 := HK2.out
          have q5 := HK5.out
          obtain ⟨p0, p1, p2, p3⟩ := head_cells HX0.out
          go_enter Tryz.func30, Tryz.ntmps30
          go_wp2_with fail
          clear hw0
          refine (C3.out _ HB0.out).mono ?_
          rintro e w1 ⟨rfl, HX⟩
          have HB1 := Sl.mk (below_trans HB0.out HX.out)
          have HX1 := Sl.mk (box_below HX0.out HX.out)
          clear p0 p1 p2 p3 HX
          obtain ⟨p0, p1, p2, p3⟩ := head_cells HX1.out
          go_wp2_with fail
          refine (C4.out _ HB1.out).mono ?_
          rintro e w2 ⟨rfl, HX⟩
          have HB2 := Sl.mk (below_trans HB1.out HX.out)
          have HX2 := Sl.mk (box_below HX1.out HX.out)
          clear p0 p1 p2 p3 HX
          obtain ⟨p0, p1, p2, p3⟩ := head_cells HX2.out
          go_wp2
          go_ret2
          refine ⟨?_, HB2⟩
          rw [← HO.out, HZ.out, HG.out]
          rfl
        | true =>
          cases c5 with
          | false =>
            have q1 := HK1.out
            have q2 := HK2.out
            have q5 := HK5.out
            obtain ⟨p0, p1, p2, p3⟩ := head_cells HX0.out
            go_enter Tryz.func30, Tryz.ntmps30
            go_wp2_with fail
            clear hw0
            refine (C3.out _ HB0.out).mono ?_
            rintro e w1 ⟨rfl, HX⟩
            have HB1 := Sl.mk (below_trans HB0.out HX.out)
            have HX1 := Sl.mk (box_below HX0.out HX.out)
            clear p0 p1 p2 p3 HX
            obtain ⟨p0, p1, p2, p3⟩ := head_cells HX1.out
            go_wp2_with fail
            refine (C4.out _ HB1.out).mono ?_
            rintro e w2 ⟨rfl, HX⟩
            have HB2 := Sl.mk (below_trans HB1.out HX.out)
            have HX2 := Sl.mk (box_below HX1.out HX.out)
            clear p0 p1 p2 p3 HX
            obtain ⟨p0, p1, p2, p3⟩ := head_cells HX2.out
            go_wp2_with fail
            refine (C5.out _ HB2.out).mono ?_
            rintro e w3 ⟨rfl, HX⟩
            have HB3 := Sl.mk (below_trans HB2.out HX.out)
            have HX3 := Sl.mk (box_below HX2.out HX.out)
            clear p0 p1 p2 p3 HX
            obtain ⟨p0, p1, p2, p3⟩ := head_cells HX3.out
            go_wp2_with fail
            refine (CA.out _ HB3.out).mono ?_
            rintro e w4 ⟨rfl, HX⟩
            have HB4 := Sl.mk (below_trans HB3.out HX.out)
            have HX4 := Sl.mk (box_below HX3.out HX.out)
            clear p0 p1 p2 p3 HX
            obtain ⟨p0, p1, p2, p3⟩ := head_cells HX4.out
            go_wp2
            go_ret2
            refine ⟨?_, HB4⟩
            rw [← HO.out, HZ.out, HG.out]
            rfl
          | true =>
            by_cases h6 : n6 = 0
            · subst h6
              have HGT : Sl (grantedB h key = true) := ⟨by rw [HG.out]; rfl⟩
              clear HG
              obtain ⟨l7, hl7⟩ : ∃ l, getV h.fs bProt = l := ⟨_, rfl⟩
              rw [hl7] at C7 HZ HP
              clear hl7
              have q1 := HK1.out
              have q2 := HK2.out
              have q5 := HK5.out
              obtain ⟨n, hn⟩ : ∃ n, l7.length = n := ⟨_, rfl⟩
              have HN := Sl.mk hn
              rw [hn] at C7 HZ
              clear hn
              obtain ⟨x7, hx7⟩ : ∃ x, oneS l7 = x := ⟨_, rfl⟩
              have HX7 := Sl.mk hx7
              rw [hx7] at HZ
              clear hx7
              by_cases h0 : n = 0
              · have q7 : ((n : Int) == 0) = true := by simp [h0]
                have HR : Sl (checkV h key l = some ByteArray.empty) := ⟨by rw [HZ.out, if_pos HGT.out, if_pos h0]⟩
                clear h0
                obtain ⟨p0, p1, p2, p3⟩ := head_cells HX0.out
                go_enter Tryz.func30, Tryz.ntmps30
                go_wp2_with fail
                clear hw0
                refine (C3.out _ HB0.out).mono ?_
                rintro e w1 ⟨rfl, HX⟩
                have HB1 := Sl.mk (below_trans HB0.out HX.out)
                have HX1 := Sl.mk (box_below HX0.out HX.out)
                clear p0 p1 p2 p3 HX
                obtain ⟨p0, p1, p2, p3⟩ := head_cells HX1.out
                go_wp2_with fail
                refine (C4.out _ HB1.out).mono ?_
                rintro e w2 ⟨rfl, HX⟩
                have HB2 := Sl.mk (below_trans HB1.out HX.out)
                have HX2 := Sl.mk (box_below HX1.out HX.out)
                clear p0 p1 p2 p3 HX
                obtain ⟨p0, p1, p2, p3⟩ := head_cells HX2.out
                go_wp2_with fail
                refine (C5.out _ HB2.out).mono ?_
                rintro e w3 ⟨rfl, HX⟩
                have HB3 := Sl.mk (below_trans HB2.out HX.out)
                have HX3 := Sl.mk (box_below HX2.out HX.out)
                clear p0 p1 p2 p3 HX
                obtain ⟨p0, p1, p2, p3⟩ := head_cells HX3.out
                go_wp2_with fail
                refine (CA.out _ HB3.out).mono ?_
                rintro e w4 ⟨rfl, HX⟩
                have HB4 := Sl.mk (below_trans HB3.out HX.out)
                have HX4 := Sl.mk (box_below HX3.out HX.out)
                clear p0 p1 p2 p3 HX
                obtain ⟨p0, p1, p2, p3⟩ := head_cells HX4.out
                go_wp2_with fail
                refine (C6.out _ HB4.out).mono ?_
                rintro e w5 ⟨a6, d6, rfl, HX⟩
                have HB5 := Sl.mk (below_trans HB4.out HX.out)
                have HX5 := Sl.mk (box_below HX4.out HX.out)
                clear p0 p1 p2 p3 HX
                obtain ⟨p0, p1, p2, p3⟩ := head_cells HX5.out
                go_wp2_with fail
                refine (C7.out _ HB5.out).mono ?_
                rintro e w6 ⟨a7, d7, rfl, HS7, HX⟩
                have HB6 := Sl.mk (below_trans HB5.out HX.out)
                have HX6 := Sl.mk (box_below HX5.out HX.out)
                clear p0 p1 p2 p3 HX
                obtain ⟨p0, p1, p2, p3⟩ := head_cells HX6.out
                go_wp2
                go_ret2
                refine ⟨?_, HB6⟩
                rw [← HO.out, HR.out]
                rfl
              · have q7 : ((n : Int) == 0) = false := by simpa using h0
                have CO : Sl (∀ V a c, StrA V (.slice a n c) l7 → Calls Tryz.prog 60 #[.slice a n c] V fun e w' => e = .returned (.tuple #[.string x7, .bool (decide (n = 1))]) ∧ V = w') := ⟨fun V a c hS => by
                  have := one_ex l7 _ V hS HP.out
                  rwa [HX7.out, HN.out] at this⟩
                by_cases h1 : n = 1
                · rw [decide_eq_true h1] at CO
                  obtain ⟨b, hb⟩ : ∃ b, inB l x7 = b := ⟨_, rfl⟩
                  have HI : Sl (checkV h key l = if b = true then some x7 else none) := ⟨by rw [HZ.out, if_pos HGT.out, if_neg h0, if_pos h1, hb]⟩
                  have CN7 := Sl.mk (CN.out x7)
                  rw [hb] at CN7
                  clear hb h0 h1
                  cases b with
                  | true =>
                    obtain ⟨p0, p1, p2, p3⟩ := head_cells HX0.out
                    go_enter Tryz.func30, Tryz.ntmps30
                    go_wp2_with fail
                    clear hw0
                    refine (C3.out _ HB0.out).mono ?_
                    rintro e w1 ⟨rfl, HX⟩
                    have HB1 := Sl.mk (below_trans HB0.out HX.out)
                    have HX1 := Sl.mk (box_below HX0.out HX.out)
                    clear p0 p1 p2 p3 HX
                    obtain ⟨p0, p1, p2, p3⟩ := head_cells HX1.out
                    go_wp2_with fail
                    refine (C4.out _ HB1.out).mono ?_
                    rintro e w2 ⟨rfl, HX⟩
                    have HB2 := Sl.mk (below_trans HB1.out HX.out)
                    have HX2 := Sl.mk (box_below HX1.out HX.out)
                    clear p0 p1 p2 p3 HX
                    obtain ⟨p0, p1, p2, p3⟩ := head_cells HX2.out
                    go_wp2_with fail
                    refine (C5.out _ HB2.out).mono ?_
                    rintro e w3 ⟨rfl, HX⟩
                    have HB3 := Sl.mk (below_trans HB2.out HX.out)
                    have HX3 := Sl.mk (box_below HX2.out HX.out)
                    clear p0 p1 p2 p3 HX
                    obtain ⟨p0, p1, p2, p3⟩ := head_cells HX3.out
                    go_wp2_with fail
                    refine (CA.out _ HB3.out).mono ?_
                    rintro e w4 ⟨rfl, HX⟩
                    have HB4 := Sl.mk (below_trans HB3.out HX.out)
                    have HX4 := Sl.mk (box_below HX3.out HX.out)
                    clear p0 p1 p2 p3 HX
                    obtain ⟨p0, p1, p2, p3⟩ := head_cells HX4.out
                    go_wp2_with fail
                    refine (C6.out _ HB4.out).mono ?_
                    rintro e w5 ⟨a6, d6, rfl, HX⟩
                    have HB5 := Sl.mk (below_trans HB4.out HX.out)
                    have HX5 := Sl.mk (box_below HX4.out HX.out)
                    clear p0 p1 p2 p3 HX
                    obtain ⟨p0, p1, p2, p3⟩ := head_cells HX5.out
                    go_wp2_with fail
                    refine (C7.out _ HB5.out).mono ?_
                    rintro e w6 ⟨a7, d7, rfl, HS7, HX⟩
                    have HB6 := Sl.mk (below_trans HB5.out HX.out)
                    have HX6 := Sl.mk (box_below HX5.out HX.out)
                    clear p0 p1 p2 p3 HX
                    obtain ⟨p0, p1, p2, p3⟩ := head_cells HX6.out
                    go_wp2_with fail
                    refine (CO.out _ _ _ HS7.out).mono ?_
                    rintro e w7 ⟨rfl, rfl⟩
                    go_wp2_with fail
                    refine (CN7.out _ HB6.out).mono ?_
                    rintro e w8 ⟨rfl, rfl⟩
                    go_wp2
                    go_ret2
                    refine ⟨?_, HB6⟩
                    rw [← HO.out, HI.out]
                    rfl
                  | false =>
                    obtain ⟨p0, p1, p2, p3⟩ := head_cells HX0.out
                    go_enter Tryz.func30, Tryz.ntmps30
                    go_wp2_with fail
                    clear hw0
                    refine (C3.out _ HB0.out).mono ?_
                    rintro e w1 ⟨rfl, HX⟩
                    have HB1 := Sl.mk (below_trans HB0.out HX.out)
                    have HX1 := Sl.mk (box_below HX0.out HX.out)
                    clear p0 p1 p2 p3 HX
                    obtain ⟨p0, p1, p2, p3⟩ := head_cells HX1.out
                    go_wp2_with fail
                    refine (C4.out _ HB1.out).mono ?_
                    rintro e w2 ⟨rfl, HX⟩
                    have HB2 := Sl.mk (below_trans HB1.out HX.out)
                    have HX2 := Sl.mk (box_below HX1.out HX.out)
                    clear p0 p1 p2 p3 HX
                    obtain ⟨p0, p1, p2, p3⟩ := head_cells HX2.out
                    go_wp2_with fail
                    refine (C5.out _ HB2.out).mono ?_
                    rintro e w3 ⟨rfl, HX⟩
                    have HB3 := Sl.mk (below_trans HB2.out HX.out)
                    have HX3 := Sl.mk (box_below HX2.out HX.out)
                    clear p0 p1 p2 p3 HX
                    obtain ⟨p0, p1, p2, p3⟩ := head_cells HX3.out
                    go_wp2_with fail
                    refine (CA.out _ HB3.out).mono ?_
                    rintro e w4 ⟨rfl, HX⟩
                    have HB4 := Sl.mk (below_trans HB3.out HX.out)
                    have HX4 := Sl.mk (box_below HX3.out HX.out)
                    clear p0 p1 p2 p3 HX
                    obtain ⟨p0, p1, p2, p3⟩ := head_cells HX4.out
                    go_wp2_with fail
                    refine (C6.out _ HB4.out).mono ?_
                    rintro e w5 ⟨a6, d6, rfl, HX⟩
                    have HB5 := Sl.mk (below_trans HB4.out HX.out)
                    have HX5 := Sl.mk (box_below HX4.out HX.out)
                    clear p0 p1 p2 p3 HX
                    obtain ⟨p0, p1, p2, p3⟩ := head_cells HX5.out
                    go_wp2_with fail
                    refine (C7.out _ HB5.out).mono ?_
                    rintro e w6 ⟨a7, d7, rfl, HS7, HX⟩
                    have HB6 := Sl.mk (below_trans HB5.out HX.out)
                    have HX6 := Sl.mk (box_below HX5.out HX.out)
                    clear p0 p1 p2 p3 HX
                    obtain ⟨p0, p1, p2, p3⟩ := head_cells HX6.out
                    go_wp2_with fail
                    refine (CO.out _ _ _ HS7.out).mono ?_
                    rintro e w7 ⟨rfl, rfl⟩
                    go_wp2_with fail
                    refine (CN7.out _ HB6.out).mono ?_
                    rintro e w8 ⟨rfl, rfl⟩
                    go_wp2
                    go_ret2
                    refine ⟨?_, HB6⟩
                    rw [← HO.out, HI.out]
                    rfl
                · rw [decide_eq_false h1] at CO
                  have HI : Sl (checkV h key l = none) := ⟨by rw [HZ.out, if_pos HGT.out, if_neg h0, if_neg h1]⟩
                  clear h0 h1
                  obtain ⟨p0, p1, p2, p3⟩ := head_cells HX0.out
                  go_enter Tryz.func30, Tryz.ntmps30
                  go_wp2_with fail
                  clear hw0
                  refine (C3.out _ HB0.out).mono ?_
                  rintro e w1 ⟨rfl, HX⟩
                  have HB1 := Sl.mk (below_trans HB0.out HX.out)
                  have HX1 := Sl.mk (box_below HX0.out HX.out)
                  clear p0 p1 p2 p3 HX
                  obtain ⟨p0, p1, p2, p3⟩ := head_cells HX1.out
                  go_wp2_with fail
                  refine (C4.out _ HB1.out).mono ?_
                  rintro e w2 ⟨rfl, HX⟩
                  have HB2 := Sl.mk (below_trans HB1.out HX.out)
                  have HX2 := Sl.mk (box_below HX1.out HX.out)
                  clear p0 p1 p2 p3 HX
                  obtain ⟨p0, p1, p2, p3⟩ := head_cells HX2.out
                  go_wp2_with fail
                  refine (C5.out _ HB2.out).mono ?_
                  rintro e w3 ⟨rfl, HX⟩
                  have HB3 := Sl.mk (below_trans HB2.out HX.out)
                  have HX3 := Sl.mk (box_below HX2.out HX.out)
                  clear p0 p1 p2 p3 HX
                  obtain ⟨p0, p1, p2, p3⟩ := head_cells HX3.out
                  go_wp2_with fail
                  refine (CA.out _ HB3.out).mono ?_
                  rintro e w4 ⟨rfl, HX⟩
                  have HB4 := Sl.mk (below_trans HB3.out HX.out)
                  have HX4 := Sl.mk (box_below HX3.out HX.out)
                  clear p0 p1 p2 p3 HX
                  obtain ⟨p0, p1, p2, p3⟩ := head_cells HX4.out
                  go_wp2_with fail
                  refine (C6.out _ HB4.out).mono ?_
                  rintro e w5 ⟨a6, d6, rfl, HX⟩
                  have HB5 := Sl.mk (below_trans HB4.out HX.out)
                  have HX5 := Sl.mk (box_below HX4.out HX.out)
                  clear p0 p1 p2 p3 HX
                  obtain ⟨p0, p1, p2, p3⟩ := head_cells HX5.out
                  go_wp2_with fail
                  refine (C7.out _ HB5.out).mono ?_
                  rintro e w6 ⟨a7, d7, rfl, HS7, HX⟩
                  have HB6 := Sl.mk (below_trans HB5.out HX.out)
                  have HX6 := Sl.mk (box_below HX5.out HX.out)
                  clear p0 p1 p2 p3 HX
                  obtain ⟨p0, p1, p2, p3⟩ := head_cells HX6.out
                  go_wp2_with fail
                  refine (CO.out _ _ _ HS7.out).mono ?_
                  rintro e w7 ⟨rfl, rfl⟩
                  go_wp2
                  go_ret2
                  refine ⟨?_, HB6⟩
                  rw [← HO.out, HI.out]
                  rfl
            · have q6 : ((n6 : Int) == 0) = false := by simpa using h6
              rw [decide_eq_false h6] at HG
              clear h6
              have q1 := HK1.out
              have q2 := HK2.out
              have q5 := HK5.out
              obtain ⟨p0, p1, p2, p3⟩ := head_cells HX0.out
              go_enter Tryz.func30, Tryz.ntmps30
              go_wp2_with fail
              clear hw0
              refine (C3.out _ HB0.out).mono ?_
              rintro e w1 ⟨rfl, HX⟩
              have HB1 := Sl.mk (below_trans HB0.out HX.out)
              have HX1 := Sl.mk (box_below HX0.out HX.out)
              clear p0 p1 p2 p3 HX
              obtain ⟨p0, p1, p2, p3⟩ := head_cells HX1.out
              go_wp2_with fail
              refine (C4.out _ HB1.out).mono ?_
              rintro e w2 ⟨rfl, HX⟩
              have HB2 := Sl.mk (below_trans HB1.out HX.out)
              have HX2 := Sl.mk (box_below HX1.out HX.out)
              clear p0 p1 p2 p3 HX
              obtain ⟨p0, p1, p2, p3⟩ := head_cells HX2.out
              go_wp2_with fail
              refine (C5.out _ HB2.out).mono ?_
              rintro e w3 ⟨rfl, HX⟩
              have HB3 := Sl.mk (below_trans HB2.out HX.out)
              have HX3 := Sl.mk (box_below HX2.out HX.out)
              clear p0 p1 p2 p3 HX
              obtain ⟨p0, p1, p2, p3⟩ := head_cells HX3.out
              go_wp2_with fail
              refine (CA.out _ HB3.out).mono ?_
              rintro e w4 ⟨rfl, HX⟩
              have HB4 := Sl.mk (below_trans HB3.out HX.out)
              have HX4 := Sl.mk (box_below HX3.out HX.out)
              clear p0 p1 p2 p3 HX
              obtain ⟨p0, p1, p2, p3⟩ := head_cells HX4.out
              go_wp2_with fail
              refine (C6.out _ HB4.out).mono ?_
              rintro e w5 ⟨a6, d6, rfl, HX⟩
              have HB5 := Sl.mk (below_trans HB4.out HX.out)
              have HX5 := Sl.mk (box_below HX4.out HX.out)
              clear p0 p1 p2 p3 HX
              obtain ⟨p0, p1, p2, p3⟩ := head_cells HX5.out
              go_wp2
              go_ret2
              refine ⟨?_, HB5⟩
              rw [← HO.out, HZ.out, HG.out]
              rfl
end Go.Proofs.YthlagngpllahkaaGreatDoor
