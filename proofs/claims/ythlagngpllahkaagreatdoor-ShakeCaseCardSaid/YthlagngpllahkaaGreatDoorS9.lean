/- shake: Ask, for no protocols, and where it may not be. -/
import Derived.Test.YthlagngpllahkaaGreatDoorS8
set_option maxRecDepth 100000
namespace Go.Proofs.YthlagngpllahkaaGreatDoor
open Go.RowKit HeadPlain

set_option maxHeartbeats 2000000 in
theorem ask_none (path host key : ByteArray) (v : Value) (w : World) (ok : AskOk path host key []) (hg : GlobA w) (hv : StrA w v []) (hA : askB path host key = true) :
    Calls Tryz.prog 28 #[.string path, .string host, .string key, v] w fun e w' => Sl (AskR w' path host key [] e) ∧ Sl (Below w.heap.size w w') := by
  have hO : offerB [] = true := by decide
  have C1 : Sl (∀ V, Calls Tryz.prog 52 #[.string path, .string host, .string key] V fun e w' => e = .returned (.bool true) ∧ Sl (Below V.heap.size V w')) := ⟨fun V => mayAsk_any path host key V true hA (by have := ok.p; unfold maxLen; omega) (by have := ok.h; unfold maxLen; omega) (by have := ok.k; omega)⟩
  have C2 : Sl (∀ V, Below w.heap.size w V → Calls Tryz.prog 53 #[v] V fun e w' => e = .returned (.bool true) ∧ Sl (Below V.heap.size V w')) := ⟨fun V hB => mayOffer_any [] v V true hO (hg.of hB).h (hv.below hB) (by decide) (fun x hx => by cases hx)⟩
  have HFS : Sl (∀ f ∈ [(bHost, host), (bUp, bWs), (bConn, bUp), (bKey, key), (bVer, b13)], f.1.size ≤ maxLen ∧ f.2.size ≤ maxLen) := ⟨fun f hf => by
    have := askF_ok ok (show 0 ≤ 16 by omega) f (List.mem_append.2 (.inl hf))
    unfold maxLen; omega⟩
  have HV : Sl (askV path host key [] = ⟨bGET, path, bH11, [(bHost, host), (bUp, bWs), (bConn, bUp), (bKey, key), (bVer, b13)]⟩) := ⟨rfl⟩
  have CC : Sl (∀ V a c, Below w.heap.size w V → FieldsAt V (.slice a 5 c) [(bHost, host), (bUp, bWs), (bConn, bUp), (bKey, key), (bVer, b13)] → Calls Tryz.prog 55 #[.agg #[.string { data := #[71, 69, 84] }, .string path, .string { data := #[72, 84, 84, 80, 47, 49, 46, 49] }, .slice a 5 c]] V fun e w' => e = .returned (.int .i64 (chk (askV path host key []) : Nat)) ∧ Sl (Below V.heap.size V w')) := ⟨fun V a c hB hF => by
    have ht := ask_text ok (show 0 ≤ 16 by omega)
    rw [HV.out] at ht ⊢
    exact check_any ⟨bGET, path, bH11, [(bHost, host), (bUp, bWs), (bConn, bUp), (bKey, key), (bVer, b13)]⟩ _ V (hg.of hB).h hF ⟨by show bGET.size ≤ maxLen; decide, by show path.size ≤ maxLen; have := ok.p; unfold maxLen; omega, by show bH11.size ≤ maxLen; decide⟩ ht⟩
  have HK : Sl (askOkB path host key [] = decide (chk (askV path host key []) = 0)) := ⟨by unfold askOkB; rw [hA, hO]; rfl⟩
  obtain ⟨cc, hcc⟩ : ∃ cc, chk (askV path host key []) = cc := ⟨_, rfl⟩
  rw [hcc] at CC HK
  have HCC := Sl.mk hcc
  clear hcc hA hO ok hg
  obtain ⟨ad, ca, sa, oa, rfl, _⟩ := hv
  rw [show ([] : List ByteArray).length = 0 from rfl] at C2 ⊢
  obtain ⟨w0, hw0⟩ : ∃ w0, w.alloc (.cells #[.string { data := #[] }, .string { data := #[] }, .string { data := #[] }, .slice none 0 0] 25) = w0 := ⟨_, rfl⟩
  have HR0 : Sl (w0.heap[w.heap.size]? = some (.cells #[.string { data := #[] }, .string { data := #[] }, .string { data := #[] }, .slice none 0 0] 25 (0, 0))) := ⟨by rw [← hw0]; exact alloc_new _ _ _ rfl⟩
  have HB0 : Sl (Below w.heap.size w w0) := ⟨by rw [← hw0]; exact (Below.refl _ _).alloc (Nat.le_refl _) _⟩
  have HZ0 : Sl (w0.heap.size = w.heap.size + 1) := ⟨by rw [← hw0, alloc_size]⟩
  go_enter Tryz.func28, Tryz.ntmps28
  go_wp2_with fail
  clear hw0
  refine (C1.out _).mono ?_
  rintro e w1 ⟨rfl, HB1'⟩
  go_wp2_with fail
  refine (C2.out _ (below_trans HB0.out HB1'.out)).mono ?_
  rintro e w2 ⟨rfl, HB2'⟩
  have HB02 := Sl.mk (below_trans HB1'.out HB2'.out)
  have HB2 := Sl.mk (below_trans HB0.out HB02.out)
  have HR2 := Sl.mk (box_below HR0.out HB02.out)
  have HZ2 : Sl (w.heap.size < w2.heap.size) := ⟨by have h1 := HB02.out.size; have h2 := HZ0.out; omega⟩
  clear C1 C2 HB1' HB2'
  have HO := Sl.mk (ownF_lit w2 w0.heap.size [(bHost, host), (bUp, bWs), (bConn, bUp), (bKey, key), (bVer, b13)] _ HB02.out.size rfl (show 5 ≤ 1000 by omega))
  obtain ⟨A1, hA1⟩ : ∃ A, w2.alloc (.cells #[.string { data := #[72, 111, 115, 116] }, .string host, .string { data := #[85, 112, 103, 114, 97, 100, 101] }, .string { data := #[119, 101, 98, 115, 111, 99, 107, 101, 116] }, .string { data := #[67, 111, 110, 110, 101, 99, 116, 105, 111, 110] }, .string { data := #[85, 112, 103, 114, 97, 100, 101] }, .string { data := #[83, 101, 99, 45, 87, 101, 98, 83, 111, 99, 107, 101, 116, 45, 75, 101, 121] }, .string key, .string { data := #[83, 101, 99, 45, 87, 101, 98, 83, 111, 99, 107, 101, 116, 45, 86, 101, 114, 115, 105, 111, 110] }, .string { data := #[49, 51] }] 60) = A := ⟨_, rfl⟩
  obtain ⟨A2, hA2⟩ : ∃ A, A1.alloc (.cells #[.string { data := #[71, 69, 84] }, .string path, .string { data := #[72, 84, 84, 80, 47, 49, 46, 49] }, .slice (some ⟨w2.heap.size, 0, none⟩) 5 5] 25) = A := ⟨_, rfl⟩
  have hZ1 : A1.heap.size = w2.heap.size + 1 := by rw [← hA1, alloc_size]
  have BA : Sl (Below w2.heap.size w2 A2) := ⟨by rw [← hA2, ← hA1]; exact ((Below.refl _ _).alloc (Nat.le_refl _) _).alloc (by rw [alloc_size]; omega) _⟩
  have HO2 : Sl (OwnF A2 w0.heap.size (.slice (some ⟨w2.heap.size, 0, none⟩) 5 5) [(bHost, host), (bUp, bWs), (bConn, bUp), (bKey, key), (bVer, b13)]) := ⟨by
    rw [← hA2]
    have h : OwnF (w2.alloc (.cells #[.string { data := #[72, 111, 115, 116] }, .string host, .string { data := #[85, 112, 103, 114, 97, 100, 101] }, .string { data := #[119, 101, 98, 115, 111, 99, 107, 101, 116] }, .string { data := #[67, 111, 110, 110, 101, 99, 116, 105, 111, 110] }, .string { data := #[85, 112, 103, 114, 97, 100, 101] }, .string { data := #[83, 101, 99, 45, 87, 101, 98, 83, 111, 99, 107, 101, 116, 45, 75, 101, 121] }, .string key, .string { data := #[83, 101, 99, 45, 87, 101, 98, 83, 111, 99, 107, 101, 116, 45, 86, 101, 114, 115, 105, 111, 110] }, .string { data := #[49, 51] }] 60)) w0.heap.size (.slice (some ⟨w2.heap.size, 0, none⟩) 5 5) [(bHost, host), (bUp, bWs), (bConn, bUp), (bKey, key), (bVer, b13)] := HO.out
    rw [hA1] at h
    exact h.below ((Below.refl _ _).alloc (Nat.le_refl _) _)⟩
  have HH2 : Sl (A2.heap[A1.heap.size]? = some (.cells #[.string { data := #[71, 69, 84] }, .string path, .string { data := #[72, 84, 84, 80, 47, 49, 46, 49] }, .slice (some ⟨w2.heap.size, 0, none⟩) 5 5] 25 (0, 0))) := ⟨by
    rw [← hA2]; exact alloc_new _ _ _ rfl⟩
  have HR2A := Sl.mk (box_below HR2.out BA.out)
  have HB2A := Sl.mk (below_trans HB2.out BA.out)
  have HS2A : Sl (w0.heap.size ≤ A2.heap.size) := ⟨Nat.le_trans HB02.out.size BA.out.size⟩
  have HZ1 := Sl.mk hZ1
  have HF2 : Sl (FieldsAt A2 (.slice (some ⟨w2.heap.size, 0, none⟩) 5 5) [(bHost, host), (bUp, bWs), (bConn, bUp), (bKey, key), (bVer, b13)]) := ⟨HO2.out.fields HFS.out (show 5 < 100000 by omega)⟩
  have HRc := HR2A
  have HHc := HH2
  have HFc := HF2
  have HBc := HB2A
  have HN : Sl ((Value.slice (some ⟨w2.heap.size, 0, none⟩) 5 5).ownBlock ≠ some w.heap.size) := ⟨ownF_kind HO2.out HR2A.out (by decide)⟩
  clear HO HR2 HB2 BA hZ1 HR2A HH2 HF2 HB2A HO2 HS2A
  obtain ⟨p0, p1, p2, p3⟩ := head_cells HHc.out
  go_wp2_with fail
  clear hA1 hA2
  refine (CC.out _ _ _ HBc.out HFc.out).mono ?_
  rintro e w6 ⟨rfl, HB6⟩
  have HR6 := Sl.mk (box_below HRc.out HB6.out)
  have HH6 := Sl.mk (box_below HHc.out HB6.out)
  have HF6 := Sl.mk (HFc.out.below HB6.out)
  have HBW := Sl.mk (below_trans HBc.out HB6.out)
  have HQ : Sl (w.heap.size ≠ A1.heap.size) := ⟨by have := HZ1.out; have := HZ2.out; omega⟩
  clear p0 p1 p2 p3 HFc HHc HRc HBc CC HB6
  obtain ⟨⟨r0, r1, r2, r3⟩, ⟨q0, q1, q2, q3⟩⟩ := zero_cells HR6.out
  have hz6 : w.heap.size < w6.heap.size := lt_of_block HR6.out
  by_cases hc0 : cc = 0
  · have hq : ((cc : Int) == 0) = true := by simp [hc0]
    have hq2 : ((cc : Int) != 0) = false := by simp [hc0]
    have HKT : Sl (askOkB path host key [] = true) := ⟨by rw [HK.out]; exact decide_eq_true hc0⟩
    clear hc0
    obtain ⟨p0, p1, p2, p3⟩ := head_cells HH6.out
    go_wp2
    obtain ⟨D1, D2, D3⟩ := head_done (w0 := w) (h := ⟨bGET, path, bH11, [(bHost, host), (bUp, bWs), (bConn, bUp), (bKey, key), (bVer, b13)]⟩) (v := .slice (some ⟨w2.heap.size, 0, none⟩) 5 5) HR6.out HBW.out (Nat.le_refl _) HF6.out HN.out
    refine bodyPost_ret (ret_head rfl _ _ w.heap.size 25 _ (0, 0) rfl (four_cells _ _ _ _ _ _ _ _ _ _ HR6.out) rfl) rfl ?_
    refine ⟨⟨.inl ⟨HKT.out, ?_⟩⟩, D3⟩
    rw [HV.out]
    exact ⟨_, _, rfl, D2.out⟩
  · have hq : ((cc : Int) == 0) = false := by simp [hc0]
    have hq2 : ((cc : Int) != 0) = true := by simp [hc0]
    have HKT : Sl (askOkB path host key [] = false) := ⟨by rw [HK.out]; exact decide_eq_false hc0⟩
    clear hc0
    go_wp2
    refine bodyPost_ret (ret_head rfl _ _ w.heap.size 25 _ (0, 0) rfl (four_cells _ _ _ _ _ _ _ _ _ _ HR6.out) rfl) rfl ?_
    exact ⟨⟨.inr ⟨HKT.out, rfl⟩⟩, ⟨(head_done (w0 := w) (h := ⟨e0, e0, e0, []⟩) (v := .slice none 0 0) HR6.out HBW.out (Nat.le_refl _) (fields_nil _) (fun e => by cases e)).2.2.out⟩⟩
theorem askR_no {w' : World} {path host key : ByteArray} {l : List ByteArray} (h : askOkB path host key l = false) : AskR w' path host key l (.returned (.tuple #[.agg #[.string e0, .string e0, .string e0, .slice none 0 0], .int .i64 71])) := .inr ⟨h, rfl⟩
set_option maxHeartbeats 2000000 in
theorem ask_no (path host key : ByteArray) (l : List ByteArray) (v : Value) (w : World) (hp : path.size ≤ 3000) (hh : host.size ≤ 3000) (hk : key.size ≤ 3000) (hl : l.length ≤ 1000000) (hsl : ∀ x ∈ l, x.size ≤ maxLen) (hg : GlobA w) (hv : StrA w v l) (hno : askB path host key = false ∨ offerB l = false) :
    Calls Tryz.prog 28 #[.string path, .string host, .string key, v] w fun e w' => Sl (AskR w' path host key l e) ∧ Sl (Below w.heap.size w w') := by
  have HK : Sl (askOkB path host key l = false) := ⟨by unfold askOkB; rcases hno with h | h <;> rw [h]; rfl; rw [Bool.false_and, Bool.and_false]⟩
  obtain ⟨a, ha⟩ : ∃ a, askB path host key = a := ⟨_, rfl⟩
  obtain ⟨b, hb⟩ : ∃ b, offerB l = b := ⟨_, rfl⟩
  have C1 : Sl (∀ V, Calls Tryz.prog 52 #[.string path, .string host, .string key] V fun e w' => e = .returned (.bool a) ∧ Sl (Below V.heap.size V w')) := ⟨fun V => mayAsk_any path host key V a ha (by unfold maxLen; omega) (by unfold maxLen; omega) (by omega)⟩
  have C2 : Sl (∀ V, Below w.heap.size w V → Calls Tryz.prog 53 #[v] V fun e w' => e = .returned (.bool b) ∧ Sl (Below V.heap.size V w')) := ⟨fun V hB => mayOffer_any l v V b hb (hg.of hB).h (hv.below hB) hl hsl⟩
  rw [ha, hb] at hno
  clear ha hb hg hsl hp hh hk hl
  obtain ⟨ad, ca, sa, oa, rfl, _⟩ := hv
  obtain ⟨n, hn⟩ : ∃ n, l.length = n := ⟨_, rfl⟩
  rw [hn] at C2 ⊢
  clear hn
  obtain ⟨w0, hw0⟩ : ∃ w0, w.alloc (.cells #[.string { data := #[] }, .string { data := #[] }, .string { data := #[] }, .slice none 0 0] 25) = w0 := ⟨_, rfl⟩
  have HR0 : Sl (w0.heap[w.heap.size]? = some (.cells #[.string { data := #[] }, .string { data := #[] }, .string { data := #[] }, .slice none 0 0] 25 (0, 0))) := ⟨by rw [← hw0]; exact alloc_new _ _ _ rfl⟩
  have HB0 : Sl (Below w.heap.size w w0) := ⟨by rw [← hw0]; exact (Below.refl _ _).alloc (Nat.le_refl _) _⟩
  cases a with
  | false =>
    clear hno
    go_enter Tryz.func28, Tryz.ntmps28
    go_wp2_with fail
    clear hw0
    refine (C1.out _).mono ?_
    rintro e w6 ⟨rfl, HB6⟩
    have HR6 := Sl.mk (box_below HR0.out HB6.out)
    have HBW := Sl.mk (below_trans HB0.out HB6.out)
    obtain ⟨⟨r0, r1, r2, r3⟩, ⟨q0, q1, q2, q3⟩⟩ := zero_cells HR6.out
    have hz6 : w.heap.size < w6.heap.size := lt_of_block HR6.out
    go_wp2
    refine bodyPost_ret (ret_head rfl _ _ w.heap.size 25 _ (0, 0) rfl (four_cells _ _ _ _ _ _ _ _ _ _ HR6.out) rfl) rfl ?_
    exact ⟨⟨askR_no HK.out⟩, ⟨(head_done (w0 := w) (h := ⟨e0, e0, e0, []⟩) (v := .slice none 0 0) HR6.out HBW.out (Nat.le_refl _) (fields_nil _) (fun e => by cases e)).2.2.out⟩⟩
  | true =>
    cases b with
    | true => rcases hno with h | h <;> cases h
    | false =>
      clear hno
      go_enter Tryz.func28, Tryz.ntmps28
      go_wp2_with fail
      clear hw0
      refine (C1.out _).mono ?_
      rintro e w1 ⟨rfl, HB1⟩
      go_wp2_with fail
      refine (C2.out _ (below_trans HB0.out HB1.out)).mono ?_
      rintro e w6 ⟨rfl, HB6⟩
      have HR6 := Sl.mk (box_below (box_below HR0.out HB1.out) HB6.out)
      have HBW := Sl.mk (below_trans (below_trans HB0.out HB1.out) HB6.out)
      obtain ⟨⟨r0, r1, r2, r3⟩, ⟨q0, q1, q2, q3⟩⟩ := zero_cells HR6.out
      have hz6 : w.heap.size < w6.heap.size := lt_of_block HR6.out
      go_wp2
      refine bodyPost_ret (ret_head rfl _ _ w.heap.size 25 _ (0, 0) rfl (four_cells _ _ _ _ _ _ _ _ _ _ HR6.out) rfl) rfl ?_
      exact ⟨⟨askR_no HK.out⟩, ⟨(head_done (w0 := w) (h := ⟨e0, e0, e0, []⟩) (v := .slice none 0 0) HR6.out HBW.out (Nat.le_refl _) (fields_nil _) (fun e => by cases e)).2.2.out⟩⟩
theorem ask_any (path host key : ByteArray) (l : List ByteArray) (v : Value) (w : World) (ok : AskOk path host key l) (hl : l.length ≤ 1000000) (hg : GlobA w) (hv : StrA w v l) :
    Calls Tryz.prog 28 #[.string path, .string host, .string key, v] w fun e w' => Sl (AskR w' path host key l e) ∧ Sl (Below w.heap.size w w') := by
  have hsl : ∀ x ∈ l, x.size ≤ maxLen := fun x hx => Nat.le_trans (ok.s x hx) (by unfold maxLen; omega)
  cases hA : askB path host key with
  | false => exact ask_no path host key l v w ok.p ok.h ok.k hl hsl hg hv (.inl hA)
  | true =>
    cases hO : offerB l with
    | false => exact ask_no path host key l v w ok.p ok.h ok.k hl hsl hg hv (.inr hO)
    | true =>
      by_cases hne : 0 < l.length
      · exact ask_some path host key l v w ok hg hv hne hA hO
      · obtain rfl : l = [] := List.eq_nil_of_length_eq_zero (by omega)
        exact ask_none path host key v w ok hg hv hA
end Go.Proofs.YthlagngpllahkaaGreatDoor
