/- shake: the document's Ask, where path, host, key and the number of protocols may be. -/
import Derived.Test.YthlagngpllahkaaGreatDoorW5
import Derived.Test.YthlagngpllahkaaGreatDoorW16
import Derived.Test.YthlagngpllahkaaGreatDoorS9
set_option maxRecDepth 100000
namespace Go.Proofs.YthlagngpllahkaaGreatDoor
open Go.RowKit HeadPlain Nam

/-- What the document's Ask answers. -/
def AskDR (w' : World) (path host key : ByteArray) (l : List ByteArray) (e : Ending) : Prop :=
  (askOkB path host key l = true ∧ ∃ a c, e = .returned (.tuple #[.agg #[.string bGET, .string path, .string bH11, .slice a (askV path host key l).fs.length c], .bool true]) ∧ FieldsAt w' (.slice a (askV path host key l).fs.length c) (askV path host key l).fs) ∨
  (askOkB path host key l = false ∧ AskNo e)
theorem all_take {l : List ByteArray} {k : Nat} {p : ByteArray} (hk : k < l.length) (hp : l.getD k ByteArray.empty = p) : (l.take (k + 1)).all tokT = ((l.take k).all tokT && tokT p) := by
  rw [List.take_add_one, List.all_append]
  congr 1
  rw [← hp, List.getD_eq_getElem?_getD, List.getElem?_eq_getElem hk]
  simp
theorem joinS_step {l : List ByteArray} {k : Nat} {s p : ByteArray} (hk : k < l.length) (hp : l.getD k ByteArray.empty = p) (hs : s = joinS (l.take k)) :
    (k = 0 → s ++ p = joinS (l.take (k + 1))) ∧ (0 < k → s ++ { data := #[44, 32] } ++ p = joinS (l.take (k + 1))) := by
  have h := join_step (s := s) hk hp (by rw [hs, joinS_bytes])
  exact ⟨fun h0 => bytes_inj (by rw [h.1 h0, joinS_bytes]), fun h0 => bytes_inj (by rw [h.2 h0, joinS_bytes])⟩
set_option maxHeartbeats 8000000 in
theorem askD_yes (path host key : ByteArray) (l : List ByteArray) (v : Value) (w : World) (hp : path.size ≤ 2500) (hh : host.size ≤ 300) (hk : key.size ≤ 300) (hf : fewB l = true) (hv : StrA w v l) (hA : askB path host key = true) (h16 : l.length ≤ 16) (hnd : (l.map bytes).Nodup) :
    Calls Tryz.prog 29 #[.string path, .string host, .string key, v] w fun e w' => Sl (AskDR w' path host key l e) ∧ Sl (Below w.heap.size w w') := by
  obtain ⟨hf1, hf2⟩ := fewB_yes hf
  have ok : AskOk path host key l := ⟨by omega, by omega, by omega, fun x hx => by have := hf1 x hx; omega⟩
  have HSP : Sl ((plainB 33 (bytes path) && decide (0 < path.size)) = true ∧ (plainB 33 (bytes host) && decide (0 < host.size)) = true ∧ keyB (bytes key) = true ∧ ∃ hz : 0 < path.size, (path[0]'hz).toNat = 47) := ⟨by
    unfold askB at hA
    simp only [Bool.and_eq_true, Bool.not_eq_true'] at hA
    obtain ⟨h1, h2, h3, h4, h5⟩ := hA
    have hz : 0 < path.size := by
      by_cases h : path.size = 0
      · rw [len_zero3 h] at h1; cases h1
      · omega
    have hy : 0 < host.size := by
      by_cases h : host.size = 0
      · rw [eq_nil h] at h3; cases h3
      · omega
    rw [len_some3 hz, decide_eq_true_iff] at h1
    exact ⟨by rw [h2, decide_eq_true hz]; rfl, by rw [h4, decide_eq_true hy]; rfl, h5, hz, h1⟩⟩
  have CV : Sl (∀ s V, s.size ≤ 2500 → (plainB 33 (bytes s) && decide (0 < s.size)) = true → Calls Tryz.prog 56 #[.string s] V fun e w' => e = .returned (.bool true) ∧ V = w') := ⟨fun s V h h2 => (visible_any s V (by unfold maxLen; omega)).mono fun e w' ⟨h3, h4⟩ => ⟨by rw [h3, h2], h4⟩⟩
  have CK : Sl (∀ V, Calls Tryz.prog 40 #[.string key] V fun e w' => e = .returned (.bool true) ∧ Sl (Below V.heap.size V w')) := ⟨fun V => (keyR_any key V (by omega)).mono fun e w' ⟨h3, h4⟩ => ⟨by rw [h3, HSP.out.2.2.1], h4⟩⟩
  have CO : Sl (∀ V, Below w.heap.size w V → Calls Tryz.prog 42 #[v] V fun e w' => e = .returned (.bool true) ∧ Sl (Below V.heap.size V w')) := ⟨fun V hB => (onceR_any l v V (hv.below hB) (by omega)).mono fun e w' ⟨h1, h2⟩ => ⟨by rw [h1, decide_eq_true hnd], ⟨h2.below⟩⟩⟩
  have CT : Sl (∀ s V r, s.size ≤ 300 → tokT s = r → Calls Tryz.prog 57 #[.string s] V fun e w' => e = .returned (.bool r) ∧ V = w') := ⟨fun s V r h h2 => (tokenR_any s V (by unfold maxLen; omega)).mono fun e w' ⟨h3, h4⟩ => ⟨by rw [h3, ← h2]; rfl, h4.symm⟩⟩
  have HP0 : Sl (path.size ≤ 2500) := ⟨hp⟩
  have HH0 : Sl (host.size ≤ 2500) := ⟨by omega⟩
  have HSZ := Sl.mk hf1
  have HJ : Sl (∀ k, (joinS (l.take k)).size ≤ 30 * 302) := ⟨fun k => by
    have h1 := joinS_size (l.take k) 300 (fun x hx => hf1 x (List.mem_of_mem_take hx))
    have h2 := Nat.mul_le_mul_right 302 (show (l.take k).length ≤ 30 by rw [List.length_take]; omega)
    omega⟩
  have HFS := Sl.mk (askF_ok ok h16)
  have CC : Sl (∀ V a c fs, Below w.heap.size w V → askV path host key l = ⟨bGET, path, bH11, fs⟩ → FieldsAt V (.slice a fs.length c) fs → Calls Tryz.prog 25 #[.agg #[.string { data := #[71, 69, 84] }, .string path, .string { data := #[72, 84, 84, 80, 47, 49, 46, 49] }, .slice a fs.length c]] V fun e w' => e = .returned (.int .i64 (chk (askV path host key l) : Nat)) ∧ Sl (Below V.heap.size V w')) := ⟨fun V a c fs hB e hF => by
    have ht := ask_text ok h16
    rw [e] at ht ⊢
    exact checkR_any ⟨bGET, path, bH11, fs⟩ _ V hF ⟨by show bGET.size ≤ maxLen; decide, by show path.size ≤ maxLen; have := ok.p; unfold maxLen; omega, by show bH11.size ≤ maxLen; decide⟩ ht⟩
  have HK : Sl (askOkB path host key l = (l.all tokT && decide (chk (askV path host key l) = 0))) := ⟨by
    unfold askOkB
    rw [hA]
    cases ha : l.all tokT with
    | true => rw [offer_val3 ha, decide_eq_true h16, decide_eq_true hnd]; rfl
    | false =>
      have : offerB l = false := by
        have h1 : (l.any fun x => !(tokT x)) = true := by
          rw [List.any_eq_true]
          rw [List.all_eq_false] at ha
          obtain ⟨x, hx, h⟩ := ha
          exact ⟨x, hx, by simpa using h⟩
        unfold offerB
        rw [h1]
        simp
      rw [this]; rfl⟩
  have HV0 : Sl (l.length = 0 → askV path host key l = ⟨bGET, path, bH11, [(bHost, host), (bUp, bWs), (bConn, bUp), (bKey, key), (bVer, b13)]⟩) := ⟨fun h => by unfold askV; rw [if_pos h]; rfl⟩
  have HV1 : Sl (0 < l.length → askV path host key l = ⟨bGET, path, bH11, [(bHost, host), (bUp, bWs), (bConn, bUp), (bKey, key), (bVer, b13), (bProt, joinS l)]⟩) := ⟨fun h => by unfold askV; rw [if_neg (by omega)]; rfl⟩
  obtain ⟨cc, hcc⟩ : ∃ cc, chk (askV path host key l) = cc := ⟨_, rfl⟩
  rw [hcc] at CC HK
  obtain ⟨ha1, ha2, ha3, hz2, ha5⟩ := HSP.out
  have HA1 := Sl.mk ha1
  have HA2 := Sl.mk ha2
  obtain ⟨vd, vc, vs, vo, rfl, _, hva, hvcell⟩ := hv
  have HVC := Sl.mk hvcell
  have HVA := Sl.mk hva
  clear hva hvcell hf hf1 hp hh hk hA hnd hcc ha1 ha2 ha3 HSP ok
  obtain ⟨n, hn⟩ : ∃ n, l.length = n := ⟨_, rfl⟩
  have HN := Sl.mk hn
  rw [hn] at CO HV0 HV1 h16 hf2 ⊢
  clear hn
  obtain ⟨w0, hw0⟩ : ∃ V, w.alloc (.cells #[.string { data := #[] }, .string { data := #[] }, .string { data := #[] }, .slice none 0 0] 25) = V := ⟨_, rfl⟩
  have HB0 : Sl (Below w.heap.size w w0) := ⟨by rw [← hw0]; exact (Below.refl _ _).alloc (Nat.le_refl _) _⟩
  have HX0 : Sl (w0.heap[w.heap.size]? = some (.cells #[.string { data := #[] }, .string { data := #[] }, .string { data := #[] }, .slice none 0 0] 25 (0, 0))) := ⟨by rw [← hw0]; exact alloc_new _ _ _ rfl⟩
  go_enter Tryz.func29, Tryz.ntmps29
  go_wp2_with fail
  clear hw0
  refine (CV.out path _ HP0.out HA1.out).mono ?_
  rintro e w1 ⟨rfl, rfl⟩
  have h47' : (((path[0]'hz2).toNat : Int) == 47) = true := by rw [ha5]; rfl
  go_wp2_with fail
  clear h47' ha5
  refine (CV.out host _ HH0.out HA2.out).mono ?_
  rintro e w1 ⟨rfl, rfl⟩
  go_wp2_with fail
  refine (CK.out _).mono ?_
  rintro e w2 ⟨rfl, HE⟩
  have HB2 := Sl.mk (below_trans HB0.out HE.out)
  have HX2 := Sl.mk (box_below HX0.out HE.out)
  clear HE
  have h16' : ((n : Int) ≤ 16) = True := eq_true (by omega)
  go_wp2_with fail
  clear h16'
  refine (CO.out _ HB2.out).mono ?_
  rintro e w3 ⟨rfl, HE⟩
  have HB3 := Sl.mk (below_trans HB2.out HE.out)
  have HX3 := Sl.mk (box_below HX2.out HE.out)
  clear HE CO CK CV HA1 HA2 HB2 HX2 HB0 HX0 HP0 HH0
  go_wp2
  have hz := HB3.out.size
  go_loopw [10, 11, 12] (fun b a i wr => ∃ (k : Nat) (s : ByteArray), k ≤ n ∧ b = .bool ((l.take k).all tokT) ∧ a = .string s ∧ Sl (s = joinS (l.take k)) ∧ i = .int .i64 k ∧ w3 = wr) (fun _ _ i _ => n - (intOf i).toNat)
  case atStart => exact ⟨0, { data := #[] }, Nat.zero_le _, rfl, rfl, ⟨rfl⟩, rfl, rfl⟩
  case round =>
    obtain ⟨k, s, hk, rfl, rfl, HS, rfl, rfl⟩ := hrel
    have hs3 : s.size ≤ 10000 := by have h1 := HJ.out k; rw [← HS.out] at h1; omega
    by_cases hlt : k < n
    · obtain rfl := HVA.out (by rw [HN.out]; omega)
      obtain ⟨p, hp⟩ : ∃ p, l.getD k ByteArray.empty = p := ⟨_, rfl⟩
      have HPS : Sl (p.size ≤ 300) := ⟨by rw [← hp]; exact HSZ.out _ (getD_mem (by rw [HN.out]; exact hlt))⟩
      have hps := HPS.out
      have e0 : w3.cell? ⟨vs, vo + k, none⟩ = some (.string p) := by
        have h1 := HVC.out k (by rw [HN.out]; exact hlt)
        rw [HB3.out.cell (p := ⟨vs, vo + k, none⟩) (block_lt_of_cell h1), h1, hp]
      have hk0 : (0 : Int) ≤ (k : Int) := by omega
      have hk1 : (k : Int) < (n : Int) := by omega
      have HT : Sl ((l.take (k + 1)).all tokT = ((l.take k).all tokT && tokT p)) := ⟨all_take (by rw [HN.out]; exact hlt) hp⟩
      have HJS := Sl.mk (joinS_step (by rw [HN.out]; exact hlt) hp HS.out)
      clear hp
      cases hb : (l.take k).all tokT with
      | false =>
        have HT2 : Sl ((l.take (k + 1)).all tokT = false) := ⟨by rw [HT.out, hb]; rfl⟩
        clear hb HT
        by_cases h0 : k = 0
        · have h00 : ¬ 0 < k := by omega
          have h01 : ((k : Int) > 0) = False := eq_false (by omega)
          have HJ2 := Sl.mk (HJS.out.1 h0)
          clear h0
          go_wp2
          exact ⟨⟨k + 1, _, by omega, congrArg Value.bool HT2.out.symm, rfl, ⟨HJ2.out⟩, by go_num, trivial⟩, by simp [intOf]; omega⟩
        · have h00 : 0 < k := by omega
          have h01 : ((k : Int) > 0) = True := eq_true (by omega)
          have HJ2 := Sl.mk (HJS.out.2 h00)
          clear h0
          go_wp2
          exact ⟨⟨k + 1, _, by omega, congrArg Value.bool HT2.out.symm, rfl, ⟨HJ2.out⟩, by go_num, trivial⟩, by simp [intOf]; omega⟩
      | true =>
        obtain ⟨tp, htp⟩ : ∃ b, tokT p = b := ⟨_, rfl⟩
        have HT2 : Sl ((l.take (k + 1)).all tokT = tp) := ⟨by rw [HT.out, hb, htp]; rfl⟩
        have HTP := Sl.mk htp
        clear hb HT htp
        go_wp2_with fail
        refine (CT.out p _ _ HPS.out HTP.out).mono ?_
        rintro e w4 ⟨rfl, rfl⟩
        by_cases h0 : k = 0
        · have h00 : ¬ 0 < k := by omega
          have h01 : ((k : Int) > 0) = False := eq_false (by omega)
          have HJ2 := Sl.mk (HJS.out.1 h0)
          clear h0
          go_wp2
          exact ⟨⟨k + 1, _, by omega, congrArg Value.bool HT2.out.symm, rfl, ⟨HJ2.out⟩, by go_num, trivial⟩, by simp [intOf]; omega⟩
        · have h00 : 0 < k := by omega
          have h01 : ((k : Int) > 0) = True := eq_true (by omega)
          have HJ2 := Sl.mk (HJS.out.2 h00)
          clear h0
          go_wp2
          exact ⟨⟨k + 1, _, by omega, congrArg Value.bool HT2.out.symm, rfl, ⟨HJ2.out⟩, by go_num, trivial⟩, by simp [intOf]; omega⟩
    · have hge : ((k : Int) < (n : Int)) = False := eq_false (by omega)
      have hkn : k = n := by omega
      have HSL : Sl (s = joinS l) := ⟨by rw [HS.out, hkn, ← HN.out, List.take_length]⟩
      have HAT : Sl ((l.take k).all tokT = l.all tokT) := ⟨by rw [hkn, ← HN.out, List.take_length]⟩
      clear HS hkn
      obtain ⟨⟨z0, z1, z2, z3⟩, ⟨f0, f1, f2, f3⟩, ⟨s0, s1, s2, s3⟩⟩ := head_zero3 HX3.out
      cases hb : (l.take k).all tokT with
      | false =>
        have HNO : Sl (askOkB path host key l = false) := ⟨by rw [HK.out, ← HAT.out, hb]; rfl⟩
        clear hb
        go_wp2
        refine bodyPost_ret (ret_head rfl _ _ w.heap.size 25 _ (0, 0) rfl HX3.out rfl) rfl ?_
        exact ⟨⟨.inr ⟨HNO.out, rfl⟩⟩, HB3⟩
      | true =>
        have HK2 : Sl (askOkB path host key l = decide (cc = 0)) := ⟨by rw [HK.out, ← HAT.out, hb]; rfl⟩
        clear hb HAT HK CT HSZ HJ HVC HVA
        by_cases hn0 : n = 0
        · have hgt : ((n : Int) > 0) = False := eq_false (by omega)
          have hn00 : ¬ 0 < n := by omega
          have HVV : Sl (askV path host key l = ⟨bGET, path, bH11, [(bHost, host), (bUp, bWs), (bConn, bUp), (bKey, key), (bVer, b13)]⟩) := ⟨HV0.out hn0⟩
          have HFM : Sl (∀ f ∈ [(bHost, host), (bUp, bWs), (bConn, bUp), (bKey, key), (bVer, b13)], f.1.size ≤ maxLen ∧ f.2.size ≤ maxLen) := ⟨fun f hf => by
            have := HFS.out f (List.mem_append.2 (.inl hf))
            unfold maxLen; omega⟩
          clear hn0 HV0 HV1 HFS
          clear z0 z1 z2 z3 f0 f1 f2 f3 s0 s1 s2 s3
          obtain ⟨W0, hW0⟩ : ∃ W, w3.alloc (.cells #[.string { data := #[71, 69, 84] }, .string path, .string { data := #[72, 84, 84, 80, 47, 49, 46, 49] }, .slice none 0 0] 25) = W := ⟨_, rfl⟩
          have S0 : Sl (AS w #[.string { data := #[] }, .string { data := #[] }, .string { data := #[] }, .slice none 0 0] w3.heap.size bGET path bH11 [] (.slice none 0 0) W0) := ⟨by rw [← hW0]; exact AS.new HB3.out HX3.out⟩
          have hW0b : W0.setCell ⟨w3.heap.size, 3, none⟩ (.slice none 0 0) = W0 := by rw [← hW0, World.setCell_alloc_new]; rfl
          have g3 : W0.frozen? ⟨w3.heap.size, 3, none⟩ = false := frozen_of_row _ _ _ _ _ S0.out.H
          have e3 : W0.cell? ⟨w3.heap.size, 3, none⟩ = some (.slice none 0 0) := (head_cells S0.out.H).2.2.2
          obtain ⟨A0, hA0⟩ : ∃ A, W0.alloc (.cells #[.string { data := #[72, 111, 115, 116] }, .string host] 60) = A := ⟨_, rfl⟩
          have BA0 : Sl (Below W0.heap.size W0 A0) := ⟨by rw [← hA0]; exact (Below.refl _ _).alloc (Nat.le_refl _) _⟩
          have HL0 : Sl (A0.heap[W0.heap.size]? = some (.cells #[.string { data := #[72, 111, 115, 116] }, .string host] 60 (0, 0))) := ⟨by rw [← hA0]; exact alloc_new _ _ _ rfl⟩
          have SA0 := Sl.mk (S0.out.below BA0.out)
          have p30 := (head_cells S0.out.H).2.2.2
          go_wp2_with (at_builtin; refine app_flds rfl rfl _ _ rfl w.heap.size _ [] [(bHost, host)] W0.heap.size 1 rfl SA0.out.O rfl rfl _ HL0.out rfl (show 0 + 1 ≤ 1000 by omega) SA0.out.B.size ?_)
          intro v' X0 HO0 HG0
          obtain ⟨va1, vc1, hv'⟩ : ∃ a c, v' = .slice a 1 c := HO0.out.slice
          subst hv'
          obtain ⟨W1, hW1⟩ : ∃ W, X0.setCell ⟨w3.heap.size, 3, none⟩ (.slice va1 1 vc1) = W := ⟨_, rfl⟩
          have S1 : Sl (AS w #[.string { data := #[] }, .string { data := #[] }, .string { data := #[] }, .slice none 0 0] w3.heap.size bGET path bH11 [(bHost, host)] (.slice va1 1 vc1) W1) := ⟨by rw [← hW1]; exact SA0.out.step HO0.out HG0.out⟩
          obtain ⟨f30, p40⟩ := SA0.out.frozen HG0.out
          clear hA0 BA0 HL0 SA0 p30 HO0 HG0 S0
          clear hW0 hW0b g3 e3
          obtain ⟨A1, hA1⟩ : ∃ A, W1.alloc (.cells #[.string { data := #[85, 112, 103, 114, 97, 100, 101] }, .string { data := #[119, 101, 98, 115, 111, 99, 107, 101, 116] }] 60) = A := ⟨_, rfl⟩
          have BA1 : Sl (Below W1.heap.size W1 A1) := ⟨by rw [← hA1]; exact (Below.refl _ _).alloc (Nat.le_refl _) _⟩
          have HL1 : Sl (A1.heap[W1.heap.size]? = some (.cells #[.string { data := #[85, 112, 103, 114, 97, 100, 101] }, .string { data := #[119, 101, 98, 115, 111, 99, 107, 101, 116] }] 60 (0, 0))) := ⟨by rw [← hA1]; exact alloc_new _ _ _ rfl⟩
          have SA1 := Sl.mk (S1.out.below BA1.out)
          have p31 := (head_cells S1.out.H).2.2.2
          go_wp2_with (at_builtin; refine app_flds rfl rfl _ _ rfl w.heap.size _ [(bHost, host)] [(bUp, bWs)] W1.heap.size 1 rfl SA1.out.O rfl rfl _ HL1.out rfl (show 1 + 1 ≤ 1000 by omega) SA1.out.B.size ?_)
          intro v' X1 HO1 HG1
          obtain ⟨va2, vc2, hv'⟩ : ∃ a c, v' = .slice a 2 c := HO1.out.slice
          subst hv'
          obtain ⟨W2, hW2⟩ : ∃ W, X1.setCell ⟨w3.heap.size, 3, none⟩ (.slice va2 2 vc2) = W := ⟨_, rfl⟩
          have S2 : Sl (AS w #[.string { data := #[] }, .string { data := #[] }, .string { data := #[] }, .slice none 0 0] w3.heap.size bGET path bH11 [(bHost, host), (bUp, bWs)] (.slice va2 2 vc2) W2) := ⟨by rw [← hW2]; exact SA1.out.step HO1.out HG1.out⟩
          obtain ⟨f31, p41⟩ := SA1.out.frozen HG1.out
          clear hA1 BA1 HL1 SA1 p31 HO1 HG1 S1
          clear f30 p40 hW1
          obtain ⟨A2, hA2⟩ : ∃ A, W2.alloc (.cells #[.string { data := #[67, 111, 110, 110, 101, 99, 116, 105, 111, 110] }, .string { data := #[85, 112, 103, 114, 97, 100, 101] }] 60) = A := ⟨_, rfl⟩
          have BA2 : Sl (Below W2.heap.size W2 A2) := ⟨by rw [← hA2]; exact (Below.refl _ _).alloc (Nat.le_refl _) _⟩
          have HL2 : Sl (A2.heap[W2.heap.size]? = some (.cells #[.string { data := #[67, 111, 110, 110, 101, 99, 116, 105, 111, 110] }, .string { data := #[85, 112, 103, 114, 97, 100, 101] }] 60 (0, 0))) := ⟨by rw [← hA2]; exact alloc_new _ _ _ rfl⟩
          have SA2 := Sl.mk (S2.out.below BA2.out)
          have p32 := (head_cells S2.out.H).2.2.2
          go_wp2_with (at_builtin; refine app_flds rfl rfl _ _ rfl w.heap.size _ [(bHost, host), (bUp, bWs)] [(bConn, bUp)] W2.heap.size 1 rfl SA2.out.O rfl rfl _ HL2.out rfl (show 2 + 1 ≤ 1000 by omega) SA2.out.B.size ?_)
          intro v' X2 HO2 HG2
          obtain ⟨va3, vc3, hv'⟩ : ∃ a c, v' = .slice a 3 c := HO2.out.slice
          subst hv'
          obtain ⟨W3, hW3⟩ : ∃ W, X2.setCell ⟨w3.heap.size, 3, none⟩ (.slice va3 3 vc3) = W := ⟨_, rfl⟩
          have S3 : Sl (AS w #[.string { data := #[] }, .string { data := #[] }, .string { data := #[] }, .slice none 0 0] w3.heap.size bGET path bH11 [(bHost, host), (bUp, bWs), (bConn, bUp)] (.slice va3 3 vc3) W3) := ⟨by rw [← hW3]; exact SA2.out.step HO2.out HG2.out⟩
          obtain ⟨f32, p42⟩ := SA2.out.frozen HG2.out
          clear hA2 BA2 HL2 SA2 p32 HO2 HG2 S2
          clear f31 p41 hW2
          obtain ⟨A3, hA3⟩ : ∃ A, W3.alloc (.cells #[.string { data := #[83, 101, 99, 45, 87, 101, 98, 83, 111, 99, 107, 101, 116, 45, 75, 101, 121] }, .string key] 60) = A := ⟨_, rfl⟩
          have BA3 : Sl (Below W3.heap.size W3 A3) := ⟨by rw [← hA3]; exact (Below.refl _ _).alloc (Nat.le_refl _) _⟩
          have HL3 : Sl (A3.heap[W3.heap.size]? = some (.cells #[.string { data := #[83, 101, 99, 45, 87, 101, 98, 83, 111, 99, 107, 101, 116, 45, 75, 101, 121] }, .string key] 60 (0, 0))) := ⟨by rw [← hA3]; exact alloc_new _ _ _ rfl⟩
          have SA3 := Sl.mk (S3.out.below BA3.out)
          have p33 := (head_cells S3.out.H).2.2.2
          go_wp2_with (at_builtin; refine app_flds rfl rfl _ _ rfl w.heap.size _ [(bHost, host), (bUp, bWs), (bConn, bUp)] [(bKey, key)] W3.heap.size 1 rfl SA3.out.O rfl rfl _ HL3.out rfl (show 3 + 1 ≤ 1000 by omega) SA3.out.B.size ?_)
          intro v' X3 HO3 HG3
          obtain ⟨va4, vc4, hv'⟩ : ∃ a c, v' = .slice a 4 c := HO3.out.slice
          subst hv'
          obtain ⟨W4, hW4⟩ : ∃ W, X3.setCell ⟨w3.heap.size, 3, none⟩ (.slice va4 4 vc4) = W := ⟨_, rfl⟩
          have S4 : Sl (AS w #[.string { data := #[] }, .string { data := #[] }, .string { data := #[] }, .slice none 0 0] w3.heap.size bGET path bH11 [(bHost, host), (bUp, bWs), (bConn, bUp), (bKey, key)] (.slice va4 4 vc4) W4) := ⟨by rw [← hW4]; exact SA3.out.step HO3.out HG3.out⟩
          obtain ⟨f33, p43⟩ := SA3.out.frozen HG3.out
          clear hA3 BA3 HL3 SA3 p33 HO3 HG3 S3
          clear f32 p42 hW3
          obtain ⟨A4, hA4⟩ : ∃ A, W4.alloc (.cells #[.string { data := #[83, 101, 99, 45, 87, 101, 98, 83, 111, 99, 107, 101, 116, 45, 86, 101, 114, 115, 105, 111, 110] }, .string { data := #[49, 51] }] 60) = A := ⟨_, rfl⟩
          have BA4 : Sl (Below W4.heap.size W4 A4) := ⟨by rw [← hA4]; exact (Below.refl _ _).alloc (Nat.le_refl _) _⟩
          have HL4 : Sl (A4.heap[W4.heap.size]? = some (.cells #[.string { data := #[83, 101, 99, 45, 87, 101, 98, 83, 111, 99, 107, 101, 116, 45, 86, 101, 114, 115, 105, 111, 110] }, .string { data := #[49, 51] }] 60 (0, 0))) := ⟨by rw [← hA4]; exact alloc_new _ _ _ rfl⟩
          have SA4 := Sl.mk (S4.out.below BA4.out)
          have p34 := (head_cells S4.out.H).2.2.2
          go_wp2_with (at_builtin; refine app_flds rfl rfl _ _ rfl w.heap.size _ [(bHost, host), (bUp, bWs), (bConn, bUp), (bKey, key)] [(bVer, b13)] W4.heap.size 1 rfl SA4.out.O rfl rfl _ HL4.out rfl (show 4 + 1 ≤ 1000 by omega) SA4.out.B.size ?_)
          intro v' X4 HO4 HG4
          obtain ⟨va5, vc5, hv'⟩ : ∃ a c, v' = .slice a 5 c := HO4.out.slice
          subst hv'
          obtain ⟨W5, hW5⟩ : ∃ W, X4.setCell ⟨w3.heap.size, 3, none⟩ (.slice va5 5 vc5) = W := ⟨_, rfl⟩
          have S5 : Sl (AS w #[.string { data := #[] }, .string { data := #[] }, .string { data := #[] }, .slice none 0 0] w3.heap.size bGET path bH11 [(bHost, host), (bUp, bWs), (bConn, bUp), (bKey, key), (bVer, b13)] (.slice va5 5 vc5) W5) := ⟨by rw [← hW5]; exact SA4.out.step HO4.out HG4.out⟩
          obtain ⟨f34, p44⟩ := SA4.out.frozen HG4.out
          clear hA4 BA4 HL4 SA4 p34 HO4 HG4 S4
          clear f33 p43 hW4
          have HF5 := Sl.mk (S5.out.O.fields HFM.out (show 5 < 100000 by omega))
          obtain ⟨p0, p1, p2, p3⟩ := head_cells S5.out.H
          go_wp2_with fail
          clear p0 p1 p2 p3 f34 p44 hW5
          refine (CC.out _ _ _ _ S5.out.B HVV.out HF5.out).mono ?_
          rintro e w6 ⟨rfl, HB6⟩
          have S6 := Sl.mk (S5.out.below HB6.out)
          clear CC HB6 HF5
          obtain ⟨⟨r0, r1, r2, r3⟩, ⟨q0, q1, q2, q3⟩⟩ := zero_cells S6.out.R
          have hz6 : w.heap.size < w6.heap.size := lt_of_block S6.out.R
          have hwq := S6.out.Q
          by_cases hc0 : cc = 0
          · have hq : ((cc : Int) == 0) = true := by simp [hc0]
            have hq2 : ((cc : Int) != 0) = false := by simp [hc0]
            have HKT : Sl (askOkB path host key l = true) := ⟨by rw [HK2.out]; exact decide_eq_true hc0⟩
            clear hc0
            obtain ⟨p0, p1, p2, p3⟩ := head_cells S6.out.H
            go_wp2
            obtain ⟨D2, D3⟩ := S6.out.out HFM.out (show 5 < 100000 by omega)
            refine bodyPost_ret (ret_head rfl _ _ w.heap.size 25 _ (0, 0) rfl (four_cells _ _ _ _ _ _ _ _ _ _ S6.out.R) rfl) rfl ?_
            refine ⟨⟨.inl ⟨HKT.out, ?_⟩⟩, D3⟩
            rw [HVV.out]
            exact ⟨_, _, rfl, D2.out⟩
          · have hq : ((cc : Int) == 0) = false := by simp [hc0]
            have hq2 : ((cc : Int) != 0) = true := by simp [hc0]
            have HKT : Sl (askOkB path host key l = false) := ⟨by rw [HK2.out]; exact decide_eq_false hc0⟩
            clear hc0
            obtain ⟨⟨z0, z1, z2, z3⟩, ⟨f0, f1, f2, f3⟩, ⟨s0, s1, s2, s3⟩⟩ := head_zero3 S6.out.R
            go_wp2
            refine bodyPost_ret (ret_head rfl _ _ w.heap.size 25 _ (0, 0) rfl S6.out.R rfl) rfl ?_
            exact ⟨⟨.inr ⟨HKT.out, rfl⟩⟩, ⟨S6.out.B⟩⟩
        · have hgt : ((n : Int) > 0) = True := eq_true (by omega)
          have hn00 : 0 < n := by omega
          have HVV : Sl (askV path host key l = ⟨bGET, path, bH11, [(bHost, host), (bUp, bWs), (bConn, bUp), (bKey, key), (bVer, b13), (bProt, s)]⟩) := ⟨by rw [HSL.out]; exact HV1.out (by omega)⟩
          have HFM : Sl (∀ f ∈ [(bHost, host), (bUp, bWs), (bConn, bUp), (bKey, key), (bVer, b13), (bProt, s)], f.1.size ≤ maxLen ∧ f.2.size ≤ maxLen) := ⟨fun f hf => by
            have := HFS.out f (by rw [← HSL.out]; exact hf)
            unfold maxLen; omega⟩
          clear hn0 HV0 HV1 HFS
          clear z0 z1 z2 z3 f0 f1 f2 f3 s0 s1 s2 s3
          obtain ⟨W0, hW0⟩ : ∃ W, w3.alloc (.cells #[.string { data := #[71, 69, 84] }, .string path, .string { data := #[72, 84, 84, 80, 47, 49, 46, 49] }, .slice none 0 0] 25) = W := ⟨_, rfl⟩
          have S0 : Sl (AS w #[.string { data := #[] }, .string { data := #[] }, .string { data := #[] }, .slice none 0 0] w3.heap.size bGET path bH11 [] (.slice none 0 0) W0) := ⟨by rw [← hW0]; exact AS.new HB3.out HX3.out⟩
          have hW0b : W0.setCell ⟨w3.heap.size, 3, none⟩ (.slice none 0 0) = W0 := by rw [← hW0, World.setCell_alloc_new]; rfl
          have g3 : W0.frozen? ⟨w3.heap.size, 3, none⟩ = false := frozen_of_row _ _ _ _ _ S0.out.H
          have e3 : W0.cell? ⟨w3.heap.size, 3, none⟩ = some (.slice none 0 0) := (head_cells S0.out.H).2.2.2
          obtain ⟨A0, hA0⟩ : ∃ A, W0.alloc (.cells #[.string { data := #[72, 111, 115, 116] }, .string host] 60) = A := ⟨_, rfl⟩
          have BA0 : Sl (Below W0.heap.size W0 A0) := ⟨by rw [← hA0]; exact (Below.refl _ _).alloc (Nat.le_refl _) _⟩
          have HL0 : Sl (A0.heap[W0.heap.size]? = some (.cells #[.string { data := #[72, 111, 115, 116] }, .string host] 60 (0, 0))) := ⟨by rw [← hA0]; exact alloc_new _ _ _ rfl⟩
          have SA0 := Sl.mk (S0.out.below BA0.out)
          have p30 := (head_cells S0.out.H).2.2.2
          go_wp2_with (at_builtin; refine app_flds rfl rfl _ _ rfl w.heap.size _ [] [(bHost, host)] W0.heap.size 1 rfl SA0.out.O rfl rfl _ HL0.out rfl (show 0 + 1 ≤ 1000 by omega) SA0.out.B.size ?_)
          intro v' X0 HO0 HG0
          obtain ⟨va1, vc1, hv'⟩ : ∃ a c, v' = .slice a 1 c := HO0.out.slice
          subst hv'
          obtain ⟨W1, hW1⟩ : ∃ W, X0.setCell ⟨w3.heap.size, 3, none⟩ (.slice va1 1 vc1) = W := ⟨_, rfl⟩
          have S1 : Sl (AS w #[.string { data := #[] }, .string { data := #[] }, .string { data := #[] }, .slice none 0 0] w3.heap.size bGET path bH11 [(bHost, host)] (.slice va1 1 vc1) W1) := ⟨by rw [← hW1]; exact SA0.out.step HO0.out HG0.out⟩
          obtain ⟨f30, p40⟩ := SA0.out.frozen HG0.out
          clear hA0 BA0 HL0 SA0 p30 HO0 HG0 S0
          clear hW0 hW0b g3 e3
          obtain ⟨A1, hA1⟩ : ∃ A, W1.alloc (.cells #[.string { data := #[85, 112, 103, 114, 97, 100, 101] }, .string { data := #[119, 101, 98, 115, 111, 99, 107, 101, 116] }] 60) = A := ⟨_, rfl⟩
          have BA1 : Sl (Below W1.heap.size W1 A1) := ⟨by rw [← hA1]; exact (Below.refl _ _).alloc (Nat.le_refl _) _⟩
          have HL1 : Sl (A1.heap[W1.heap.size]? = some (.cells #[.string { data := #[85, 112, 103, 114, 97, 100, 101] }, .string { data := #[119, 101, 98, 115, 111, 99, 107, 101, 116] }] 60 (0, 0))) := ⟨by rw [← hA1]; exact alloc_new _ _ _ rfl⟩
          have SA1 := Sl.mk (S1.out.below BA1.out)
          have p31 := (head_cells S1.out.H).2.2.2
          go_wp2_with (at_builtin; refine app_flds rfl rfl _ _ rfl w.heap.size _ [(bHost, host)] [(bUp, bWs)] W1.heap.size 1 rfl SA1.out.O rfl rfl _ HL1.out rfl (show 1 + 1 ≤ 1000 by omega) SA1.out.B.size ?_)
          intro v' X1 HO1 HG1
          obtain ⟨va2, vc2, hv'⟩ : ∃ a c, v' = .slice a 2 c := HO1.out.slice
          subst hv'
          obtain ⟨W2, hW2⟩ : ∃ W, X1.setCell ⟨w3.heap.size, 3, none⟩ (.slice va2 2 vc2) = W := ⟨_, rfl⟩
          have S2 : Sl (AS w #[.string { data := #[] }, .string { data := #[] }, .string { data := #[] }, .slice none 0 0] w3.heap.size bGET path bH11 [(bHost, host), (bUp, bWs)] (.slice va2 2 vc2) W2) := ⟨by rw [← hW2]; exact SA1.out.step HO1.out HG1.out⟩
          obtain ⟨f31, p41⟩ := SA1.out.frozen HG1.out
          clear hA1 BA1 HL1 SA1 p31 HO1 HG1 S1
          clear f30 p40 hW1
          obtain ⟨A2, hA2⟩ : ∃ A, W2.alloc (.cells #[.string { data := #[67, 111, 110, 110, 101, 99, 116, 105, 111, 110] }, .string { data := #[85, 112, 103, 114, 97, 100, 101] }] 60) = A := ⟨_, rfl⟩
          have BA2 : Sl (Below W2.heap.size W2 A2) := ⟨by rw [← hA2]; exact (Below.refl _ _).alloc (Nat.le_refl _) _⟩
          have HL2 : Sl (A2.heap[W2.heap.size]? = some (.cells #[.string { data := #[67, 111, 110, 110, 101, 99, 116, 105, 111, 110] }, .string { data := #[85, 112, 103, 114, 97, 100, 101] }] 60 (0, 0))) := ⟨by rw [← hA2]; exact alloc_new _ _ _ rfl⟩
          have SA2 := Sl.mk (S2.out.below BA2.out)
          have p32 := (head_cells S2.out.H).2.2.2
          go_wp2_with (at_builtin; refine app_flds rfl rfl _ _ rfl w.heap.size _ [(bHost, host), (bUp, bWs)] [(bConn, bUp)] W2.heap.size 1 rfl SA2.out.O rfl rfl _ HL2.out rfl (show 2 + 1 ≤ 1000 by omega) SA2.out.B.size ?_)
          intro v' X2 HO2 HG2
          obtain ⟨va3, vc3, hv'⟩ : ∃ a c, v' = .slice a 3 c := HO2.out.slice
          subst hv'
          obtain ⟨W3, hW3⟩ : ∃ W, X2.setCell ⟨w3.heap.size, 3, none⟩ (.slice va3 3 vc3) = W := ⟨_, rfl⟩
          have S3 : Sl (AS w #[.string { data := #[] }, .string { data := #[] }, .string { data := #[] }, .slice none 0 0] w3.heap.size bGET path bH11 [(bHost, host), (bUp, bWs), (bConn, bUp)] (.slice va3 3 vc3) W3) := ⟨by rw [← hW3]; exact SA2.out.step HO2.out HG2.out⟩
          obtain ⟨f32, p42⟩ := SA2.out.frozen HG2.out
          clear hA2 BA2 HL2 SA2 p32 HO2 HG2 S2
          clear f31 p41 hW2
          obtain ⟨A3, hA3⟩ : ∃ A, W3.alloc (.cells #[.string { data := #[83, 101, 99, 45, 87, 101, 98, 83, 111, 99, 107, 101, 116, 45, 75, 101, 121] }, .string key] 60) = A := ⟨_, rfl⟩
          have BA3 : Sl (Below W3.heap.size W3 A3) := ⟨by rw [← hA3]; exact (Below.refl _ _).alloc (Nat.le_refl _) _⟩
          have HL3 : Sl (A3.heap[W3.heap.size]? = some (.cells #[.string { data := #[83, 101, 99, 45, 87, 101, 98, 83, 111, 99, 107, 101, 116, 45, 75, 101, 121] }, .string key] 60 (0, 0))) := ⟨by rw [← hA3]; exact alloc_new _ _ _ rfl⟩
          have SA3 := Sl.mk (S3.out.below BA3.out)
          have p33 := (head_cells S3.out.H).2.2.2
          go_wp2_with (at_builtin; refine app_flds rfl rfl _ _ rfl w.heap.size _ [(bHost, host), (bUp, bWs), (bConn, bUp)] [(bKey, key)] W3.heap.size 1 rfl SA3.out.O rfl rfl _ HL3.out rfl (show 3 + 1 ≤ 1000 by omega) SA3.out.B.size ?_)
          intro v' X3 HO3 HG3
          obtain ⟨va4, vc4, hv'⟩ : ∃ a c, v' = .slice a 4 c := HO3.out.slice
          subst hv'
          obtain ⟨W4, hW4⟩ : ∃ W, X3.setCell ⟨w3.heap.size, 3, none⟩ (.slice va4 4 vc4) = W := ⟨_, rfl⟩
          have S4 : Sl (AS w #[.string { data := #[] }, .string { data := #[] }, .string { data := #[] }, .slice none 0 0] w3.heap.size bGET path bH11 [(bHost, host), (bUp, bWs), (bConn, bUp), (bKey, key)] (.slice va4 4 vc4) W4) := ⟨by rw [← hW4]; exact SA3.out.step HO3.out HG3.out⟩
          obtain ⟨f33, p43⟩ := SA3.out.frozen HG3.out
          clear hA3 BA3 HL3 SA3 p33 HO3 HG3 S3
          clear f32 p42 hW3
          obtain ⟨A4, hA4⟩ : ∃ A, W4.alloc (.cells #[.string { data := #[83, 101, 99, 45, 87, 101, 98, 83, 111, 99, 107, 101, 116, 45, 86, 101, 114, 115, 105, 111, 110] }, .string { data := #[49, 51] }] 60) = A := ⟨_, rfl⟩
          have BA4 : Sl (Below W4.heap.size W4 A4) := ⟨by rw [← hA4]; exact (Below.refl _ _).alloc (Nat.le_refl _) _⟩
          have HL4 : Sl (A4.heap[W4.heap.size]? = some (.cells #[.string { data := #[83, 101, 99, 45, 87, 101, 98, 83, 111, 99, 107, 101, 116, 45, 86, 101, 114, 115, 105, 111, 110] }, .string { data := #[49, 51] }] 60 (0, 0))) := ⟨by rw [← hA4]; exact alloc_new _ _ _ rfl⟩
          have SA4 := Sl.mk (S4.out.below BA4.out)
          have p34 := (head_cells S4.out.H).2.2.2
          go_wp2_with (at_builtin; refine app_flds rfl rfl _ _ rfl w.heap.size _ [(bHost, host), (bUp, bWs), (bConn, bUp), (bKey, key)] [(bVer, b13)] W4.heap.size 1 rfl SA4.out.O rfl rfl _ HL4.out rfl (show 4 + 1 ≤ 1000 by omega) SA4.out.B.size ?_)
          intro v' X4 HO4 HG4
          obtain ⟨va5, vc5, hv'⟩ : ∃ a c, v' = .slice a 5 c := HO4.out.slice
          subst hv'
          obtain ⟨W5, hW5⟩ : ∃ W, X4.setCell ⟨w3.heap.size, 3, none⟩ (.slice va5 5 vc5) = W := ⟨_, rfl⟩
          have S5 : Sl (AS w #[.string { data := #[] }, .string { data := #[] }, .string { data := #[] }, .slice none 0 0] w3.heap.size bGET path bH11 [(bHost, host), (bUp, bWs), (bConn, bUp), (bKey, key), (bVer, b13)] (.slice va5 5 vc5) W5) := ⟨by rw [← hW5]; exact SA4.out.step HO4.out HG4.out⟩
          obtain ⟨f34, p44⟩ := SA4.out.frozen HG4.out
          clear hA4 BA4 HL4 SA4 p34 HO4 HG4 S4
          clear f33 p43 hW4
          obtain ⟨A5, hA5⟩ : ∃ A, W5.alloc (.cells #[.string { data := #[83, 101, 99, 45, 87, 101, 98, 83, 111, 99, 107, 101, 116, 45, 80, 114, 111, 116, 111, 99, 111, 108] }, .string s] 60) = A := ⟨_, rfl⟩
          have BA5 : Sl (Below W5.heap.size W5 A5) := ⟨by rw [← hA5]; exact (Below.refl _ _).alloc (Nat.le_refl _) _⟩
          have HL5 : Sl (A5.heap[W5.heap.size]? = some (.cells #[.string { data := #[83, 101, 99, 45, 87, 101, 98, 83, 111, 99, 107, 101, 116, 45, 80, 114, 111, 116, 111, 99, 111, 108] }, .string s] 60 (0, 0))) := ⟨by rw [← hA5]; exact alloc_new _ _ _ rfl⟩
          have SA5 := Sl.mk (S5.out.below BA5.out)
          have p35 := (head_cells S5.out.H).2.2.2
          go_wp2_with (at_builtin; refine app_flds rfl rfl _ _ rfl w.heap.size _ [(bHost, host), (bUp, bWs), (bConn, bUp), (bKey, key), (bVer, b13)] [(bProt, s)] W5.heap.size 1 rfl SA5.out.O rfl rfl _ HL5.out rfl (show 5 + 1 ≤ 1000 by omega) SA5.out.B.size ?_)
          intro v' X5 HO5 HG5
          obtain ⟨va6, vc6, hv'⟩ : ∃ a c, v' = .slice a 6 c := HO5.out.slice
          subst hv'
          obtain ⟨W6, hW6⟩ : ∃ W, X5.setCell ⟨w3.heap.size, 3, none⟩ (.slice va6 6 vc6) = W := ⟨_, rfl⟩
          have S6 : Sl (AS w #[.string { data := #[] }, .string { data := #[] }, .string { data := #[] }, .slice none 0 0] w3.heap.size bGET path bH11 [(bHost, host), (bUp, bWs), (bConn, bUp), (bKey, key), (bVer, b13), (bProt, s)] (.slice va6 6 vc6) W6) := ⟨by rw [← hW6]; exact SA5.out.step HO5.out HG5.out⟩
          obtain ⟨f35, p45⟩ := SA5.out.frozen HG5.out
          clear hA5 BA5 HL5 SA5 p35 HO5 HG5 S5
          clear f34 p44 hW5
          have HF6 := Sl.mk (S6.out.O.fields HFM.out (show 6 < 100000 by omega))
          obtain ⟨p0, p1, p2, p3⟩ := head_cells S6.out.H
          go_wp2_with fail
          clear p0 p1 p2 p3 f35 p45 hW6
          refine (CC.out _ _ _ _ S6.out.B HVV.out HF6.out).mono ?_
          rintro e w6 ⟨rfl, HB6⟩
          have S6 := Sl.mk (S6.out.below HB6.out)
          clear CC HB6 HF6
          obtain ⟨⟨r0, r1, r2, r3⟩, ⟨q0, q1, q2, q3⟩⟩ := zero_cells S6.out.R
          have hz6 : w.heap.size < w6.heap.size := lt_of_block S6.out.R
          have hwq := S6.out.Q
          by_cases hc0 : cc = 0
          · have hq : ((cc : Int) == 0) = true := by simp [hc0]
            have hq2 : ((cc : Int) != 0) = false := by simp [hc0]
            have HKT : Sl (askOkB path host key l = true) := ⟨by rw [HK2.out]; exact decide_eq_true hc0⟩
            clear hc0
            obtain ⟨p0, p1, p2, p3⟩ := head_cells S6.out.H
            go_wp2
            obtain ⟨D2, D3⟩ := S6.out.out HFM.out (show 6 < 100000 by omega)
            refine bodyPost_ret (ret_head rfl _ _ w.heap.size 25 _ (0, 0) rfl (four_cells _ _ _ _ _ _ _ _ _ _ S6.out.R) rfl) rfl ?_
            refine ⟨⟨.inl ⟨HKT.out, ?_⟩⟩, D3⟩
            rw [HVV.out]
            exact ⟨_, _, rfl, D2.out⟩
          · have hq : ((cc : Int) == 0) = false := by simp [hc0]
            have hq2 : ((cc : Int) != 0) = true := by simp [hc0]
            have HKT : Sl (askOkB path host key l = false) := ⟨by rw [HK2.out]; exact decide_eq_false hc0⟩
            clear hc0
            obtain ⟨⟨z0, z1, z2, z3⟩, ⟨f0, f1, f2, f3⟩, ⟨s0, s1, s2, s3⟩⟩ := head_zero3 S6.out.R
            go_wp2
            refine bodyPost_ret (ret_head rfl _ _ w.heap.size 25 _ (0, 0) rfl S6.out.R rfl) rfl ?_
            exact ⟨⟨.inr ⟨HKT.out, rfl⟩⟩, ⟨S6.out.B⟩⟩
end Go.Proofs.YthlagngpllahkaaGreatDoor
