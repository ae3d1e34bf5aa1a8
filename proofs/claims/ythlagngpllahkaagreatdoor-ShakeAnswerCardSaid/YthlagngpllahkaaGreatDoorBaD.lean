/- The document's answer, bits as lists: the contract of its Get: the bytes of letters, or none; nothing that was in memory changes. Condition: at most 1000 letters. -/
import Derived.Test.YthlagngpllahkaaGreatDoorBaC
set_option maxRecDepth 100000
namespace Go.Proofs.YthlagngpllahkaaGreatDoor.Bas
open Go.RowKit

theorem enc_high (b : List Nat) (k : Nat) (h1 : (body b).length ≤ k) (h2 : k < (enc b).length) : (enc b).getD k 0 = 61 := by
  rw [enc_body] at h2 ⊢
  simp only [List.length_append, List.length_replicate] at h2
  rw [List.getD, List.getElem?_append_right h1, List.getElem?_replicate]
  rw [if_pos (by omega)]; rfl
theorem enc_low (b : List Nat) (k : Nat) (h : k < (body b).length) (hs : Small 256 b) : (num ((enc b).getD k 0)).isSome = true ∧ (enc b).getD k 0 ≠ 61 := by
  have e : (enc b).getD k 0 = (body b)[k] := by rw [enc_body, List.getD, List.getElem?_append_left h, List.getElem?_eq_getElem h]; rfl
  rw [e]; exact body_num b hs _ (List.getElem_mem h)
/-- A letter that is none, ahead of all =: there are no bytes. -/
theorem bad_none (l : List Nat) (k : Nat) (hk : k < l.length) (h1 : l.getD k 0 ≠ 61) (h2 : num (l.getD k 0) = none) : rd l = none := by
  cases hr : rd l with
  | none => rfl
  | some b =>
    obtain ⟨rfl, hs⟩ := enc_of_rd hr
    by_cases h : k < (body b).length
    · have := (enc_low b k h hs).1; rw [h2] at this; cases this
    · exact absurd (enc_high b k (by omega) hk) h1
/-- Where the letters end. -/
theorem good_take (l b : List Nat) (k : Nat) (hk : k ≤ l.length) (hr : rd l = some b) (h1 : ∀ j, j < k → l.getD j 0 ≠ 61) (h2 : k < l.length → l.getD k 0 = 61) : l.take k = body b := by
  obtain ⟨rfl, hs⟩ := enc_of_rd hr
  have e : k = (body b).length := by
    rcases Nat.lt_trichotomy k (body b).length with h | h | h
    · have hlen : (body b).length ≤ (enc b).length := by rw [enc_body, List.length_append]; omega
      exact absurd (h2 (by omega)) (enc_low b k h hs).2
    · exact h
    · exact absurd (enc_high b (body b).length (Nat.le_refl _) (by omega)) (h1 _ h)
  rw [e, enc_body]; simp
theorem conv_one (W : World) (y : Nat) : (convert 53 9 (.slice (some ⟨W.heap.size, 0, none⟩) 1 1)).run Tryz.prog (W.alloc (.cells #[.int .u8 (y : Int)] 5)) = .ok (.string (strOf [y])) (W.alloc (.cells #[.int .u8 (y : Int)] 5)) :=
  run_convert_bytes_arg _ 53 5 Tryz.underlying53 Tryz.underlying5 W.heap.size 0 1 1 [(y : Int)] rfl (fun i hi => by
    have hi0 : i = 0 := by simp at hi; omega
    subst hi0
    rw [Nat.zero_add, cell_of_row _ _ _ _ _ _ (alloc_new _ _ _ rfl)]; rfl) 9 Tryz.underlying9
theorem BIT.alloc {w wr : World} {g cap : Nat} {l : List Nat} (h : BIT w g cap l wr) (o : Obj) : BIT w g cap l (wr.alloc o) := ⟨h.o.alloc _, h.b.alloc h.b.size _⟩
theorem byte_getD (s : ByteArray) (k : Nat) (h : k < s.size) : (bytes s).getD k 0 = (s[k]'h).toNat := bytes_getD s k h

/-- What the loop over letters holds to. -/
def G1 (w : World) (s : ByteArray) (v i : Value) (wr : World) : Prop :=
  ∃ (k g cap : Nat), k ≤ s.size ∧ i = .int .i64 k ∧ v = .slice (some ⟨g, 0, none⟩) (allB 6 (nums ((bytes s).take k))).length cap ∧ BIT w g cap (allB 6 (nums ((bytes s).take k))) wr ∧ ∀ j, j < k → (bytes s).getD j 0 ≠ 61
/-- What the loop over a letter's bits holds to. -/
def G2 (w : World) (L : List Nat) (x : Nat) (v j : Value) (wr : World) : Prop :=
  ∃ (d g cap : Nat), d ≤ 6 ∧ j = .int .i64 (5 - (d : Int)) ∧ v = .slice (some ⟨g, 0, none⟩) (L ++ bitsTo 6 x d).length cap ∧ BIT w g cap (L ++ bitsTo 6 x d) wr
/-- What the loop over eights holds to. -/
def G3 (w : World) (g cap : Nat) (B : List Nat) (o i : Value) (wr : World) : Prop :=
  ∃ (n m : Nat) (x : ByteArray), i = .int .i64 m ∧ o = .string x ∧ m ≤ B.length ∧ Sl (m = 8 * n) ∧ Sl (bytes x = eight (B.take m)) ∧ x.size ≤ n ∧ BIT w g cap B wr
/-- What the loop over a byte's bits holds to. -/
def G4 (B : List Nat) (m : Nat) (v j : Value) : Prop := ∃ (d y : Nat), d ≤ 8 ∧ j = .int .i64 d ∧ v = .int .i64 y ∧ y < 256 ∧ Sl (y = val ((B.drop m).take d))
/-- What Get answers. -/
def refV (r : Option (List Nat)) : Value := match r with | none => .tuple #[.string { data := #[] }, .bool false] | some l => .tuple #[.string (strOf l), .bool true]

set_option maxRecDepth 100000 in
set_option maxHeartbeats 8000000 in
theorem ref_get (s : ByteArray) (w : World) (hs : s.size ≤ 4000) :
    Calls Tryz.prog 79 #[.string s] w fun e w' => e = .returned (refV (rd (bytes s))) ∧ Below w.heap.size w w' := by
  obtain ⟨i0, hi, hz0, hz1, hz2⟩ := info_parts info3
  have HI := Sl.mk hi
  have HZ0 := Sl.mk hz0
  have HZ1 := Sl.mk hz1
  have HZ2 := Sl.mk hz2
  clear hi hz0 hz1 hz2
  go_enter Tryz.func79, Tryz.ntmps79
  go_wp2
  go_loopw [4, 5] (fun v i wr => G1 w s v i wr) (fun _ i _ => s.size - (intOf i).toNat)
  case atStart => exact ⟨0, w.heap.size, 0, Nat.zero_le _, rfl, rfl, bit_empty w, fun j hj => by omega⟩
  case round =>
    obtain ⟨k, g, cap, hk, rfl, rfl, hrel, hne⟩ := hrel
    have HR := Sl.mk hrel
    have HNE := Sl.mk hne
    clear hrel hne
    by_cases hlt : k < s.size
    · obtain ⟨c, hc⟩ : ∃ c, c = (s[k]'hlt).toNat := ⟨_, rfl⟩
      have HCG : Sl ((bytes s).getD k 0 = c) := ⟨by rw [byte_getD s k hlt, hc]⟩
      have HT : Sl ((bytes s).take (k + 1) = (bytes s).take k ++ [c]) := ⟨by rw [take_snoc s k hlt, hc]⟩
      have hc' : (s[k]'hlt).toNat = c := hc.symm
      clear hc
      by_cases h61 : c = 61
      · have hq : ((c : Int) != 61) = false := by simp; omega
        have HST : Sl (k < s.size → (bytes s).getD k 0 = 61) := ⟨fun _ => by rw [HCG.out]; exact h61⟩
        clear h61
        have HGT : Sl (∀ b, rd (bytes s) = some b → eight (allB 6 (nums ((bytes s).take k))) = b) := ⟨fun b hb => by
          rw [good_take (bytes s) b k (by rw [bytes_length]; exact hk) hb HNE.out (fun h => HST.out (by rw [bytes_length] at h; exact h)), eight_body b (enc_of_rd hb).2]⟩
        have HS2 : Sl (Small 2 (allB 6 (nums ((bytes s).take k)))) := ⟨allB_small 6 _⟩
        have HBL : Sl ((allB 6 (nums ((bytes s).take k))).length ≤ 24000) := ⟨by rw [allB_length]; unfold nums; rw [List.length_map, List.length_take]; omega⟩
        generalize allB 6 (nums ((bytes s).take k)) = B at *
        have hBl := HBL.out
        rename World => W0
        go_wp2
        go_loopw [8, 9] (fun o i wr => G3 w g cap B o i wr) (fun _ i _ => B.length + 8 - (intOf i).toNat)
        case atStart => exact ⟨0, 0, _, rfl, rfl, Nat.zero_le _, ⟨rfl⟩, ⟨rfl⟩, Nat.le_refl _, HR.out⟩
        case round =>
          clear HR
          obtain ⟨n, m, x, rfl, rfl, hmB, HM, HX, hxn, hrel⟩ := hrel
          have HR := Sl.mk hrel
          clear hrel
          have hn8 : 8 * n ≤ 24000 := by have := HM.out; omega
          by_cases h8 : m + 8 ≤ B.length
          · go_wp2
            go_loop [10, 11] (fun v j => G4 B m v j) (fun _ j => 8 - (intOf j).toNat)
            case atStart => exact ⟨0, 0, by omega, rfl, rfl, by decide, ⟨rfl⟩⟩
            case round =>
              obtain ⟨d, y, hd, rfl, rfl, hy, HY⟩ := hrel
              by_cases hd8 : d < 8
              · obtain ⟨b, hb⟩ : ∃ b, b = B.getD (m + d) 0 := ⟨_, rfl⟩
                have hcell : wr.cell? ⟨g, m + d, none⟩ = some (.int .i64 (b : Int)) := by rw [hb]; exact HR.out.cell (m + d) (by omega)
                have hb2 : b < 2 := by rw [hb]; exact HS2.out.getD (by decide) _
                have HY1 : Sl (2 * y + b = val ((B.drop m).take (d + 1))) := ⟨by rw [val_more B m d (by omega), HY.out, hb]⟩
                have hy1 : 2 * y + b < 256 := by
                  rw [HY1.out]
                  have h1 := val_lt ((B.drop m).take (d + 1)) ((HS2.out.drop m).take (d + 1))
                  rw [List.length_take, List.length_drop, Nat.min_eq_left (by omega)] at h1
                  exact Nat.lt_of_lt_of_le h1 (Nat.pow_le_pow_right (n := 2) (j := 8) (by decide) (by omega))
                have e1 : ((m : Int) + (d : Int)).toNat = m + d := by omega
                have hix : (m : Int) + (d : Int) < (B.length : Int) := by omega
                clear hb
                go_wp2
                go_round
                case rel => exact ⟨d + 1, 2 * y + b, by omega, by go_num, by go_num, hy1, HY1⟩
                case measure => simp [intOf]; omega
              · have hge8 : ¬ (d : Int) < 8 := by omega
                have HV : Sl (y = val ((B.drop m).take 8)) := ⟨by rw [HY.out, show d = 8 by omega]⟩
                have HSM : Sl (bytes (x ++ strOf [y]) = eight (B.take (m + 8))) := ⟨by
                  have h := eight_more B n (by have := HM.out; omega)
                  rw [← HM.out] at h
                  rw [h, bytes_append, HX.out, bytes_strOf [y] (fun z hz => by simp at hz; omega), HV.out]⟩
                have hcv := conv_one wr y
                have hsz : (strOf [y]).size = 1 := by rw [strOf_size]; rfl
                have hsz2 : (strOf [y]).size ≤ 1 := by omega
                clear HY
                have HSZ := Sl.mk hsz
                clear hsz
                go_wp2
                go_roundw
                case rel => exact ⟨n + 1, m + 8, x ++ strOf [y], by go_num, rfl, h8, ⟨by rw [HM.out]; omega⟩, HSM, by rw [ByteArray.size_append, HSZ.out]; omega, HR.out.alloc _⟩
                case measure => simp [intOf]; omega
          · have hge8 : ¬ (m : Int) + 8 ≤ (B.length : Int) := by omega
            have HBX : Sl (bytes x = eight B) := ⟨by
              rw [HX.out]
              have h := HM.out
              rw [h]
              exact eight_done B n (by omega) (by omega)⟩
            clear HX
            by_cases hen : enc (bytes x) = bytes s
            · have hq2 : (!((strOf (enc (bytes x))).toList == s.toList)) = false := by rw [beq_bytes2, bytes_enc _ (bytes_small x)]; simp [hen]
              have HRD : Sl (rd (bytes s) = some (bytes x)) := ⟨rd_iff.2 ⟨hen, bytes_small x⟩⟩
              clear hen
              go_wp2_with fail
              refine (ref_put x _ (by omega)).mono ?_
              rintro e w5 ⟨rfl, hb5⟩
              have HB5 : Sl (Below w.heap.size w w5) := ⟨HR.out.b.trans (hb5.mono HR.out.b.size)⟩
              clear hb5
              go_wp2
              go_ret2
              exact ⟨by rw [HRD.out]; unfold refV; simp only; rw [strOf_bytes]; rfl, HB5.out⟩
            · have hq2 : (!((strOf (enc (bytes x))).toList == s.toList)) = true := by rw [beq_bytes2, bytes_enc _ (bytes_small x)]; simp [hen]
              have HRD : Sl (rd (bytes s) = none) := ⟨by
                cases hr : rd (bytes s) with
                | none => rfl
                | some b =>
                  have h1 := HGT.out b hr
                  rw [← HBX.out] at h1
                  rw [h1] at hen
                  exact absurd (enc_of_rd hr).1 hen⟩
              clear hen
              go_wp2_with fail
              refine (ref_put x _ (by omega)).mono ?_
              rintro e w5 ⟨rfl, hb5⟩
              have HB5 : Sl (Below w.heap.size w w5) := ⟨HR.out.b.trans (hb5.mono HR.out.b.size)⟩
              clear hb5
              go_wp2
              go_ret2
              exact ⟨by rw [HRD.out]; rfl, HB5.out⟩
      · have hq : ((c : Int) != 61) = true := by simp; omega
        cases hnum : num c with
        | none =>
          have HN : Sl (rd (bytes s) = none) := ⟨bad_none _ k (by rw [bytes_length]; exact hlt) (by rw [HCG.out]; exact h61) (by rw [HCG.out]; exact hnum)⟩
          have HNI : Sl (numI c = -1) := ⟨by unfold numI; rw [hnum]⟩
          clear h61 hnum
          go_wp2_with fail
          refine (ref_number c _).mono ?_
          rw [HNI.out]
          rintro e w2 ⟨rfl, rfl⟩
          go_wp2
          go_ret2
          exact ⟨by rw [HN.out]; rfl, HR.out.b⟩
        | some x =>
          have hx64 := (num_some hnum).1
          have HNI : Sl (numI c = (x : Int)) := ⟨by unfold numI; rw [hnum]⟩
          have HA : Sl (allB 6 (nums ((bytes s).take (k + 1))) = allB 6 (nums ((bytes s).take k)) ++ bitsTo 6 x 6) := ⟨by rw [HT.out]; unfold nums; rw [List.map_append]; simp only [List.map_cons, List.map_nil, hnum, Option.getD_some]; rw [allB_snoc]⟩
          have HNE1 : Sl (∀ j, j < k + 1 → (bytes s).getD j 0 ≠ 61) := ⟨fun j hj => by
            by_cases e : j = k
            · rw [e, HCG.out]; exact h61
            · exact HNE.out j (by omega)⟩
          have HLEN : Sl ((allB 6 (nums ((bytes s).take k))).length ≤ 24000) := ⟨by rw [allB_length]; unfold nums; rw [List.length_map, List.length_take]; omega⟩
          clear h61 hnum HT
          generalize allB 6 (nums ((bytes s).take k)) = L at *
          rename World => W0
          go_wp2_with fail
          refine (ref_number c _).mono ?_
          rw [HNI.out]
          rintro e w2 ⟨rfl, rfl⟩
          go_wp2
          go_loopw [4, 7] (fun v j wr => G2 w L x v j wr) (fun _ j _ => (intOf j + 1).toNat)
          case atStart => exact ⟨0, g, cap, by omega, rfl, by simp [bitsTo], by simpa [bitsTo] using HR.out⟩
          case round =>
            clear HR
            obtain ⟨d, g, cap, hd, rfl, rfl, hrel⟩ := hrel
            have HR := Sl.mk hrel
            clear hrel
            by_cases hd6 : d < 6
            · have e0 : (5 - (d : Int)).toNat = 5 - d := by omega
              have p0 : (0 : Int) ≤ 5 - (d : Int) := by omega
              obtain ⟨q, hq⟩ : ∃ q : Nat, q = x / 2 ^ (5 - d) := ⟨_, rfl⟩
              have hq' : (x : Int) / 2 ^ (5 - d) = (q : Int) := by rw [hq]; simp
              have hql : q < 64 := by rw [hq]; exact Nat.lt_of_le_of_lt (Nat.div_le_self _ _) hx64
              have HBT : Sl (L ++ bitsTo 6 x (d + 1) = (L ++ bitsTo 6 x d) ++ [q % 2]) := ⟨by rw [List.append_assoc]; show L ++ (bitsTo 6 x d ++ [x / 2 ^ (6 - 1 - d) % 2]) = _; rw [hq]⟩
              have HLN : Sl ((L ++ bitsTo 6 x d).length ≤ 24008) := ⟨by rw [List.length_append, bitsTo_length]; have := HLEN.out; omega⟩
              clear hq
              generalize L ++ bitsTo 6 x d = M at *
              have hm2 : (q : Int) % 2 = ((q % 2 : Nat) : Int) := by omega
              generalize q % 2 = b at *
              go_wp2_with (at_builtin; refine wpList_append_own _ rfl (.tmp 35) (.tmp 41) 79 rfl w.heap.size 3 i0 (.int .i64 0) 1 8 Tryz.underlying79 HI.out HZ0.out HZ1.out HZ2.out rfl (by decide) _ M.length _ rfl (HR.out.o.alloc _) ⟨wr.heap.size, 0, none⟩ 1 1 [.int .i64 (b : Int)] rfl rfl ?c1 ?c2 ?c3 ?c4 ?c5 ?_)
              case c1 => intro j u hu; match j, hu with | 0, hu => simpa [Addr.add_mid] using hu
              case c2 => intro u hu; simp at hu; subst hu; rfl
              case c3 => unfold maxLen; have := HLN.out; omega
              case c4 => have := HLN.out; omega
              case c5 => rw [alloc_size]; have := HR.out.b.size; omega
              intro v' w1 hown' hgrow _
              obtain ⟨g', cap', hv', HR'⟩ := BIT.more (HR.out.b.alloc HR.out.b.size _) (HR.out.o.alloc _) (by rw [alloc_size]; have := HR.out.b.size; omega) hown' hgrow
              subst hv'
              clear hown' hgrow HR hq' hm2
              go_wp2
              go_roundw
              case rel => exact ⟨d + 1, g', cap', by omega, by go_num, by rw [HBT.out], by rw [HBT.out]; exact HR'.out⟩
              case measure => simp [intOf]; omega
            · have hge : ¬ (0 : Int) ≤ 5 - (d : Int) := by omega
              have HBT : Sl (L ++ bitsTo 6 x d = allB 6 (nums ((bytes s).take (k + 1)))) := ⟨by rw [HA.out, show d = 6 by omega]⟩
              generalize L ++ bitsTo 6 x d = M at *
              go_wp2
              go_roundw
              case rel => exact ⟨k + 1, g, cap, by omega, by go_num, by rw [← HBT.out], by rw [← HBT.out]; exact HR.out, HNE1.out⟩
              case measure => simp [intOf]; omega
    · have hge : ¬ (k : Int) < (s.size : Int) := by omega
      have HST : Sl (k < s.size → (bytes s).getD k 0 = 61) := ⟨fun h => absurd h hlt⟩
      have HGT : Sl (∀ b, rd (bytes s) = some b → eight (allB 6 (nums ((bytes s).take k))) = b) := ⟨fun b hb => by
        rw [good_take (bytes s) b k (by rw [bytes_length]; exact hk) hb HNE.out (fun h => HST.out (by rw [bytes_length] at h; exact h)), eight_body b (enc_of_rd hb).2]⟩
      have HS2 : Sl (Small 2 (allB 6 (nums ((bytes s).take k)))) := ⟨allB_small 6 _⟩
      have HBL : Sl ((allB 6 (nums ((bytes s).take k))).length ≤ 24000) := ⟨by rw [allB_length]; unfold nums; rw [List.length_map, List.length_take]; omega⟩
      generalize allB 6 (nums ((bytes s).take k)) = B at *
      have hBl := HBL.out
      rename World => W0
      go_wp2
      go_loopw [8, 9] (fun o i wr => G3 w g cap B o i wr) (fun _ i _ => B.length + 8 - (intOf i).toNat)
      case atStart => exact ⟨0, 0, _, rfl, rfl, Nat.zero_le _, ⟨rfl⟩, ⟨rfl⟩, Nat.le_refl _, HR.out⟩
      case round =>
        clear HR
        obtain ⟨n, m, x, rfl, rfl, hmB, HM, HX, hxn, hrel⟩ := hrel
        have HR := Sl.mk hrel
        clear hrel
        have hn8 : 8 * n ≤ 24000 := by have := HM.out; omega
        by_cases h8 : m + 8 ≤ B.length
        · go_wp2
          go_loop [10, 11] (fun v j => G4 B m v j) (fun _ j => 8 - (intOf j).toNat)
          case atStart => exact ⟨0, 0, by omega, rfl, rfl, by decide, ⟨rfl⟩⟩
          case round =>
            obtain ⟨d, y, hd, rfl, rfl, hy, HY⟩ := hrel
            by_cases hd8 : d < 8
            · obtain ⟨b, hb⟩ : ∃ b, b = B.getD (m + d) 0 := ⟨_, rfl⟩
              have hcell : wr.cell? ⟨g, m + d, none⟩ = some (.int .i64 (b : Int)) := by rw [hb]; exact HR.out.cell (m + d) (by omega)
              have hb2 : b < 2 := by rw [hb]; exact HS2.out.getD (by decide) _
              have HY1 : Sl (2 * y + b = val ((B.drop m).take (d + 1))) := ⟨by rw [val_more B m d (by omega), HY.out, hb]⟩
              have hy1 : 2 * y + b < 256 := by
                rw [HY1.out]
                have h1 := val_lt ((B.drop m).take (d + 1)) ((HS2.out.drop m).take (d + 1))
                rw [List.length_take, List.length_drop, Nat.min_eq_left (by omega)] at h1
                exact Nat.lt_of_lt_of_le h1 (Nat.pow_le_pow_right (n := 2) (j := 8) (by decide) (by omega))
              have e1 : ((m : Int) + (d : Int)).toNat = m + d := by omega
              have hix : (m : Int) + (d : Int) < (B.length : Int) := by omega
              clear hb
              go_wp2
              go_round
              case rel => exact ⟨d + 1, 2 * y + b, by omega, by go_num, by go_num, hy1, HY1⟩
              case measure => simp [intOf]; omega
            · have hge8 : ¬ (d : Int) < 8 := by omega
              have HV : Sl (y = val ((B.drop m).take 8)) := ⟨by rw [HY.out, show d = 8 by omega]⟩
              have HSM : Sl (bytes (x ++ strOf [y]) = eight (B.take (m + 8))) := ⟨by
                have h := eight_more B n (by have := HM.out; omega)
                rw [← HM.out] at h
                rw [h, bytes_append, HX.out, bytes_strOf [y] (fun z hz => by simp at hz; omega), HV.out]⟩
              have hcv := conv_one wr y
              have hsz : (strOf [y]).size = 1 := by rw [strOf_size]; rfl
              have hsz2 : (strOf [y]).size ≤ 1 := by omega
              clear HY
              have HSZ := Sl.mk hsz
              clear hsz
              go_wp2
              go_roundw
              case rel => exact ⟨n + 1, m + 8, x ++ strOf [y], by go_num, rfl, h8, ⟨by rw [HM.out]; omega⟩, HSM, by rw [ByteArray.size_append, HSZ.out]; omega, HR.out.alloc _⟩
              case measure => simp [intOf]; omega
        · have hge8 : ¬ (m : Int) + 8 ≤ (B.length : Int) := by omega
          have HBX : Sl (bytes x = eight B) := ⟨by
            rw [HX.out]
            have h := HM.out
            rw [h]
            exact eight_done B n (by omega) (by omega)⟩
          clear HX
          by_cases hen : enc (bytes x) = bytes s
          · have hq2 : (!((strOf (enc (bytes x))).toList == s.toList)) = false := by rw [beq_bytes2, bytes_enc _ (bytes_small x)]; simp [hen]
            have HRD : Sl (rd (bytes s) = some (bytes x)) := ⟨rd_iff.2 ⟨hen, bytes_small x⟩⟩
            clear hen
            go_wp2_with fail
            refine (ref_put x _ (by omega)).mono ?_
            rintro e w5 ⟨rfl, hb5⟩
            have HB5 : Sl (Below w.heap.size w w5) := ⟨HR.out.b.trans (hb5.mono HR.out.b.size)⟩
            clear hb5
            go_wp2
            go_ret2
            exact ⟨by rw [HRD.out]; unfold refV; simp only; rw [strOf_bytes]; rfl, HB5.out⟩
          · have hq2 : (!((strOf (enc (bytes x))).toList == s.toList)) = true := by rw [beq_bytes2, bytes_enc _ (bytes_small x)]; simp [hen]
            have HRD : Sl (rd (bytes s) = none) := ⟨by
              cases hr : rd (bytes s) with
              | none => rfl
              | some b =>
                have h1 := HGT.out b hr
                rw [← HBX.out] at h1
                rw [h1] at hen
                exact absurd (enc_of_rd hr).1 hen⟩
            clear hen
            go_wp2_with fail
            refine (ref_put x _ (by omega)).mono ?_
            rintro e w5 ⟨rfl, hb5⟩
            have HB5 : Sl (Below w.heap.size w w5) := ⟨HR.out.b.trans (hb5.mono HR.out.b.size)⟩
            clear hb5
            go_wp2
            go_ret2
            exact ⟨by rw [HRD.out]; rfl, HB5.out⟩
end Go.Proofs.YthlagngpllahkaaGreatDoor.Bas
/- BasePuts, the walk: whatever string is handed over, the law's Go text returns true, and nothing that was in memory changes. Conditions: the table of package base is as its text lays it; the string fits in memory. -/
namespace Go.Proofs.YthlagngpllahkaaGreatDoor.Bas
open Go.RowKit

theorem refPutX (w0 : World) (s : ByteArray) (W : World) (hB : Below w0.heap.size w0 W) (hs : s.size ≤ 4000) :
    Calls Tryz.prog 47 #[.string s] W fun e w' => e = .returned (.string (strOf (enc (bytes s)))) ∧ Sl (Below W.heap.size W w') ∧ Sl (Below w0.heap.size w0 w') :=
  (ref_put s W hs).mono fun _ _ ⟨he, hb⟩ => ⟨he, ⟨hb⟩, ⟨hB.trans (hb.mono hB.size)⟩⟩
theorem hasX (w0 : World) (s : ByteArray) (n : Int) (r : Bool) (W : World) (hB : Below w0.heap.size w0 W) (hs : s.size ≤ 100000) (hr : hasB (bytes s) n = r) :
    Calls Tryz.prog 119 #[.string s, .int .i64 n] W fun e w' => e = .returned (.bool r) ∧ Sl (Below W.heap.size W w') ∧ Sl (Below w0.heap.size w0 w') :=
  (has_ex s n r W hs hr).mono fun _ _ ⟨he, hb⟩ => ⟨he, hb, ⟨hB.trans (hb.out.mono hB.size)⟩⟩

end Go.Proofs.YthlagngpllahkaaGreatDoor.Bas
