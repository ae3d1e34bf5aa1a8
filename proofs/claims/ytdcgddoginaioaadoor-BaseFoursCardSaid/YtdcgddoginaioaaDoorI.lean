/- The document's answer, bits as lists: the contract of its Put: it answers the letters of the bytes; nothing that was in memory changes. Condition: at most 1000 bytes. -/
import Derived.Test.YtdcgddoginaioaaDoorH
import Derived.Test.YtdcgddoginaioaaDoorU
namespace Go.Proofs.YtdcgddoginaioaaDoor
open Go.RowKit

def vi (n : Nat) : Value := .int .i64 (n : Int)
def ints (l : List Nat) : List Value := l.map vi
theorem ints_length (l : List Nat) : (ints l).length = l.length := by simp [ints]
theorem ints_append (a b : List Nat) : ints (a ++ b) = ints a ++ ints b := by simp [ints]
theorem ints_get (l : List Nat) (i : Nat) (h : i < l.length) : (ints l)[i]? = some (.int .i64 ((l.getD i 0 : Nat) : Int)) := by simp [ints, vi, List.getElem?_eq_getElem h]
theorem info3 : (Tryd.prog.info? 3).map (fun i => (i.zero, i.size, i.bytes)) = some (some (.int .i64 0), 1, 8) := by kernel_rfl

/-- A row of bits of the call's own. -/
structure BIT (w : World) (g cap : Nat) (l : List Nat) (wr : World) : Prop where
  o : wr.ownsRow w.heap.size 3 1 (.slice (some ⟨g, 0, none⟩) l.length cap) l.length (ints l)
  b : Below w.heap.size w wr
theorem BIT.cell {w wr : World} {g cap : Nat} {l : List Nat} (h : BIT w g cap l wr) (j : Nat) (hj : j < l.length) : wr.cell? ⟨g, j, none⟩ = some (.int .i64 ((l.getD j 0 : Nat) : Int)) := by
  rw [h.o.cellAt j (by omega), ints_get l j hj]
theorem BIT.more {w wr w1 : World} {g cap : Nat} {l : List Nat} {v' : Value} {x : Nat} (hb : Below w.heap.size w wr) (hown : wr.ownsRow w.heap.size 3 1 (.slice (some ⟨g, 0, none⟩) l.length cap) l.length (ints l)) (hbase : w.heap.size ≤ wr.heap.size)
    (ho : w1.ownsRow w.heap.size 3 1 v' (l.length + 1) (ints l ++ [.int .i64 (x : Int)])) (hg : wr.grownBy w1 (Value.slice (some ⟨g, 0, none⟩) l.length cap).ownBlock) :
    ∃ g' cap', v' = .slice (some ⟨g', 0, none⟩) (l ++ [x]).length cap' ∧ Sl (BIT w g' cap' (l ++ [x]) w1) := by
  have h1 := ho
  obtain ⟨_, h2⟩ := h1
  rcases h2 with ⟨_, h3⟩ | ⟨g', cap', cur, rfl, _⟩
  · omega
  · refine ⟨g', cap', by simp, ⟨⟨?_, below_grown hb hown hg hbase⟩⟩⟩
    rw [ints_append, List.length_append]; exact ho
theorem bit_empty (w : World) : BIT w w.heap.size 0 [] (w.alloc (.cells #[] 3)) :=
  ⟨⟨rfl, .inr ⟨w.heap.size, 0, #[], rfl, Nat.le_refl _, alloc_new _ _ _ rfl, Nat.le_refl _, Nat.zero_le _, rfl, rfl⟩⟩, (Below.refl _ _).alloc (Nat.le_refl _) _⟩

theorem fill_more (n z : Nat) (hz : z ≤ fill6 n) (h : ¬ (n + z) % 6 = 0) : z < fill6 n := by unfold fill6 at *; omega
theorem fill_done (n z : Nat) (hz : z ≤ fill6 n) (h : (n + z) % 6 = 0) : z = fill6 n := by unfold fill6 at *; omega

/-- What the loop over sixes holds to. -/
def R6 (B : List Nat) (N : Nat) (o i : Value) : Prop := ∃ (n m : Nat) (x : ByteArray), n ≤ N ∧ i = .int .i64 m ∧ o = .string x ∧ Sl (m = 6 * n) ∧ Sl (bytes x = six (B.take m)) ∧ x.size ≤ n
/-- What the loop that fills letters up holds to. -/
def RE (l : List Nat) (p : Nat) (o : Value) : Prop := ∃ (z : Nat) (x : ByteArray), z ≤ p ∧ o = .string x ∧ Sl (bytes x = l ++ List.replicate z 61)
def sizeS : Value → Nat
  | .string x => x.size
  | _ => 0
set_option maxRecDepth 100000 in
set_option maxHeartbeats 4000000 in
theorem ref_put (s : ByteArray) (w : World) (hs : s.size ≤ 1000) :
    Calls Tryd.prog 14 #[.string s] w fun e w' => e = .returned (.string (strOf (enc (bytes s)))) ∧ Below w.heap.size w w' := by
  obtain ⟨i0, hi, hz0, hz1, hz2⟩ := info_parts info3
  have HI := Sl.mk hi
  have HZ0 := Sl.mk hz0
  have HZ1 := Sl.mk hz1
  have HZ2 := Sl.mk hz2
  clear hi hz0 hz1 hz2
  go_enter Tryd.func14, Tryd.ntmps14
  go_wp2
  go_loopw [3, 4] (fun v i wr => ∃ (k g cap : Nat), k ≤ s.size ∧ i = .int .i64 k ∧ v = .slice (some ⟨g, 0, none⟩) (allB 8 ((bytes s).take k)).length cap ∧ BIT w g cap (allB 8 ((bytes s).take k)) wr) (fun _ i _ => s.size - (intOf i).toNat)
  case atStart => exact ⟨0, w.heap.size, 0, Nat.zero_le _, rfl, rfl, bit_empty w⟩
  case round =>
    obtain ⟨k, g, cap, hk, rfl, rfl, hrel⟩ := hrel
    have HR := Sl.mk hrel
    clear hrel
    by_cases hlt : k < s.size
    · obtain ⟨x, hx⟩ : ∃ x, x = (s[k]'hlt).toNat := ⟨_, rfl⟩
      have hxl : x < 256 := by rw [hx]; exact (s[k]'hlt).toNat_lt
      have HT : Sl ((bytes s).take (k + 1) = (bytes s).take k ++ [x]) := ⟨by rw [take_snoc s k hlt, hx]⟩
      have hx' : (s[k]'hlt).toNat = x := hx.symm
      clear hx
      have HLEN : Sl ((allB 8 ((bytes s).take k)).length ≤ 8000) := ⟨by rw [allB_length, List.length_take]; omega⟩
      have HA : Sl (allB 8 ((bytes s).take (k + 1)) = allB 8 ((bytes s).take k) ++ bitsTo 8 x 8) := ⟨by rw [HT.out, allB_snoc]⟩
      clear HT
      generalize allB 8 ((bytes s).take k) = L at *
      rename World => W0
      go_wp2
      go_loopw [3, 5] (fun v j wr => ∃ (d g cap : Nat), d ≤ 8 ∧ j = .int .i64 (7 - (d : Int)) ∧ v = .slice (some ⟨g, 0, none⟩) (L ++ bitsTo 8 x d).length cap ∧ BIT w g cap (L ++ bitsTo 8 x d) wr) (fun _ j _ => (intOf j + 1).toNat)
      case atStart => exact ⟨0, g, cap, by omega, rfl, by simp [bitsTo], by simpa [bitsTo] using HR.out⟩
      case round =>
        clear HR
        obtain ⟨d, g, cap, hd, rfl, rfl, hrel⟩ := hrel
        have HR := Sl.mk hrel
        clear hrel
        by_cases hd8 : d < 8
        · have e0 : (7 - (d : Int)).toNat = 7 - d := by omega
          have p0 : (0 : Int) ≤ 7 - (d : Int) := by omega
          obtain ⟨q, hq⟩ : ∃ q : Nat, q = x / 2 ^ (7 - d) := ⟨_, rfl⟩
          have hq' : (x : Int) / 2 ^ (7 - d) = (q : Int) := by rw [hq]; simp
          have hql : q < 256 := by rw [hq]; exact Nat.lt_of_le_of_lt (Nat.div_le_self _ _) hxl
          have HBT : Sl (L ++ bitsTo 8 x (d + 1) = (L ++ bitsTo 8 x d) ++ [q % 2]) := ⟨by rw [List.append_assoc]; show L ++ (bitsTo 8 x d ++ [x / 2 ^ (8 - 1 - d) % 2]) = _; rw [hq]⟩
          have HLN : Sl ((L ++ bitsTo 8 x d).length ≤ 8008) := ⟨by rw [List.length_append, bitsTo_length]; have := HLEN.out; omega⟩
          clear hq
          generalize L ++ bitsTo 8 x d = M at *
          have hm2 : (q : Int) % 2 = ((q % 2 : Nat) : Int) := by omega
          generalize q % 2 = b at *
          go_wp2_with (at_builtin; refine wpList_append_own _ rfl (.tmp 21) (.tmp 30) 46 rfl w.heap.size 3 i0 (.int .i64 0) 1 8 Tryd.underlying46 HI.out HZ0.out HZ1.out HZ2.out rfl (by decide) _ M.length _ rfl (HR.out.o.alloc _) ⟨wr.heap.size, 0, none⟩ 1 1 [.int .i64 (b : Int)] rfl rfl ?c1 ?c2 ?c3 ?c4 ?c5 ?_)
          case c1 => intro j u hu; match j, hu with | 0, hu => simpa [Addr.add_mid] using hu
          case c2 => intro u hu; simp at hu; subst hu; rfl
          case c3 => unfold maxLen; have := HLN.out; omega
          case c4 => have := HLN.out; omega
          case c5 => rw [alloc_size]; have := HR.out.b.size; omega
          intro v' w1 hown' hgrow _
          obtain ⟨g', cap', hv', HR'⟩ := BIT.more (HR.out.b.alloc HR.out.b.size _) (HR.out.o.alloc _) (by rw [alloc_size]; have := HR.out.b.size; omega) hown' hgrow
          subst hv'
          clear hown' hgrow HR hq' hm2
          go_wp2
          go_roundw
          case rel => exact ⟨d + 1, g', cap', by omega, by go_num, by rw [HBT.out], by rw [HBT.out]; exact HR'.out⟩
          case measure => simp [intOf]; omega
        · have hge : ¬ (0 : Int) ≤ 7 - (d : Int) := by omega
          have HBT : Sl (L ++ bitsTo 8 x d = allB 8 ((bytes s).take (k + 1))) := ⟨by rw [HA.out, show d = 8 by omega]⟩
          generalize L ++ bitsTo 8 x d = M at *
          go_wp2
          go_roundw
          case rel => exact ⟨k + 1, g, cap, by omega, by go_num, by rw [← HBT.out], by rw [← HBT.out]; exact HR.out⟩
          case measure => simp [intOf]; omega
    · have hge : ¬ (k : Int) < (s.size : Int) := by omega
      have HE : Sl (allB 8 ((bytes s).take k) = allB 8 (bytes s)) := ⟨by rw [List.take_of_length_le (by rw [bytes_length]; omega)]⟩
      have HLN : Sl ((allB 8 (bytes s)).length = 8 * s.size) := ⟨by rw [allB_length, bytes_length]⟩
      have HSX : Sl (six (allB 8 (bytes s) ++ List.replicate (fill6 (8 * s.size)) 0) = body (bytes s)) := ⟨by have := six_body (bytes s) (bytes_small s); rw [bytes_length] at this; exact this⟩
      rw [HE.out] at HR ⊢
      clear HE
      obtain ⟨L, hL⟩ : ∃ L, L = allB 8 (bytes s) := ⟨_, rfl⟩
      have HLS := Sl.mk hL
      rw [← hL] at HR HLN HSX ⊢
      clear hL
      go_wp2
      rename World => W0
      go_loopw [3] (fun v wr => ∃ (z g cap : Nat), z ≤ fill6 (8 * s.size) ∧ v = .slice (some ⟨g, 0, none⟩) (L ++ List.replicate z 0).length cap ∧ BIT w g cap (L ++ List.replicate z 0) wr) (fun v _ => 8 * s.size + 6 - lenOf v)
      case atStart => exact ⟨0, g, cap, by omega, by simp, by simpa using HR.out⟩
      case round =>
        clear HR
        obtain ⟨z, g, cap, hz, rfl, hrel⟩ := hrel
        have HR := Sl.mk hrel
        clear hrel
        have HZL : Sl ((L ++ List.replicate z 0).length = 8 * s.size + z) := ⟨by rw [List.length_append, HLN.out, List.length_replicate]⟩
        have hf6 : fill6 (8 * s.size) < 6 := by unfold fill6; omega
        by_cases h6 : (8 * s.size + z) % 6 = 0
        · have hn0 : (((L ++ List.replicate z 0).length : Int) % 6 != 0) = false := by rw [HZL.out]; simp; omega
          have hzd := fill_done _ _ hz h6
          have HSB : Sl (six (L ++ List.replicate z 0) = body (bytes s)) := ⟨by rw [hzd]; exact HSX.out⟩
          obtain ⟨N, hN⟩ : ∃ N, 8 * s.size + z = 6 * N := ⟨(8 * s.size + z) / 6, by omega⟩
          have hlen : (L ++ List.replicate z 0).length = 6 * N := by rw [HZL.out, hN]
          have HS2 : Sl (Small 2 (L ++ List.replicate z 0)) := ⟨by rw [HLS.out]; exact (allB_small 8 _).append (fun x hx => by have := List.eq_of_mem_replicate hx; omega)⟩
          have hNb : 6 * N ≤ 8006 := by omega
          clear hzd hz HSX HLN HZL hN h6 hf6
          generalize L ++ List.replicate z 0 = B at *
          have HLB := Sl.mk hlen
          have hlI : (B.length : Int) = 6 * (N : Int) := by omega
          go_wp2
          clear hn0
          go_loop [6, 7] (fun o i => R6 B N o i) (fun _ i => 6 * N - (intOf i).toNat)
          case atStart => exact ⟨0, 0, _, by omega, rfl, rfl, ⟨rfl⟩, ⟨rfl⟩, by decide⟩
          case round =>
            obtain ⟨n, m, x, hn, rfl, rfl, HM, HX, hxs⟩ := hrel
            by_cases hlt : n < N
            · have hmB : m + 6 ≤ B.length := by rw [hlen, HM.out]; omega
              have hml : (m : Int) < 6 * (N : Int) := by have := HM.out; omega
              have hml2 : m ≤ 8006 := by have := HM.out; omega
              go_wp2
              go_loop [8, 9] (fun v j => ∃ (d y : Nat), d ≤ 6 ∧ j = .int .i64 d ∧ v = .int .i64 y ∧ y < 64 ∧ Sl (y = val ((B.drop m).take d))) (fun _ j => 6 - (intOf j).toNat)
              case atStart => exact ⟨0, 0, by omega, rfl, rfl, by decide, ⟨rfl⟩⟩
              case round =>
                obtain ⟨d, y, hd, rfl, rfl, hy, HY⟩ := hrel
                by_cases hd6 : d < 6
                · obtain ⟨b, hb⟩ : ∃ b, b = B.getD (m + d) 0 := ⟨_, rfl⟩
                  have hcell : wr.cell? ⟨g, m + d, none⟩ = some (.int .i64 (b : Int)) := by rw [hb]; exact HR.out.cell (m + d) (by omega)
                  have hb2 : b < 2 := by rw [hb]; exact HS2.out.getD (by decide) _
                  have HY1 : Sl (2 * y + b = val ((B.drop m).take (d + 1))) := ⟨by rw [val_more B m d (by omega), HY.out, hb]⟩
                  have hy1 : 2 * y + b < 64 := by
                    rw [HY1.out]
                    have h1 := val_lt ((B.drop m).take (d + 1)) ((HS2.out.drop m).take (d + 1))
                    rw [List.length_take, List.length_drop, Nat.min_eq_left (by omega)] at h1
                    exact Nat.lt_of_lt_of_le h1 (Nat.pow_le_pow_right (n := 2) (j := 6) (by decide) (by omega))
                  have e1 : ((m : Int) + (d : Int)).toNat = m + d := by omega
                  have hix : (m : Int) + (d : Int) < 6 * (N : Int) := by omega
                  clear hb
                  go_wp2
                  go_round
                  case rel => exact ⟨d + 1, 2 * y + b, by omega, by go_num, by go_num, hy1, HY1⟩
                  case measure => simp [intOf]; omega
                · have hge : ¬ (d : Int) < 6 := by omega
                  have HV : Sl (y = val ((B.drop m).take 6)) := ⟨by rw [HY.out, show d = 6 by omega]⟩
                  have HSM : Sl (six (B.take (m + 6)) = six (B.take m) ++ [letter y]) := ⟨by
                    have h := six_more B n (by rw [hlen]; omega)
                    rw [← HM.out] at h
                    rw [h, HV.out]⟩
                  obtain ⟨xs, hxs'⟩ : ∃ xs : ByteArray, xs = lettersS.extract y (y + 1) := ⟨_, rfl⟩
                  have hsz : xs.size ≤ 1 := by rw [hxs', ByteArray.size_extract]; omega
                  have HXB : Sl (bytes (x ++ xs) = six (B.take (m + 6))) := ⟨by
                    rw [bytes_append, HX.out, HSM.out, hxs', bytes_extract, bytes_letters]
                    congr 1
                    have hyl : y < table.length := by simp [table]; omega
                    rw [List.take_succ_eq_append_getElem hyl, List.drop_append_of_le_length (by simp; omega), List.drop_of_length_le (by simp; omega)]
                    simp [table]⟩
                  have hxs2 : (lettersS.extract y (y + 1)) = xs := hxs'.symm
                  unfold lettersS at hxs2
                  clear hxs' HY
                  go_wp2
                  go_round
                  case rel => exact ⟨n + 1, m + 6, x ++ xs, by omega, by go_num, rfl, ⟨by rw [HM.out]; omega⟩, HXB, by rw [ByteArray.size_append]; omega⟩
                  case measure => simp [intOf]; have := HM.out; omega
            · have hge : ¬ (m : Int) < 6 * (N : Int) := by have := HM.out; omega
              have HXB : Sl (bytes x = body (bytes s)) := ⟨by
                rw [HX.out, ← HSB.out, List.take_of_length_le (by rw [hlen, HM.out]; omega)]⟩
              have hxl : x.size ≤ 2000 := by omega
              have HXL : Sl ((body (bytes s)).length ≤ 2000) := ⟨by rw [← HXB.out, bytes_length]; exact hxl⟩
              clear HX
              obtain ⟨P, hP⟩ : ∃ P, P = (3 - s.size % 3) % 3 := ⟨_, rfl⟩
              have HEN : Sl (enc (bytes s) = body (bytes s) ++ List.replicate P 61) := ⟨by have := enc_body (bytes s); rw [bytes_length, ← hP] at this; exact this⟩
              have HBL : Sl ((body (bytes s)).length + P = 4 * ((s.size + 2) / 3)) := ⟨by
                have h1 := enc_length (bytes s)
                rw [HEN.out, List.length_append, List.length_replicate, bytes_length] at h1; exact h1⟩
              have hP4 : P < 4 := by omega
              clear hP
              generalize body (bytes s) = l at *
              go_wp2
              go_loop [6] (fun o => RE l P o) (fun o => 2004 - sizeS o)
              case atStart => exact ⟨0, x, by omega, rfl, ⟨by simpa using HXB.out⟩⟩
              case round =>
                obtain ⟨z, x', hz, rfl, HX'⟩ := hrel
                have hsz : x'.size = l.length + z := by rw [← bytes_length, HX'.out]; simp
                by_cases h4 : x'.size % 4 = 0
                · have hq4 : ((x'.size : Int) % 4 != 0) = false := by simp; omega
                  have HF : Sl (x' = strOf (enc (bytes s))) := ⟨by
                    have e : z = P := by have := HBL.out; omega
                    rw [← strOf_bytes x', HX'.out, HEN.out, e]⟩
                  clear h4 hsz
                  go_wp2
                  go_ret
                  exact ⟨by rw [← HF.out]; rfl, HR.out.b⟩
                · have hq4 : ((x'.size : Int) % 4 != 0) = true := by simp; omega
                  have hx2 : x'.size ≤ 2003 := by rw [hsz]; have := HXL.out; omega
                  have hzP : z < P := by have := HBL.out; omega
                  have HX2 : Sl (bytes (x' ++ { data := #[61] }) = l ++ List.replicate (z + 1) 61) := ⟨by rw [bytes_append, HX'.out, List.append_assoc, List.replicate_succ']; rfl⟩
                  clear h4 hsz
                  go_wp2
                  go_round
                  case rel => exact ⟨z + 1, _, by omega, rfl, HX2⟩
                  case measure => simp [sizeS]; have h1 : (ByteArray.mk #[61]).size = 1 := rfl; omega
        · have hn0 : (((L ++ List.replicate z 0).length : Int) % 6 != 0) = true := by rw [HZL.out]; simp; omega
          have HZ1' : Sl (L ++ List.replicate (z + 1) 0 = (L ++ List.replicate z 0) ++ [0]) := ⟨by rw [List.append_assoc, List.replicate_succ']⟩
          have hzl := fill_more _ _ hz h6
          generalize L ++ List.replicate z 0 = M at *
          go_wp2_with (at_builtin; refine wpList_append_own _ rfl (.tmp 36) (.tmp 37) 46 rfl w.heap.size 3 i0 (.int .i64 0) 1 8 Tryd.underlying46 HI.out HZ0.out HZ1.out HZ2.out rfl (by decide) _ M.length _ rfl (HR.out.o.alloc _) ⟨wr.heap.size, 0, none⟩ 1 1 [.int .i64 ((0 : Nat) : Int)] rfl rfl ?c1 ?c2 ?c3 ?c4 ?c5 ?_)
          case c1 => intro j u hu; match j, hu with | 0, hu => simpa [Addr.add_mid] using hu
          case c2 => intro u hu; simp at hu; subst hu; rfl
          case c3 => unfold maxLen; have := HZL.out; omega
          case c4 => have := HZL.out; omega
          case c5 => rw [alloc_size]; have := HR.out.b.size; omega
          intro v' w1 hown' hgrow _
          obtain ⟨g', cap', hv', HR'⟩ := BIT.more (HR.out.b.alloc HR.out.b.size _) (HR.out.o.alloc _) (by rw [alloc_size]; have := HR.out.b.size; omega) hown' hgrow
          subst hv'
          clear hown' hgrow HR
          go_wp2
          go_roundw
          case rel => exact ⟨z + 1, g', cap', by omega, by rw [HZ1'.out], by rw [HZ1'.out]; exact HR'.out⟩
          case measure => simp [lenOf]; have := HZL.out; omega
end Go.Proofs.YtdcgddoginaioaaDoor
