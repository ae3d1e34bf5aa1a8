/- The contract of read of package base, over whatever the closure keeps: letters that are bytes' tell these bytes one by one and answer true, others answer false. Conditions: at most 100000 letters. -/
import Derived.Test.YtdcgddoginaioaaDoorD
import Derived.WalkSmall
namespace Go.Proofs.YtdcgddoginaioaaDoor
open Go.RowKit

/-- What the closure that is told bytes keeps. -/
structure Tells (fid C B : Nat) (I : List Nat → World → Prop) : Prop where
  call : ∀ (acc : List Nat) (b : Nat) (W : World), I acc W → b < 256 → acc.length ≤ 200000 → Calls Tryd.prog fid #[.int .u8 (b : Int), .pointer (some ⟨C, 0, none⟩)] W fun e (w' : World) =>
    e = .returned (.tuple #[]) ∧ I (acc ++ [b]) w' ∧ ∀ (k : Nat) (s : ByteArray) (p : Nat), W.heap[k]? = some (.stringIter s p) → w'.heap[k]? = some (.stringIter s p)
  alloc : ∀ (acc : List Nat) (W : World) (s : ByteArray) (p : Nat), I acc W → I acc (W.iter s p)
  iter : ∀ (acc : List Nat) (W : World) (k : Nat) (s : ByteArray) (p p' : Nat), I acc W → W.heap[k]? = some (.stringIter s p) → B ≤ k → I acc (W.iterAt k s p')
  base : ∀ (acc : List Nat) (W : World), I acc W → B ≤ W.heap.size
  enter : ∀ (args : Array Value) (W : World), (callFunc fid args).run Tryd.prog W = .ok (.enter fid args) W
theorem Tells.callX {fid C B : Nat} {I : List Nat → World → Prop} (h : Tells fid C B I) (acc : List Nat) (b : Nat) (W : World) (it : Nat) (t : ByteArray) (p : Nat) (hI : I acc W) (hb : b < 256) (hl : acc.length ≤ 200000) (hk : W.heap[it]? = some (.stringIter t p)) :
    Calls Tryd.prog fid #[.int .u8 (b : Int), .pointer (some ⟨C, 0, none⟩)] W fun e w' => e = .returned (.tuple #[]) ∧ Sl (I (acc ++ [b]) w') ∧ Sl (w'.heap[it]? = some (.stringIter t p)) :=
  (h.call acc b W hI hb hl).mono fun _ _ ⟨he, h1, h2⟩ => ⟨he, ⟨h1⟩, ⟨h2 _ _ _ hk⟩⟩

/-- What is answered in the end. -/
def fin : Option (Nat × Nat × List Nat) → Option (List Nat)
  | none => none
  | some (b, _, out) => if b = 0 then some out else none
theorem rd_fin (s : List Nat) : rd s = if s.length % 4 = 0 then fin (rdGo (trim1 (trim1 s)) (0, 0, [])) else none := by
  unfold rd fin; split
  · cases rdGo (trim1 (trim1 s)) (0, 0, []) with
    | none => rfl
    | some x => rfl
  · rfl
theorem rdGo_append (l m : List Nat) (s : Nat × Nat × List Nat) : rdGo (l ++ m) s = (rdGo l s).bind (rdGo m) := by
  induction l generalizing s with
  | nil => rfl
  | cons c l ih =>
    simp only [List.cons_append, rdGo]
    cases num c with
    | none => rfl
    | some n => exact ih _
theorem rdGo_snoc {l : List Nat} {c n : Nat} {s t : Nat × Nat × List Nat} (h : rdGo l s = some t) (hc : num c = some n) : rdGo (l ++ [c]) s = some (step t n) := by
  rw [rdGo_append, h]; simp [rdGo, hc]
theorem rdGo_bad {l m : List Nat} {c : Nat} (s : Nat × Nat × List Nat) (hc : num c = none) : rdGo (l ++ c :: m) s = none := by
  rw [rdGo_append]
  cases rdGo l s with
  | none => rfl
  | some t => simp [rdGo, hc]
theorem num_high {c : Nat} (h : 123 ≤ c) : num c = none := by
  unfold num
  rw [if_neg (by omega), if_neg (by omega), if_neg (by omega), if_neg (by omega), if_neg (by omega)]
theorem take_snoc (t : ByteArray) (pos : Nat) (h : pos < t.size) : (bytes t).take (pos + 1) = (bytes t).take pos ++ [(t[pos]'h).toNat] := by
  rw [List.take_succ_eq_append_getElem (by rw [bytes_length]; exact h)]
  congr 2
  simp [bytes]; rfl
theorem split_at (t : ByteArray) (pos : Nat) (h : pos < t.size) : bytes t = (bytes t).take pos ++ (t[pos]'h).toNat :: (bytes t).drop (pos + 1) := by
  conv => lhs; rw [← List.take_append_drop (pos + 1) (bytes t), take_snoc t pos h]
  simp

theorem or6 (b n : Nat) (hb : b < 64) (hn : n < 64) : bits BinOp.or IntKind.u32 ((b : Int) * 64) (n : Int) = ((b * 64 + n : Nat) : Int) := by
  have e1 : ((b : Int) * 64) = ((b * 64 : Nat) : Int) := by simp
  rw [e1, u32_or_nat _ _ (by omega) (by omega)]
  have := Nat.two_pow_add_eq_or_of_lt (i := 6) (b := n) (by omega) b
  rw [show (2 : Nat) ^ 6 = 64 from rfl, Nat.mul_comm] at this
  rw [← this]
theorem and_low (q h : Nat) (hq : q < 4294967296) (hh : h ≤ 4) : bits BinOp.and IntKind.u32 (q : Int) (2 ^ h - 1) = ((q % 2 ^ h : Nat) : Int) := by
  have hp : (2 : Nat) ^ h - 1 < 4294967296 := by
    have : (2 : Nat) ^ h ≤ 2 ^ 4 := Nat.pow_le_pow_right (by decide) hh
    omega
  have e : ((2 : Int) ^ h - 1) = ((2 ^ h - 1 : Nat) : Int) := by
    have : 1 ≤ (2 : Nat) ^ h := Nat.one_le_two_pow
    rw [Int.natCast_sub this]; simp
  rw [e, u32_and_nat _ _ hq hp, Nat.and_two_pow_sub_one_eq_mod]

theorem number_yes (c n : Nat) (w : World) (h : c ≤ 2147483647) (hn : num c = some n) : Calls Tryd.prog 25 #[.int .i32 (c : Int)] w fun e w' => e = .returned (.tuple #[.int .u32 (n : Int), .bool true]) ∧ w = w' :=
  (number_any c w h).mono fun _ _ ⟨he, hw⟩ => ⟨by rw [he]; unfold numV; rw [hn]; rfl, hw⟩
theorem number_no (c : Nat) (w : World) (h : c ≤ 2147483647) (hn : num c = none) : Calls Tryd.prog 25 #[.int .i32 (c : Int)] w fun e w' => e = .returned (.tuple #[.int .u32 0, .bool false]) ∧ w = w' :=
  (number_any c w h).mono fun _ _ ⟨he, hw⟩ => ⟨by rw [he]; unfold numV; rw [hn]; rfl, hw⟩
theorem and_15 (q : Nat) (hq : q < 4294967296) : bits BinOp.and IntKind.u32 (q : Int) 15 = ((q % 16 : Nat) : Int) := and_low q 4 hq (by decide)
theorem and_3 (q : Nat) (hq : q < 4294967296) : bits BinOp.and IntKind.u32 (q : Int) 3 = ((q % 4 : Nat) : Int) := and_low q 2 hq (by decide)
theorem and_0 (q : Nat) (hq : q < 4294967296) : bits BinOp.and IntKind.u32 (q : Int) 0 = ((0 : Nat) : Int) := by
  have := and_low q 0 hq (by decide)
  rw [Nat.pow_zero, Nat.mod_one] at this; exact this

/-- What the loop of read holds to. -/
structure RR (I : List Nat → World → Prop) (it : Nat) (t : ByteArray) (pos b h : Nat) (acc : List Nat) (wr : World) : Prop where
  i : I acc wr
  k : wr.heap[it]? = some (.stringIter t pos)
  r : rdGo ((bytes t).take pos) (0, 0, []) = some (b, h, acc)
  n : acc.length ≤ pos
/-- How many bits are held, and that they are so many. -/
def Held (b h : Nat) : Prop := (h = 0 ∧ b < 1) ∨ (h = 2 ∧ b < 4) ∨ (h = 4 ∧ b < 16) ∨ (h = 6 ∧ b < 64)

theorem RR.next {I : List Nat → World → Prop} {it : Nat} {t : ByteArray} {pos b h n : Nat} {acc : List Nat} {wr w' : World} (hr : RR I it t pos b h acc wr) (hp : pos < t.size) (hn : num (t[pos]'hp).toNat = some n) {b' h' : Nat} {acc' : List Nat}
    (hs : step (b, h, acc) n = (b', h', acc')) (hi : I acc' w') (hk : w'.heap[it]? = some (.stringIter t (pos + 1))) (hl : acc'.length ≤ acc.length + 1) : RR I it t (pos + 1) b' h' acc' w' :=
  ⟨hi, hk, by rw [take_snoc t pos hp, rdGo_snoc hr.r hn, hs], by have := hr.n; omega⟩

set_option maxHeartbeats 2000000 in
theorem read_any (fid C B : Nat) (I : List Nat → World → Prop) (hT : Tells fid C B I) (s : ByteArray) (w : World) (hI : I [] w) (hs : s.size ≤ 100000) :
    Calls Tryd.prog 20 #[.string s, .func (.func fid) #[] #[.pointer (some ⟨C, 0, none⟩)]] w fun e w' => e = .returned (.bool (rd (bytes s)).isSome) ∧ ∃ acc, I acc w' ∧ ∀ b, rd (bytes s) = some b → acc = b := by
  by_cases h4 : s.size % 4 = 0
  · have hrd : rd (bytes s) = fin (rdGo (bytes (trimS (trimS s))) (0, 0, [])) := by
      rw [rd_fin, bytes_length, if_pos h4, bytes_trimS, bytes_trimS]
    have htl : (trimS (trimS s)).size ≤ 100000 := Nat.le_trans (size_trimS _) (Nat.le_trans (size_trimS _) hs)
    have HRD := Sl.mk hrd
    clear hrd
    have HT := Sl.mk hT
    have HI := Sl.mk hI
    clear hT hI
    have h4' : ((s.size : Int) % 4 != 0) = false := by simp; omega
    have HB : Sl (B ≤ w.heap.size) := ⟨HT.out.base _ _ HI.out⟩
    go_enter Tryd.func20, Tryd.ntmps20
    go_wp2_with fail
    refine (trim_any s _ (by omega)).mono ?_
    rintro e w' ⟨rfl, rfl⟩
    go_wp2_with fail
    refine (trim_any (trimS s) _ (by have := size_trimS s; omega)).mono ?_
    rintro e w' ⟨rfl, rfl⟩
    generalize trimS (trimS s) = t at *
    go_wp2
    go_loopw [5, 6] (fun u v wr => ∃ (pos b h : Nat) (acc : List Nat), pos ≤ t.size ∧ u = .int .u32 b ∧ v = .int .i64 h ∧ Held b h ∧ RR I w.heap.size t pos b h acc wr) (fun _ _ wr => t.size - wr.iterPos w.heap.size)
    case atStart => exact ⟨0, 0, 0, [], Nat.zero_le _, rfl, rfl, .inl ⟨rfl, by decide⟩, ⟨HT.out.alloc _ _ _ _ HI.out, World.iter_heap _ _ _, rfl, Nat.le_refl _⟩⟩
    case round =>
      obtain ⟨pos, b, h, acc, hpos, rfl, rfl, hh, hrel⟩ := hrel
      have HR := Sl.mk hrel
      have HH := Sl.mk hh
      have HIP : Sl (wr.iterPos w.heap.size = pos) := ⟨iterPos_of hrel.k⟩
      clear hrel hh
      by_cases hp : pos < t.size
      · have hnx := fun ty => Lib.run_next_any_at (P := Tryd.prog) wr w.heap.size t pos ty HR.out.k hp
        have HI1 : ∀ p, Sl (I acc (wr.iterAt w.heap.size t p)) := fun p => ⟨HT.out.iter _ _ _ _ _ _ HR.out.i HR.out.k HB.out⟩
        have HK1 : ∀ p, Sl ((wr.iterAt w.heap.size t p).heap[w.heap.size]? = some (.stringIter t p)) := fun p => ⟨Lib.iterAt_heap _ _ _ _ _ HR.out.k⟩
        cases hnum : num (t[pos]'hp).toNat with
        | none =>
          have HBAD : Sl (rd (bytes s) = none) := ⟨by rw [HRD.out, split_at t pos hp, rdGo_bad _ hnum]; rfl⟩
          have HNO : Sl (num (Utf8.decode t pos).1 = none) := ⟨by
            by_cases ha : (t[pos]'hp).toNat < 128
            · rw [decode_ascii t pos hp ha]; exact hnum
            · exact num_high (by have := (decode_high t pos hp (by omega)).1; omega)⟩
          have HLE : Sl ((Utf8.decode t pos).1 ≤ 2147483647) := ⟨decode_le t pos⟩
          clear hnum
          generalize (Utf8.decode t pos).1 = r at *
          generalize (Utf8.decode t pos).2 = d at *
          have HI2 := HI1 (pos + d)
          clear HI1 HK1
          go_wp2_with fail
          refine (number_no r _ HLE.out HNO.out).mono ?_
          rintro e w2 ⟨rfl, rfl⟩
          go_wp2
          go_ret
          exact ⟨by rw [HBAD.out]; rfl, acc, HI2.out, fun b hb => by rw [HBAD.out] at hb; cases hb⟩
        | some n =>
          have hn := num_some hnum
          have ha : (t[pos]'hp).toNat < 128 := by rw [← hn.2]; exact letter_lt _ hn.1
          have hn64 := hn.1
          rw [decode_ascii t pos hp ha] at hnx
          simp only at hnx
          have HI2 := HI1 (pos + 1)
          have HK2 := HK1 (pos + 1)
          have HNX : ∀ {w' : World} {b' h' : Nat} {acc' : List Nat}, step (b, h, acc) n = (b', h', acc') → I acc' w' → w'.heap[w.heap.size]? = some (.stringIter t (pos + 1)) → acc'.length ≤ acc.length + 1 → RR I w.heap.size t (pos + 1) b' h' acc' w' := fun h1 h2 h3 h4 => HR.out.next hp hnum h1 h2 h3 h4
          have HNX := Sl.mk @HNX
          have HN := Sl.mk hnum
          have HAL : Sl (acc.length ≤ 200000) := ⟨by have := HR.out.n; omega⟩
          clear HI1 HK1 hn
          generalize (t[pos]'hp).toNat = c at *
          clear hnum
          rcases HH.out with ⟨rfl, hb⟩ | ⟨rfl, hb⟩ | ⟨rfl, hb⟩ | ⟨rfl, hb⟩
          · have hor := or6 b n (by omega) hn64
            obtain ⟨x, hx⟩ : ∃ x, x = b * 64 + n := ⟨_, rfl⟩
            rw [← hx] at hor
            have HX := Sl.mk hx
            have hxl : x < 64 := by omega
            clear hx HH
            go_wp2_with fail
            refine (number_yes c n _ (by omega) HN.out).mono ?_
            rintro e w2 ⟨rfl, rfl⟩
            go_wp2
            go_roundw
            case rel => exact ⟨pos + 1, x, 6, acc, by omega, rfl, rfl, .inr (.inr (.inr ⟨rfl, hxl⟩)), HNX.out (by rw [HX.out]; simp [step]) HI2.out HK2.out (by omega)⟩
            case measure => rw [iterPos_of HK2.out, HIP.out]; omega
          · have hor := or6 b n (by omega) hn64
            obtain ⟨x, hx⟩ : ∃ x, x = b * 64 + n := ⟨_, rfl⟩
            rw [← hx] at hor
            have HX := Sl.mk hx
            have hxl : x < 4096 := by omega
            have hxl2 : x < 256 := by omega
            have hand := and_0 x (by omega)
            clear hx HH
            go_wp2_with fail
            refine (number_yes c n _ (by omega) HN.out).mono ?_
            rintro e w2 ⟨rfl, rfl⟩
            have hcf := HT.out.enter
            go_wp2_with fail
            refine (HT.out.callX acc x _ w.heap.size t (pos + 1) HI2.out hxl2 HAL.out HK2.out).mono ?_
            rintro e w3 ⟨rfl, HI3, HK3⟩
            clear HI2 HK2 hcf
            go_wp2
            go_roundw
            case rel => exact ⟨pos + 1, 0, 0, acc ++ [x], by omega, rfl, rfl, .inl ⟨rfl, by decide⟩, HNX.out (by rw [HX.out]; simp [step]; omega) HI3.out HK3.out (by simp)⟩
            case measure => rw [iterPos_of HK3.out, HIP.out]; omega
          · have hor := or6 b n (by omega) hn64
            obtain ⟨x, hx⟩ : ∃ x, x = b * 64 + n := ⟨_, rfl⟩
            rw [← hx] at hor
            have HX := Sl.mk hx
            have hxl : x < 4096 := by omega
            obtain ⟨q, hq⟩ : ∃ q, q = x / 4 := ⟨_, rfl⟩
            have hq' : (x : Int) / 4 = (q : Int) := by omega
            have hql : q < 256 := by omega
            have HQ := Sl.mk hq
            obtain ⟨y, hy⟩ : ∃ y, y = x % 4 := ⟨_, rfl⟩
            have hand := and_3 x (by omega)
            rw [← hy] at hand
            have hyl : y < 4 := by omega
            have HY := Sl.mk hy
            clear hx hq hy HH
            go_wp2_with fail
            refine (number_yes c n _ (by omega) HN.out).mono ?_
            rintro e w2 ⟨rfl, rfl⟩
            have hcf := HT.out.enter
            go_wp2_with fail
            refine (HT.out.callX acc q _ w.heap.size t (pos + 1) HI2.out hql HAL.out HK2.out).mono ?_
            rintro e w3 ⟨rfl, HI3, HK3⟩
            clear HI2 HK2 hcf
            go_wp2
            go_roundw
            case rel => exact ⟨pos + 1, y, 2, acc ++ [q], by omega, rfl, rfl, .inr (.inl ⟨rfl, hyl⟩), HNX.out (by rw [HQ.out, HY.out, HX.out]; simp [step]) HI3.out HK3.out (by simp)⟩
            case measure => rw [iterPos_of HK3.out, HIP.out]; omega
          · have hor := or6 b n (by omega) hn64
            obtain ⟨x, hx⟩ : ∃ x, x = b * 64 + n := ⟨_, rfl⟩
            rw [← hx] at hor
            have HX := Sl.mk hx
            have hxl : x < 4096 := by omega
            obtain ⟨q, hq⟩ : ∃ q, q = x / 16 := ⟨_, rfl⟩
            have hq' : (x : Int) / 16 = (q : Int) := by omega
            have hql : q < 256 := by omega
            have HQ := Sl.mk hq
            obtain ⟨y, hy⟩ : ∃ y, y = x % 16 := ⟨_, rfl⟩
            have hand := and_15 x (by omega)
            rw [← hy] at hand
            have hyl : y < 16 := by omega
            have HY := Sl.mk hy
            clear hx hq hy HH
            go_wp2_with fail
            refine (number_yes c n _ (by omega) HN.out).mono ?_
            rintro e w2 ⟨rfl, rfl⟩
            have hcf := HT.out.enter
            go_wp2_with fail
            refine (HT.out.callX acc q _ w.heap.size t (pos + 1) HI2.out hql HAL.out HK2.out).mono ?_
            rintro e w3 ⟨rfl, HI3, HK3⟩
            clear HI2 HK2 hcf
            go_wp2
            go_roundw
            case rel => exact ⟨pos + 1, y, 4, acc ++ [q], by omega, rfl, rfl, .inr (.inr (.inl ⟨rfl, hyl⟩)), HNX.out (by rw [HQ.out, HY.out, HX.out]; simp [step]) HI3.out HK3.out (by simp)⟩
            case measure => rw [iterPos_of HK3.out, HIP.out]; omega
      · have hnx := fun ty => Lib.run_next_end_at (P := Tryd.prog) wr w.heap.size t pos ty HR.out.k hp
        have HFI : Sl (rd (bytes s) = fin (some (b, h, acc))) := ⟨by
          rw [HRD.out]
          have := HR.out.r
          rw [List.take_of_length_le (by rw [bytes_length]; omega)] at this
          rw [this]⟩
        have HE : Sl (((b : Int) == 0) = (rd (bytes s)).isSome) := ⟨by
          rw [HFI.out]; unfold fin
          by_cases hb : b = 0
          · simp [hb]
          · simp [hb]⟩
        clear HH
        go_wp2
        go_ret
        refine ⟨ret_bool HE.out, acc, HR.out.i, fun b' hb => ?_⟩
        rw [HFI.out] at hb
        unfold fin at hb
        simp only at hb
        split at hb
        · injection hb
        · cases hb
  · have HRD : Sl (rd (bytes s) = none) := ⟨by rw [rd_fin, bytes_length, if_neg h4]⟩
    have HI := Sl.mk hI
    clear hI hT
    have h4' : ((s.size : Int) % 4 != 0) = true := by simp; omega
    go_enter Tryd.func20, Tryd.ntmps20
    go_wp2
    go_ret
    exact ⟨by rw [HRD.out]; rfl, [], HI.out, fun b hb => by rw [HRD.out] at hb; cases hb⟩
end Go.Proofs.YtdcgddoginaioaaDoor
