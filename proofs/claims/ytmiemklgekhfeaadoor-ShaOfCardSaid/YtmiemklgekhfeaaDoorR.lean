/- The document's answer, bits as lists: the contracts of word and number. -/
import Derived.Test.YtmiemklgekhfeaaDoorM
namespace Go.Proofs.YtmiemklgekhfeaaDoor
open Go.RowKit

def vi (n : Nat) : Value := .int .i64 (n : Int)
def ints (l : List Nat) : List Value := l.map vi
theorem ints_length (l : List Nat) : (ints l).length = l.length := by simp [ints]
theorem ints_get (l : List Nat) (i : Nat) (h : i < l.length) : (ints l)[i]? = some (.int .i64 ((l.getD i 0 : Nat) : Int)) := by simp [ints, vi, List.getElem?_eq_getElem h]
/-- The first k of a number's 32 bits, the highest first. -/
def bitsTo (n : Nat) : Nat → List Nat
  | 0 => []
  | k + 1 => bitsTo n k ++ [n / 2 ^ (31 - k) % 2]
theorem bitsTo_length (n : Nat) : ∀ k, (bitsTo n k).length = k
  | 0 => rfl
  | k + 1 => by simp [bitsTo, bitsTo_length n k]
/-- The slice v holds the 32 bits of n. -/
def Bits (W : World) (v : Value) (n : Nat) : Prop := ∃ g c, v = .slice (some ⟨g, 0, none⟩) 32 c ∧ 32 ≤ c ∧ g < W.heap.size ∧ W.rangeAt g 0 (ints (bitsTo n 32))
theorem Bits.below {W W' : World} {v : Value} {n : Nat} (h : Bits W v n) (hb : Below W.heap.size W W') : Bits W' v n := by
  obtain ⟨g, c, h1, h2, h3, h4⟩ := h
  exact ⟨g, c, h1, h2, Nat.lt_of_lt_of_le h3 hb.size, fun j u hu => by rw [hb.cell (p := ⟨g, 0 + j, none⟩) h3]; exact h4 j u hu⟩
theorem info3 : (Tryd.prog.info? 3).map (fun i => (i.zero, i.size, i.bytes)) = some (some (.int .i64 0), 1, 8) := by kernel_rfl
theorem bits_of_owns {W : World} {v : Value} {base n : Nat} (h : W.ownsRow base 3 1 v 32 (ints (bitsTo n 32))) : Bits W v n := by
  obtain ⟨h1, h2⟩ := h
  rcases h2 with ⟨_, h2⟩ | ⟨g, cap, cur, rfl, hg, hh, hn, hm, hs, ht⟩
  · exact absurd h2 (by decide)
  · refine ⟨g, cap, rfl, hn, (Array.getElem?_eq_some_iff.1 hh).1, fun j u hu => ?_⟩
    rw [Nat.zero_add, cell_of_row _ _ _ _ _ _ hh, ← hu, ← ht]
    have hj : j < 32 := by simpa [ints_length, bitsTo_length] using (List.getElem?_eq_some_iff.1 hu).1
    simp [hj]
theorem below_grown {base : Nat} {w0 W w' : World} {v : Value} {n : Nat} {xs : List Value} (hb : Below base w0 W) (hown : W.ownsRow base 3 1 v n xs) (hg : W.grownBy w' v.ownBlock) (hbase : base ≤ W.heap.size) : Below base w0 w' :=
  hb.grown hg hbase (fun k hk => (hown.lt k hk).1)
theorem owns_empty (w : World) : (w.alloc (.cells #[] 3)).ownsRow w.heap.size 3 1 (.slice (some ⟨w.heap.size, 0, none⟩) 0 0) 0 [] :=
  ⟨rfl, .inr ⟨w.heap.size, 0, #[], rfl, Nat.le_refl _, alloc_new _ _ _ rfl, Nat.le_refl _, Nat.zero_le _, rfl, rfl⟩⟩

set_option maxHeartbeats 400000 in
theorem word_any (n : Nat) (w : World) (hn : n < 4294967296) :
    Calls Tryd.prog 18 #[.int .u64 n] w fun e w' => ∃ v, e = .returned v ∧ Bits w' v n ∧ Below w.heap.size w w' := by
  obtain ⟨i0, hi, hz0, hz1, hz2⟩ := info_parts info3
  have HI := Sl.mk hi
  have HZ0 := Sl.mk hz0
  have HZ1 := Sl.mk hz1
  have HZ2 := Sl.mk hz2
  clear hi hz0 hz1 hz2
  go_enter Tryd.func18, Tryd.ntmps18
  go_wp2
  go_loopw [3, 4] (fun v i wr => ∃ k : Nat, k ≤ 32 ∧ i = .int .i64 (31 - (k : Int)) ∧ wr.ownsRow w.heap.size 3 1 v k (ints (bitsTo n k)) ∧ Below w.heap.size w wr) (fun _ i _ => (intOf i + 1).toNat)
  case atStart => exact ⟨0, by omega, rfl, owns_empty w, (Below.refl _ _).alloc (Nat.le_refl _) _⟩
  case round =>
    obtain ⟨k, hk, rfl, hown, hb⟩ := hrel
    have HO := Sl.mk hown
    have HB := Sl.mk hb
    clear hown hb
    by_cases hlt : k < 32
    · have e0 : (31 - (k : Int)).toNat = 31 - k := by omega
      have p0 : (0 : Int) ≤ 31 - (k : Int) := by omega
      obtain ⟨q, hq⟩ : ∃ q : Nat, q = n / 2 ^ (31 - k) := ⟨_, rfl⟩
      have hq' : (n : Int) / 2 ^ (31 - k) = (q : Int) := by rw [hq]; simp
      have hql : q < 4294967296 := by rw [hq]; exact Nat.lt_of_le_of_lt (Nat.div_le_self _ _) hn
      have HQ := Sl.mk hq
      clear hq
      have cn := World.cell?_alloc_at (w := wr) #[.int .i64 ((q : Int) % 2)] 3 wr.heap.size 0 rfl
      go_wp2_with (at_builtin; refine wpList_append_own _ rfl (.tmp 10) (.tmp 17) 42 rfl w.heap.size 3 i0 (.int .i64 0) 1 8 Tryd.underlying42 HI.out HZ0.out HZ1.out HZ2.out rfl (by decide) _ k _ rfl (HO.out.alloc _) ⟨wr.heap.size, 0, none⟩ 1 1 [.int .i64 ((q : Int) % 2)] rfl rfl ?c1 ?c2 ?c3 ?c4 ?c5 ?_)
      case c1 => intro j u hu; match j, hu with | 0, hu => simpa [Addr.add_mid] using hu
      case c2 => intro u hu; simp at hu; subst hu; rfl
      case c3 => unfold maxLen; omega
      case c4 => omega
      case c5 => rw [alloc_size]; have := HB.out.size; omega
      intro v' w1 hown' hgrow _
      have HO' : Sl (w1.ownsRow w.heap.size 3 1 v' (k + 1) (ints (bitsTo n (k + 1)))) := ⟨by
        have : ints (bitsTo n (k + 1)) = ints (bitsTo n k) ++ [.int .i64 ((q : Int) % 2)] := by simp [ints, bitsTo, vi, HQ.out]
        rw [this]; exact hown'⟩
      have HB' : Sl (Below w.heap.size w w1) := ⟨below_grown (HB.out.alloc HB.out.size _) (HO.out.alloc _) hgrow (by rw [alloc_size]; have := HB.out.size; omega)⟩
      clear hown' hgrow cn HO HB hq'
      go_wp2
      go_roundw
      case rel => exact ⟨k + 1, by omega, by go_num, HO'.out, HB'.out⟩
      case measure => simp [intOf]; omega
    · have hge : 32 ≤ k := by omega
      have HF : Sl (∀ v : Value, wr.ownsRow w.heap.size 3 1 v k (ints (bitsTo n k)) → Bits wr v n) := ⟨fun v h => by
        have e : k = 32 := by omega
        rw [e] at h; exact bits_of_owns h⟩
      go_wp2
      go_ret
      exact ⟨_, rfl, HF.out _ HO.out, HB.out⟩
end Go.Proofs.YtmiemklgekhfeaaDoor
