/- cut: a frame's bytes with a mask and without; one frame out of a slice. -/
import Derived.Test.YtimndpmbgfoofaaDoorCK
set_option maxRecDepth 100000
namespace Go.Proofs.YtimndpmbgfoofaaDoor.Cut
open Go.RowKit MaskPlain Mas Fra Stm CutPlain
open FramePlain (Fr Fr0 form chk ctl zero4 text lenB byte0)

theorem lenB_parts (n : Nat) (h : n ≤ 1000000) : ∃ l Lr, lenB n = l :: Lr ∧ l < 128 := by
  unfold FramePlain.lenB
  by_cases h1 : n < 126
  · rw [put_low n h1]; exact ⟨n, [], rfl, by omega⟩
  · by_cases h2 : n ≤ 65535
    · rw [put_mid n h1 h2]; exact ⟨126, _, rfl, by omega⟩
    · rw [put_high n h2 (by omega)]; exact ⟨127, _, rfl, by omega⟩
/-- With a mask and without, a frame's bytes part by part. -/
theorem mask_parts (fin : Bool) (op : Int) (key data : List Nat) (h : data.length ≤ 1000000) : ∃ b0 l Lr, l < 128 ∧ text ⟨fin, op, false, zero4, data⟩ = b0 :: l :: (Lr ++ data) ∧ text ⟨fin, op, true, key, data⟩ = b0 :: (l + 128) :: (Lr ++ (key ++ turn key 0 data)) := by
  obtain ⟨l, Lr, hL, hl⟩ := lenB_parts data.length h
  refine ⟨byte0 ⟨fin, op, false, zero4, data⟩, l, Lr, hl, ?_, ?_⟩
  · have h1 := text_bare ⟨fin, op, false, zero4, data⟩ (b0 := byte0 ⟨fin, op, false, zero4, data⟩) (L := l :: Lr) rfl rfl hL
    rw [h1]; rfl
  · have h1 := text_mask ⟨fin, op, true, key, data⟩ (b0 := byte0 ⟨fin, op, false, zero4, data⟩) (L := l :: Lr) l rfl rfl hL rfl (by simp)
    rw [h1]
    simp [tb]
theorem chk_masked (fin : Bool) (op : Int) (key data : List Nat) : chk ⟨fin, op, true, key, data⟩ = chk ⟨fin, op, false, zero4, data⟩ := by
  unfold FramePlain.chk FramePlain.form
  simp
theorem bytesF_one (f : Fr) : bytesF [f] = if chk f ≠ 0 then ([], chk f) else (text f, 0) := by
  unfold bytesF
  split
  · rfl
  · simp [bytesF]
theorem fslice_one (V : World) (sb so n cap k : Nat) (hk : k < n) (hc : n ≤ cap) : (Instr.slice 23 (.slice (some ⟨sb, so, none⟩) n cap) (some (.int .i64 (k : Int))) (some (.int .i64 ((k : Int) + 1))) none).run Tryd.prog V = .ok (.slice (some ⟨sb, so + k * 8, none⟩) 1 (cap - k)) V := by
  rw [run_slice_lh (ht := Tryd.underlying23) (h0 := by omega) (h1 := by omega) (h2 := by omega), show Tryd.prog.elem 23 = 44 from rfl, size44]
  have e1 : ((k : Int) + 1).toNat = k + 1 := by omega
  have e2 : ¬ cap = k := by omega
  simp [Result.andThen, sliced, Addr.add, e1, e2]
theorem frs_at {W : World} {sb so n cap k : Nat} {fs : List Fr} (h : FrsAt W (.slice (some ⟨sb, so, none⟩) n cap) fs) (hk : k < n) : FrsAt W (.slice (some ⟨sb, so + k * 8, none⟩) 1 (cap - k)) [fs.getD k Fr0] := by
  obtain ⟨a', c', sb', so', he, h1, h2, h3⟩ := h
  injection he with e1 e2 e3
  have hp := h2 (by omega)
  rw [← e1] at hp
  injection hp with hp
  injection hp with hp1 hp2
  subst hp1 hp2 e3
  refine ⟨_, _, sb, so + k * 8, rfl, by show 1 ≤ cap - k; omega, fun _ => rfl, fun i hi j hj => ?_⟩
  obtain rfl : i = 0 := by simpa using hi
  rw [Nat.zero_mul, Nat.add_zero]
  exact h3 k (by omega) j hj
theorem own_addr {W : World} {base n : Nat} {a : Option Addr} {c : Nat} {B : List Nat} (h : W.ownsRow base 5 1 (.slice a n c) n (u8s B)) (hn : B.length = n) (hp : 0 < n) : ∃ g, a = some ⟨g, 0, none⟩ ∧ n ≤ c ∧ SrcAt W (.slice (some ⟨g, 0, none⟩) n c) B := by
  subst hn
  obtain ⟨g, cap, he, h1, hs⟩ := own_src h hp
  injection he with e1 e2 e3
  subst e1 e3
  refine ⟨g, rfl, ?_, hs⟩
  obtain ⟨_, _, _, _, he, hc, _⟩ := hs
  injection he with _ _ e3
  omega
theorem src_cell {W : World} {g n c : Nat} {B : List Nat} (h : SrcAt W (.slice (some ⟨g, 0, none⟩) n c) B) (i : Nat) (hi : i < B.length) : W.cell? ⟨g, i, none⟩ = some (.int .u8 ((B.getD i 0 : Nat) : Int)) := by
  obtain ⟨a, c', sb, so, he, h1, h2, h3⟩ := h
  injection he with e1 e2 e3
  have hp := h2 (by omega)
  rw [← e1] at hp
  injection hp with hp
  injection hp with hp1 hp2
  subst hp1 hp2
  have := h3 i hi
  rw [Nat.zero_add] at this
  exact this
/-- The string of a part of bytes. -/
theorem sub_conv {W : World} {g n c i k c' of : Nat} {B : List Nat} {T : ByteArray} (h : SrcAt W (.slice (some ⟨g, 0, none⟩) n c) B) (hn : B.length = n) (hof : (if c = i then 0 else 0 + i) = of) (hk : i + k ≤ n) (hc : k ≤ c') (hT : strOf ((B.drop i).take k) = T) : (convert 36 9 (.slice (some ⟨g, of, none⟩) k c')).run Tryd.prog W = .ok (.string T) W := by
  subst hT
  have hof2 : 0 < k → 0 + i = of := fun hp => by
    rw [← hof, if_neg]
    obtain ⟨_, _, _, _, he, h1, _⟩ := h
    injection he with _ _ e3
    omega
  exact SrcAt.conv (src_sub h i k c' of hof2 hk hc hn)
end Go.Proofs.YtimndpmbgfoofaaDoor.Cut
