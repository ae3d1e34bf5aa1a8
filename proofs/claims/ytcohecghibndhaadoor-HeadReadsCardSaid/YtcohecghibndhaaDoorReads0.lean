/- HeadReads, the walk: whatever string comes in, the law's Go text returns true, and nothing that was in memory changes. -/
import Derived.Test.YtcohecghibndhaaDoorY0
namespace Go.Proofs.YtcohecghibndhaaDoor
open Go.RowKit HeadPlain

/-- What Read answers, the head apart. -/
theorem readR_head {w' : World} {s : List Nat} {e : Ending} (h : ReadR w' s e) :
    ∃ (g : HdV) (x : Option Addr) (c : Nat), e = .returned (.tuple #[.agg #[.string g.a, .string g.b, .string g.c, .slice x g.fs.length c], .int .i64 (resN (rd s) : Nat), .int .i64 (resE (rd s) : Nat)]) ∧
      FieldsAt w' (.slice x g.fs.length c) g.fs ∧ g.hd = (match rd s with | .ok hd _ => hd | _ => hZ.hd) := by
  unfold ReadR at h
  cases hr : rd s with
  | more => rw [hr] at h; exact ⟨hZ, none, 0, h, fieldsAt_none _, rfl⟩
  | long => rw [hr] at h; exact ⟨hZ, none, 0, h, fieldsAt_none _, rfl⟩
  | form => rw [hr] at h; exact ⟨hZ, none, 0, h, fieldsAt_none _, rfl⟩
  | ok hd n =>
    rw [hr] at h
    obtain ⟨g, v, h1, h2, h3, h4⟩ := h
    have h5 := h4
    obtain ⟨a, c, _, _, rfl, _⟩ := h5
    exact ⟨g, a, c, h2, h4, h1⟩
theorem readR19_ex (w0 W : World) (s : ByteArray) (hB : Below w0.heap.size w0 W) (hs : s.size ≤ 2500) :
    Calls Tryd.prog 19 #[.string s] W fun e w' => Sl (ReadR w' (bytes s) e) ∧ Sl (Below W.heap.size W w') ∧ Sl (Below w0.heap.size w0 w') :=
  (readR19 s W hs).mono fun _ _ ⟨h1, h2⟩ => ⟨h1, h2, ⟨below_trans hB h2.out⟩⟩
set_option maxHeartbeats 400000 in
theorem reads_long (s : ByteArray) (w : World) (hg : Globs w) (h1 : 2500 < s.size) (hs : s.size ≤ maxLen) :
    Calls Tryd.prog 4 #[.string s] w fun e w' => e = .returned (.bool true) ∧ Below w.heap.size w w' := by
  unfold maxLen at hs
  have HG := Sl.mk hg
  clear hg
  have h1' : (s.size : Int) > 2500 := by omega
  go_enter Tryd.func4, Tryd.ntmps4
  go_wp2_with fail
  refine (awake_ex w _ (Below.refl _ _) HG.out).mono ?_
  rintro e w1 ⟨rfl, HX1, HB1⟩
  go_wp2_with fail
  refine (awake_ex w _ HB1.out HG.out).mono ?_
  rintro e w2 ⟨rfl, HX2, HB2⟩
  go_wp2
  go_ret
  exact ⟨rfl, HB2.out⟩
set_option maxHeartbeats 2000000 in
theorem reads_short (s : ByteArray) (w : World) (hg : Globs w) (h1 : s.size ≤ 2500) :
    Calls Tryd.prog 4 #[.string s] w fun e w' => e = .returned (.bool true) ∧ Below w.heap.size w w' := by
  have HG := Sl.mk hg
  clear hg
  have h1' : ((s.size : Int) > 2500) = False := eq_false (by omega)
  go_enter Tryd.func4, Tryd.ntmps4
  go_wp2_with fail
  refine (awake_ex w _ (Below.refl _ _) HG.out).mono ?_
  rintro e w1 ⟨rfl, HX1, HB1⟩
  obtain ⟨c2, w2, hc2, HS2, HX2⟩ := conv_str s w1
  have HB2 : Sl (Below w.heap.size w w2) := ⟨below_trans HB1.out HX2.out⟩
  have HSM : Sl (Small 256 (bytes s)) := ⟨bytes_small s⟩
  have HLN : Sl ((bytes s).length = s.size) := ⟨bytes_length s⟩
  go_wp2_with fail
  refine (read_ex w _ (bytes s) _ HB2.out HG.out HS2.out.srcS HSM.out (by rw [HLN.out]; omega)).mono ?_
  rintro e w3 ⟨HR3, HX3, HB3⟩
  obtain ⟨g, a, c, rfl, hfd, hgh⟩ := readR_head HR3.out
  have HGH := Sl.mk hgh
  obtain ⟨w4, hw4⟩ : ∃ w4, w3.alloc (.cells #[.string g.a, .string g.b, .string g.c, .slice a g.fs.length c] 25) = w4 := ⟨_, rfl⟩
  have HB4 : Sl (Below w.heap.size w w4) := ⟨by rw [← hw4]; exact HB3.out.alloc HB3.out.size _⟩
  have HX4 : Sl (w4.heap[w3.heap.size]? = some (.cells #[.string g.a, .string g.b, .string g.c, .slice a g.fs.length c] 25 (0, 0))) := ⟨by rw [← hw4]; exact alloc_new _ _ _ rfl⟩
  have HFD : Sl (FieldsAt w4 (.slice a g.fs.length c) g.fs) := ⟨by rw [← hw4]; exact hfd.below ((Below.refl _ _).alloc (Nat.le_refl _) _)⟩
  clear hc2 HS2 HX2 HR3 HX3 HX1 HB2 hfd HB1 HB3 hgh
  obtain ⟨n, hn⟩ : ∃ n, resN (rd (bytes s)) = n := ⟨_, rfl⟩
  obtain ⟨m, hm⟩ : ∃ n, resE (rd (bytes s)) = n := ⟨_, rfl⟩
  rw [hn, hm]
  go_wp2_with fail
  refine (readR19_ex w _ s HB4.out h1).mono ?_
  rintro e w5 ⟨HR5, HX5, HB5⟩
  obtain ⟨k, b, d, rfl, hfd5, hkh⟩ := readR_head HR5.out
  have HAL : Sl (alikeB g k = true) := ⟨alike_iff.2 (by rw [HGH.out, hkh])⟩
  rw [hn, hm]
  have HX6 := Sl.mk (box_below HX4.out HX5.out)
  have HFD6 := Sl.mk (HFD.out.below HX5.out)
  obtain ⟨w7, hw7⟩ : ∃ w7, w5.alloc (.cells #[.string k.a, .string k.b, .string k.c, .slice b k.fs.length d] 25) = w7 := ⟨_, rfl⟩
  have HBA : Sl (Below w5.heap.size w5 w7) := ⟨by rw [← hw7]; exact (Below.refl _ _).alloc (Nat.le_refl _) _⟩
  have HB7 : Sl (Below w.heap.size w w7) := ⟨below_trans HB5.out HBA.out⟩
  have HY7 : Sl (w7.heap[w5.heap.size]? = some (.cells #[.string k.a, .string k.b, .string k.c, .slice b k.fs.length d] 25 (0, 0))) := ⟨by rw [← hw7]; exact alloc_new _ _ _ rfl⟩
  have HX7 := Sl.mk (box_below HX6.out HBA.out)
  have HFD7 := Sl.mk (HFD6.out.below HBA.out)
  have HFK7 := Sl.mk (hfd5.below HBA.out)
  clear hw4 HX4 HFD HX5 HX6 HFD6 HR5 hkh hfd5 HB4 HB5 hn hm
  obtain ⟨p0, p1, p2, p3⟩ := head_cells HX7.out
  obtain ⟨q0, q1, q2, q3⟩ := head_cells HY7.out
  have e1 : ((n : Int) == (n : Int)) = true := by simp
  have e2 : ((m : Int) == (m : Int)) = true := by simp
  go_wp2_with fail
  refine (alike_ex w _ g k _ _ true HAL.out HB7.out HFD7.out HFK7.out).mono ?_
  rintro e w8 ⟨rfl, HX8, HB8⟩
  go_wp2
  go_ret
  exact ⟨rfl, HB8.out⟩
theorem reads_walk (s : ByteArray) (w : World) (hg : Globs w) (hs : s.size ≤ maxLen) :
    Calls Tryd.prog 4 #[.string s] w fun e w' => e = .returned (.bool true) ∧ Below w.heap.size w w' := by
  by_cases h : s.size ≤ 2500
  · exact reads_short s w hg h
  · exact reads_long s w hg (by omega) hs
end Go.Proofs.YtcohecghibndhaaDoor
