/- cut: the document's Frames. -/
import Derived.Test.YtimndpmbgfoofaaDoorCG
set_option maxRecDepth 100000
namespace Go.Proofs.YtimndpmbgfoofaaDoor.Cut
open Go.RowKit MaskPlain Mas Fra Stm CutPlain
open FramePlain (Fr Fr0 form chk ctl zero4)

theorem rframes_no (op : Int) (s : ByteArray) (most : Int) (w : World) (h : (¬ (op = 1 ∨ op = 2) ∨ cntI (s.size : Int) most = 0)) :
    Calls Tryd.prog 13 #[.int .i64 op, .string s, .int .i64 most] w fun e w' => e = .returned (.tuple #[.slice none 0 0, .bool false]) ∧ w = w' := by
  have hc : cntI (s.size : Int) most = 0 → most < 1 ∨ 65536 < most ∨ 1048576 < (s.size : Int) := fun h => by
    by_cases h2 : (s.size : Int) < 0 ∨ 1048576 < (s.size : Int) ∨ most < 1 ∨ 65536 < most
    · omega
    · exfalso
      unfold cntI at h
      rw [if_neg h2] at h
      have := (cnt_enough (size := (s.size : Int).toNat) (most := most.toNat) (by omega)).1
      omega
  by_cases ho : op = 1 ∨ op = 2
  · have h' := hc (by rcases h with h | h; exact absurd ho h; exact h)
    clear h hc
    rcases ho with rfl | rfl
    · by_cases h1 : most < 1
      · have a1 : (most < 1) = True := eq_true h1
        clear h' h1
        go_enter Tryd.func13, Tryd.ntmps13
        go_wp2
        go_ret2
        exact ⟨rfl, rfl⟩
      have a1 : (most < 1) = False := eq_false h1
      by_cases h2 : most > 65536
      · have a2 : (most > 65536) = True := eq_true h2
        clear h' h1 h2
        go_enter Tryd.func13, Tryd.ntmps13
        go_wp2
        go_ret2
        exact ⟨rfl, rfl⟩
      have a2 : (most > 65536) = False := eq_false h2
      have a3 : ((s.size : Int) > 1048576) = True := eq_true (by omega)
      clear h' h1 h2
      go_enter Tryd.func13, Tryd.ntmps13
      go_wp2
      go_ret2
      exact ⟨rfl, rfl⟩
    · by_cases h1 : most < 1
      · have a1 : (most < 1) = True := eq_true h1
        clear h' h1
        go_enter Tryd.func13, Tryd.ntmps13
        go_wp2
        go_ret2
        exact ⟨rfl, rfl⟩
      have a1 : (most < 1) = False := eq_false h1
      by_cases h2 : most > 65536
      · have a2 : (most > 65536) = True := eq_true h2
        clear h' h1 h2
        go_enter Tryd.func13, Tryd.ntmps13
        go_wp2
        go_ret2
        exact ⟨rfl, rfl⟩
      have a2 : (most > 65536) = False := eq_false h2
      have a3 : ((s.size : Int) > 1048576) = True := eq_true (by omega)
      clear h' h1 h2
      go_enter Tryd.func13, Tryd.ntmps13
      go_wp2
      go_ret2
      exact ⟨rfl, rfl⟩
  · have q1 : (op != 1) = true := by simp; omega
    have q2 : (op != 2) = true := by simp; omega
    have q3 : (op == 1) = false := by simp; omega
    have q4 : (op == 2) = false := by simp; omega
    have q5 : (op = 1) = False := eq_false (by omega)
    have q6 : (op = 2) = False := eq_false (by omega)
    clear h hc ho
    go_enter Tryd.func13, Tryd.ntmps13
    go_wp2
    go_ret2
    exact ⟨rfl, rfl⟩
theorem own_none (w : World) (base : Nat) (hb : base ≤ w.heap.size) : OwnR (w.alloc (.cells #[] 44)) base (.slice (some ⟨w.heap.size, 0, none⟩) 0 0) [] :=
  World.ownsRow_made w #[] 0 hb (by unfold maxLen; omega) rfl
def strL (v : Value) : Nat := match v with | .string s => s.size | _ => 0
set_option maxHeartbeats 4000000 in
theorem rframes_yes (op : Int) (s : ByteArray) (m : Nat) (w : World) (ho : op = 1 ∨ op = 2) (hs : s.size ≤ 500000) (hm : 1 ≤ m ∧ m ≤ 65536) :
    Calls Tryd.prog 13 #[.int .i64 op, .string s, .int .i64 (m : Int)] w fun e w' => ∃ a n c, e = .returned (.tuple #[.slice a n c, .bool true]) ∧ n = (frs m op (bytes s)).length ∧ Sl (FrsAt w' (.slice a n c) (frs m op (bytes s))) ∧ Sl (Below w.heap.size w w') := by
  have a1 : ((m : Int) < 1) = False := eq_false (by omega)
  have a2 : ((m : Int) > 65536) = False := eq_false (by omega)
  have a3 : ((s.size : Int) > 1048576) = False := eq_false (by omega)
  have HS := Sl.mk hs
  have HM := Sl.mk hm
  have HLEN : Sl ((frs m op (bytes s)).length ≤ 500001) := ⟨by
    rw [frs_length hm.1 _ op (bytes s) (Nat.le_refl _), bytes_length]
    have := (cnt_enough (size := s.size) hm.1).2.2.2
    omega⟩
  obtain ⟨FS, hFS⟩ : ∃ FS, frs m op (bytes s) = FS := ⟨_, rfl⟩
  have HO : Sl (OwnR (w.alloc (.cells #[] 44)) w.heap.size (.slice (some ⟨w.heap.size, 0, none⟩) 0 0) []) := ⟨own_none w w.heap.size (Nat.le_refl _)⟩
  have HB0 : Sl (Below w.heap.size w (w.alloc (.cells #[] 44))) := ⟨(Below.refl _ _).alloc (Nat.le_refl _) _⟩
  have HFS := Sl.mk hFS
  rw [hFS] at HLEN ⊢
  have hmm : m ≤ 65536 := hm.2
  clear hs hm hFS
  rcases ho with rfl | rfl
  · skip
    go_enter Tryd.func13, Tryd.ntmps13
    go_wp2
    go_loopw [0, 1, 8] (fun o y u wr => ∃ (op1 : Int) (d : ByteArray) (v1 : Value) (gs : List Fr), o = .int .i64 op1 ∧ y = .string d ∧ u = v1 ∧ d.size ≤ 500000 ∧ Sl (OwnR wr w.heap.size v1 gs) ∧ Sl (gs ++ frs m op1 (bytes d) = FS) ∧ Sl (Below w.heap.size w wr)) (fun _ y _ _ => strL y)
    case atStart => exact ⟨1, s, _, [], rfl, rfl, rfl, HS.out, HO, ⟨by rw [List.nil_append]; exact HFS.out⟩, HB0⟩
    case round =>
      obtain ⟨op1, d, v1, gs, rfl, rfl, rfl, hd, HOW, HGS, HB⟩ := hrel
      obtain ⟨a, c, rfl⟩ := HOW.out.slice
      obtain ⟨n, hn⟩ : ∃ n, gs.length = n := ⟨_, rfl⟩
      have HN := Sl.mk hn
      rw [hn] at HOW
      have HNL : Sl (gs.length + (frs m op1 (bytes d)).length ≤ 500001) := ⟨by have := congrArg List.length HGS.out; rw [List.length_append] at this; have := HLEN.out; omega⟩
      (try rw [hn])
      clear hn
      by_cases hlt : d.size > m
      · have hq : ((d.size : Int) > (m : Int)) = True := eq_true (by omega)
        have hle : m ≤ d.size := by omega
        obtain ⟨D, hD⟩ : ∃ D, d.extract 0 m = D := ⟨_, rfl⟩
        obtain ⟨E, hE⟩ : ∃ E, d.extract m d.size = E := ⟨_, rfl⟩
        have HMORE : Sl (frs m op1 (bytes d) = ⟨false, op1, false, zero4, bytes D⟩ :: frs m 0 (bytes E)) := ⟨by
          have e : (bytes d).take d.size = bytes d := List.take_of_length_le (by rw [bytes_length]; exact Nat.le_refl _)
          rw [frs_more HM.out.1 (by rw [bytes_length]; omega), ← hD, ← hE, bytes_extract, bytes_extract, List.drop_zero, e]⟩
        have HES : Sl (E.size = d.size - m ∧ 1 ≤ m) := ⟨by rw [← hE, ByteArray.size_extract]; omega, HM.out.1⟩
        have hsl : ∀ V, (Instr.slice 9 (.string d) none (some (.int .i64 (m : Int))) none).run Tryd.prog V = .ok (.string D) V := fun V => by
          rw [← hD]
          have := run_slice_string_h (P := Tryd.prog) V 9 d Tryd.underlying9 .i64 (m : Int) (by omega) (by omega)
          simpa using this
        have hsl2 : ∀ V, (Instr.slice 9 (.string d) (some (.int .i64 (m : Int))) none none).run Tryd.prog V = .ok (.string E) V := fun V => by
          rw [← hE]
          have := run_slice_string_l (P := Tryd.prog) V 9 d Tryd.underlying9 .i64 (m : Int) (by omega) (by omega)
          simpa using this
        clear hD hE
        obtain ⟨V1, hV1⟩ : ∃ V, wr.alloc (.cells #[.bool false, .int .i64 op1, .bool false, .int .u8 0, .int .u8 0, .int .u8 0, .int .u8 0, .string D] 44) = V := ⟨_, rfl⟩
        have HBV : Sl (Below wr.heap.size wr V1) := ⟨by rw [← hV1]; exact (Below.refl _ _).alloc (Nat.le_refl _) _⟩
        have HFV : Sl (FrsAt V1 (.slice (some ⟨wr.heap.size, 0, none⟩) 1 1) [⟨false, op1, false, zero4, bytes D⟩]) := ⟨by
          rw [← hV1]
          exact frs_one (alloc_new wr _ _ rfl) (by show _ = #[Value.bool false, .int .i64 op1, .bool false, .int .u8 0, .int .u8 0, .int .u8 0, .int .u8 0, .string (strOf (bytes D))]; rw [strOf_bytes])⟩
        have HOV : Sl (OwnR V1 w.heap.size (.slice a n c) gs) := ⟨HOW.out.below HBV.out⟩
        have HBW : Sl (Below w.heap.size w V1) := ⟨HB.out.trans (HBV.out.mono HB.out.size)⟩
        have HFL : Sl (gs.length + [(⟨false, op1, false, zero4, bytes D⟩ : Fr)].length ≤ 1000000) := ⟨by have := HNL.out; show gs.length + 1 ≤ _; omega⟩
        have HGS2 : Sl ((gs ++ [(⟨false, op1, false, zero4, bytes D⟩ : Fr)]) ++ frs m 0 (bytes E) = FS) := ⟨by rw [List.append_assoc, ← HGS.out, HMORE.out]; rfl⟩
        go_upto_region 6 with (at_builtin; (try rw [hV1]); refine app_frs rfl (.tmp 33) (.tmp 39) rfl rfl w.heap.size (.slice a n c) (.slice (some ⟨wr.heap.size, 0, none⟩) 1 1) gs [⟨false, op1, false, zero4, bytes D⟩] rfl HOV.out rfl HFV.out HFL.out HBW.out.size ?_)
        intro v2 w7 HO7 HG7
        have HB7 : Sl (Below w.heap.size w w7) := ⟨HOV.out.keeps HBW.out HG7.out (Nat.le_refl _) HBW.out.size⟩
        clear HG7 HOV HFV HBV HBW hV1 HOW HB
        go_wp2_with fail
        go_still (by kernel_rfl)

        change Exit.inBlock _ _ Exit.normal _ w7.drew
        have HO8 : Sl (OwnR w7.drew w.heap.size v2 (gs ++ [⟨false, op1, false, zero4, bytes D⟩])) := ⟨HO7.out.below (Below.refl _ _).drew⟩
        have HB8 : Sl (Below w.heap.size w w7.drew) := ⟨HB7.out.drew⟩
        obtain ⟨R, hR⟩ : ∃ R, w7.drew = R := ⟨_, rfl⟩
        rw [hR] at HO8 HB8 ⊢
        clear hR HO7 HB7
        go_wp2
        exact ⟨⟨0, E, v2, _, rfl, rfl, rfl, by have := HES.out; omega, HO8, HGS2, HB8⟩, by have := HES.out; simp [strL]; omega⟩
      · have hq : ((d.size : Int) > (m : Int)) = False := eq_false (by omega)
        have HLAST : Sl (frs m op1 (bytes d) = [⟨true, op1, false, zero4, bytes d⟩]) := ⟨frs_last (by rw [bytes_length]; omega)⟩
        obtain ⟨V1, hV1⟩ : ∃ V, wr.alloc (.cells #[.bool true, .int .i64 op1, .bool false, .int .u8 0, .int .u8 0, .int .u8 0, .int .u8 0, .string d] 44) = V := ⟨_, rfl⟩
        have HBV : Sl (Below wr.heap.size wr V1) := ⟨by rw [← hV1]; exact (Below.refl _ _).alloc (Nat.le_refl _) _⟩
        have HFV : Sl (FrsAt V1 (.slice (some ⟨wr.heap.size, 0, none⟩) 1 1) [⟨true, op1, false, zero4, bytes d⟩]) := ⟨by
          rw [← hV1]
          exact frs_one (alloc_new wr _ _ rfl) (by show _ = #[Value.bool true, .int .i64 op1, .bool false, .int .u8 0, .int .u8 0, .int .u8 0, .int .u8 0, .string (strOf (bytes d))]; rw [strOf_bytes])⟩
        have HOV : Sl (OwnR V1 w.heap.size (.slice a n c) gs) := ⟨HOW.out.below HBV.out⟩
        have HBW : Sl (Below w.heap.size w V1) := ⟨HB.out.trans (HBV.out.mono HB.out.size)⟩
        have HFL : Sl (gs.length + [(⟨true, op1, false, zero4, bytes d⟩ : Fr)].length ≤ 1000000) := ⟨by have := HNL.out; rw [HLAST.out] at this; show gs.length + 1 ≤ _; simp at this; omega⟩
        have HGS2 : Sl (gs ++ [(⟨true, op1, false, zero4, bytes d⟩ : Fr)] = FS) := ⟨by rw [← HGS.out, HLAST.out]⟩
        go_wp2_with (at_builtin; (try rw [hV1]); refine app_frs rfl (.tmp 44) (.tmp 48) rfl rfl w.heap.size (.slice a n c) (.slice (some ⟨wr.heap.size, 0, none⟩) 1 1) gs [⟨true, op1, false, zero4, bytes d⟩] rfl HOV.out rfl HFV.out HFL.out HBW.out.size ?_)
        intro v2 w7 HO7 HG7
        have HB7 : Sl (Below w.heap.size w w7) := ⟨HOV.out.keeps HBW.out HG7.out (Nat.le_refl _) HBW.out.size⟩
        rw [HGS2.out] at HO7
        obtain ⟨a2, c2, rfl⟩ := HO7.out.slice
        obtain ⟨n2, hn2⟩ : ∃ n, FS.length = n := ⟨_, rfl⟩
        rw [hn2] at HO7 ⊢
        clear HG7 HOV HFV HBV HBW hV1 HOW HB
        go_wp2
        go_ret2
        exact ⟨a2, n2, c2, rfl, hn2.symm, ⟨HO7.out.frs⟩, HB7⟩
  · skip
    go_enter Tryd.func13, Tryd.ntmps13
    go_wp2
    go_loopw [0, 1, 8] (fun o y u wr => ∃ (op1 : Int) (d : ByteArray) (v1 : Value) (gs : List Fr), o = .int .i64 op1 ∧ y = .string d ∧ u = v1 ∧ d.size ≤ 500000 ∧ Sl (OwnR wr w.heap.size v1 gs) ∧ Sl (gs ++ frs m op1 (bytes d) = FS) ∧ Sl (Below w.heap.size w wr)) (fun _ y _ _ => strL y)
    case atStart => exact ⟨2, s, _, [], rfl, rfl, rfl, HS.out, HO, ⟨by rw [List.nil_append]; exact HFS.out⟩, HB0⟩
    case round =>
      obtain ⟨op1, d, v1, gs, rfl, rfl, rfl, hd, HOW, HGS, HB⟩ := hrel
      obtain ⟨a, c, rfl⟩ := HOW.out.slice
      obtain ⟨n, hn⟩ : ∃ n, gs.length = n := ⟨_, rfl⟩
      have HN := Sl.mk hn
      rw [hn] at HOW
      have HNL : Sl (gs.length + (frs m op1 (bytes d)).length ≤ 500001) := ⟨by have := congrArg List.length HGS.out; rw [List.length_append] at this; have := HLEN.out; omega⟩
      (try rw [hn])
      clear hn
      by_cases hlt : d.size > m
      · have hq : ((d.size : Int) > (m : Int)) = True := eq_true (by omega)
        have hle : m ≤ d.size := by omega
        obtain ⟨D, hD⟩ : ∃ D, d.extract 0 m = D := ⟨_, rfl⟩
        obtain ⟨E, hE⟩ : ∃ E, d.extract m d.size = E := ⟨_, rfl⟩
        have HMORE : Sl (frs m op1 (bytes d) = ⟨false, op1, false, zero4, bytes D⟩ :: frs m 0 (bytes E)) := ⟨by
          have e : (bytes d).take d.size = bytes d := List.take_of_length_le (by rw [bytes_length]; exact Nat.le_refl _)
          rw [frs_more HM.out.1 (by rw [bytes_length]; omega), ← hD, ← hE, bytes_extract, bytes_extract, List.drop_zero, e]⟩
        have HES : Sl (E.size = d.size - m ∧ 1 ≤ m) := ⟨by rw [← hE, ByteArray.size_extract]; omega, HM.out.1⟩
        have hsl : ∀ V, (Instr.slice 9 (.string d) none (some (.int .i64 (m : Int))) none).run Tryd.prog V = .ok (.string D) V := fun V => by
          rw [← hD]
          have := run_slice_string_h (P := Tryd.prog) V 9 d Tryd.underlying9 .i64 (m : Int) (by omega) (by omega)
          simpa using this
        have hsl2 : ∀ V, (Instr.slice 9 (.string d) (some (.int .i64 (m : Int))) none none).run Tryd.prog V = .ok (.string E) V := fun V => by
          rw [← hE]
          have := run_slice_string_l (P := Tryd.prog) V 9 d Tryd.underlying9 .i64 (m : Int) (by omega) (by omega)
          simpa using this
        clear hD hE
        obtain ⟨V1, hV1⟩ : ∃ V, wr.alloc (.cells #[.bool false, .int .i64 op1, .bool false, .int .u8 0, .int .u8 0, .int .u8 0, .int .u8 0, .string D] 44) = V := ⟨_, rfl⟩
        have HBV : Sl (Below wr.heap.size wr V1) := ⟨by rw [← hV1]; exact (Below.refl _ _).alloc (Nat.le_refl _) _⟩
        have HFV : Sl (FrsAt V1 (.slice (some ⟨wr.heap.size, 0, none⟩) 1 1) [⟨false, op1, false, zero4, bytes D⟩]) := ⟨by
          rw [← hV1]
          exact frs_one (alloc_new wr _ _ rfl) (by show _ = #[Value.bool false, .int .i64 op1, .bool false, .int .u8 0, .int .u8 0, .int .u8 0, .int .u8 0, .string (strOf (bytes D))]; rw [strOf_bytes])⟩
        have HOV : Sl (OwnR V1 w.heap.size (.slice a n c) gs) := ⟨HOW.out.below HBV.out⟩
        have HBW : Sl (Below w.heap.size w V1) := ⟨HB.out.trans (HBV.out.mono HB.out.size)⟩
        have HFL : Sl (gs.length + [(⟨false, op1, false, zero4, bytes D⟩ : Fr)].length ≤ 1000000) := ⟨by have := HNL.out; show gs.length + 1 ≤ _; omega⟩
        have HGS2 : Sl ((gs ++ [(⟨false, op1, false, zero4, bytes D⟩ : Fr)]) ++ frs m 0 (bytes E) = FS) := ⟨by rw [List.append_assoc, ← HGS.out, HMORE.out]; rfl⟩
        go_upto_region 6 with (at_builtin; (try rw [hV1]); refine app_frs rfl (.tmp 33) (.tmp 39) rfl rfl w.heap.size (.slice a n c) (.slice (some ⟨wr.heap.size, 0, none⟩) 1 1) gs [⟨false, op1, false, zero4, bytes D⟩] rfl HOV.out rfl HFV.out HFL.out HBW.out.size ?_)
        intro v2 w7 HO7 HG7
        have HB7 : Sl (Below w.heap.size w w7) := ⟨HOV.out.keeps HBW.out HG7.out (Nat.le_refl _) HBW.out.size⟩
        clear HG7 HOV HFV HBV HBW hV1 HOW HB
        go_wp2_with fail
        go_still (by kernel_rfl)

        change Exit.inBlock _ _ Exit.normal _ w7.drew
        have HO8 : Sl (OwnR w7.drew w.heap.size v2 (gs ++ [⟨false, op1, false, zero4, bytes D⟩])) := ⟨HO7.out.below (Below.refl _ _).drew⟩
        have HB8 : Sl (Below w.heap.size w w7.drew) := ⟨HB7.out.drew⟩
        obtain ⟨R, hR⟩ : ∃ R, w7.drew = R := ⟨_, rfl⟩
        rw [hR] at HO8 HB8 ⊢
        clear hR HO7 HB7
        go_wp2
        exact ⟨⟨0, E, v2, _, rfl, rfl, rfl, by have := HES.out; omega, HO8, HGS2, HB8⟩, by have := HES.out; simp [strL]; omega⟩
      · have hq : ((d.size : Int) > (m : Int)) = False := eq_false (by omega)
        have HLAST : Sl (frs m op1 (bytes d) = [⟨true, op1, false, zero4, bytes d⟩]) := ⟨frs_last (by rw [bytes_length]; omega)⟩
        obtain ⟨V1, hV1⟩ : ∃ V, wr.alloc (.cells #[.bool true, .int .i64 op1, .bool false, .int .u8 0, .int .u8 0, .int .u8 0, .int .u8 0, .string d] 44) = V := ⟨_, rfl⟩
        have HBV : Sl (Below wr.heap.size wr V1) := ⟨by rw [← hV1]; exact (Below.refl _ _).alloc (Nat.le_refl _) _⟩
        have HFV : Sl (FrsAt V1 (.slice (some ⟨wr.heap.size, 0, none⟩) 1 1) [⟨true, op1, false, zero4, bytes d⟩]) := ⟨by
          rw [← hV1]
          exact frs_one (alloc_new wr _ _ rfl) (by show _ = #[Value.bool true, .int .i64 op1, .bool false, .int .u8 0, .int .u8 0, .int .u8 0, .int .u8 0, .string (strOf (bytes d))]; rw [strOf_bytes])⟩
        have HOV : Sl (OwnR V1 w.heap.size (.slice a n c) gs) := ⟨HOW.out.below HBV.out⟩
        have HBW : Sl (Below w.heap.size w V1) := ⟨HB.out.trans (HBV.out.mono HB.out.size)⟩
        have HFL : Sl (gs.length + [(⟨true, op1, false, zero4, bytes d⟩ : Fr)].length ≤ 1000000) := ⟨by have := HNL.out; rw [HLAST.out] at this; show gs.length + 1 ≤ _; simp at this; omega⟩
        have HGS2 : Sl (gs ++ [(⟨true, op1, false, zero4, bytes d⟩ : Fr)] = FS) := ⟨by rw [← HGS.out, HLAST.out]⟩
        go_wp2_with (at_builtin; (try rw [hV1]); refine app_frs rfl (.tmp 44) (.tmp 48) rfl rfl w.heap.size (.slice a n c) (.slice (some ⟨wr.heap.size, 0, none⟩) 1 1) gs [⟨true, op1, false, zero4, bytes d⟩] rfl HOV.out rfl HFV.out HFL.out HBW.out.size ?_)
        intro v2 w7 HO7 HG7
        have HB7 : Sl (Below w.heap.size w w7) := ⟨HOV.out.keeps HBW.out HG7.out (Nat.le_refl _) HBW.out.size⟩
        rw [HGS2.out] at HO7
        obtain ⟨a2, c2, rfl⟩ := HO7.out.slice
        obtain ⟨n2, hn2⟩ : ∃ n, FS.length = n := ⟨_, rfl⟩
        rw [hn2] at HO7 ⊢
        clear HG7 HOV HFV HBV HBW hV1 HOW HB
        go_wp2
        go_ret2
        exact ⟨a2, n2, c2, rfl, hn2.symm, ⟨HO7.out.frs⟩, HB7⟩
end Go.Proofs.YtimndpmbgfoofaaDoor.Cut
