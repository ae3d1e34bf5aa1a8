/- mask: the contracts in the form in which they are used; arrays compared; awake. -/
import Derived.Test.YtleekkjaoccjlaaDoorE
import Derived.Stop.BytesEq
set_option maxRecDepth 100000
namespace Go.Proofs.YtleekkjaoccjlaaDoor
open Go.RowKit MaskPlain

theorem u8s_cells (l : List Nat) (h : Small 256 l) : u8s l = (l.map UInt8.ofNat).map Extern.Stop.cell := by
  simp only [u8s, List.map_map]
  refine List.map_congr_left (fun x hx => ?_)
  have hx' := h x hx
  simp only [v8, Function.comp_def, Extern.Stop.cell]
  congr 1
  rw [UInt8.toNat_ofNat_of_lt' hx']
  rfl
theorem ofNat_inj {a b : List Nat} (ha : Small 256 a) (hb : Small 256 b) : (a.map UInt8.ofNat = b.map UInt8.ofNat) ↔ a = b := by
  refine ⟨fun h => ?_, fun h => by rw [h]⟩
  have h2 := congrArg (List.map UInt8.toNat) h
  have key : ∀ l : List Nat, Small 256 l → (l.map UInt8.ofNat).map UInt8.toNat = l := fun l hl => by
    rw [List.map_map]
    conv => rhs; rw [← List.map_id l]
    exact List.map_congr_left fun x hx => UInt8.toNat_ofNat_of_lt' (hl x hx)
  rwa [key a ha, key b hb] at h2
/-- Two masks compared. -/
theorem eq_keys (a b : List Nat) (ha : a.length = 4) (hb : b.length = 4) (sa : Small 256 a) (sb : Small 256 b) (W : World) :
    (Op.equalIn 10000 22 (.agg (u8s a).toArray) (.agg (u8s b).toArray)).run Tryd.prog W = .ok (decide (a = b)) W := by
  rw [u8s_cells a sa, u8s_cells b sb, run_equalIn_bytes W 9998 22 5 4 Tryd.underlying22 Tryd.underlying5 (fun w => by kernel_rfl) _ _ (by simp [ha]) (by simp [hb])]
  congr 1
  rw [Bool.eq_iff_iff]
  simp only [beq_iff_eq, decide_eq_true_eq]
  exact ofNat_inj sa sb
theorem put_yes (n : Nat) (s : List Nat) (w : World) (hg : Globs w) (h : putL n = some s) :
    Calls Tryd.prog 13 #[.int .u64 n] w fun e w' => ∃ g cap, e = .returned (.tuple #[.slice (some ⟨g, 0, none⟩) s.length cap, .int .i64 0]) ∧ Sl (SrcAt w' (.slice (some ⟨g, 0, none⟩) s.length cap) s) ∧ Sl (Below w.heap.size w w') :=
  (put_any n w hg).mono fun _ _ hr => by
    cases hr with
    | yes s' g cap w' h' hs hg hb =>
      rw [h] at h'
      injection h' with h'
      subst h'
      exact ⟨g, cap, rfl, hs, hb⟩
    | no w' h' hb => rw [h] at h'; cases h'
theorem put_no (n : Nat) (w : World) (hg : Globs w) (h : putL n = none) :
    Calls Tryd.prog 13 #[.int .u64 n] w fun e w' => e = .returned (.tuple #[.slice none 0 0, .int .i64 81]) ∧ Sl (Below w.heap.size w w') :=
  (put_any n w hg).mono fun _ _ hr => by
    cases hr with
    | yes s' g cap w' h' hs hg hb => rw [h] at h'; cases h'
    | no w' h' hb => exact ⟨rfl, hb⟩
theorem get_ex (v : Value) (bs : List Nat) (n k e : Nat) (w : World) (hg : Globs w) (hv : SrcAt w v bs) (hsm : Small 256 bs) (hm : bs.length ≤ 1000000) (h : getL bs = (n, k, e)) :
    Calls Tryd.prog 15 #[v] w fun x w' => x = .returned (.tuple #[.int .u64 (n : Int), .int .i64 (k : Int), .int .i64 (e : Int)]) ∧ Sl (Below w.heap.size w w') :=
  (get_any v bs w hg hv hsm hm).mono fun _ _ ⟨hx, hb⟩ => ⟨by rw [hx, h]; rfl, hb⟩
theorem key_ex (n : Nat) (l : List Nat) (w : World) (hn : n < 4294967296) (h : be n 4 = l) : Calls Tryd.prog 17 #[.int .u32 n] w fun e w' => e = .returned (.agg (u8s l).toArray) ∧ Sl (Below w.heap.size w w') :=
  (key_any n w hn).mono fun _ _ ⟨hx, hb⟩ => ⟨by rw [hx, h], hb⟩
/-- Bytes behind a slice as a string. -/
theorem SrcAt.conv {w : World} {b o n cap : Nat} {bs : List Nat} (h : SrcAt w (.slice (some ⟨b, o, none⟩) n cap) bs) : (convert 24 9 (.slice (some ⟨b, o, none⟩) n cap)).run Tryd.prog w = .ok (.string (strOf bs)) w := by
  obtain ⟨a, c, sb, so, he, hc, ha, hcell⟩ := h
  injection he with h1 h2 h3
  subst h2 h3
  refine run_convert_bytes_arg w 24 5 Tryd.underlying24 Tryd.underlying5 b o bs.length cap (bs.map fun (n : Nat) => (n : Int)) (by simp) (fun i hi => ?_) 9 Tryd.underlying9
  have hi' : i < bs.length := by simpa using hi
  have h4 := ha (by omega)
  rw [h4] at h1
  injection h1 with h1
  injection h1 with h5 h6
  subst h5 h6
  rw [hcell i hi']
  simp [List.getD, List.getElem?_eq_getElem hi']

set_option maxHeartbeats 2000000 in
theorem awake_any (w : World) (hg : Globs w) : Calls Tryd.prog 10 #[] w fun e w' => e = .returned (.bool true) ∧ Sl (Below w.heap.size w w') := by
  have HG := Sl.mk hg
  clear hg
  go_enter Tryd.func10, Tryd.ntmps10
  go_wp2_with fail
  refine (put_yes 126 [126, 0, 126] w HG.out rfl).mono ?_
  rintro e w1 ⟨g, cap, rfl, HS1, HB1⟩
  go_wp2_with fail
  refine (get_ex _ [126, 0, 126] 126 3 0 _ (HG.out.below (HB1.out.alloc HB1.out.size _) HG.out.size) (src_new _ [126, 0, 126] _ _ _ rfl) (fun x hx => by simp at hx; omega) (by decide) rfl).mono ?_
  rintro e w2 ⟨rfl, HX2⟩
  have HB2 : Sl (Below w.heap.size w w2) := ⟨(HB1.out.alloc HB1.out.size _).trans (HX2.out.mono (HB1.out.alloc HB1.out.size _).size)⟩
  have HS2 : Sl (SrcAt w2 (.slice (some ⟨g, 0, none⟩) 3 cap) [126, 0, 126]) := ⟨(HS1.out.below (Nat.le_refl _) ((Below.refl _ _).alloc (Nat.le_refl _) _)).below (Nat.le_refl _) HX2.out⟩
  go_wp2_with fail
  refine (get_ex _ [126, 0, 125] 0 0 81 _ (HG.out.below (HB2.out.alloc HB2.out.size _) HG.out.size) (src_new _ [126, 0, 125] _ _ _ rfl) (fun x hx => by simp at hx; omega) (by decide) rfl).mono ?_
  rintro e w3 ⟨rfl, HX3⟩
  have HB3 : Sl (Below w.heap.size w w3) := ⟨(HB2.out.alloc HB2.out.size _).trans (HX3.out.mono (HB2.out.alloc HB2.out.size _).size)⟩
  have HS3 : Sl (SrcAt w3 (.slice (some ⟨g, 0, none⟩) 3 cap) [126, 0, 126]) := ⟨(HS2.out.below (Nat.le_refl _) ((Below.refl _ _).alloc (Nat.le_refl _) _)).below (Nat.le_refl _) HX3.out⟩
  have hc1 := HS3.out.conv
  have hq1 : ((strOf [126, 0, 126]).toList == [126, 0, 126]) = true := beq_str _ (fun x hx => by simp at hx; omega) _ _ rfl
  have heq : ∀ W, (Op.equalIn 10000 22 (.agg (u8s [1, 2, 3, 4]).toArray) (.agg #[.int .u8 1, .int .u8 2, .int .u8 3, .int .u8 4])).run Tryd.prog W = .ok true W := fun W => eq_keys [1, 2, 3, 4] [1, 2, 3, 4] rfl rfl (fun x hx => by simp at hx; omega) (fun x hx => by simp at hx; omega) W
  go_wp2_with fail
  refine (key_ex 16909060 [1, 2, 3, 4] w3 (by decide) (by decide)).mono ?_
  rintro e w4 ⟨rfl, HX4⟩
  have HB4 : Sl (Below w.heap.size w w4) := ⟨HB3.out.trans (HX4.out.mono HB3.out.size)⟩
  go_wp2_with fail
  refine (apply_any [1, 2, 3, 4] 1 _ [0, 0] _ rfl (fun x hx => by simp at hx; omega) (src_new _ [0, 0] _ _ _ rfl) (fun x hx => by simp at hx; omega) (by decide)).mono ?_
  rintro e w5 ⟨g5, rfl, _, HR5, HX5⟩
  have HB5 : Sl (Below w.heap.size w w5) := ⟨(HB4.out.alloc HB4.out.size _).trans (HX5.out.mono (HB4.out.alloc HB4.out.size _).size)⟩
  rw [show turn [1, 2, 3, 4] (rest4 1) [0, 0] = [2, 3] by decide] at HR5
  have hc5 := HR5.out.str (k := 2) rfl
  have hq5 : ((strOf [2, 3]).toList == [2, 3]) = true := beq_str _ (fun x hx => by simp at hx; omega) _ _ rfl
  go_wp2
  go_ret
  exact ⟨rfl, HB5⟩
end Go.Proofs.YtleekkjaoccjlaaDoor
