/- Show: a head as bytes. -/
import Derived.Test.YtcohecghibndhaaDoorG
namespace Go.Proofs.YtcohecghibndhaaDoor
open Go.RowKit HeadPlain

theorem text_le (h : HdV) (hc : chk h = 0) : formB h.hd = true ∧ h.fs.length ≤ 32 ∧ (text h.hd).length ≤ 2048 := by
  unfold chk at hc
  by_cases h1 : formB h.hd = true
  · rw [if_pos h1] at hc
    by_cases h2 : 32 < h.fs.length ∨ 2048 < (text h.hd).length
    · rw [if_pos h2] at hc; cases hc
    · exact ⟨h1, by omega, by omega⟩
  · rw [if_neg h1] at hc; cases hc

/-- What Show answers: nothing and the error, or a row of its own that holds the bytes. -/
def ShowR (w0 w' : World) (h : HdV) (e : Ending) : Prop :=
  (chk h ≠ 0 ∧ e = .returned (.tuple #[.slice none 0 0, .int .i64 (chk h : Nat)])) ∨
  (chk h = 0 ∧ ∃ v, e = .returned (.tuple #[v, .int .i64 0]) ∧ w'.ownsRow w0.heap.size 5 1 v (text h.hd).length (u8s (text h.hd)))

set_option maxHeartbeats 1000000 in
theorem show_any (h : HdV) (v : Value) (W : World) (hg : Globs W) (hv : FieldsAt W v h.fs) (hf : h.Fit) (hL : (text h.hd).length ≤ 1000000) :
    Calls Tryd.prog 13 #[.agg #[.string h.a, .string h.b, .string h.c, v]] W fun e w' => Sl (ShowR W w' h e) ∧ Sl (Below W.heap.size W w') := by
  have HG := Sl.mk hg
  have HV := Sl.mk hv
  have HLL := Sl.mk hL
  obtain ⟨vad, vn, vc, hvv, hvn⟩ : ∃ a n c, v = .slice a n c ∧ n = h.fs.length := by obtain ⟨a, cap, _, _, h1, _⟩ := hv; exact ⟨_, _, _, h1, rfl⟩
  subst hvv
  subst hvn
  have HC : Sl (∀ V : World, Below W.heap.size W V → Calls Tryd.prog 15 #[.agg #[.string h.a, .string h.b, .string h.c, .slice vad h.fs.length vc]] V fun e w' => e = .returned (.int .i64 (chk h : Nat)) ∧ Sl (Below V.heap.size V w')) := ⟨fun V hb => check_any h _ V (hg.of hb) (hv.below hb) hf hL⟩
  obtain ⟨c, hc⟩ : ∃ c, chk h = c := ⟨_, rfl⟩
  have HCK := Sl.mk hc
  rw [hc] at HC
  clear hg hv hf hL hc
  go_enter Tryd.func13, Tryd.ntmps13
  go_wp2_with fail
  refine (HC.out _ ((Below.refl _ _).alloc (Nat.le_refl _) _)).mono ?_
  rintro e w2 ⟨rfl, HB2⟩
  have HB3 : Sl (Below W.heap.size W w2) := ⟨below_trans ((Below.refl _ _).alloc (Nat.le_refl _) _) HB2.out⟩
  have HX2 : Sl (w2.heap[W.heap.size]? = some (.cells #[.string h.a, .string h.b, .string h.c, .slice vad h.fs.length vc] 25 (0, 0))) := ⟨by
    rw [HB2.out.block _ (by rw [alloc_size]; omega)]; exact alloc_new _ _ _ rfl⟩
  clear HB2 HC
  by_cases h0 : c = 0
  · subst h0
    have HX5 : Sl ((w2.alloc (.cells #[.slice none 0 0] 28)).heap[W.heap.size]? = some (.cells #[.string h.a, .string h.b, .string h.c, .slice vad h.fs.length vc] 25 (0, 0))) := ⟨by
      rw [alloc_old _ _ _ (lt_of_block HX2.out)]; exact HX2.out⟩
    have d0 : (w2.alloc (.cells #[.slice none 0 0] 28)).cell? ⟨W.heap.size, 0, none⟩ = some (.string h.a) := by rw [cell_of_row _ _ _ _ _ _ HX5.out]; rfl
    have d1 : (w2.alloc (.cells #[.slice none 0 0] 28)).cell? ⟨W.heap.size, 1, none⟩ = some (.string h.b) := by rw [cell_of_row _ _ _ _ _ _ HX5.out]; rfl
    have d2 : (w2.alloc (.cells #[.slice none 0 0] 28)).cell? ⟨W.heap.size, 2, none⟩ = some (.string h.c) := by rw [cell_of_row _ _ _ _ _ _ HX5.out]; rfl
    have d3 : (w2.alloc (.cells #[.slice none 0 0] 28)).cell? ⟨W.heap.size, 3, none⟩ = some (.slice vad h.fs.length vc) := by rw [cell_of_row _ _ _ _ _ _ HX5.out]; rfl
    have HI0 : Sl (ShowI W w2.heap.size [] (w2.alloc (.cells #[.slice none 0 0] 28))) := ⟨⟨⟨_, alloc_new _ _ _ rfl, World.ownsRow_nil _ _ _ _⟩, HB3.out.alloc HB3.out.size _⟩⟩
    go_wp2_with fail
    refine (tell_any 28 w2.heap.size W (ShowI W w2.heap.size) (showTells W _ HB3.out.size) h _ _ HI0.out HV.out HLL.out).mono ?_
    rintro e w6 ⟨rfl, HI6, HK6⟩
    have HB6 : Sl (Below W.heap.size W w6) := ⟨HI6.out.b⟩
    obtain ⟨x, hx, hxo⟩ := HI6.out.ex
    have HO := Sl.mk hxo
    have e4 := cell_of_one hx
    clear hx hxo HI6 HK6 d0 d1 d2 d3 HX5 HI0
    go_wp2
    go_ret2
    exact ⟨⟨Or.inr ⟨HCK.out, _, rfl, HO.out⟩⟩, HB6⟩
  · have h0' : ((c : Int) == 0) = false := by simp; omega
    go_wp2
    go_ret2
    exact ⟨⟨Or.inl ⟨by rw [HCK.out]; exact h0, by rw [HCK.out]; rfl⟩⟩, HB3⟩
end Go.Proofs.YtcohecghibndhaaDoor
