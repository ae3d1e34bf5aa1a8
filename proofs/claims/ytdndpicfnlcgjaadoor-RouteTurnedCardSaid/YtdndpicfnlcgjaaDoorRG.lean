/- route: whether numbers may be a configuration's; Check. -/
import Derived.Test.YtdndpicfnlcgjaaDoorRF
set_option maxRecDepth 100000
namespace Go.Proofs.YtdndpicfnlcgjaaDoor.Rou
open Go.RowKit
open HeadPlain (token)
open RoutePlain (Rt)

/-- A number, and from where to where it may be. -/
structure Sp where
  n : Int
  least : Int
  most : Int
def outB (s : Sp) : Bool := decide (s.n < s.least) || decide (s.most < s.n)
def sc (s : Sp) : List Value := [.int .i64 s.n, .int .i64 s.least, .int .i64 s.most]
def scs (l : List Sp) : List Value := l.flatMap sc
def Sp0 : Sp := ⟨0, 0, 0⟩
theorem scs_get : ∀ (es : List Sp) (i : Nat), i < es.length → ∀ j, j < 3 → (scs es)[i * 3 + j]? = (sc (es.getD i Sp0))[j]?
  | [], i, hi, _, _ => by simp at hi
  | e :: es, 0, _, j, hj => by
    rw [show scs (e :: es) = sc e ++ scs es from rfl, Nat.zero_mul, Nat.zero_add, List.getElem?_append_left (by simpa [sc] using hj)]; rfl
  | e :: es, i + 1, hi, j, hj => by
    rw [show scs (e :: es) = sc e ++ scs es from rfl, show (i + 1) * 3 + j = i * 3 + j + 3 from by omega, List.getElem?_append_right (by simp [sc])]
    have := scs_get es i (by simpa using hi) j hj
    simpa [sc] using this
theorem sp_at {W : World} {g k : Nat} {l : List Sp} {t : TypeId} (h : W.heap[g]? = some (.cells (scs l).toArray t (0, 0))) (hk : k < l.length) {n a b : Int} (he : l.getD k Sp0 = ⟨n, a, b⟩) :
    W.cell? ⟨g, 0 + k * 3, none⟩ = some (.int .i64 n) ∧ W.cell? ⟨g, 0 + k * 3 + 1, none⟩ = some (.int .i64 a) ∧ W.cell? ⟨g, 0 + k * 3 + 2, none⟩ = some (.int .i64 b) := by
  have key : ∀ j, j < 3 → W.cell? ⟨g, 0 + k * 3 + j, none⟩ = (sc ⟨n, a, b⟩)[j]? := fun j hj => by
    rw [Nat.zero_add, cell_of_row _ _ _ _ _ _ h, List.getElem?_toArray, scs_get l k hk j hj, he]
  exact ⟨key 0 (by decide), key 1 (by decide), key 2 (by decide)⟩
theorem outside_any (n a b : Int) (W : World) (r : Bool) (hr : outB ⟨n, a, b⟩ = r) : Calls Tryd.prog 25 #[.agg #[.int .i64 n, .int .i64 a, .int .i64 b]] W fun en w' => en = .returned (.bool r) ∧ Sl (Below W.heap.size W w') := by
  have HB : ∀ o, Sl (Below W.heap.size W (W.alloc o)) := fun o => ⟨(Below.refl _ _).alloc (Nat.le_refl _) _⟩
  unfold outB at hr
  simp only at hr
  by_cases h1 : n < a
  · have h1' : (n < a) = True := eq_true h1
    have HR : Sl (true = r) := ⟨by rw [← hr, decide_eq_true h1]; rfl⟩
    clear hr h1
    go_enter Tryd.func25, Tryd.ntmps25
    go_wp2
    go_ret
    exact ⟨ret_bool HR.out, HB _⟩
  · have h1' : (n < a) = False := eq_false h1
    have h1a : a ≤ n := by omega
    have HR0 : Sl (decide (b < n) = r) := ⟨by rw [← hr, decide_eq_false h1]; rfl⟩
    clear hr
    by_cases h2 : b < n
    · have h2' : (n > b) = True := eq_true h2
      have HR : Sl (true = r) := ⟨by rw [← HR0.out, decide_eq_true h2]⟩
      clear h2 HR0
      go_enter Tryd.func25, Tryd.ntmps25
      go_wp2
      go_ret
      exact ⟨ret_bool HR.out, HB _⟩
    · have h2' : (n > b) = False := eq_false h2
      have h2a : n ≤ b := by omega
      have HR : Sl (false = r) := ⟨by rw [← HR0.out, decide_eq_false h2]⟩
      clear h2 HR0
      go_enter Tryd.func25, Tryd.ntmps25
      go_wp2
      go_ret
      exact ⟨ret_bool HR.out, HB _⟩
set_option maxHeartbeats 1000000 in
theorem sif_any (l : List Sp) (W : World) (hl : l.length ≤ 1000000) (g : Nat) (hg : W.heap[g]? = some (.cells (scs l).toArray 51 (0, 0))) (r : Bool) (hr : l.any outB = r) :
    Calls Tryd.prog 39 #[.slice (some ⟨g, 0, none⟩) l.length l.length, .func (.func 25) #[] #[]] W fun en w' => IdxT r en ∧ Sl (Below W.heap.size W w') := by
  have HR := Sl.mk hr
  have HGG := Sl.mk hg
  obtain ⟨n, hn⟩ : ∃ n, l.length = n := ⟨_, rfl⟩
  have HN := Sl.mk hn
  rw [hn] at hl ⊢
  clear hn hr hg
  go_enter Tryd.func39, Tryd.ntmps39
  go_wp2
  go_loopw [8] (fun i wr => ∃ k : Nat, k ≤ n ∧ i = .int .i64 k ∧ Sl (Below W.heap.size W wr) ∧ Sl (∀ j, j < k → outB (l.getD j Sp0) = false)) (fun i _ => n - (intOf i).toNat)
  case atStart => exact ⟨0, Nat.zero_le _, rfl, ⟨Below.refl _ _⟩, ⟨fun j hj => by omega⟩⟩
  case round =>
    obtain ⟨k, hk, rfl, HB, HA⟩ := hrel
    by_cases hlt : k < n
    · have hq : ((k : Int) < (n : Int)) = True := eq_true (by omega)
      have hkl : k < l.length := by rw [HN.out]; exact hlt
      obtain ⟨x, y, z, he⟩ : ∃ x y z, l.getD k Sp0 = ⟨x, y, z⟩ := ⟨_, _, _, rfl⟩
      have HE := Sl.mk he
      obtain ⟨c0, c1, c2⟩ := sp_at (below_key HGG.out HB.out) hkl he
      rw [Nat.zero_add] at c0 c1 c2
      obtain ⟨p, hp⟩ : ∃ p, outB ⟨x, y, z⟩ = p := ⟨_, rfl⟩
      have HP := Sl.mk hp
      have HS := outside_any x y z wr p hp
      clear he hp
      go_wp2_with fail
      refine (HS).mono ?_
      rintro e w2 ⟨rfl, HB2⟩
      clear HS
      have HB3 : Sl (Below W.heap.size W w2) := ⟨HB.out.trans (HB2.out.mono HB.out.size)⟩
      cases p with
      | true =>
        have HH : Sl (r = true) := ⟨by
          rw [← HR.out, List.any_eq_true]
          exact ⟨l.getD k Sp0, by rw [List.getD_eq_getElem?_getD, List.getElem?_eq_getElem hkl]; exact List.getElem_mem _, by rw [HE.out]; exact HP.out⟩⟩
        go_wp2
        go_ret
        exact ⟨⟨_, rfl, by rw [HH.out]; exact decide_eq_true (by omega)⟩, HB3⟩
      | false =>
        go_wp2
        refine ⟨⟨k + 1, by omega, by go_num, HB3, ⟨fun j hj => ?_⟩⟩, by simp [intOf]; omega⟩
        by_cases e : j = k
        · subst e; rw [HE.out]; exact HP.out
        · exact HA.out j (by omega)
    · obtain rfl : k = n := by omega
      have hge : ((k : Int) < (k : Int)) = False := eq_false (by omega)
      have HH : Sl (r = false) := ⟨by
        rw [← HR.out, List.any_eq_false]
        intro x hx
        obtain ⟨j, hj, rfl⟩ := List.getElem_of_mem hx
        have := HA.out j (by rw [HN.out] at hj; exact hj)
        rw [List.getD_eq_getElem?_getD, List.getElem?_eq_getElem hj] at this
        rw [Bool.not_eq_true]; exact this⟩
      go_wp2
      go_ret
      exact ⟨⟨_, rfl, by rw [HH.out]; rfl⟩, HB⟩
theorem scf_any (l : List Sp) (W : World) (hl : l.length ≤ 1000000) (g : Nat) (hg : W.heap[g]? = some (.cells (scs l).toArray 51 (0, 0))) (r : Bool) (hr : l.any outB = r) :
    Calls Tryd.prog 27 #[.slice (some ⟨g, 0, none⟩) l.length l.length, .func (.func 25) #[] #[]] W fun en w' => en = .returned (.bool r) ∧ Sl (Below W.heap.size W w') := by
  have HX := Sl.mk (sif_any l W hl g hg r hr)
  clear hr hg
  go_enter Tryd.func27, Tryd.ntmps27
  go_wp2_with fail
  refine HX.out.mono ?_
  rintro e w2 ⟨⟨z, rfl, hz⟩, HB2⟩
  have HZ := Sl.mk hz
  clear hz HX
  go_wp2
  go_ret
  exact ⟨ret_bool HZ.out, HB2⟩
/-- The numbers of a configuration. -/
def spansL (tb ms fr ct bs ot sh id po cl : Int) : List Sp := [⟨tb, 1, 64⟩, ⟨ms, 1, 65536⟩, ⟨fr, 1, 65536⟩, ⟨ct, 1, 1024⟩, ⟨bs, ms, 4194304⟩, ⟨ot, 1, 65536⟩, ⟨sh, 1, 1073741824⟩, ⟨id, 1, 1073741824⟩, ⟨po, 1, 1073741824⟩, ⟨cl, 1, 1073741824⟩]
theorem spans_any (a1 : Option Addr) (n1 c1 : Nat) (a2 : Option Addr) (n2 c2 : Nat) (tb ms fr ct bs ot sh id po cl : Int) (W : World) :
    Calls Tryd.prog 28 #[.agg #[.slice a1 n1 c1, .slice a2 n2 c2, .int .i64 tb, .int .i64 ms, .int .i64 fr, .int .i64 ct, .int .i64 bs, .int .i64 ot, .int .i64 sh, .int .i64 id, .int .i64 po, .int .i64 cl]] W fun en w' => ∃ g, en = .returned (.slice (some ⟨g, 0, none⟩) 10 10) ∧ Sl (w'.heap[g]? = some (.cells (scs (spansL tb ms fr ct bs ot sh id po cl)).toArray 51 (0, 0))) ∧ Sl (Below W.heap.size W w') := by
  go_enter Tryd.func28, Tryd.ntmps28
  go_wp2
  go_ret
  exact ⟨_, rfl, ⟨alloc_new _ _ _ (by rw [alloc_size])⟩, ⟨((Below.refl _ _).alloc (Nat.le_refl _) _).alloc (by rw [alloc_size]; omega) _⟩⟩
/-- A route's texts are short. -/
def Short (r : Rb) : Prop := r.pre.size ≤ 1000000 ∧ r.pro.size ≤ 1000000 ∧ r.dst.size ≤ 1000000
def checkB (rs : List Rb) (no : Nat) (tb ms fr ct bs ot sh id po cl : Int) : Bool := okRs rs && (decide (no ≤ 16) && !(spansL tb ms fr ct bs ot sh id po cl).any outB)
def errOf (b : Bool) : Int := if b = true then 0 else 150
/-- A box for a configuration. -/
theorem cfg_box (W : World) (cs : Array Value) : ∃ V, W.alloc (.cells cs 25) = V ∧ Sl (Below W.heap.size W V) ∧ V.heap[W.heap.size]? = some (.cells cs 25 (0, 0)) :=
  ⟨_, rfl, ⟨(Below.refl _ _).alloc (Nat.le_refl _) _⟩, alloc_new _ _ _ rfl⟩
theorem cell_at {W : World} {g : Nat} {cs : Array Value} {t : TypeId} (h : W.heap[g]? = some (.cells cs t (0, 0))) (i : Nat) (v : Value) (hi : cs[i]? = some v) : W.cell? ⟨g, i, none⟩ = some v := by rw [cell_of_row _ _ _ _ _ _ h]; exact hi
set_option maxHeartbeats 4000000 in
theorem check_any (rs : List Rb) (a1 : Option Addr) (n1 c1 : Nat) (a2 : Option Addr) (n2 c2 : Nat) (tb ms fr ct bs ot sh id po cl : Int) (W : World) (hg : Globs W) (hv : RtsAt W (.slice a1 n1 c1) rs) (ok : ∀ r ∈ rs, RbOk r) (hl : rs.length ≤ 1000000) (r : Bool) (hr : checkB rs n2 tb ms fr ct bs ot sh id po cl = r) :
    Calls Tryd.prog 13 #[.agg #[.slice a1 n1 c1, .slice a2 n2 c2, .int .i64 tb, .int .i64 ms, .int .i64 fr, .int .i64 ct, .int .i64 bs, .int .i64 ot, .int .i64 sh, .int .i64 id, .int .i64 po, .int .i64 cl]] W fun en w' => en = .returned (.int .i64 (errOf r)) ∧ Sl (Below W.heap.size W w') := by
  unfold checkB at hr
  obtain ⟨wa, hwa, HBa, hx⟩ := cfg_box W #[.slice a1 n1 c1, .slice a2 n2 c2, .int .i64 tb, .int .i64 ms, .int .i64 fr, .int .i64 ct, .int .i64 bs, .int .i64 ot, .int .i64 sh, .int .i64 id, .int .i64 po, .int .i64 cl]
  obtain ⟨g, hgg⟩ : ∃ g, W.heap.size = g := ⟨_, rfl⟩
  have HG1 := Sl.mk (hg.of HBa.out)
  have HV1 := Sl.mk (hv.below HBa.out)
  obtain ⟨p, hp⟩ : ∃ p, okRs rs = p := ⟨_, rfl⟩
  have AM := Sl.mk (allmay_any rs (.slice a1 n1 c1) wa HG1.out HV1.out ok hl p hp)
  have SP : Sl (∀ V, Calls Tryd.prog 28 #[.agg #[.slice a1 n1 c1, .slice a2 n2 c2, .int .i64 tb, .int .i64 ms, .int .i64 fr, .int .i64 ct, .int .i64 bs, .int .i64 ot, .int .i64 sh, .int .i64 id, .int .i64 po, .int .i64 cl]] V fun en w' => ∃ g, en = .returned (.slice (some ⟨g, 0, none⟩) 10 10) ∧ Sl (w'.heap[g]? = some (.cells (scs (spansL tb ms fr ct bs ot sh id po cl)).toArray 51 (0, 0))) ∧ Sl (Below V.heap.size V w')) := ⟨fun V => spans_any a1 n1 c1 a2 n2 c2 tb ms fr ct bs ot sh id po cl V⟩
  obtain ⟨L, hL⟩ : ∃ L, spansL tb ms fr ct bs ot sh id po cl = L := ⟨_, rfl⟩
  have HLL : Sl (L.length = 10) := ⟨by rw [← hL]; rfl⟩
  rw [hL] at SP hr
  rw [hp] at hr
  obtain ⟨q, hq⟩ : ∃ q, L.any outB = q := ⟨_, rfl⟩
  have HQ := Sl.mk hq
  rw [hq] at hr
  have HR := Sl.mk hr
  rw [hgg] at HBa hx ⊢
  have HX := Sl.mk hx
  have HLT : Sl (g ≤ wa.heap.size) := ⟨by rw [← hgg]; exact HBa.out.size⟩
  clear hr hq hL hp hg hv ok HG1 HV1 hx
  go_enter Tryd.func13, Tryd.ntmps13
  go_upto_region 1 with fail
  (try rw [hwa])
  (try rw [hgg])
  clear hwa hgg
  have c0 := cell_at HX.out 0 _ rfl
  have d1 := cell_at HX.out 1 _ rfl
  go_wp2_with fail
  refine (AM.out).mono ?_
  rintro e w2 ⟨rfl, HB2⟩
  clear AM c0 d1
  have HX2 := Sl.mk (below_key HX.out HB2.out)
  have HB3 : Sl (Below g W w2) := ⟨HBa.out.trans (HB2.out.mono HLT.out)⟩
  have k0 := cell_at HX2.out 0 _ rfl
  have k1 := cell_at HX2.out 1 _ rfl
  have k2 := cell_at HX2.out 2 _ rfl
  have k3 := cell_at HX2.out 3 _ rfl
  have k4 := cell_at HX2.out 4 _ rfl
  have k5 := cell_at HX2.out 5 _ rfl
  have k6 := cell_at HX2.out 6 _ rfl
  have k7 := cell_at HX2.out 7 _ rfl
  have k8 := cell_at HX2.out 8 _ rfl
  have k9 := cell_at HX2.out 9 _ rfl
  have k10 := cell_at HX2.out 10 _ rfl
  have k11 := cell_at HX2.out 11 _ rfl
  cases p with
  | false =>
    have HF : Sl (errOf r = 150) := ⟨by rw [← HR.out]; rfl⟩
    go_wp2
    go_ret
    exact ⟨ret_int HF.out.symm, HB3⟩
  | true =>
    by_cases hn : n2 > 16
    · have hn' : ((n2 : Int) > 16) = True := eq_true (by omega)
      have HF : Sl (errOf r = 150) := ⟨by rw [← HR.out, decide_eq_false (by omega)]; rfl⟩
      go_wp2
      go_ret
      exact ⟨ret_int HF.out.symm, HB3⟩
    · have hn' : ((n2 : Int) > 16) = False := eq_false (by omega)
      have HR2 : Sl ((!q) = r) := ⟨by rw [← HR.out, decide_eq_true (by omega), Bool.true_and, Bool.true_and]⟩
      clear hn
      go_wp2_with fail
      refine (SP.out _).mono ?_
      rintro e w3 ⟨x, rfl, HS3, HB4⟩
      clear SP
      have HB5 : Sl (Below g W w3) := ⟨HB3.out.trans (HB4.out.mono (Nat.le_trans HLT.out HB2.out.size))⟩
      have SC := Sl.mk (scf_any L w3 (by rw [HLL.out]; omega) x HS3.out q HQ.out)
      rw [HLL.out] at SC
      go_wp2_with fail
      refine (SC.out).mono ?_
      rintro e w4 ⟨rfl, HB6⟩
      clear SC
      have HB7 : Sl (Below g W w4) := ⟨HB5.out.trans (HB6.out.mono (Nat.le_trans (Nat.le_trans HLT.out HB2.out.size) HB4.out.size))⟩
      cases q with
      | true =>
        have HF : Sl (errOf r = 150) := ⟨by rw [← HR2.out]; rfl⟩
        go_wp2
        go_ret
        exact ⟨ret_int HF.out.symm, HB7⟩
      | false =>
        have HF : Sl (errOf r = 0) := ⟨by rw [← HR2.out]; rfl⟩
        go_wp2
        go_ret
        exact ⟨ret_int HF.out.symm, HB7⟩
end Go.Proofs.YtdndpicfnlcgjaaDoor.Rou
