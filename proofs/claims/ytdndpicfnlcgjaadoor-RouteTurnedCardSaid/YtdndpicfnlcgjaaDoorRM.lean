/- route: the document's Few. -/
import Derived.Test.YtdndpicfnlcgjaaDoorRJ
set_option maxRecDepth 100000
namespace Go.Proofs.YtdndpicfnlcgjaaDoor.Rou
open Go.RowKit Nam
open RoutePlain (Rt below better fits pick)

/-- Are a configuration's texts short, and few? -/
def smallT (r : Rb) : Bool := decide (r.pre.size ≤ 300) && (decide (r.pro.size ≤ 300) && decide (r.dst.size ≤ 300))
def fewC (rs : List Rb) (os : List ByteArray) : Bool := rs.all smallT && (decide (rs.length ≤ 30) && fewB os)
theorem fewC_yes {rs : List Rb} {os : List ByteArray} (h : fewC rs os = true) : (∀ r ∈ rs, r.pre.size ≤ 300 ∧ r.pro.size ≤ 300 ∧ r.dst.size ≤ 300) ∧ rs.length ≤ 30 ∧ fewB os = true := by
  unfold fewC at h
  simp only [Bool.and_eq_true, List.all_eq_true, decide_eq_true_eq] at h
  refine ⟨fun r hr => ?_, h.2.1, h.2.2⟩
  have := h.1 r hr
  unfold smallT at this
  simpa only [Bool.and_eq_true, decide_eq_true_eq] using this
theorem few_no {rs : List Rb} {os : List ByteArray} {k : Nat} (hk : k < rs.length) (h : smallT (rs.getD k Rb0) = false) : fewC rs os = false := by
  unfold fewC
  rw [show rs.all smallT = false from by rw [List.all_eq_false]; exact ⟨rs.getD k Rb0, by rw [List.getD_eq_getElem?_getD, List.getElem?_eq_getElem hk]; exact List.getElem_mem _, by rw [h]; decide⟩]; rfl
theorem few_all {rs : List Rb} (h : ∀ k, k < rs.length → smallT (rs.getD k Rb0) = true) : rs.all smallT = true := by
  rw [List.all_eq_true]
  intro r hr
  obtain ⟨k, hk, rfl⟩ := List.getElem_of_mem hr
  have := h k hk
  rwa [List.getD_eq_getElem?_getD, List.getElem?_eq_getElem hk] at this
set_option maxHeartbeats 8000000 in
theorem rfew_any (rs : List Rb) (a1 : Option Addr) (n1 c1 : Nat) (a2 : Option Addr) (n2 c2 : Nat) (tb ms fr ct bs ot sh id po cl : Int) (os : List ByteArray) (W : World) (hv : RtsAt W (.slice a1 n1 c1) rs) (ok : ∀ r ∈ rs, RbOk r) (hl : rs.length ≤ maxLen) (ho : StrA W (.slice a2 n2 c2) os) (hol : os.length ≤ maxLen) (hos : ∀ s ∈ os, s.size ≤ maxLen) (r : Bool) (hr : fewC rs os = r) :
    Calls Tryd.prog 11 #[.agg #[.slice a1 n1 c1, .slice a2 n2 c2, .int .i64 tb, .int .i64 ms, .int .i64 fr, .int .i64 ct, .int .i64 bs, .int .i64 ot, .int .i64 sh, .int .i64 id, .int .i64 po, .int .i64 cl]] W fun en w' => en = .returned (.bool r) ∧ Sl (Below W.heap.size W w') := by
  obtain ⟨wa, hwa, HBa, hx⟩ := cfg_box W #[.slice a1 n1 c1, .slice a2 n2 c2, .int .i64 tb, .int .i64 ms, .int .i64 fr, .int .i64 ct, .int .i64 bs, .int .i64 ot, .int .i64 sh, .int .i64 id, .int .i64 po, .int .i64 cl]
  have HX := Sl.mk hx
  have HVa := Sl.mk (hv.below HBa.out)
  have F6 := Sl.mk (few_any os (.slice a2 n2 c2) wa (ho.below HBa.out) hol hos)
  have HR := Sl.mk hr
  have HOK := Sl.mk ok
  have hcap : n1 ≤ c1 := hv.cap.2.1
  have HN1 : Sl (n1 = rs.length) := ⟨hv.cap.1⟩
  have hn1 : n1 ≤ 9223372036854775807 := by rw [HN1.out]; unfold maxLen at hl; omega
  obtain ⟨g, hgg⟩ : ∃ g, W.heap.size = g := ⟨_, rfl⟩
  rw [hgg] at HX HBa ⊢
  clear hx hv ho hr ok hos hl hol
  go_enter Tryd.func11, Tryd.ntmps11
  go_upto_region 1 with fail
  (try rw [hwa])
  (try rw [hgg])
  clear hwa hgg
  have e0 := cell_at HX.out 0 _ rfl
  have e1 := cell_at HX.out 1 _ rfl
  go_wp2
  go_loopw [3] (fun i wr => ∃ k : Nat, k ≤ n1 ∧ i = .int .i64 k ∧ wa = wr ∧ Sl (∀ j, j < k → smallT (rs.getD j Rb0) = true)) (fun i _ => n1 - (intOf i).toNat)
  case atStart => exact ⟨0, Nat.zero_le _, rfl, rfl, ⟨fun j hj => by omega⟩⟩
  case round =>
    obtain ⟨k, hk, rfl, rfl, HA⟩ := hrel
    by_cases hlt : k < n1
    · have hq : ((k : Int) < (n1 : Int)) = True := eq_true (by omega)
      have hkl : k < rs.length := by rw [← HN1.out]; exact hlt
      obtain ⟨sb, so, rfl⟩ := HVa.out.cap.2.2 (by omega)
      obtain ⟨x, y, u, he⟩ : ∃ x y z, rs.getD k Rb0 = ⟨x, y, z⟩ := ⟨_, _, _, rfl⟩
      have HE := Sl.mk he
      have hok : RbOk ⟨x, y, u⟩ := by
        rw [← he]; refine HOK.out _ ?_
        rw [List.getD_eq_getElem?_getD, List.getElem?_eq_getElem hkl]; exact List.getElem_mem _
      obtain ⟨c0, c1', c2'⟩ := HVa.out.at3 k hkl he
      have hk4 : (0 : Int) ≤ (k : Int) := by omega
      have hx1 : x.size ≤ 2 ^ 63 - 1 := hok.p
      have hx2 : y.size ≤ 2 ^ 63 - 1 := hok.q
      have hx3 : u.size ≤ 2 ^ 63 - 1 := hok.t
      have HST : Sl (smallT (rs.getD k Rb0) = (decide (x.size ≤ 300) && (decide (y.size ≤ 300) && decide (u.size ≤ 300)))) := ⟨by rw [he]; rfl⟩
      clear he hok
      by_cases h1 : x.size > 300
      · have h1' : ((x.size : Int) > 300) = True := eq_true (by omega)
        have HF : Sl (false = r) := ⟨by rw [← HR.out, few_no hkl (by rw [HST.out, decide_eq_false (show ¬ x.size ≤ 300 by omega), Bool.false_and])]⟩
        go_wp2
        go_ret
        exact ⟨ret_bool HF.out, HBa⟩
      · have h1' : ((x.size : Int) > 300) = False := eq_false (by omega)
        by_cases h2 : y.size > 300
        · have h2' : ((y.size : Int) > 300) = True := eq_true (by omega)
          have HF : Sl (false = r) := ⟨by rw [← HR.out, few_no hkl (by rw [HST.out, decide_eq_false (show ¬ y.size ≤ 300 by omega), Bool.false_and, Bool.and_false])]⟩
          go_wp2
          go_ret
          exact ⟨ret_bool HF.out, HBa⟩
        · have h2' : ((y.size : Int) > 300) = False := eq_false (by omega)
          by_cases h3 : u.size > 300
          · have h3' : ((u.size : Int) > 300) = True := eq_true (by omega)
            have HF : Sl (false = r) := ⟨by rw [← HR.out, few_no hkl (by rw [HST.out, decide_eq_false (show ¬ u.size ≤ 300 by omega), Bool.and_false, Bool.and_false])]⟩
            go_wp2
            go_ret
            exact ⟨ret_bool HF.out, HBa⟩
          · have h3' : ((u.size : Int) > 300) = False := eq_false (by omega)
            have HS2 : Sl (smallT (rs.getD k Rb0) = true) := ⟨by rw [HST.out, decide_eq_true (show x.size ≤ 300 by omega), decide_eq_true (show y.size ≤ 300 by omega), decide_eq_true (show u.size ≤ 300 by omega)]; rfl⟩
            go_wp2
            refine ⟨⟨k + 1, by omega, by go_num, trivial, ⟨fun j hj => ?_⟩⟩, by simp [intOf]; omega⟩
            by_cases e : j = k
            · subst e; exact HS2.out
            · exact HA.out j (by omega)
    · obtain rfl : k = n1 := by omega
      have hge : ((k : Int) < (k : Int)) = False := eq_false (by omega)
      have HALL : Sl (rs.all smallT = true) := ⟨few_all (fun j hj => HA.out j (by rw [HN1.out]; exact hj))⟩
      by_cases h30 : k ≤ 30
      · have h30' : ((k : Int) ≤ 30) = True := eq_true (by omega)
        have HF : Sl (fewB os = r) := ⟨by rw [← HR.out]; unfold fewC; rw [HALL.out, decide_eq_true (show rs.length ≤ 30 by rw [← HN1.out]; exact h30), Bool.true_and, Bool.true_and]⟩
        go_wp2_with fail
        refine (F6.out).mono ?_
        rintro e w5 ⟨rfl, rfl⟩
        go_wp2
        go_ret
        exact ⟨ret_bool HF.out, HBa⟩
      · have h30' : ((k : Int) ≤ 30) = False := eq_false (by omega)
        have h30a : (30 : Int) < (k : Int) := by omega
        have HF : Sl (false = r) := ⟨by rw [← HR.out]; unfold fewC; rw [decide_eq_false (show ¬ rs.length ≤ 30 by rw [← HN1.out]; exact h30), Bool.false_and, Bool.and_false]⟩
        go_wp2
        go_ret
        exact ⟨ret_bool HF.out, HBa⟩
end Go.Proofs.YtdndpicfnlcgjaaDoor.Rou
