/- route: Pick. -/
import Derived.Test.YtdndpicfnlcgjaaDoorRG
import Derived.OwnWalkIn
set_option maxRecDepth 100000
namespace Go.Proofs.YtdndpicfnlcgjaaDoor.Rou
open Go.RowKit Go.Maps Go.ChangeMaps Go.MapKept Nam
open RoutePlain (Rt below better fits pick)

/-- A route is tried against the one that is best so far. -/
def stepB (p : List Nat) (ps : List (List Nat)) (o : Option Rb) (r : Rb) : Option Rb :=
  if fits p ps r.rt = true then (match o with
    | none => some r
    | some a => if better a.rt r.rt = true then some r else some a) else o
def bestB (p : List Nat) (ps : List (List Nat)) (rs : List Rb) : Option Rb := rs.foldl (stepB p ps) none
theorem bestB_go (p : List Nat) (ps : List (List Nat)) : ∀ (rs : List Rb) (o : Option Rb), (rs.foldl (stepB p ps) o).map Rb.rt = (rs.map Rb.rt).foldl (RoutePlain.step p ps) (o.map Rb.rt)
  | [], _ => rfl
  | r :: rs, o => by
    rw [List.foldl_cons, List.map_cons, List.foldl_cons, bestB_go p ps rs]
    congr 1
    unfold stepB RoutePlain.step
    by_cases h : fits p ps r.rt = true
    · rw [if_pos h, if_pos h]
      cases o with
      | none => rfl
      | some a =>
        show Option.map Rb.rt (if better a.rt r.rt = true then some r else some a) = if better a.rt r.rt = true then some r.rt else some a.rt
        by_cases hb : better a.rt r.rt = true
        · rw [if_pos hb, if_pos hb]; rfl
        · rw [if_neg hb, if_neg hb]; rfl
    · rw [if_neg h, if_neg h]
theorem bestB_pick (p : List Nat) (ps : List (List Nat)) (rs : List Rb) : (bestB p ps rs).map Rb.rt = pick p ps (rs.map Rb.rt) := bestB_go p ps rs none
theorem bestB_snoc (p : List Nat) (ps : List (List Nat)) (rs : List Rb) (r : Rb) : bestB p ps (rs ++ [r]) = stepB p ps (bestB p ps rs) r := by unfold bestB; rw [List.foldl_append]; rfl
theorem takeT {l : List Rb} {k : Nat} (h : k < l.length) : l.take (k + 1) = l.take k ++ [l.getD k Rb0] := by
  rw [List.take_succ_eq_append_getElem h, List.getD_eq_getElem?_getD, List.getElem?_eq_getElem h]; rfl
theorem bestB_mem {p : List Nat} {ps : List (List Nat)} {rs : List Rb} {r : Rb} (h : bestB p ps rs = some r) : r ∈ rs := by
  have h1 := bestB_pick p ps rs
  rw [h] at h1
  have h2 := (RoutePlain.pick_some h1.symm).1
  obtain ⟨x, hx, e⟩ := List.mem_map.1 h2
  rw [← Rb.rt_inj e]; exact hx
/-- What is told of a route that is picked, or of none. -/
def rv3 (r : Rb) : Value := .agg #[.string r.pre, .string r.pro, .string r.dst]
def Rn : Rb := ⟨{ data := #[] }, { data := #[] }, { data := #[] }⟩
def pickV (o : Option Rb) : Value := .tuple #[rv3 (o.getD Rn), .bool o.isSome]
set_option maxHeartbeats 1000000 in
theorem fits_any (a b c : ByteArray) (W : World) (s g8 g9 : Nat) (ps : List ByteArray) (pl : ByteArray) (hS : SetAt W s ps) (h8 : W.heap[g8]? = some (.cells #[.string pl] 9 (0, 0))) (h9 : W.heap[g9]? = some (.cells #[.map (some s)] 57 (0, 0))) (ha : a.size ≤ maxLen) (hb : b.size ≤ maxLen) (p : List Nat) (hp : bytes pl = RoutePlain.stem p) (r : Bool)
    (hr : fits p (ps.map bytes) ⟨bytes a, bytes b, bytes c⟩ = r) :
    Calls Tryd.prog 31 #[.agg #[.string a, .string b, .string c], .pointer (some ⟨g9, 0, none⟩), .pointer (some ⟨g8, 0, none⟩)] W fun en w' => en = .returned (.bool r) ∧ Sl (Below W.heap.size W w') := by
  obtain ⟨wa, hwa, HBa, hx⟩ := box_of W a b c
  have HX := Sl.mk hx
  have H8 := Sl.mk (below_key h8 HBa.out)
  have H9 := Sl.mk (below_key h9 HBa.out)
  have HSS := Sl.mk (hS.below HBa.out)
  have U : Sl (∀ V, Calls Tryd.prog 32 #[.string pl, .string a] V fun e w' => e = .returned (.bool (below p (bytes a))) ∧ V = w') := ⟨fun V => under_any pl a V ha _ (by rw [hp]; rfl)⟩
  have HKEY : Sl (keyOf Tryd.prog 9 (.string b) = some (lit b)) := ⟨key_str b hb⟩
  have hh := has_Sd ps b
  obtain ⟨x, hx1⟩ : ∃ x, decide (bytes b ∈ ps.map bytes) = x := ⟨_, rfl⟩
  obtain ⟨y, hy1⟩ : ∃ y, decide (bytes b = []) = y := ⟨_, rfl⟩
  obtain ⟨z, hz1⟩ : ∃ z, below p (bytes a) = z := ⟨_, rfl⟩
  have HR : Sl ((z && (y || x)) = r) := ⟨by
    rw [← hr]; unfold fits; simp only; rw [hz1, hx1, hy1]⟩
  rw [hx1] at hh
  rw [hz1] at U
  have HH := Sl.mk hh
  have HY := Sl.mk hy1
  obtain ⟨g, hgg⟩ : ∃ g, W.heap.size = g := ⟨_, rfl⟩
  have HLT : Sl (g < wa.heap.size) := ⟨by rw [← hgg]; exact (Array.getElem?_eq_some_iff.1 hx).1⟩
  rw [hgg] at HX HBa
  rw [hgg]
  clear hh hx1 hy1 hz1 hr hp hx h8 h9 hS ha hb
  go_enter Tryd.func31, Tryd.ntmps31
  go_upto_region 1 with fail
  (try rw [hwa])
  (try rw [hgg])
  clear hwa hgg
  have e8 : wa.cell? ⟨g8, 0, none⟩ = some (.string pl) := cell_at H8.out 0 _ rfl
  have e9 : wa.cell? ⟨g9, 0, none⟩ = some (.map (some s)) := cell_at H9.out 0 _ rfl
  obtain ⟨c0, c1, c2⟩ := rt_cells HX.out
  go_upto_region 2 with (first
    | (at_lookup; refine wpList_lookup_own_unit _ rfl _ _ 57 rfl 9 59 law9 Tryd.underlying57 (zero47 _) s _ _ rfl HSS.out _ _ rfl HKEY.out ?_; rw [HH.out])
    | fail)
  obtain ⟨wb, hwb, HBb⟩ : ∃ V, wa.alloc (.cells #[] 59) = V ∧ Sl (Below wa.heap.size wa V) := ⟨_, rfl, ⟨(Below.refl _ _).alloc (Nat.le_refl _) _⟩⟩
  (try rw [hwb])
  have H8b := Sl.mk (below_key H8.out HBb.out)
  have HXb := Sl.mk (below_key HX.out HBb.out)
  have HB2 : Sl (Below g W wb) := ⟨HBa.out.trans (HBb.out.mono (Nat.le_of_lt HLT.out))⟩
  clear hwb e8 e9 c0 c1 c2 H8 H9 HX HBa HBb
  have e8 : wb.cell? ⟨g8, 0, none⟩ = some (.string pl) := cell_at H8b.out 0 _ rfl
  obtain ⟨c0, c1, c2⟩ := rt_cells HXb.out
  cases x with
  | true =>
    rw [Bool.or_true, Bool.and_true] at HR
    go_wp2_with fail
    refine (U.out _).mono ?_
    rintro e w1 ⟨rfl, rfl⟩
    go_wp2
    go_ret
    exact ⟨ret_bool HR.out, HB2⟩
  | false =>
    rw [Bool.or_false] at HR
    cases y with
    | true =>
      obtain ⟨n1, n2, n3⟩ := nil_yes HY.out
      rw [Bool.and_true] at HR
      go_wp2_with fail
      refine (U.out _).mono ?_
      rintro e w1 ⟨rfl, rfl⟩
      go_wp2
      go_ret
      exact ⟨ret_bool HR.out, HB2⟩
    | false =>
      obtain ⟨n1, n2, n3⟩ := nil_no HY.out
      rw [Bool.and_false] at HR
      go_wp2
      go_ret
      exact ⟨ret_bool HR.out, HB2⟩
end Go.Proofs.YtdndpicfnlcgjaaDoor.Rou
