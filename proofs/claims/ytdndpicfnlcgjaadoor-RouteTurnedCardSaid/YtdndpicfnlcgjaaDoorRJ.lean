/- route: Admit. -/
import Derived.Test.YtdndpicfnlcgjaaDoorRI
set_option maxRecDepth 100000
namespace Go.Proofs.YtdndpicfnlcgjaaDoor.Rou
open Go.RowKit Nam
open RoutePlain (Rt below better fits pick)

/-- What Admit answers. -/
def admV (a : Bool) (o : Option Rb) (full : Bool) : Value :=
  if a = true then (match o with
    | none => .tuple #[rv3 Rn, .int .i64 404]
    | some r => if full = true then .tuple #[rv3 Rn, .int .i64 503] else .tuple #[rv3 r, .int .i64 0]) else .tuple #[rv3 Rn, .int .i64 403]
theorem off_box (W : World) (cs : Array Value) : ∃ V, W.alloc (.cells cs 31) = V ∧ Sl (Below W.heap.size W V) ∧ V.heap[W.heap.size]? = some (.cells cs 31 (0, 0)) :=
  ⟨_, rfl, ⟨(Below.refl _ _).alloc (Nat.le_refl _) _⟩, alloc_new _ _ _ rfl⟩
theorem allow_eq (o : ByteArray) (l : List ByteArray) : allowB o l = (decide (l.length = 0) || decide (bytes o ∈ l.map bytes)) := by unfold allowB; rw [inB_eq]
/-- Three boxes: a configuration, an offer, a route. -/
theorem boxes3 (W : World) (cs os : Array Value) : ∃ V g4 g6, ((W.alloc (.cells cs 25)).alloc (.cells os 31)).alloc (.cells #[.string { data := #[] }, .string { data := #[] }, .string { data := #[] }] 34) = V ∧ Sl (W.heap.size < g4 ∧ g4 < g6 ∧ (W.alloc (.cells cs 25)).heap.size = g4 ∧ ((W.alloc (.cells cs 25)).alloc (.cells os 31)).heap.size = g6) ∧ Sl (Below W.heap.size W V) ∧
    Sl (V.heap[W.heap.size]? = some (.cells cs 25 (0, 0))) ∧ Sl (V.heap[g4]? = some (.cells os 31 (0, 0))) ∧ Sl (V.heap[g6]? = some (.cells #[.string { data := #[] }, .string { data := #[] }, .string { data := #[] }] 34 (0, 0))) :=
  ⟨_, _, _, rfl, ⟨by simp only [alloc_size]; omega, by simp only [alloc_size]; omega, rfl, rfl⟩, ⟨(((Below.refl _ _).alloc (Nat.le_refl _) _).alloc (by simp only [alloc_size]; omega) _).alloc (by simp only [alloc_size]; omega) _⟩,
    ⟨(alloc_old _ _ _ (by simp only [alloc_size]; omega)).trans ((alloc_old _ _ _ (by simp only [alloc_size]; omega)).trans (alloc_new _ _ _ rfl))⟩, ⟨(alloc_old _ _ _ (by simp only [alloc_size]; omega)).trans (alloc_new _ _ _ rfl)⟩, ⟨alloc_new _ _ _ rfl⟩⟩
set_option maxHeartbeats 8000000 in
theorem admit_any (rs : List Rb) (a1 : Option Addr) (n1 c1 : Nat) (a2 : Option Addr) (n2 c2 : Nat) (tb ms fr ct bs ot sh id po cl : Int) (path host key origin : ByteArray) (pa : Option Addr) (pc : Nat) (ps : List ByteArray) (os : List ByteArray) (n : Int) (W : World) (hv : RtsAt W (.slice a1 n1 c1) rs) (ho : StrA W (.slice a2 n2 c2) os) (hol : os.length ≤ 1000000) (ok : ∀ r ∈ rs, Short r) (hl : rs.length ≤ 1000000) (hp : path.size ≤ maxLen) (hpv : StrA W (.slice pa ps.length pc) ps) (hpl : ps.length ≤ 1000000) (hps : ∀ s ∈ ps, s.size ≤ maxLen) :
    Calls Tryd.prog 17 #[.agg #[.slice a1 n1 c1, .slice a2 n2 c2, .int .i64 tb, .int .i64 ms, .int .i64 fr, .int .i64 ct, .int .i64 bs, .int .i64 ot, .int .i64 sh, .int .i64 id, .int .i64 po, .int .i64 cl], .agg #[.string path, .string host, .string key, .string origin, .slice pa ps.length pc], .int .i64 n] W fun en w' => en = .returned (admV (allowB origin os) (bestB (bytes path) (ps.map bytes) rs) (decide (tb ≤ n))) ∧ Sl (Below W.heap.size W w') := by
  obtain ⟨wa, g4, g6, hwa, HGG, HBa, HX, HO, HY⟩ := boxes3 W #[.slice a1 n1 c1, .slice a2 n2 c2, .int .i64 tb, .int .i64 ms, .int .i64 fr, .int .i64 ct, .int .i64 bs, .int .i64 ot, .int .i64 sh, .int .i64 id, .int .i64 po, .int .i64 cl] #[.string path, .string host, .string key, .string origin, .slice pa ps.length pc]
  obtain ⟨-, -, hg4, hg6⟩ := HGG.out
  have HN2 : Sl (n2 = os.length) := ⟨by obtain ⟨_, _, _, _, h, _⟩ := ho; injection h⟩
  obtain ⟨al, hal⟩ : ∃ a, allowB origin os = a := ⟨_, rfl⟩
  obtain ⟨b, hb⟩ : ∃ b, bestB (bytes path) (ps.map bytes) rs = b := ⟨_, rfl⟩
  have HOA := Sl.mk (ho.below HBa.out)
  have AL := Sl.mk (allowed_any origin os (.slice a2 n2 c2) wa al hal HOA.out hol)
  have PK : Sl (∀ V, Below wa.heap.size wa V → Calls Tryd.prog 15 #[.agg #[.slice a1 n1 c1, .slice a2 n2 c2, .int .i64 tb, .int .i64 ms, .int .i64 fr, .int .i64 ct, .int .i64 bs, .int .i64 ot, .int .i64 sh, .int .i64 id, .int .i64 po, .int .i64 cl], .string path, .slice pa ps.length pc] V fun en w' => en = .returned (pickV b) ∧ Sl (Below V.heap.size V w')) := ⟨fun V h => by
    rw [← hb]
    exact pick_any rs a1 n1 c1 a2 n2 c2 tb ms fr ct bs ot sh id po cl path (.slice pa ps.length pc) ps V ((hv.below HBa.out).below h) ok hl hp ((hpv.below HBa.out).below h) hpl hps⟩
  obtain ⟨g3, hg3⟩ : ∃ g, W.heap.size = g := ⟨_, rfl⟩
  have HSZ : Sl (g3 ≤ wa.heap.size) := ⟨by rw [← hg3]; exact HBa.out.size⟩
  have H34 : Sl (g3 < g4 ∧ g4 < g6) := ⟨by rw [← hg3]; exact ⟨HGG.out.1, HGG.out.2.1⟩⟩
  rw [hal]
  rw [hb, hg3]
  rw [hg3] at HX HBa
  clear hal hb hv ho ok hpv hps hp HGG 
  go_enter Tryd.func17, Tryd.ntmps17
  go_upto_region 1 with fail
  (try rw [hg4, hg6])
  (try rw [hg3])
  (try rw [hwa])
  clear hwa hg4 hg6
  have o3 := cell_at HO.out 3 _ rfl
  have x1 := cell_at HX.out 1 _ rfl
  go_wp2_with fail
  refine (AL.out).mono ?_
  rintro e w1 ⟨rfl, rfl⟩
  clear AL o3 x1
  cases al with
  | false =>
    go_wp2_with (refine wpList_store_row rfl 34 (.tmp 6) (.tmp 16) rfl g6 #[.string { data := #[] }, .string { data := #[] }, .string { data := #[] }] rfl rfl 34 #[.string { data := #[] }, .string { data := #[] }, .string { data := #[] }] HY.out (rt_info rfl) rfl (rt_all _ _ _) ?_)
    (try simp only [Exit.then, Exit.inBlock])
    refine bodyPost_ret (ret_rt rfl _ _ g6 _ rfl (setRow_heap _ _ _ _ _ _ HY.out) rfl) rfl ?_
    exact ⟨rfl, ⟨below_setRow HBa.out (by have := H34.out; omega) _⟩⟩
  | true =>
    have HB0 : Sl (Below wa.heap.size wa wa) := ⟨Below.refl _ _⟩
    have k0 := cell_at HX.out 0 _ rfl
    have k1 := cell_at HX.out 1 _ rfl
    have k2 := cell_at HX.out 2 _ rfl
    have k3 := cell_at HX.out 3 _ rfl
    have k4 := cell_at HX.out 4 _ rfl
    have k5 := cell_at HX.out 5 _ rfl
    have k6 := cell_at HX.out 6 _ rfl
    have k7 := cell_at HX.out 7 _ rfl
    have k8 := cell_at HX.out 8 _ rfl
    have k9 := cell_at HX.out 9 _ rfl
    have k10 := cell_at HX.out 10 _ rfl
    have k11 := cell_at HX.out 11 _ rfl
    have o0 := cell_at HO.out 0 _ rfl
    have o4 := cell_at HO.out 4 _ rfl
    go_wp2_with fail
    refine (PK.out _ HB0.out).mono ?_
    rintro e w2 ⟨rfl, HB2⟩
    clear PK k0 k1 k2 k3 k4 k5 k6 k7 k8 k9 k10 k11 o0 o4
    have HX2 := Sl.mk (below_key HX.out HB2.out)
    have HY2 := Sl.mk (below_key HY.out HB2.out)
    have HB3 : Sl (Below g3 W w2) := ⟨HBa.out.trans (HB2.out.mono HSZ.out)⟩
    have HB2s : Sl (wa.heap.size ≤ w2.heap.size) := ⟨HB2.out.size⟩
    clear HX HY HBa HO HB2
    obtain ⟨wx, hwx, HBx, hx⟩ := box_rt w2
    obtain ⟨⟨x, y, z⟩, hr⟩ : ∃ r, b.getD Rn = r := ⟨_, rfl⟩
    have HRB := Sl.mk hr
    obtain ⟨f, hf⟩ : ∃ f, b.isSome = f := ⟨_, rfl⟩
    have HF := Sl.mk hf
    unfold pickV rv3
    rw [hr, hf]
    simp only
    clear hr hf
    obtain ⟨wy, hwy, HBy, HP⟩ := set_rt hx HBx.out (Nat.le_refl _) #[.string x, .string y, .string z]
    have HY3 := Sl.mk (below_key HY2.out HBy.out)
    have HX3 := Sl.mk (below_key HX2.out HBy.out)
    have HB4 : Sl (Below g3 W wy) := ⟨HB3.out.trans (HBy.out.mono (Nat.le_trans HSZ.out HB2s.out))⟩
    have HI : (Tryd.prog.info? 34).map (·.size) = some (#[Value.string x, .string y, .string z] : Array Value).size := rt_info rfl
    go_upto_region 4 with (refine wpList_store_row rfl 34 (.tmp 8) (.tmp 24) rfl w2.heap.size #[.string x, .string y, .string z] rfl rfl 34 #[.string { data := #[] }, .string { data := #[] }, .string { data := #[] }] hx HI rfl (rt_all _ _ _) ?_)
    (try rw [hwy])
    obtain ⟨g8, hg8⟩ : ∃ g, w2.heap.size = g := ⟨_, rfl⟩
    rw [hg8] at HP
    (try rw [hg8])
    clear hwx hwy hx HBx HBy hg8 HX2 HY2 HB3
    have HY := HY3
    cases b with
    | none =>
      obtain rfl : f = false := HF.out.symm
      go_wp2_with (refine wpList_store_row rfl 34 (.tmp 6) (.tmp 28) rfl g6 #[.string { data := #[] }, .string { data := #[] }, .string { data := #[] }] rfl rfl 34 #[.string { data := #[] }, .string { data := #[] }, .string { data := #[] }] HY.out (rt_info rfl) rfl (rt_all _ _ _) ?_)
      (try simp only [Exit.then, Exit.inBlock])
      refine bodyPost_ret (ret_rt rfl _ _ g6 _ rfl (setRow_heap _ _ _ _ _ _ HY.out) rfl) rfl ?_
      exact ⟨rfl, ⟨below_setRow HB4.out (by have := H34.out; omega) _⟩⟩
    | some v =>
      obtain rfl : f = true := HF.out.symm
      have hv3 : v = ⟨x, y, z⟩ := HRB.out
      subst hv3
      have k2 := cell_at HX3.out 2 _ rfl
      by_cases hn : tb ≤ n
      · have hn' : (n ≥ tb) = True := eq_true hn
        have hd := decide_eq_true hn
        go_wp2_with (refine wpList_store_row rfl 34 (.tmp 6) (.tmp 33) rfl g6 #[.string { data := #[] }, .string { data := #[] }, .string { data := #[] }] rfl rfl 34 #[.string { data := #[] }, .string { data := #[] }, .string { data := #[] }] HY.out (rt_info rfl) rfl (rt_all _ _ _) ?_)
        (try simp only [Exit.then, Exit.inBlock])
        refine bodyPost_ret (ret_rt rfl _ _ g6 _ rfl (setRow_heap _ _ _ _ _ _ HY.out) rfl) rfl ?_
        exact ⟨by (try rw [hd]); rfl, ⟨below_setRow HB4.out (by have := H34.out; omega) _⟩⟩
      · have hn' : (n ≥ tb) = False := eq_false hn
        have hd := decide_eq_false hn
        have hn2 : n < tb := by omega
        obtain ⟨p0, p1, p2⟩ := rt_cells HP.out
        go_wp2_with (refine wpList_store_row rfl 34 (.tmp 6) (.tmp 34) rfl g6 #[.string x, .string y, .string z] rfl rfl 34 #[.string { data := #[] }, .string { data := #[] }, .string { data := #[] }] HY.out HI rfl (rt_all _ _ _) ?_)
        (try simp only [Exit.then, Exit.inBlock])
        refine bodyPost_ret (ret_rt rfl _ _ g6 _ rfl (setRow_heap _ _ _ _ _ _ HY.out) rfl) rfl ?_
        exact ⟨by (try rw [hd]); rfl, ⟨below_setRow HB4.out (by have := H34.out; omega) _⟩⟩
end Go.Proofs.YtdndpicfnlcgjaaDoor.Rou
