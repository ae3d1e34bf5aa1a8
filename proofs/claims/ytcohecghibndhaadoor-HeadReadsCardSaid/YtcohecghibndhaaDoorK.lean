/- readLines: the head of lines. -/
import Derived.Test.YtcohecghibndhaaDoorJ
namespace Go.Proofs.YtcohecghibndhaaDoor
open Go.RowKit HeadPlain

theorem okFs_app (a b : List (List Nat)) : okFs (a ++ b) = (okFs a).bind fun x => (okFs b).map fun y => x ++ y := by
  induction a with
  | nil => simp only [List.nil_append, okFs, Option.bind_some]; cases okFs b <;> rfl
  | cons l a ih =>
    rw [List.cons_append, okFs, okFs, ih]
    cases okF l with
    | none => rfl
    | some f =>
      simp only [Option.bind_some]
      cases okFs a with
      | none => rfl
      | some x =>
        simp only [Option.bind_some, Option.map_some]
        cases okFs b <;> rfl
theorem okL_bad {a : List (List Nat)} {l : List Nat} {r : List (List Nat)} (ha : a ≠ []) (h : okF l = none) : okL (a ++ l :: r) = none := by
  obtain ⟨x, t, rfl⟩ := List.exists_cons_of_ne_nil ha
  rw [List.cons_append, okL, okFs_app, okFs, h]
  cases ok1 x with
  | none => rfl
  | some p => simp only [Option.bind_some]; cases okFs t <;> rfl
theorem okL_bad1 {l : List Nat} {r : List (List Nat)} (h : ok1 l = none) : okL (l :: r) = none := by rw [okL, h]; rfl
/-- The strings of a head are no longer than that. -/
structure HdV.Siz (h : HdV) : Prop where
  a : h.a.size ≤ 1000000
  b : h.b.size ≤ 1000000
  c : h.c.size ≤ 1000000
  f : ∀ f ∈ h.fs, f.1.size ≤ 1000000 ∧ f.2.size ≤ 1000000
def hZ : HdV := ⟨e0, e0, e0, []⟩
/-- What the loop of readLines holds to. -/
structure RL (w0 : World) (C PB : Nat) (ls : List ByteArray) (k : Nat) (f : Value) (wr : World) : Prop where
  p : wr.heap[PB]? = some (.cells (ls.map Value.string).toArray 9 (0, 0))
  c : (k = 0 ∧ f = .func (.func 48) #[] #[.pointer (some ⟨C, 0, none⟩)] ∧ HI w0 C hZ wr) ∨
    (1 ≤ k ∧ f = .func (.func 50) #[] #[.pointer (some ⟨C, 0, none⟩)] ∧ ∃ h, HI w0 C h wr ∧ okL ((ls.take k).map bytes) = some h.hd ∧ h.Siz ∧ h.fs.length < k)

theorem ret_head {fn : Func} {p u : Tmp} (h : fn.results = #[.cell p 25, .tmp u]) (tmps : Array Value) (w : World) (g : Nat) (t : TypeId) (cs : Array Value) (fr : Nat × Nat)
    (hp : tmps.getD p undef = .pointer (some ⟨g, 0, none⟩)) (hg : w.heap[g]? = some (.cells cs t fr)) (hs : cs.size = 4) :
    (results fn tmps).run Tryd.prog w = .ok (.tuple #[.agg cs, tmps.getD u undef]) w := by
  have hi : (Tryd.prog.info? 25).map (·.size) = some cs.size := by rw [hs]; kernel_rfl
  rw [results_cell_tmp h, hp]
  simp [asAddr, Result.andThen, run_loadVar_row (P := Tryd.prog) w g t 25 cs fr _ hg Tryd.underlying25 rfl hi]

theorem four_cells (w : World) (g : Nat) (a b c : ByteArray) (v v0 v1 v2 v3 : Value) (h : w.heap[g]? = some (.cells #[v0, v1, v2, v3] 25 (0, 0))) :
    ((((w.setCell ⟨g, 0, none⟩ (.string a)).setCell ⟨g, 1, none⟩ (.string b)).setCell ⟨g, 2, none⟩ (.string c)).setCell ⟨g, 3, none⟩ v).heap[g]? = some (.cells #[.string a, .string b, .string c, v] 25 (0, 0)) := by
  rw [heap_setCell_same _ _ _ _ _ _ (heap_setCell_same _ _ _ _ _ _ (heap_setCell_same _ _ _ _ _ _ (heap_setCell_same _ _ _ _ _ _ h)))]
  rfl
theorem okL_take {ls : List ByteArray} {k : Nat} {x : ByteArray} (hk : k < ls.length) (h1 : 1 ≤ k) (hx : ls.getD k ByteArray.empty = x) (h : HdV) (hO : okL ((ls.take k).map bytes) = some h.hd) :
    okL ((ls.take (k + 1)).map bytes) = (okF (bytes x)).map fun f => ⟨h.hd.a, h.hd.b, h.hd.c, h.hd.fs ++ [f]⟩ := by
  have e : ls.getD k ByteArray.empty = ls[k] := by simp [List.getD_eq_getElem?_getD, List.getElem?_eq_getElem hk]
  rw [List.take_succ_eq_append_getElem hk, List.map_append, ← e, hx]
  have hne : (ls.take k).map bytes ≠ [] := by
    intro e2
    have := congrArg List.length e2
    rw [List.length_map, List.length_take] at this
    simp only [List.length_nil] at this
    omega
  obtain ⟨y, t, ht⟩ := List.exists_cons_of_ne_nil hne
  rw [ht] at hO ⊢
  rw [show List.map bytes [x] = [bytes x] from rfl, okL_snoc, hO]
  rfl
theorem okL_no {ls : List ByteArray} {k : Nat} {x : ByteArray} (hk : k < ls.length) (h1 : 1 ≤ k) (hx : ls.getD k ByteArray.empty = x) (hF : okF (bytes x) = none) : okL (ls.map bytes) = none := by
  have e : ls.getD k ByteArray.empty = ls[k] := by simp [List.getD_eq_getElem?_getD, List.getElem?_eq_getElem hk]
  have e2 : ls = ls.take k ++ x :: ls.drop (k + 1) := by
    conv => lhs; rw [← List.take_append_drop k ls, List.drop_eq_getElem_cons hk, ← e, hx]
  rw [e2, List.map_append, List.map_cons]
  refine okL_bad ?_ hF
  intro e3
  have := congrArg List.length e3
  rw [List.length_map, List.length_take] at this
  simp only [List.length_nil] at this
  omega
/-- What readLines answers. -/
def LinesR (W w' : World) (l : List (List Nat)) (e : Ending) : Prop :=
  (okL l = none ∧ e = .returned (.tuple #[.agg #[.string e0, .string e0, .string e0, .slice none 0 0], .bool false])) ∨
  (∃ (h : HdV) (v : Value), okL l = some h.hd ∧ e = .returned (.tuple #[.agg #[.string h.a, .string h.b, .string h.c, v], .bool true]) ∧ h.Siz ∧ w'.ownsRow W.heap.size 48 2 v h.fs.length (cellsF h.fs) ∧ h.fs.length < 100000)

set_option maxHeartbeats 2000000 in
set_option maxRecDepth 100000 in
theorem lines_run (s : ByteArray) (ls : List ByteArray) (W : World) (hg : Globs W) (hne : ls ≠ []) (hlen : ls.length ≤ 100000) (hsz : ∀ x ∈ ls, x.size ≤ 1000000)
    (hsp : ∀ V : World, Below W.heap.size W V → Calls Tryd.prog 53 #[.string s, .string { data := #[13, 10] }] V fun e w' => e = .returned (.slice (some ⟨V.heap.size, 0, none⟩) ls.length ls.length) ∧ w' = V.alloc (.cells (ls.map Value.string).toArray 9)) :
    Calls Tryd.prog 36 #[.string s] W fun e w' => Sl (Below W.heap.size W w') ∧ Sl (LinesR W w' (ls.map bytes) e) := by
  have HG := Sl.mk hg
  have HSP := Sl.mk hsp
  have HNE := Sl.mk hne
  have HSZ := Sl.mk hsz
  obtain ⟨n, hn⟩ : ∃ n, ls.length = n := ⟨_, rfl⟩
  have HN := Sl.mk hn
  rw [hn] at HSP hlen
  clear hg hsp hne hsz hn
  have HS2 : Sl (Calls Tryd.prog 53 #[.string s, .string { data := #[13, 10] }] ((W.alloc (.cells #[.string { data := #[] }, .string { data := #[] }, .string { data := #[] }, .slice none 0 0] 25)).alloc (.cells #[.string { data := #[] }, .string { data := #[] }, .string { data := #[] }, .slice none 0 0] 25)) fun e w' => e = .returned (.slice (some ⟨(W.alloc (.cells #[.string { data := #[] }, .string { data := #[] }, .string { data := #[] }, .slice none 0 0] 25)).heap.size + 1, 0, none⟩) n n) ∧ w' = ((W.alloc (.cells #[.string { data := #[] }, .string { data := #[] }, .string { data := #[] }, .slice none 0 0] 25)).alloc (.cells #[.string { data := #[] }, .string { data := #[] }, .string { data := #[] }, .slice none 0 0] 25)).alloc (.cells (ls.map Value.string).toArray 9)) := ⟨by
    have h := HSP.out ((W.alloc (.cells #[.string { data := #[] }, .string { data := #[] }, .string { data := #[] }, .slice none 0 0] 25)).alloc (.cells #[.string { data := #[] }, .string { data := #[] }, .string { data := #[] }, .slice none 0 0] 25)) (((Below.refl _ _).alloc (Nat.le_refl _) _).alloc (by rw [alloc_size]; omega) _)
    rw [alloc_size] at h
    exact h⟩
  clear HSP
  obtain ⟨w0, hw0⟩ : ∃ w0, W.alloc (.cells #[.string { data := #[] }, .string { data := #[] }, .string { data := #[] }, .slice none 0 0] 25) = w0 := ⟨_, rfl⟩
  have HW0 : Sl (w0.heap.size = W.heap.size + 1) := ⟨by rw [← hw0, alloc_size]⟩
  have HR0 : Sl (w0.heap[W.heap.size]? = some (.cells #[.string { data := #[] }, .string { data := #[] }, .string { data := #[] }, .slice none 0 0] 25 (0, 0))) := ⟨by rw [← hw0]; exact alloc_new _ _ _ rfl⟩
  have HBW : Sl (Below W.heap.size W w0) := ⟨by rw [← hw0]; exact (Below.refl _ _).alloc (Nat.le_refl _) _⟩
  have HG0 : Sl (Globs w0) := ⟨HG.out.of HBW.out⟩
  rw [hw0] at HS2
  have HL0 : Sl (RL w0 w0.heap.size (w0.heap.size + 1) ls 0 (.func (.func 48) #[] #[.pointer (some ⟨w0.heap.size, 0, none⟩)]) ((w0.alloc (.cells #[.string { data := #[] }, .string { data := #[] }, .string { data := #[] }, .slice none 0 0] 25)).alloc (.cells (ls.map Value.string).toArray 9))) := ⟨⟨alloc_new _ _ _ (by rw [alloc_size]), Or.inl ⟨rfl, rfl, ⟨⟨_, by rw [alloc_old _ _ _ (by rw [alloc_size]; omega)]; exact alloc_new _ _ _ rfl, World.ownsRow_nil _ _ _ _⟩, ((Below.refl _ _).alloc (Nat.le_refl _) _).alloc (by rw [alloc_size]; omega) _⟩⟩⟩⟩
  go_enter Tryd.func36, Tryd.ntmps36
  go_wp2_with fail
  refine HS2.out.mono ?_
  rintro e w3 ⟨rfl, hw3⟩
  rw [← hw3] at HL0
  clear HS2 hw3 hw0
  go_wp2
  go_loopw [7, 16] (fun f i wr => ∃ k : Nat, k ≤ n ∧ i = .int .i64 k ∧ RL w0 w0.heap.size (w0.heap.size + 1) ls k f wr) (fun _ i _ => n - (intOf i).toNat)
  case atStart => exact ⟨0, Nat.zero_le _, rfl, HL0.out⟩
  case round =>
    obtain ⟨k, hk, rfl, hrel⟩ := hrel
    have HRL := Sl.mk hrel
    clear hrel HL0
    by_cases hlt : k < n
    · obtain ⟨x, hx⟩ : ∃ x, ls.getD k ByteArray.empty = x := ⟨_, rfl⟩
      have HX := Sl.mk hx
      have HXM : Sl (x.size ≤ 1000000) := ⟨HSZ.out x (by rw [← hx, List.getD_eq_getElem?_getD, List.getElem?_eq_getElem (by rw [HN.out]; exact hlt)]; exact List.getElem_mem _)⟩
      have hcx : wr.cell? ⟨w0.heap.size + 1, k, none⟩ = some (.string x) := by
        rw [cell_of_row _ _ _ _ _ _ HRL.out.p, List.getElem?_toArray, List.getElem?_map, List.getElem?_eq_getElem (by rw [HN.out]; exact hlt), ← hx, List.getD_eq_getElem?_getD, List.getElem?_eq_getElem (by rw [HN.out]; exact hlt)]
        rfl
      have hk0 : (0 : Int) ≤ (k : Int) := by omega
      have hk1 : (k : Int) < (n : Int) := by omega
      clear hx
      rcases HRL.out.c with ⟨rfl, rfl, hI⟩ | ⟨hk2, rfl, h, hI, hO, hSz, hFl⟩
      · have HI0 := Sl.mk hI
        clear hI
        go_wp2_with fail
        refine (line1_any w0 w0.heap.size x _ HG0.out (Nat.le_refl _) HI0.out HXM.out).mono ?_
        rintro e w4 ⟨rfl, HB4, HK4, HP4⟩
        have HPB : Sl (w4.heap[w0.heap.size + 1]? = some (.cells (ls.map Value.string).toArray 9 (0, 0))) := ⟨HK4.out _ _ HRL.out.p⟩
        have HR4 : Sl (w4.heap[W.heap.size]? = some (.cells #[.string { data := #[] }, .string { data := #[] }, .string { data := #[] }, .slice none 0 0] 25 (0, 0))) := ⟨by rw [HB4.out.block _ (by rw [HW0.out]; omega)]; exact HR0.out⟩
        have HBW4 : Sl (Below W.heap.size W w4) := ⟨below_trans HBW.out HB4.out⟩
        clear hcx HRL HI0
        cases hok : ok1 (bytes x) with
        | none =>
          have HNO : Sl (okL (ls.map bytes) = none) := ⟨by
            match ls, HN.out with
            | [], hl => simp at hl; omega
            | y :: r, _ =>
              have e : y = x := HX.out
              subst e
              exact okL_bad1 hok⟩
          have d0 : w4.cell? ⟨W.heap.size, 0, none⟩ = some (.string { data := #[] }) := by rw [cell_of_row _ _ _ _ _ _ HR4.out]; rfl
          have d1 : w4.cell? ⟨W.heap.size, 1, none⟩ = some (.string { data := #[] }) := by rw [cell_of_row _ _ _ _ _ _ HR4.out]; rfl
          have d2 : w4.cell? ⟨W.heap.size, 2, none⟩ = some (.string { data := #[] }) := by rw [cell_of_row _ _ _ _ _ _ HR4.out]; rfl
          have d3 : w4.cell? ⟨W.heap.size, 3, none⟩ = some (.slice none 0 0) := by rw [cell_of_row _ _ _ _ _ _ HR4.out]; rfl
          have f0 : w4.frozen? ⟨W.heap.size, 0, none⟩ = false := frozen_of_row _ _ _ _ _ HR4.out
          have f1 : w4.frozen? ⟨W.heap.size, 1, none⟩ = false := frozen_of_row _ _ _ _ _ HR4.out
          have f2 : w4.frozen? ⟨W.heap.size, 2, none⟩ = false := frozen_of_row _ _ _ _ _ HR4.out
          have f3 : w4.frozen? ⟨W.heap.size, 3, none⟩ = false := frozen_of_row _ _ _ _ _ HR4.out
          go_wp2
          refine bodyPost_ret (ret_head rfl _ _ W.heap.size 25 _ (0, 0) rfl (four_cells w4 _ _ _ _ _ _ _ _ _ HR4.out) rfl) rfl ?_
          exact ⟨⟨(((HBW4.out.setCell (Nat.le_refl _) _).setCell (Nat.le_refl _) _).setCell (Nat.le_refl _) _).setCell (Nat.le_refl _) _⟩, ⟨Or.inl ⟨HNO.out, rfl⟩⟩⟩
        | some p =>
          obtain ⟨a, b, c, hp, sa, sb, sc, hI4⟩ := HP4.out p hok
          have HRL4 : Sl (RL w0 w0.heap.size (w0.heap.size + 1) ls (0 + 1) (.func (.func 50) #[] #[.pointer (some ⟨w0.heap.size, 0, none⟩)]) w4) := ⟨⟨HPB.out, Or.inr ⟨Nat.le_refl _, rfl, ⟨a, b, c, []⟩, hI4, by
            match ls, HN.out with
            | [], hl => simp at hl; omega
            | y :: r, _ =>
              have e : y = x := HX.out
              subst e
              show okL [bytes y] = _
              rw [okL, hok, ← hp]
              rfl, ⟨sa, sb, sc, fun f hf => by cases hf⟩, Nat.zero_lt_one⟩⟩⟩
          clear hI4 hp sa sb sc HP4
          go_wp2
          refine ⟨⟨0 + 1, by omega, by go_num, HRL4.out⟩, by simp [intOf]; omega⟩
      · have HI0 := Sl.mk hI
        have HO := Sl.mk hO
        have HSz := Sl.mk hSz
        have HFl := Sl.mk hFl
        clear hI hO hSz hFl
        go_wp2_with fail
        refine (lineF_any w0 w0.heap.size x _ h HG0.out (Nat.le_refl _) HI0.out HXM.out (by have := HFl.out; omega)).mono ?_
        rintro e w4 ⟨rfl, HB4, HK4, HP4⟩
        have HPB : Sl (w4.heap[w0.heap.size + 1]? = some (.cells (ls.map Value.string).toArray 9 (0, 0))) := ⟨HK4.out _ _ HRL.out.p⟩
        have HR4 : Sl (w4.heap[W.heap.size]? = some (.cells #[.string { data := #[] }, .string { data := #[] }, .string { data := #[] }, .slice none 0 0] 25 (0, 0))) := ⟨by rw [HB4.out.block _ (by rw [HW0.out]; omega)]; exact HR0.out⟩
        have HBW4 : Sl (Below W.heap.size W w4) := ⟨below_trans HBW.out HB4.out⟩
        clear hcx HRL HI0
        cases hok : okF (bytes x) with
        | none =>
          have HNO : Sl (okL (ls.map bytes) = none) := ⟨okL_no (by rw [HN.out]; exact hlt) hk2 HX.out hok⟩
          have d0 : w4.cell? ⟨W.heap.size, 0, none⟩ = some (.string { data := #[] }) := by rw [cell_of_row _ _ _ _ _ _ HR4.out]; rfl
          have d1 : w4.cell? ⟨W.heap.size, 1, none⟩ = some (.string { data := #[] }) := by rw [cell_of_row _ _ _ _ _ _ HR4.out]; rfl
          have d2 : w4.cell? ⟨W.heap.size, 2, none⟩ = some (.string { data := #[] }) := by rw [cell_of_row _ _ _ _ _ _ HR4.out]; rfl
          have d3 : w4.cell? ⟨W.heap.size, 3, none⟩ = some (.slice none 0 0) := by rw [cell_of_row _ _ _ _ _ _ HR4.out]; rfl
          have f0 : w4.frozen? ⟨W.heap.size, 0, none⟩ = false := frozen_of_row _ _ _ _ _ HR4.out
          have f1 : w4.frozen? ⟨W.heap.size, 1, none⟩ = false := frozen_of_row _ _ _ _ _ HR4.out
          have f2 : w4.frozen? ⟨W.heap.size, 2, none⟩ = false := frozen_of_row _ _ _ _ _ HR4.out
          have f3 : w4.frozen? ⟨W.heap.size, 3, none⟩ = false := frozen_of_row _ _ _ _ _ HR4.out
          go_wp2
          refine bodyPost_ret (ret_head rfl _ _ W.heap.size 25 _ (0, 0) rfl (four_cells w4 _ _ _ _ _ _ _ _ _ HR4.out) rfl) rfl ?_
          exact ⟨⟨(((HBW4.out.setCell (Nat.le_refl _) _).setCell (Nat.le_refl _) _).setCell (Nat.le_refl _) _).setCell (Nat.le_refl _) _⟩, ⟨Or.inl ⟨HNO.out, rfl⟩⟩⟩
        | some f =>
          obtain ⟨g, hgf, sa, sb, hI4⟩ := HP4.out f hok
          have HRL4 : Sl (RL w0 w0.heap.size (w0.heap.size + 1) ls (k + 1) (.func (.func 50) #[] #[.pointer (some ⟨w0.heap.size, 0, none⟩)]) w4) := ⟨⟨HPB.out, Or.inr ⟨by omega, rfl, ⟨h.a, h.b, h.c, h.fs ++ [g]⟩, hI4, by
            rw [okL_take (by rw [HN.out]; exact hlt) hk2 HX.out h HO.out, hok, ← hgf]
            simp [HdV.hd], ⟨HSz.out.a, HSz.out.b, HSz.out.c, fun f hf => by
              rcases List.mem_append.1 hf with hf | hf
              · exact HSz.out.f f hf
              · simp at hf; subst hf; exact ⟨sa, sb⟩⟩, by
              show (h.fs ++ [g]).length < k + 1
              rw [List.length_append]
              have := HFl.out
              simp only [List.length_cons, List.length_nil]
              omega⟩⟩⟩
          clear hI4 hgf sa sb HP4
          go_wp2
          refine ⟨⟨k + 1, by omega, by go_num, HRL4.out⟩, by simp [intOf]; omega⟩
    · have hge : ((k : Int) < (n : Int)) = False := eq_false (by omega)
      obtain rfl : k = n := by omega
      rcases HRL.out.c with ⟨rfl, _, _⟩ | ⟨hk2, rfl, h, hI, hO, hSz, hFl⟩
      · exfalso
        apply HNE.out
        exact List.eq_nil_of_length_eq_zero HN.out
      · obtain ⟨v, hc, ho⟩ := hI.ex
        obtain ⟨av, nv, cv, rfl⟩ : ∃ a n c, v = .slice a n c := by
          obtain ⟨_, h2⟩ := ho
          rcases h2 with ⟨rfl, _⟩ | ⟨g, cap, cur, rfl, _⟩
          · exact ⟨_, _, _, rfl⟩
          · exact ⟨_, _, _, rfl⟩
        have HO : Sl (okL (ls.map bytes) = some h.hd) := ⟨by
          rw [← hO, List.take_of_length_le (by rw [HN.out]; exact Nat.le_refl _)]⟩
        have HOW := Sl.mk ho
        have HSz := Sl.mk hSz
        have HFl := Sl.mk hFl
        have HR4 : Sl (wr.heap[W.heap.size]? = some (.cells #[.string { data := #[] }, .string { data := #[] }, .string { data := #[] }, .slice none 0 0] 25 (0, 0))) := ⟨by rw [hI.b.block _ (by rw [HW0.out]; omega)]; exact HR0.out⟩
        have HBW4 : Sl (Below W.heap.size W wr) := ⟨below_trans HBW.out hI.b⟩
        have q0 : wr.cell? ⟨w0.heap.size, 0, none⟩ = some (.string h.a) := by rw [cell_of_row _ _ _ _ _ _ hc]; rfl
        have q1 : wr.cell? ⟨w0.heap.size, 1, none⟩ = some (.string h.b) := by rw [cell_of_row _ _ _ _ _ _ hc]; rfl
        have q2 : wr.cell? ⟨w0.heap.size, 2, none⟩ = some (.string h.c) := by rw [cell_of_row _ _ _ _ _ _ hc]; rfl
        have q3 : wr.cell? ⟨w0.heap.size, 3, none⟩ = some (.slice av nv cv) := by rw [cell_of_row _ _ _ _ _ _ hc]; rfl
        clear hI hc ho hO hSz hFl
        have d0 : wr.cell? ⟨W.heap.size, 0, none⟩ = some (.string { data := #[] }) := by rw [cell_of_row _ _ _ _ _ _ HR4.out]; rfl
        have d1 : wr.cell? ⟨W.heap.size, 1, none⟩ = some (.string { data := #[] }) := by rw [cell_of_row _ _ _ _ _ _ HR4.out]; rfl
        have d2 : wr.cell? ⟨W.heap.size, 2, none⟩ = some (.string { data := #[] }) := by rw [cell_of_row _ _ _ _ _ _ HR4.out]; rfl
        have d3 : wr.cell? ⟨W.heap.size, 3, none⟩ = some (.slice none 0 0) := by rw [cell_of_row _ _ _ _ _ _ HR4.out]; rfl
        have f0 : wr.frozen? ⟨W.heap.size, 0, none⟩ = false := frozen_of_row _ _ _ _ _ HR4.out
        have f1 : wr.frozen? ⟨W.heap.size, 1, none⟩ = false := frozen_of_row _ _ _ _ _ HR4.out
        have f2 : wr.frozen? ⟨W.heap.size, 2, none⟩ = false := frozen_of_row _ _ _ _ _ HR4.out
        have f3 : wr.frozen? ⟨W.heap.size, 3, none⟩ = false := frozen_of_row _ _ _ _ _ HR4.out
        go_wp2
        refine bodyPost_ret (ret_head rfl _ _ W.heap.size 25 _ (0, 0) rfl (four_cells wr _ _ _ _ _ _ _ _ _ HR4.out) rfl) rfl ?_
        refine ⟨⟨(((HBW4.out.setCell (Nat.le_refl _) _).setCell (Nat.le_refl _) _).setCell (Nat.le_refl _) _).setCell (Nat.le_refl _) _⟩, ⟨Or.inr ⟨h, _, HO.out, rfl, HSz.out, ?_, by have := HFl.out; omega⟩⟩⟩
        have hbl : (Value.slice av nv cv).ownBlock ≠ some W.heap.size := fun e => by
          have := (HOW.out.lt _ e).1
          have := HW0.out
          omega
        have h0 : wr.ownsRow W.heap.size 48 2 (.slice av nv cv) h.fs.length (cellsF h.fs) := by
          obtain ⟨h1, h2⟩ := HOW.out
          refine ⟨h1, ?_⟩
          rcases h2 with h2 | ⟨g, cap, cur, h3, hg, r⟩
          · exact Or.inl h2
          · exact Or.inr ⟨g, cap, cur, h3, by have := HW0.out; omega, r⟩
        exact ownsRow_setCell_other (ownsRow_setCell_other (ownsRow_setCell_other (ownsRow_setCell_other h0 hbl _) hbl _) hbl _) hbl _
end Go.Proofs.YtcohecghibndhaaDoor
