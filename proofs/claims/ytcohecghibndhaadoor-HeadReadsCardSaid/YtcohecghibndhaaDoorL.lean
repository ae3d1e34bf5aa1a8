/- Read of package head: what it answers is what the chapter tells. -/
import Derived.Test.YtcohecghibndhaaDoorK
import Derived.Test.YtcohecghibndhaaDoorI
namespace Go.Proofs.YtcohecghibndhaaDoor
open Go.RowKit HeadPlain

theorem splitK_count : ∀ (n : Nat) (l : List UInt8), l.length ≤ n → (Lib.splitK [13, 10] 0 (Lib.count l [13, 10]) l).length = Lib.count l [13, 10] + 1
  | n, l, hn => by
    cases he : eol (toN l) with
    | none =>
      have hi : Lib.index l [13, 10] = -1 := by rw [index2, he]; rfl
      rw [Lib.count_miss hi]
      rfl
    | some i =>
      have hi : Lib.index l [13, 10] = (i : Int) := by rw [index2, he]; rfl
      have hl : i + 2 ≤ l.length := by
        have h3 := (eol_drop he).1
        unfold two at h3
        have := congrArg List.length (beq_iff_eq.1 h3)
        rw [List.length_take, List.length_drop, toN_length] at this
        simp only [List.length_cons, List.length_nil] at this
        omega
      have hm : ¬ (Lib.index l [13, 10] == -1) = true := by rw [hi]; simp
      have hc : Lib.count l [13, 10] = Lib.count (l.drop (i + 2)) [13, 10] + 1 := by
        rw [Lib.count_hit (by simp) hi, Nat.add_comm]; rfl
      rw [hc, Lib.splitK, if_neg hm, hi]
      cases n with
      | zero => omega
      | succ n =>
        have ih := splitK_count n (l.drop (i + 2)) (by rw [List.length_drop]; omega)
        rw [List.length_cons]
        simp only [Int.toNat_natCast, List.length_cons, List.length_nil, Nat.reduceAdd]
        rw [ih]
theorem lines_any (s : ByteArray) (W : World) (hg : Globs W) (hs : s.size ≤ 90000) :
    Calls Tryd.prog 36 #[.string s] W fun e w' => Sl (Below W.heap.size W w') ∧ Sl (LinesR W w' (lines (bytes s ++ [13, 10])) e) := by
  have hsz : s.data.toList.length = s.size := by rw [Array.length_toList]; rfl
  have e1 : (Lib.splitB { data := #[13, 10] } 0 (Lib.countB s { data := #[13, 10] }) s).map bytes = lines (bytes s ++ [13, 10]) := by
    rw [splitB_bytes]
    exact split_lines _ s.data.toList (Nat.le_refl _)
  have e2 : (Lib.splitB { data := #[13, 10] } 0 (Lib.countB s { data := #[13, 10] }) s).length = Lib.countB s { data := #[13, 10] } + 1 := by
    have := splitK_count _ s.data.toList (Nat.le_refl _)
    have e3 := congrArg List.length (splitB_bytes { data := #[13, 10] } s (Lib.countB s { data := #[13, 10] }))
    rw [List.length_map, List.length_map] at e3
    rw [e3]
    exact this
  have e4 : Lib.countB s { data := #[13, 10] } ≤ s.size + 1 := by
    have := Lib.count_le s.data.toList [13, 10]
    rw [hsz] at this
    exact this
  rw [← e1]
  refine lines_run s _ W hg (fun h => by rw [h] at e2; simp at e2) (by rw [e2]; omega) (fun x hx => by have := piece_size _ _ _ _ hx; omega) (fun V hb => ?_)
  obtain ⟨m, hm⟩ := (hg.of hb).m
  rw [e2]
  exact Tryd.strings_Split s { data := #[13, 10] } m V (by omega) hm (by decide)

theorem rd_none' {s : List Nat} (h : fnd (s.take 2048) = none) : rd s = if s.length < 2048 then .more else .long := by
  unfold rd
  cases hf : fnd s with
  | none =>
    simp only
    by_cases h1 : s.length < 2048
    · rw [if_pos h1, if_neg (by omega)]
    · rw [if_neg h1, if_pos (by omega)]
  | some n =>
    have h1 := fnd_take_none h hf
    have h2 := (fnd_length hf).1
    simp only
    rw [if_pos h1, if_neg (by omega)]
theorem rd_some' {s : List Nat} {n : Nat} (h : fnd (s.take 2048) = some n) :
    rd s = match okL (lines (s.take n ++ [13, 10])) with | none => .form | some h => if 32 < h.fs.length then .long else .ok h (n + 4) := by
  obtain ⟨h1, h2⟩ := fnd_take_some h
  obtain ⟨h3, h4⟩ := fnd_length h1
  have e : s.take (n + 2) = s.take n ++ [13, 10] := by
    rw [List.take_add]
    congr 1
    unfold four at h4
    have := beq_iff_eq.1 h4
    have h5 := congrArg (List.take 2) this
    rw [List.take_take] at h5
    exact h5
  unfold rd
  rw [h1]
  simp only
  rw [if_neg (by omega), okL_eq]
  unfold rdAt
  rw [e]
  cases rdL (lines (s.take n ++ [13, 10])) with
  | none => rfl
  | some g =>
    simp only [Option.bind_some]
    by_cases hg : formB g = true
    · rw [if_pos hg, if_pos hg]
    · rw [if_neg hg, if_neg hg]

theorem fieldsAt_owns {w : World} {base : Nat} {v : Value} {fs : List FV} (ho : w.ownsRow base 48 2 v fs.length (cellsF fs)) (hs : ∀ f ∈ fs, f.1.size ≤ 1000000 ∧ f.2.size ≤ 1000000) (hl : fs.length < 100000) : FieldsAt w v fs := by
  obtain ⟨h1, h2⟩ := ho
  rcases h2 with ⟨rfl, hz⟩ | ⟨g, cap, cur, rfl, hg, hh, hc1, hc2, hsz, htk⟩
  · refine ⟨none, 0, 0, 0, by rw [hz], by omega, by omega, fun h => by omega, fun i hi => by omega⟩
  · refine ⟨some ⟨g, 0, none⟩, cap, g, 0, rfl, hc1, by unfold maxLen; omega, fun _ => rfl, fun i hi => ?_⟩
    have hmem := hs (fs.getD i f0) (by rw [List.getD_eq_getElem?_getD, List.getElem?_eq_getElem hi]; exact List.getElem_mem _)
    have key : ∀ (l : List FV) (i : Nat), i < l.length → (cellsF l)[i * 2]? = some (.string (l.getD i f0).1) ∧ (cellsF l)[i * 2 + 1]? = some (.string (l.getD i f0).2) := by
      intro l
      induction l with
      | nil => intro i hi; simp at hi
      | cons f l ih =>
        intro i hi
        rw [show cellsF (f :: l) = [.string f.1, .string f.2] ++ cellsF l from rfl]
        cases i with
        | zero => exact ⟨rfl, rfl⟩
        | succ i =>
          have := ih i (by simpa using hi)
          rw [show (i + 1) * 2 = i * 2 + 2 from by omega, show i * 2 + 2 + 1 = (i * 2 + 1) + 2 from by omega]
          rw [List.getElem?_append_right (by simp), List.getElem?_append_right (by simp)]
          simpa using this
    obtain ⟨k1, k2⟩ := key fs i hi
    have cell : ∀ j u, (cellsF fs)[j]? = some u → w.cell? ⟨g, j, none⟩ = some u := fun j u hu => by
      rw [cell_of_row _ _ _ _ _ _ hh]
      rw [← htk] at hu
      have hj : j < (cur.toList.take (fs.length * 2)).length := (List.getElem?_eq_some_iff.1 hu).1
      rw [List.length_take] at hj
      rw [List.getElem?_take_of_lt (by omega)] at hu
      simpa using hu
    refine ⟨?_, ?_, by have := hmem.1; unfold maxLen; omega, by have := hmem.2; unfold maxLen; omega⟩
    · rw [Nat.zero_add]; exact cell _ _ k1
    · rw [Nat.zero_add]; exact cell _ _ k2
/-- What Read answers. -/
def ReadR (w' : World) (s : List Nat) (e : Ending) : Prop :=
  match rd s with
  | .more => e = .returned (.tuple #[.agg #[.string e0, .string e0, .string e0, .slice none 0 0], .int .i64 0, .int .i64 50])
  | .long => e = .returned (.tuple #[.agg #[.string e0, .string e0, .string e0, .slice none 0 0], .int .i64 0, .int .i64 51])
  | .form => e = .returned (.tuple #[.agg #[.string e0, .string e0, .string e0, .slice none 0 0], .int .i64 0, .int .i64 52])
  | .ok hd n => ∃ (h : HdV) (v : Value), h.hd = hd ∧ e = .returned (.tuple #[.agg #[.string h.a, .string h.b, .string h.c, v], .int .i64 (n : Nat), .int .i64 0]) ∧ h.Siz ∧ FieldsAt w' v h.fs
theorem ret_head3 {fn : Func} {p u x : Tmp} (h : fn.results = #[.cell p 25, .tmp u, .tmp x]) (tmps : Array Value) (w : World) (g : Nat) (t : TypeId) (cs : Array Value) (fr : Nat × Nat)
    (hp : tmps.getD p undef = .pointer (some ⟨g, 0, none⟩)) (hg : w.heap[g]? = some (.cells cs t fr)) (hs : cs.size = 4) :
    (results fn tmps).run Tryd.prog w = .ok (.tuple #[.agg cs, tmps.getD u undef, tmps.getD x undef]) w := by
  have hi : (Tryd.prog.info? 25).map (·.size) = some cs.size := by rw [hs]; kernel_rfl
  have hp' : tmps[p]?.getD undef = .pointer (some ⟨g, 0, none⟩) := by simpa using hp
  simp only [results, h]
  simp [Result.andThen, hp', asAddr, run_loadVar_row (P := Tryd.prog) w g t 25 cs fr _ hg Tryd.underlying25 rfl hi]

theorem zero_cells {w : World} {g : Nat} (h : w.heap[g]? = some (.cells #[.string { data := #[] }, .string { data := #[] }, .string { data := #[] }, .slice none 0 0] 25 (0, 0))) :
    (w.cell? ⟨g, 0, none⟩ = some (.string { data := #[] }) ∧ w.cell? ⟨g, 1, none⟩ = some (.string { data := #[] }) ∧ w.cell? ⟨g, 2, none⟩ = some (.string { data := #[] }) ∧ w.cell? ⟨g, 3, none⟩ = some (.slice none 0 0)) ∧
    (w.frozen? ⟨g, 0, none⟩ = false ∧ w.frozen? ⟨g, 1, none⟩ = false ∧ w.frozen? ⟨g, 2, none⟩ = false ∧ w.frozen? ⟨g, 3, none⟩ = false) :=
  ⟨⟨by rw [cell_of_row _ _ _ _ _ _ h]; rfl, by rw [cell_of_row _ _ _ _ _ _ h]; rfl, by rw [cell_of_row _ _ _ _ _ _ h]; rfl, by rw [cell_of_row _ _ _ _ _ _ h]; rfl⟩,
   ⟨frozen_of_row _ _ _ _ _ h, frozen_of_row _ _ _ _ _ h, frozen_of_row _ _ _ _ _ h, frozen_of_row _ _ _ _ _ h⟩⟩

set_option maxHeartbeats 2000000 in
set_option maxRecDepth 100000 in
theorem read_any (s : List Nat) (v : Value) (W : World) (hg : Globs W) (hv : SrcS W v s) (hs : Small 256 s) (hL : s.length ≤ 100000) :
    Calls Tryd.prog 16 #[v] W fun e w' => Sl (ReadR w' s e) ∧ Sl (Below W.heap.size W w') := by
  have HG := Sl.mk hg
  have HV := Sl.mk hv
  have HSM := Sl.mk hs
  have HLN : Sl (∀ V : World, Below W.heap.size W V → Calls Tryd.prog 35 #[v] V fun e w' => e = .returned (.tuple #[.int .i64 (lenR s).1, .int .i64 ((lenR s).2 : Nat)]) ∧ Sl (Below V.heap.size V w')) := ⟨fun V hb => length_any s v V (hg.of hb) (hv.below hb) hs hL⟩
  have HLR : Sl (lenR s = match fnd (s.take 2048) with | some n => (((n + 4 : Nat) : Int), 0) | none => if s.length < 2048 then (0, 50) else (0, 51)) := ⟨rfl⟩
  cases hf : fnd (s.take 2048) with
  | none =>
    rw [hf] at HLR
    simp only at HLR
    obtain ⟨E, hE, hR⟩ : ∃ E : Nat, lenR s = (0, E) ∧ ((E = 50 ∧ rd s = .more) ∨ (E = 51 ∧ rd s = .long)) := by
      rw [HLR.out, rd_none' hf]
      by_cases h1 : s.length < 2048
      · rw [if_pos h1, if_pos h1]; exact ⟨50, rfl, Or.inl ⟨rfl, rfl⟩⟩
      · rw [if_neg h1, if_neg h1]; exact ⟨51, rfl, Or.inr ⟨rfl, rfl⟩⟩
    have HRR := Sl.mk hR
    rw [hE] at HLN
    have hE1 : ((E : Int) == 0) = false := by simp; omega
    clear hf hE hR hg hv hs hL
    go_enter Tryd.func16, Tryd.ntmps16
    go_wp2_with fail
    refine (HLN.out _ ((Below.refl _ _).alloc (Nat.le_refl _) _)).mono ?_
    rintro e w2 ⟨rfl, HB2⟩
    have HB3 : Sl (Below W.heap.size W w2) := ⟨below_trans ((Below.refl _ _).alloc (Nat.le_refl _) _) HB2.out⟩
    have HR4 : Sl (w2.heap[W.heap.size]? = some (.cells #[.string { data := #[] }, .string { data := #[] }, .string { data := #[] }, .slice none 0 0] 25 (0, 0))) := ⟨by
      rw [HB2.out.block _ (by rw [alloc_size]; omega)]; exact alloc_new _ _ _ rfl⟩
    obtain ⟨⟨d0, d1, d2, d3⟩, ⟨f0, f1, f2, f3⟩⟩ := zero_cells HR4.out
    clear HB2 HLN
    go_wp2
    refine bodyPost_ret (ret_head3 rfl _ _ W.heap.size 25 _ (0, 0) rfl (four_cells w2 _ _ _ _ _ _ _ _ _ HR4.out) rfl) rfl ?_
    refine ⟨⟨?_⟩, ⟨(((HB3.out.setCell (Nat.le_refl _) _).setCell (Nat.le_refl _) _).setCell (Nat.le_refl _) _).setCell (Nat.le_refl _) _⟩⟩
    unfold ReadR
    rcases HRR.out with ⟨rfl, hr⟩ | ⟨rfl, hr⟩
    · rw [hr]; rfl
    · rw [hr]; rfl
  | some n =>
    rw [hf] at HLR
    simp only at HLR
    have hrd := rd_some' hf
    have hfl := (fnd_length hf).1
    rw [List.length_take] at hfl
    obtain ⟨t, ht⟩ : ∃ t, strOf (s.take n) = t := ⟨_, rfl⟩
    have hbt : bytes t = s.take n := by rw [← ht]; exact bytes_strOf _ (hs.take n)
    have hts : t.size = n := by rw [← ht, strOf_size, List.length_take]; omega
    have HLI : Sl (∀ V : World, Below W.heap.size W V → Calls Tryd.prog 36 #[.string t] V fun e w' => Sl (Below V.heap.size V w') ∧ Sl (LinesR V w' (lines (s.take n ++ [13, 10])) e)) := ⟨fun V hb => by
      have := lines_any t V (hg.of hb) (by omega)
      rw [hbt] at this
      exact this⟩
    have HRD := Sl.mk hrd
    have HNN : Sl (n + 4 ≤ s.length ∧ n + 4 ≤ 2048) := ⟨by omega⟩
    obtain ⟨cap, sb, so, rfl, hcap, hcell⟩ := hv
    have HCV : Sl (∀ V : World, Below W.heap.size W V → (convert 28 9 (.slice (some ⟨sb, so, none⟩) n cap)).run Tryd.prog V = .ok (.string t) V) := ⟨fun V hb => by
      rw [← ht]
      refine run_convert_bytes_arg _ 28 5 Tryd.underlying28 Tryd.underlying5 sb so n cap ((s.take n).map fun (n : Nat) => (n : Int)) (by rw [List.length_map, List.length_take]; omega) (fun i hi => ?_) 9 Tryd.underlying9
      have hi' : i < n := hi
      have h1 := hcell i (by omega)
      rw [hb.cell (p := ⟨sb, so + i, none⟩) (block_lt_of_cell h1), h1]
      congr 2
      have hi2 : i < s.length := by omega
      simp only [List.getD_eq_getElem?_getD, List.getElem?_map]
      rw [List.getElem?_take_of_lt hi', List.getElem?_eq_getElem hi2]
      rfl⟩
    rw [HLR.out] at HLN
    obtain ⟨L, hl⟩ : ∃ L, s.length = L := ⟨_, rfl⟩
    rw [hl] at HNN hcap HLN hL
    have hn1 := HNN.out.1
    have hn2 := HNN.out.2
    rw [hl]
    clear hf hg hs hrd hfl ht hbt hts hcell hl
    go_enter Tryd.func16, Tryd.ntmps16
    go_wp2_with fail
    refine (HLN.out _ ((Below.refl _ _).alloc (Nat.le_refl _) _)).mono ?_
    rintro e w2 ⟨rfl, HB2⟩
    have HB3 : Sl (Below W.heap.size W w2) := ⟨below_trans ((Below.refl _ _).alloc (Nat.le_refl _) _) HB2.out⟩
    have HR2 : Sl (w2.heap[W.heap.size]? = some (.cells #[.string { data := #[] }, .string { data := #[] }, .string { data := #[] }, .slice none 0 0] 25 (0, 0))) := ⟨by
      rw [HB2.out.block _ (by rw [alloc_size]; omega)]; exact alloc_new _ _ _ rfl⟩
    have hcv := HCV.out w2 HB3.out
    have hw1 : ((((n + 4 : Nat) : Int)) - 4) = (n : Int) := by omega
    clear HB2 HLN
    go_wp2_with fail
    refine (HLI.out _ HB3.out).mono ?_
    rintro e w3 ⟨HB4, HLS⟩
    have HB5 : Sl (Below W.heap.size W w3) := ⟨below_trans HB3.out HB4.out⟩
    have HR3 : Sl (w3.heap[W.heap.size]? = some (.cells #[.string { data := #[] }, .string { data := #[] }, .string { data := #[] }, .slice none 0 0] 25 (0, 0))) := ⟨by
      rw [HB4.out.block _ (lt_of_block HR2.out)]; exact HR2.out⟩
    have HRL : Sl (W.heap.size < w2.heap.size) := ⟨lt_of_block HR2.out⟩
    clear HR2 HB3 HCV hcv HLI
    rcases HLS.out with ⟨hO, rfl⟩ | ⟨h, v, hO, rfl, hSz, hOw, hFl⟩
    · have HRR : Sl (rd s = .form) := ⟨by rw [HRD.out, hO]⟩
      have HR4 : Sl ((w3.alloc (.cells #[.string e0, .string e0, .string e0, .slice none 0 0] 25)).heap[W.heap.size]? = some (.cells #[.string { data := #[] }, .string { data := #[] }, .string { data := #[] }, .slice none 0 0] 25 (0, 0))) := ⟨by
        rw [alloc_old _ _ _ (lt_of_block HR3.out)]; exact HR3.out⟩
      obtain ⟨⟨d0, d1, d2, d3⟩, ⟨f0, f1, f2, f3⟩⟩ := zero_cells HR4.out
      have HB6 : Sl (Below W.heap.size W (w3.alloc (.cells #[.string e0, .string e0, .string e0, .slice none 0 0] 25))) := ⟨HB5.out.alloc HB5.out.size _⟩
      clear HLS hO HR3
      go_wp2
      refine bodyPost_ret (ret_head3 rfl _ _ W.heap.size 25 _ (0, 0) rfl (four_cells _ _ _ _ _ _ _ _ _ _ HR4.out) rfl) rfl ?_
      refine ⟨⟨?_⟩, ⟨(((HB6.out.setCell (Nat.le_refl _) _).setCell (Nat.le_refl _) _).setCell (Nat.le_refl _) _).setCell (Nat.le_refl _) _⟩⟩
      unfold ReadR
      rw [HRR.out]; rfl
    · obtain ⟨av, nv, cv, hvv, hnv⟩ : ∃ a n c, v = .slice a n c ∧ n = h.fs.length := by
        obtain ⟨_, h2⟩ := hOw
        rcases h2 with ⟨rfl, hz⟩ | ⟨g, cap, cur, rfl, _⟩
        · exact ⟨_, _, _, rfl, hz.symm⟩
        · exact ⟨_, _, _, rfl, rfl⟩
      subst hvv
      subst hnv
      have HR4 : Sl ((w3.alloc (.cells #[.string h.a, .string h.b, .string h.c, .slice av h.fs.length cv] 25)).heap[W.heap.size]? = some (.cells #[.string { data := #[] }, .string { data := #[] }, .string { data := #[] }, .slice none 0 0] 25 (0, 0))) := ⟨by
        rw [alloc_old _ _ _ (lt_of_block HR3.out)]; exact HR3.out⟩
      obtain ⟨⟨d0, d1, d2, d3⟩, ⟨f0, f1, f2, f3⟩⟩ := zero_cells HR4.out
      have HB6 : Sl (Below W.heap.size W (w3.alloc (.cells #[.string h.a, .string h.b, .string h.c, .slice av h.fs.length cv] 25))) := ⟨HB5.out.alloc HB5.out.size _⟩
      have HOW := Sl.mk hOw
      have HOL : Sl ((Value.slice av h.fs.length cv).ownBlock ≠ some W.heap.size) := ⟨fun e => by
        have h1 := (hOw.lt _ e).1
        have h2 := HRL.out
        omega⟩
      have HSz := Sl.mk hSz
      have HFl := Sl.mk hFl
      clear HLS hOw hSz hFl HR3
      by_cases h32 : 32 < h.fs.length
      · have h32' : (h.fs.length : Int) > 32 := by omega
        have HRR : Sl (rd s = .long) := ⟨by
          rw [HRD.out, hO]
          have e : h.hd.fs.length = h.fs.length := List.length_map _
          simp only [e]
          rw [if_pos h32]⟩
        clear hO
        go_wp2
        refine bodyPost_ret (ret_head3 rfl _ _ W.heap.size 25 _ (0, 0) rfl (four_cells _ _ _ _ _ _ _ _ _ _ HR4.out) rfl) rfl ?_
        refine ⟨⟨?_⟩, ⟨(((HB6.out.setCell (Nat.le_refl _) _).setCell (Nat.le_refl _) _).setCell (Nat.le_refl _) _).setCell (Nat.le_refl _) _⟩⟩
        unfold ReadR
        rw [HRR.out]; rfl
      · have h32' : ((h.fs.length : Int) > 32) = False := eq_false (by omega)
        have HRR : Sl (rd s = .ok h.hd (n + 4)) := ⟨by
          rw [HRD.out, hO]
          have e : h.hd.fs.length = h.fs.length := List.length_map _
          simp only [e]
          rw [if_neg h32]⟩
        clear hO
        go_wp2
        refine bodyPost_ret (ret_head3 rfl _ _ W.heap.size 25 _ (0, 0) rfl (four_cells _ _ _ _ _ _ _ _ _ _ HR4.out) rfl) rfl ?_
        refine ⟨⟨?_⟩, ⟨(((HB6.out.setCell (Nat.le_refl _) _).setCell (Nat.le_refl _) _).setCell (Nat.le_refl _) _).setCell (Nat.le_refl _) _⟩⟩
        unfold ReadR
        rw [HRR.out]
        refine ⟨h, _, rfl, rfl, HSz.out, ?_⟩
        exact fieldsAt_owns (ownsRow_setCell_other (ownsRow_setCell_other (ownsRow_setCell_other (ownsRow_setCell_other (HOW.out.alloc _) HOL.out _) HOL.out _) HOL.out _) HOL.out _) HSz.out.f HFl.out
end Go.Proofs.YtcohecghibndhaaDoor
