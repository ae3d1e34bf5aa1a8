/- What Show's bytes are as a text, and handed to Read; the contract of awake. -/
import Derived.Test.YtcohecghibndhaaDoorN
import Derived.Test.YtcohecghibndhaaDoorH
import Derived.Laws.StructEq
namespace Go.Proofs.YtcohecghibndhaaDoor
open Go.RowKit HeadPlain

/-- Threes of texts are compared text by text. -/
theorem eq22 (a b c x y z : ByteArray) (W : World) : (Op.equalIn 10000 22 (.agg #[.string a, .string b, .string c]) (.agg #[.string x, .string y, .string z])).run Tryd.prog W = .ok ((a.toList == x.toList) && ((b.toList == y.toList) && (c.toList == z.toList))) W := by
  have c9 : Tryd.prog.cellsOf 9 = 1 := by kernel_rfl
  have hs : (Tryd.prog.info? 9).map (·.size) = some 1 := by kernel_rfl
  have ha : ∀ w, (isAgg 9).run Tryd.prog w = .ok false w := run_isAgg_plain Tryd.underlying9 rfl
  have e9 : ∀ (p q : ByteArray) (w : World), (Op.equalIn 9999 9 (.string p) (.string q)).run Tryd.prog w = .ok (p.toList == q.toList) w := fun p q w => run_equalIn_string w 9998 9 p q Tryd.underlying9
  rw [Op.equalIn]
  simp only [Sem.run_bind, run_underlying Tryd.underlying22, Result.andThen_ok]
  cases hi : Tryd.prog.info? 9 with
  | none => rw [hi] at hs; cases hs
  | some i =>
    rw [hi] at hs
    simp only [Option.map_some, Option.some.injEq] at hs
    have hp : ∀ (xs : Array Value) (k : Nat) (v : Value) (w : World), xs[k]? = some v → (part 9 xs k).run Tryd.prog w = .ok v w := fun xs k v w h => by
      simp [part, ha, h, Result.andThen]
    have q0 := fun w => hp #[.string a, .string b, .string c] 0 (.string a) w rfl
    have q1 := fun w => hp #[.string a, .string b, .string c] 1 (.string b) w rfl
    have q2 := fun w => hp #[.string a, .string b, .string c] 2 (.string c) w rfl
    have q3 := fun w => hp #[.string x, .string y, .string z] 0 (.string x) w rfl
    have q4 := fun w => hp #[.string x, .string y, .string z] 1 (.string y) w rfl
    have q5 := fun w => hp #[.string x, .string y, .string z] 2 (.string z) w rfl
    cases h1 : (a.toList == x.toList) <;> cases h2 : (b.toList == y.toList) <;> cases h3 : (c.toList == z.toList) <;>
      simp [sizeOf, typeInfo, hi, hs, List.range', Result.andThen, q0, q1, q2, q3, q4, q5, e9, h1, h2, h3]
/-- Bytes in a row of their own. -/
theorem own_src {w : World} {base : Nat} {v : Value} {l : List Nat} (ho : w.ownsRow base 5 1 v l.length (u8s l)) (hl : 0 < l.length) : SrcS w v l := by
  obtain ⟨_, h2⟩ := ho
  rcases h2 with ⟨_, hz⟩ | ⟨g, cap, cur, rfl, hg, hh, hc1, hc2, hsz, htk⟩
  · omega
  · refine ⟨cap, g, 0, rfl, hc1, fun i hi => ?_⟩
    have hu := u8s_get l i hi
    rw [Nat.zero_add, cell_of_row _ _ _ _ _ _ hh]
    rw [← htk] at hu
    have hj : i < (cur.toList.take (l.length * 1)).length := (List.getElem?_eq_some_iff.1 hu).1
    rw [List.length_take] at hj
    rw [List.getElem?_take_of_lt (by omega)] at hu
    simpa using hu
theorem SrcS.str {w : World} {v : Value} {l : List Nat} (h : SrcS w v l) : (convert 28 9 v).run Tryd.prog w = .ok (.string (strOf l)) w := by
  obtain ⟨cap, sb, so, rfl, hcap, hcell⟩ := h
  refine run_convert_bytes_arg _ 28 5 Tryd.underlying28 Tryd.underlying5 sb so l.length cap (l.map fun (n : Nat) => (n : Int)) (by simp) (fun i hi => ?_) 9 Tryd.underlying9
  have hi' : i < l.length := hi
  rw [hcell i hi']
  simp [List.getD_eq_getElem?_getD, List.getElem?_eq_getElem hi']
/-- The chapter's example. -/
def exH : Hd := ⟨[71, 69, 84], [47], [72, 84, 84, 80, 47, 49, 46, 49], [([72, 111, 115, 116], [97])]⟩
def exM : List Nat := [71, 69, 84, 32, 47, 32, 72, 84, 84, 80, 47, 49, 46, 49, 13, 10, 72, 111, 115, 116, 58, 32, 97, 13, 10, 13, 10, 109, 111, 114, 101]
theorem exRead : rd exM = .ok exH 27 := by
  have h := rd_text exH ((formB_iff _).1 (by decide)) [109, 111, 114, 101] (by decide) (by decide)
  exact h
theorem exText : text exH = [71, 69, 84, 32, 47, 32, 72, 84, 84, 80, 47, 49, 46, 49, 13, 10, 72, 111, 115, 116, 58, 32, 97, 13, 10, 13, 10] := by decide
theorem chk_ex {h : HdV} (hh : h.hd = exH) : chk h = 0 := by
  have h1 : formB h.hd = true := by rw [hh]; decide
  have h2 : h.fs.length = 1 := by
    have := congrArg (fun x => x.fs.length) hh
    simpa [HdV.hd, exH] using this
  have h3 : (text h.hd).length = 27 := by rw [hh]; decide
  unfold chk
  rw [if_pos h1, if_neg (by omega)]

theorem HdV.Siz.fit {h : HdV} (s : h.Siz) : h.Fit := ⟨by have := s.a; unfold maxLen; omega, by have := s.b; unfold maxLen; omega, by have := s.c; unfold maxLen; omega⟩
theorem read_ex (w0 W : World) (s : List Nat) (v : Value) (hB : Below w0.heap.size w0 W) (hg : Globs w0) (hv : SrcS W v s) (hs : Small 256 s) (hL : s.length ≤ 100000) :
    Calls Tryd.prog 16 #[v] W fun e w' => Sl (ReadR w' s e) ∧ Sl (Below W.heap.size W w') ∧ Sl (Below w0.heap.size w0 w') :=
  (read_any s v W (hg.of hB) hv hs hL).mono fun _ _ ⟨h1, h2⟩ => ⟨h1, h2, ⟨below_trans hB h2.out⟩⟩
theorem show_ex (w0 W : World) (h : HdV) (v : Value) (hB : Below w0.heap.size w0 W) (hg : Globs w0) (hv : FieldsAt W v h.fs) (hf : h.Fit) (hL : (text h.hd).length ≤ 1000000) :
    Calls Tryd.prog 13 #[.agg #[.string h.a, .string h.b, .string h.c, v]] W fun e w' => Sl (ShowR W w' h e) ∧ Sl (Below W.heap.size W w') ∧ Sl (Below w0.heap.size w0 w') :=
  (show_any h v W (hg.of hB) hv hf hL).mono fun _ _ ⟨h1, h2⟩ => ⟨h1, h2, ⟨below_trans hB h2.out⟩⟩
theorem check_ex (w0 W : World) (h : HdV) (v : Value) (c : Nat) (hc : chk h = c) (hB : Below w0.heap.size w0 W) (hg : Globs w0) (hv : FieldsAt W v h.fs) (hf : h.Fit) (hL : (text h.hd).length ≤ 1000000) :
    Calls Tryd.prog 15 #[.agg #[.string h.a, .string h.b, .string h.c, v]] W fun e w' => e = .returned (.int .i64 (c : Nat)) ∧ Sl (Below W.heap.size W w') ∧ Sl (Below w0.heap.size w0 w') := by
  subst hc
  exact (check_any h v W (hg.of hB) hv hf hL).mono fun _ _ ⟨h1, h2⟩ => ⟨h1, h2, ⟨below_trans hB h2.out⟩⟩
theorem get_ex (w0 W : World) (h : HdV) (v : Value) (name : ByteArray) (hB : Below w0.heap.size w0 W) (hv : FieldsAt W v h.fs) (hl : h.fs.length ≤ 100000) :
    Calls Tryd.prog 21 #[.agg #[.string h.a, .string h.b, .string h.c, v], .string name] W fun e w' => ∃ a c, e = .returned (.slice a (getV h.fs name).length c) ∧ Sl (StrA w' (.slice a (getV h.fs name).length c) (getV h.fs name)) ∧ Sl (Below W.heap.size W w') ∧ Sl (Below w0.heap.size w0 w') :=
  (get_any h v name W hv hl).mono fun _ _ ⟨x, h1, h2, h3⟩ => by
    obtain ⟨a, c, rfl⟩ := h2.out.slice
    exact ⟨a, c, h1, ⟨h2.out.strA⟩, h3, ⟨below_trans hB h3.out⟩⟩
theorem token_ex (w0 W : World) (s : ByteArray) (r : Bool) (hr : token (bytes s) = r) (hB : Below w0.heap.size w0 W) (hg : Globs w0) (hs : s.size ≤ maxLen) :
    Calls Tryd.prog 23 #[.string s] W fun e w' => e = .returned (.bool r) ∧ Sl (Below W.heap.size W w') ∧ Sl (Below w0.heap.size w0 w') := by
  subst hr
  exact (token_any s W (hg.of hB) hs).mono fun _ _ ⟨h1, h2⟩ => ⟨h1, h2, ⟨below_trans hB h2.out⟩⟩
theorem same_ex (w0 W : World) (a b : ByteArray) (r : Bool) (hr : same (bytes a) (bytes b) = r) (hB : Below w0.heap.size w0 W) (ha : a.size ≤ maxLen) :
    Calls Tryd.prog 25 #[.string a, .string b] W fun e w' => e = .returned (.bool r) ∧ Sl (Below W.heap.size W w') ∧ Sl (Below w0.heap.size w0 w') := by
  subst hr
  exact (same_any a b W ha).mono fun _ _ ⟨h1, h2⟩ => ⟨h1, ⟨h2.below⟩, ⟨below_trans hB h2.below⟩⟩
theorem row_ex (w0 W : World) (a b : List ByteArray) (x y : Value) (r : Bool) (hr : decide (a.map bytes = b.map bytes) = r) (hB : Below w0.heap.size w0 W) (ha : StrA W x a) (hb : StrA W y b) (hL : a.length ≤ 1000000) :
    Calls Tryd.prog 20 #[x, y] W fun e w' => e = .returned (.bool r) ∧ Sl (Below W.heap.size W w') ∧ Sl (Below w0.heap.size w0 w') := by
  subst hr
  exact (row_any a b x y W ha hb hL).mono fun _ _ ⟨h1, h2⟩ => ⟨h1, ⟨h2.below⟩, ⟨below_trans hB h2.below⟩⟩
theorem readR_ok {w' : World} {s : List Nat} {e : Ending} {hd : Hd} {n : Nat} (h : ReadR w' s e) (hr : rd s = .ok hd n) :
    ∃ (h : HdV) (a : Option Addr) (c : Nat), h.hd = hd ∧ e = .returned (.tuple #[.agg #[.string h.a, .string h.b, .string h.c, .slice a h.fs.length c], .int .i64 (n : Nat), .int .i64 0]) ∧ h.Siz ∧ FieldsAt w' (.slice a h.fs.length c) h.fs := by
  unfold ReadR at h
  rw [hr] at h
  obtain ⟨g, v, h1, h2, h3, h4⟩ := h
  have h5 := h4
  obtain ⟨a, c, _, _, rfl, _⟩ := h5
  exact ⟨g, a, c, h1, h2, h3, h4⟩
theorem showR_ok {w0 w' : World} {h : HdV} {e : Ending} (hr : ShowR w0 w' h e) (hc : chk h = 0) :
    ∃ (a : Option Addr) (c : Nat), e = .returned (.tuple #[.slice a (text h.hd).length c, .int .i64 0]) ∧ SrcS w' (.slice a (text h.hd).length c) (text h.hd) := by
  rcases hr with ⟨h1, _⟩ | ⟨_, v, he, ho⟩
  · exact absurd hc h1
  · have hs := own_src ho (by
      rw [text, List.length_append]
      show 0 < _ + 2
      omega)
    have hs2 := hs
    obtain ⟨cap, sb, so, rfl, _⟩ := hs2
    exact ⟨_, _, he, hs⟩

theorem head_cells {W : World} {g : Nat} {a b c : ByteArray} {v : Value} (h : W.heap[g]? = some (.cells #[.string a, .string b, .string c, v] 25 (0, 0))) :
    W.cell? ⟨g, 0, none⟩ = some (.string a) ∧ W.cell? ⟨g, 1, none⟩ = some (.string b) ∧ W.cell? ⟨g, 2, none⟩ = some (.string c) ∧ W.cell? ⟨g, 3, none⟩ = some v :=
  ⟨by rw [cell_of_row _ _ _ _ _ _ h]; rfl, by rw [cell_of_row _ _ _ _ _ _ h]; rfl, by rw [cell_of_row _ _ _ _ _ _ h]; rfl, by rw [cell_of_row _ _ _ _ _ _ h]; rfl⟩
theorem box_below {w w' : World} {g : Nat} {cs : Array Value} {t : TypeId} (h : w.heap[g]? = some (.cells cs t (0, 0))) (hb : Below w.heap.size w w') : w'.heap[g]? = some (.cells cs t (0, 0)) := by
  rw [hb.block _ (lt_of_block h)]; exact h
theorem SrcS.of {w w' : World} {v : Value} {l : List Nat} (h : SrcS w v l) (hb : Below w.heap.size w w') : SrcS w' v l := h.below hb

set_option maxHeartbeats 4000000 in
set_option maxRecDepth 100000 in
theorem awake_any (w : World) (hg : Globs w) : Calls Tryd.prog 11 #[] w fun e w' => e = .returned (.bool true) ∧ Sl (Below w.heap.size w w') := by
  have HG := Sl.mk hg
  clear hg
  have kc := fun (w : World) (C : Array Value) (n c : Nat) => Lib.run_convert_bytes_const (P := Tryd.prog) w 28 5 C n c Tryd.underlying28 Tryd.underlying5
  go_enter Tryd.func11, Tryd.ntmps11
  go_wp2_with fail
  refine (read_ex w _ exM _ ((Below.refl _ _).alloc (Nat.le_refl _) _) HG.out (src_new _ exM _ _ _ rfl).srcS (by unfold Small; decide) (by decide)).mono ?_
  rintro e w1 ⟨HR1, HX1, HB1⟩
  obtain ⟨h, a1, c1, hh, rfl, hsz, hfd⟩ := readR_ok HR1.out exRead
  clear HX1 HR1
  have HH := Sl.mk hh
  have HSZ := Sl.mk hsz
  have HFD := Sl.mk hfd
  have HFL : Sl (h.fs.length = 1) := ⟨by
    have := congrArg (fun x => x.fs.length) hh
    simpa [HdV.hd, exH] using this⟩
  rw [HFL.out] at HFD
  rw [HFL.out]
  have HTX : Sl (text h.hd = [71, 69, 84, 32, 47, 32, 72, 84, 84, 80, 47, 49, 46, 49, 13, 10, 72, 111, 115, 116, 58, 32, 97, 13, 10, 13, 10]) := ⟨by rw [hh, exText]⟩
  clear hh hsz hfd
  obtain ⟨w2, hw2⟩ : ∃ w2, w1.alloc (.cells #[.string h.a, .string h.b, .string h.c, .slice a1 1 c1] 25) = w2 := ⟨_, rfl⟩
  have HB2 : Sl (Below w.heap.size w w2) := ⟨by rw [← hw2]; exact HB1.out.alloc HB1.out.size _⟩
  have HX2 : Sl (w2.heap[w1.heap.size]? = some (.cells #[.string h.a, .string h.b, .string h.c, .slice a1 1 c1] 25 (0, 0))) := ⟨by rw [← hw2]; exact alloc_new _ _ _ rfl⟩
  have HFD2 : Sl (FieldsAt w2 (.slice a1 1 c1) h.fs) := ⟨by rw [← hw2]; exact HFD.out.below ((Below.refl _ _).alloc (Nat.le_refl _) _)⟩
  obtain ⟨p0, p1, p2, p3⟩ := head_cells HX2.out
  clear HFD HB1
  go_wp2_with fail
  refine (show_ex w _ h _ HB2.out HG.out HFD2.out HSZ.out.fit (by rw [HTX.out]; decide)).mono ?_
  rintro e w3 ⟨HR3, HX3, HB3⟩
  obtain ⟨a3, c3, rfl, hsrc⟩ := showR_ok HR3.out (chk_ex HH.out)
  have HS3 := Sl.mk hsrc
  rw [HTX.out] at HS3
  rw [HTX.out]
  have HXX3 := Sl.mk (box_below HX2.out HX3.out)
  have HFD3 := Sl.mk (HFD2.out.below HX3.out)
  clear HR3 HX3 hsrc p0 p1 p2 p3 HFD2 HX2 HB2 hw2
  obtain ⟨p0, p1, p2, p3⟩ := head_cells HXX3.out
  go_wp2_with fail
  refine (get_ex w _ h _ _ HB3.out HFD3.out (by rw [HFL.out]; decide)).mono ?_
  rintro e w4 ⟨a4, c4, rfl, HG4, HX4, HB4⟩
  have HGV : Sl ((getV h.fs { data := #[104, 79, 83, 84] }).map bytes = [[97]]) := ⟨by
    rw [getV_bytes]
    have e : h.fs.map fN = [([72, 111, 115, 116], [97])] := congrArg (fun x => x.fs) HH.out
    rw [e]
    decide⟩
  have HGL : Sl ((getV h.fs { data := #[104, 79, 83, 84] }).length = 1) := ⟨by
    have := congrArg List.length HGV.out
    simpa using this⟩
  rw [HGL.out] at HG4
  rw [HGL.out]
  have HXX4 := Sl.mk (box_below HXX3.out HX4.out)
  have HFD4 := Sl.mk (HFD3.out.below HX4.out)
  have HS4 := Sl.mk (HS3.out.below HX4.out)
  have hcv := HS4.out.str
  clear HX4 p0 p1 p2 p3 HXX3 HFD3 HS3
  obtain ⟨p0, p1, p2, p3⟩ := head_cells HXX4.out
  have qa : (h.a.toList == [71, 69, 84]) = true := by rw [beq_bytes]; exact decide_eq_true (congrArg (fun x => x.a) HH.out)
  have qb : (h.b.toList == [47]) = true := by rw [beq_bytes]; exact decide_eq_true (congrArg (fun x => x.b) HH.out)
  have qc : (h.c.toList == [72, 84, 84, 80, 47, 49, 46, 49]) = true := by rw [beq_bytes]; exact decide_eq_true (congrArg (fun x => x.c) HH.out)
  have e22 : ∀ V : World, (Op.equalIn 10000 22 (.agg #[.string h.a, .string h.b, .string h.c]) (.agg #[.string { data := #[71, 69, 84] }, .string { data := #[47] }, .string { data := #[72, 84, 84, 80, 47, 49, 46, 49] }])).run Tryd.prog V = .ok true V := fun V => by
    rw [eq22]
    have k : ∀ l : List UInt8, (ByteArray.mk l.toArray).toList = l := fun l => by rw [ByteArray.toList_eq]
    rw [show (ByteArray.mk #[71, 69, 84]).toList = [71, 69, 84] from k _, show (ByteArray.mk #[47]).toList = [47] from k _, show (ByteArray.mk #[72, 84, 84, 80, 47, 49, 46, 49]).toList = [72, 84, 84, 80, 47, 49, 46, 49] from k _, qa, qb, qc]
    rfl
  clear qa qb qc
  obtain ⟨t27, ht27⟩ : ∃ t, strOf [71, 69, 84, 32, 47, 32, 72, 84, 84, 80, 47, 49, 46, 49, 13, 10, 72, 111, 115, 116, 58, 32, 97, 13, 10, 13, 10] = t := ⟨_, rfl⟩
  have qt : (t27.toList == [71, 69, 84, 32, 47, 32, 72, 84, 84, 80, 47, 49, 46, 49, 13, 10, 72, 111, 115, 116, 58, 32, 97, 13, 10, 13, 10]) = true := by
    rw [← ht27, beq_str _ (by unfold Small; decide) _ true (by decide)]
  rw [ht27] at hcv
  simp only [List.length_cons, List.length_nil, Nat.reduceAdd] at hcv
  clear ht27
  go_wp2_with fail
  refine (row_ex w _ (getV h.fs { data := #[104, 79, 83, 84] }) [{ data := #[97] }] _ _ true (by rw [HGV.out]; exact decide_eq_true (by decide)) (HB4.out.alloc HB4.out.size _) (HG4.out.below ((Below.refl _ _).alloc (Nat.le_refl _) _)) ⟨_, _, w4.heap.size, 0, rfl, Nat.le_refl _, fun _ => rfl, fun i hi => by
    have hi0 : i = 0 := by simpa using hi
    subst hi0
    rw [Nat.zero_add, cell_of_row _ _ _ _ _ _ (alloc_new _ _ _ rfl)]; rfl⟩ (by rw [HGL.out]; decide)).mono ?_
  rintro e w5 ⟨rfl, HX5, HB5⟩
  have HBX : Sl (Below w4.heap.size w4 w5) := ⟨below_trans ((Below.refl _ _).alloc (Nat.le_refl _) _) HX5.out⟩
  have HXX5 := Sl.mk (box_below HXX4.out HBX.out)
  have HFD5 := Sl.mk (HFD4.out.below HBX.out)
  clear hcv qt e22 p0 p1 p2 p3 HXX4 HFD4 HS4 HG4 HB4 HX5 HBX kc
  go_wp2_with fail
  refine (token_ex w _ { data := #[97, 45, 98] } true (by decide) HB5.out HG.out (by decide)).mono ?_
  rintro e w6 ⟨rfl, HX6, HB6⟩
  have HXX6 := Sl.mk (box_below HXX5.out HX6.out)
  have HFD6 := Sl.mk (HFD5.out.below HX6.out)
  clear HXX5 HFD5 HX6 HB5
  go_wp2_with fail
  refine (same_ex w _ { data := #[97, 66] } { data := #[65, 98] } true (by decide) HB6.out (by decide)).mono ?_
  rintro e w7 ⟨rfl, HX7, HB7⟩
  have HXX7 := Sl.mk (box_below HXX6.out HX7.out)
  have HFD7 := Sl.mk (HFD6.out.below HX7.out)
  clear HXX6 HFD6 HX7 HB6
  obtain ⟨p0, p1, p2, p3⟩ := head_cells HXX7.out
  go_wp2_with fail
  refine (check_ex w _ h _ 0 (chk_ex HH.out) HB7.out HG.out HFD7.out HSZ.out.fit (by rw [HTX.out]; decide)).mono ?_
  rintro e w8 ⟨rfl, HX8, HB8⟩
  go_wp2
  go_ret
  exact ⟨rfl, HB8⟩
theorem awake_ex (w0 W : World) (hB : Below w0.heap.size w0 W) (hg : Globs w0) : Calls Tryd.prog 11 #[] W fun e w' => e = .returned (.bool true) ∧ Sl (Below W.heap.size W w') ∧ Sl (Below w0.heap.size w0 w') :=
  (awake_any W (hg.of hB)).mono fun _ _ ⟨he, hb⟩ => ⟨he, hb, ⟨below_trans hB hb.out⟩⟩
end Go.Proofs.YtcohecghibndhaaDoor
