/- shake: rows of fields that are appended to; heads that are handed out; a grant. -/
import Derived.Test.YthlagngpllahkaaGreatDoorS3
import Derived.Test.YthlagngpllahkaaGreatDoorHdC
set_option maxRecDepth 100000
namespace Go.Proofs.YthlagngpllahkaaGreatDoor
open Go.RowKit HeadPlain

theorem cellsF_get (fs : List FV) (i : Nat) (hi : i < fs.length) : (cellsF fs)[i * 2]? = some (.string (fs.getD i f0).1) ∧ (cellsF fs)[i * 2 + 1]? = some (.string (fs.getD i f0).2) := by
  induction fs generalizing i with
  | nil => cases hi
  | cons f fs ih =>
    have e : cellsF (f :: fs) = .string f.1 :: .string f.2 :: cellsF fs := rfl
    cases i with
    | zero => rw [e]; exact ⟨rfl, rfl⟩
    | succ i =>
      rw [e, show (i + 1) * 2 = i * 2 + 2 by omega]
      simpa using ih i (by simpa using hi)
theorem cellsF_one {fs : List FV} {j : Nat} {u : Value} (h : (cellsF fs)[j]? = some u) : ∃ i, i < fs.length ∧ ((j = i * 2 ∧ u = .string (fs.getD i f0).1) ∨ (j = i * 2 + 1 ∧ u = .string (fs.getD i f0).2)) := by
  have hj : j < (cellsF fs).length := (List.getElem?_eq_some_iff.1 h).1
  rw [cellsF_length] at hj
  have hi : j / 2 < fs.length := by omega
  obtain ⟨g1, g2⟩ := cellsF_get fs (j / 2) hi
  refine ⟨j / 2, hi, ?_⟩
  by_cases e : j % 2 = 0
  · left
    have e2 : j = j / 2 * 2 := by omega
    rw [← e2, h] at g1
    exact ⟨e2, by injection g1⟩
  · right
    have e2 : j = j / 2 * 2 + 1 := by omega
    rw [← e2, h] at g2
    exact ⟨e2, by injection g2⟩
theorem cellsF_oneCell {fs : List FV} : ∀ u ∈ cellsF fs, u.oneCell' = true := fun u hu => by
  simp only [cellsF, List.mem_flatMap] at hu
  obtain ⟨f, _, hf⟩ := hu
  simp at hf
  rcases hf with rfl | rfl <;> rfl
theorem fieldsAt_owns' {w : World} {base : Nat} {v : Value} {fs : List FV} (ho : w.ownsRow base 60 2 v fs.length (cellsF fs)) (hs : ∀ i, i < fs.length → (fs.getD i f0).1.size ≤ maxLen ∧ (fs.getD i f0).2.size ≤ maxLen) (hl : fs.length < 100000) : FieldsAt w v fs := by
  obtain ⟨h1, h2⟩ := ho
  rcases h2 with ⟨rfl, hz⟩ | ⟨g, cap, cur, rfl, hg, hh, hc1, hc2, hsz, htk⟩
  · refine ⟨none, 0, 0, 0, by rw [hz], by omega, by omega, fun h => by omega, fun i hi => by omega⟩
  · refine ⟨some ⟨g, 0, none⟩, cap, g, 0, rfl, hc1, by unfold maxLen; omega, fun _ => rfl, fun i hi => ?_⟩
    obtain ⟨k1, k2⟩ := cellsF_get fs i hi
    have cell : ∀ j u, (cellsF fs)[j]? = some u → w.cell? ⟨g, j, none⟩ = some u := fun j u hu => by
      rw [cell_of_row _ _ _ _ _ _ hh]
      rw [← htk] at hu
      have hj : j < (cur.toList.take (fs.length * 2)).length := (List.getElem?_eq_some_iff.1 hu).1
      rw [List.length_take] at hj
      rw [List.getElem?_take_of_lt (by omega)] at hu
      simpa using hu
    exact ⟨by rw [Nat.zero_add]; exact cell _ _ k1, by rw [Nat.zero_add]; exact cell _ _ k2, (hs i hi).1, (hs i hi).2⟩
/-- A row of fields of its own. -/
def OwnF (W : World) (base : Nat) (v : Value) (fs : List FV) : Prop := W.ownsRow base 60 2 v fs.length (cellsF fs)
theorem OwnF.slice {W : World} {base : Nat} {v : Value} {l : List FV} (h : OwnF W base v l) : ∃ a c, v = .slice a l.length c := by
  obtain ⟨_, h2⟩ := h
  rcases h2 with ⟨rfl, hz⟩ | ⟨g, cap, cur, rfl, _⟩
  · rw [hz]; exact ⟨_, _, rfl⟩
  · exact ⟨_, _, rfl⟩
theorem OwnF.below {w w' : World} {base : Nat} {v : Value} {l : List FV} (h : OwnF w base v l) (hb : Below w.heap.size w w') : OwnF w' base v l := own_below h hb
/-- A row of fields as it is laid. -/
theorem ownF_lit (R : World) (base : Nat) (fs : List FV) (vs : Array Value) (hb : base ≤ R.heap.size) (h : vs = (cellsF fs).toArray) (hl : fs.length ≤ 1000) : OwnF (R.alloc (.cells vs 60)) base (.slice (some ⟨R.heap.size, 0, none⟩) fs.length fs.length) fs := by
  subst h
  have := World.ownsRow_lit (base := base) (e := 60) (size := 2) R (cellsF fs).toArray fs.length hb (by unfold maxLen; omega) (by simp [cellsF_length])
  exact this
theorem ownF_nil (R : World) (base : Nat) : OwnF R base (.slice none 0 0) [] := World.ownsRow_nil _ _ _ _
theorem OwnF.fields {W : World} {base : Nat} {v : Value} {fs : List FV} (h : OwnF W base v fs) (hs : ∀ f ∈ fs, f.1.size ≤ maxLen ∧ f.2.size ≤ maxLen) (hl : fs.length < 100000) : FieldsAt W v fs :=
  fieldsAt_owns' h (fun i hi => hs _ (by rw [List.getD_eq_getElem?_getD, List.getElem?_eq_getElem hi]; exact List.getElem_mem hi)) hl
/-- Fields more, out of a new block. -/
theorem app_flds {P : Program} {w : World} {ops : Array Oper} {rest : List Oper} {o : Oper} {a : Act} {Q : Exit → Act → World → Prop} (hP : P = Tryz.prog) (hgd : o.guard = none) (s x : Operand)
    (ho : o.op = .call { callee := .builtin .append, args := #[s, x], argTypes := #[23, 23] }) (base : Nat) (v : Value) (fs gs : List FV) (g k : Nat) (hs : a.eval s = v) (hown : OwnF w base v fs)
    (hx : a.eval x = .slice (some ⟨g, 0, none⟩) k k) (hk : gs.length = k) (vs : Array Value) (hg : w.heap[g]? = some (.cells vs 60 (0, 0))) (hvs : vs = (cellsF gs).toArray) (hl : fs.length + gs.length ≤ 1000) (hbase : base ≤ w.heap.size)
    (h : ∀ v' w', Sl (OwnF w' base v' (fs ++ gs)) → Sl (w.grownBy w' v.ownBlock) → wpList P ops Q rest (a.put o.dst v') w') : wpList P ops Q (o :: rest) a w := by
  subst hP hk hvs
  obtain ⟨i0, hi, hz0, hz1, hz2⟩ := info48
  refine wpList_append_own _ hgd s x 23 ho base 60 i0 _ 2 32 Tryz.underlying23 hi hz0 hz1 hz2 rfl (by decide) v fs.length (cellsF fs) hs hown ⟨g, 0, none⟩ gs.length gs.length (cellsF gs) hx (cellsF_length gs) ?_ cellsF_oneCell ?_ ?_ hbase ?_
  · intro j u hu
    rw [Addr.add_mid, Nat.zero_add, cell_of_row _ _ _ _ _ _ hg, List.getElem?_toArray]
    exact hu
  · unfold maxLen; omega
  · omega
  · intro v' w' h1 h2 _
    refine h v' w' ⟨?_⟩ ⟨h2⟩
    unfold OwnF
    rw [List.length_append, cellsF_append]
    exact h1
/-- A block of another kind stays when a row of fields grows. -/
theorem staysF {w w' : World} {base g : Nat} {v : Value} {l : List FV} {cs : Array Value} {t : TypeId} (ho : OwnF w base v l) (hg : w.grownBy w' v.ownBlock) (h : w.heap[g]? = some (.cells cs t (0, 0))) (ht : t ≠ 60) : w'.heap[g]? = some (.cells cs t (0, 0)) := by
  rw [hg.block g (lt_of_block h) (fun e => by
    obtain ⟨_, h2⟩ := ho
    rcases h2 with ⟨rfl, _⟩ | ⟨k, cap, cur, rfl, _, hh, _⟩
    · cases e
    · have e2 : g = k := by simpa [Value.ownBlock] using e
      subst e2
      rw [h] at hh
      injection hh with hh
      injection hh with _ h4
      exact ht h4)]
  exact h
theorem ownF_ge {W : World} {base : Nat} {v : Value} {l : List FV} (h : OwnF W base v l) {g : Nat} (hg : v.ownBlock = some g) : base ≤ g := by
  obtain ⟨_, h2⟩ := h
  rcases h2 with ⟨rfl, _⟩ | ⟨k, cap, cur, rfl, hk, _⟩
  · cases hg
  · have : k = g := by simpa [Value.ownBlock] using hg
    omega
theorem ownF_grown {w0 W w' : World} {v : Value} {l : List FV} (hB : Below w0.heap.size w0 W) (h : OwnF W w0.heap.size v l) (hg : W.grownBy w' v.ownBlock) : Below w0.heap.size w0 w' :=
  hB.grown hg hB.size (fun _ hk => ownF_ge h hk)
theorem ret_head1 {fn : Func} {p : Tmp} (h : fn.results = #[.cell p 25]) (tmps : Array Value) (w : World) (g : Nat) (t : TypeId) (cs : Array Value) (fr : Nat × Nat)
    (hp : tmps.getD p undef = .pointer (some ⟨g, 0, none⟩)) (hg : w.heap[g]? = some (.cells cs t fr)) (hs : cs.size = 4) :
    (results fn tmps).run Tryz.prog w = .ok (.agg cs) w := by
  have hi : (Tryz.prog.info? 25).map (·.size) = some cs.size := by rw [hs]; kernel_rfl
  have hp' : tmps[p]?.getD undef = .pointer (some ⟨g, 0, none⟩) := by simpa using hp
  simp only [results, h]
  simp [hp', asAddr, run_loadVar_row (P := Tryz.prog) w g t 25 cs fr _ hg Tryz.underlying25 rfl hi]
/-- A head that is handed out. -/
def HeadR (w' : World) (h : HdV) (e : Ending) : Prop := ∃ a c, e = .returned (.agg #[.string h.a, .string h.b, .string h.c, .slice a h.fs.length c]) ∧ FieldsAt w' (.slice a h.fs.length c) h.fs
def bH11 : ByteArray := { data := #[72, 84, 84, 80, 47, 49, 46, 49] }
def bGET : ByteArray := { data := #[71, 69, 84] }
def b101 : ByteArray := { data := #[49, 48, 49] }
def bSwi : ByteArray := { data := #[83, 119, 105, 116, 99, 104, 105, 110, 103, 32, 80, 114, 111, 116, 111, 99, 111, 108, 115] }
def bHost : ByteArray := { data := #[72, 111, 115, 116] }
def bUp : ByteArray := { data := #[85, 112, 103, 114, 97, 100, 101] }
def bWs : ByteArray := { data := #[119, 101, 98, 115, 111, 99, 107, 101, 116] }
def bConn : ByteArray := { data := #[67, 111, 110, 110, 101, 99, 116, 105, 111, 110] }
def bVer : ByteArray := { data := #[83, 101, 99, 45, 87, 101, 98, 83, 111, 99, 107, 101, 116, 45, 86, 101, 114, 115, 105, 111, 110] }
def b13 : ByteArray := { data := #[49, 51] }
def bKey : ByteArray := { data := #[83, 101, 99, 45, 87, 101, 98, 83, 111, 99, 107, 101, 116, 45, 75, 101, 121] }
def bProt : ByteArray := { data := #[83, 101, 99, 45, 87, 101, 98, 83, 111, 99, 107, 101, 116, 45, 80, 114, 111, 116, 111, 99, 111, 108] }
def bAcc : ByteArray := { data := #[83, 101, 99, 45, 87, 101, 98, 83, 111, 99, 107, 101, 116, 45, 65, 99, 99, 101, 112, 116] }
def bExt : ByteArray := { data := #[83, 101, 99, 45, 87, 101, 98, 83, 111, 99, 107, 101, 116, 45, 69, 120, 116, 101, 110, 115, 105, 111, 110, 115] }
def bOrg : ByteArray := { data := #[79, 114, 105, 103, 105, 110] }
def bClose : ByteArray := { data := #[99, 108, 111, 115, 101] }
def bLen : ByteArray := { data := #[67, 111, 110, 116, 101, 110, 116, 45, 76, 101, 110, 103, 116, 104] }
def bNull : ByteArray := { data := #[48] }
theorem FieldsAt.grown {w w' : World} {v : Value} {l : List FV} {g : Nat} (h : FieldsAt w v l) (hg : w.grownBy w' (some g)) (hne : v.ownBlock ≠ some g) : FieldsAt w' v l := by
  obtain ⟨a, cap, sb, so, rfl, hc, h2, h3, h4⟩ := h
  refine ⟨a, cap, sb, so, rfl, hc, h2, h3, fun i hi => ?_⟩
  obtain ⟨g1, g2, g3, g4⟩ := h4 i hi
  obtain rfl := h3 (by omega)
  have k0 : sb < w.heap.size := block_lt_of_cell g1
  have hb : w'.heap[sb]? = w.heap[sb]? := hg.block sb k0 (fun e => hne e)
  exact ⟨by rw [World.cell?_of_block (w := w) hb]; exact g1, by rw [World.cell?_of_block (w := w) hb]; exact g2, g3, g4⟩
theorem own_ne_of {a g n c : Nat} (h : a ≠ g) : (Value.slice (some ⟨a, 0, none⟩) n c).ownBlock ≠ some g := fun e => h (by simpa [Value.ownBlock] using e)
theorem ownF_ne {W : World} {base : Nat} {v : Value} {l : List FV} {g : Nat} (h : OwnF W base v l) (hg : g < base) : v.ownBlock ≠ some g := fun e => by
  obtain ⟨_, h2⟩ := h
  rcases h2 with ⟨rfl, _⟩ | ⟨k, cap, cur, rfl, hk, _⟩
  · cases e
  · have : k = g := by simpa [Value.ownBlock] using e
    omega
theorem head_done {w0 W : World} {g : Nat} {h : HdV} {v v0 v1 v2 v3 : Value} (hr : W.heap[g]? = some (.cells #[v0, v1, v2, v3] 25 (0, 0))) (hB : Below w0.heap.size w0 W) (hg : w0.heap.size ≤ g) (hF : FieldsAt W v h.fs) (hne : v.ownBlock ≠ some g) :
    Sl (((((W.setCell ⟨g, 0, none⟩ (.string h.a)).setCell ⟨g, 1, none⟩ (.string h.b)).setCell ⟨g, 2, none⟩ (.string h.c)).setCell ⟨g, 3, none⟩ v).heap[g]? = some (.cells #[.string h.a, .string h.b, .string h.c, v] 25 (0, 0))) ∧
    Sl (FieldsAt ((((W.setCell ⟨g, 0, none⟩ (.string h.a)).setCell ⟨g, 1, none⟩ (.string h.b)).setCell ⟨g, 2, none⟩ (.string h.c)).setCell ⟨g, 3, none⟩ v) v h.fs) ∧
    Sl (Below w0.heap.size w0 ((((W.setCell ⟨g, 0, none⟩ (.string h.a)).setCell ⟨g, 1, none⟩ (.string h.b)).setCell ⟨g, 2, none⟩ (.string h.c)).setCell ⟨g, 3, none⟩ v)) := by
  have hgr := grown_trans (grown_trans (grown_trans (grown_setCell W g 0 (.string h.a)) (grown_setCell _ g 1 (.string h.b))) (grown_setCell _ g 2 (.string h.c))) (grown_setCell _ g 3 v)
  exact ⟨⟨four_cells W g _ _ _ _ _ _ _ _ hr⟩, ⟨hF.grown hgr hne⟩, ⟨hB.grown hgr hB.size (fun k hk => by injection hk with hk; omega)⟩⟩
theorem ownF_kind {W : World} {base g : Nat} {v : Value} {l : List FV} {cs : Array Value} {t : TypeId} (ho : OwnF W base v l) (h : W.heap[g]? = some (.cells cs t (0, 0))) (ht : t ≠ 60) : v.ownBlock ≠ some g := fun e => by
  obtain ⟨_, h2⟩ := ho
  rcases h2 with ⟨rfl, _⟩ | ⟨k, cap, cur, rfl, _, hh, _⟩
  · cases e
  · have e2 : k = g := by simpa [Value.ownBlock] using e
    subst e2
    rw [h] at hh
    injection hh with hh
    injection hh with _ h4
    exact ht h4
/-- A head's fields stored anew, the head then where it is handed out. -/
theorem head_done2 {w0 W : World} {g q base : Nat} {a b c : ByteArray} {fs : List FV} {v u0 u1 u2 u3 v0 v1 v2 v3 : Value} (hq : W.heap[q]? = some (.cells #[u0, u1, u2, u3] 25 (0, 0))) (hr : W.heap[g]? = some (.cells #[v0, v1, v2, v3] 25 (0, 0))) (hne : q ≠ g) (hB : Below w0.heap.size w0 W) (hg : w0.heap.size ≤ g) (hq0 : w0.heap.size ≤ q)
    (hO : OwnF W base v fs) (hs : ∀ f ∈ fs, f.1.size ≤ maxLen ∧ f.2.size ≤ maxLen) (hl : fs.length < 100000) :
    Sl ((W.setCell ⟨q, 3, none⟩ v).heap[g]? = some (.cells #[v0, v1, v2, v3] 25 (0, 0))) ∧
    Sl (FieldsAt (((((W.setCell ⟨q, 3, none⟩ v).setCell ⟨g, 0, none⟩ (.string a)).setCell ⟨g, 1, none⟩ (.string b)).setCell ⟨g, 2, none⟩ (.string c)).setCell ⟨g, 3, none⟩ v) v fs) ∧
    Sl (Below w0.heap.size w0 (((((W.setCell ⟨q, 3, none⟩ v).setCell ⟨g, 0, none⟩ (.string a)).setCell ⟨g, 1, none⟩ (.string b)).setCell ⟨g, 2, none⟩ (.string c)).setCell ⟨g, 3, none⟩ v)) := by
  have h5 : (W.setCell ⟨q, 3, none⟩ v).heap[g]? = some (.cells #[v0, v1, v2, v3] 25 (0, 0)) := by rw [heap_setCell_other _ _ _ _ (Ne.symm hne)]; exact hr
  have hF : FieldsAt (W.setCell ⟨q, 3, none⟩ v) v fs := (hO.fields hs hl).grown (grown_setCell W q 3 v) (ownF_kind hO hq (by decide))
  have hB5 : Below w0.heap.size w0 (W.setCell ⟨q, 3, none⟩ v) := hB.grown (grown_setCell W q 3 v) hB.size (fun k hk => by injection hk with hk; omega)
  obtain ⟨_, d2, d3⟩ := head_done (w0 := w0) (h := ⟨a, b, c, fs⟩) h5 hB5 hg hF (ownF_kind hO hr (by decide))
  exact ⟨⟨h5⟩, d2, d3⟩

/-- The head that a question is granted by. -/
def grantF (key : ByteArray) : List FV := [(bUp, bWs), (bConn, bUp), (bAcc, accS key)]
def grantV (key p : ByteArray) : HdV := ⟨bH11, b101, bSwi, grantF key ++ if p.size = 0 then [] else [(bProt, p)]⟩
theorem bytes_nil_iff (p : ByteArray) : bytes p = [] ↔ p.size = 0 := by
  rw [← bytes_length]
  cases bytes p <;> simp
theorem grantV_hd (key p : ByteArray) : (grantV key p).hd = grantH accB (bytes key) (bytes p) := by
  have e1 : (grantF key).map fN = [(sUp, sWs), (sConn, sUp), (sAcc, accB (bytes key))] := by
    show [fN (bUp, bWs), fN (bConn, bUp), fN (bAcc, accS key)] = _
    unfold fN
    rw [accS_bytes]
    rfl
  unfold grantV grantH HdV.hd
  by_cases h : p.size = 0
  · rw [if_pos h, if_pos ((bytes_nil_iff p).2 h), List.map_append, e1]; rfl
  · rw [if_neg h, if_neg (fun e => h ((bytes_nil_iff p).1 e)), List.map_append, e1]; rfl
theorem neq_nil {p : ByteArray} (h : p.size ≠ 0) : (p.toList == []) = false := by
  rw [beq_bytes]
  refine decide_eq_false (fun e => h ?_)
  rw [← bytes_length, e]; rfl
theorem eq_nil {p : ByteArray} (h : p.size = 0) : (p.toList == []) = true := by
  rw [beq_bytes]
  refine decide_eq_true ?_
  rw [(bytes_nil_iff p).2 h]; rfl
theorem accS_size (key : ByteArray) : (accS key).size = 28 := by
  unfold accS accB
  rw [strOf_size, Bas.enc_length, sumB_length]
set_option maxHeartbeats 1000000 in
theorem answer_any (key p : ByteArray) (w : World) (hg : GlobA w) (hk : key.size ≤ 100000) (hp : p.size ≤ 100000) :
    Calls Tryz.prog 22 #[.string key, .string p] w fun e w' => Sl (HeadR w' (grantV key p) e) ∧ Sl (Below w.heap.size w w') := by
  have HACC : Sl (∀ V, Below w.heap.size w V → Calls Tryz.prog 19 #[.string key] V fun e w' => e = .returned (.string (accS key)) ∧ Sl (Below V.heap.size V w')) := ⟨fun V hB => accept_any key V (hg.of hB) hk⟩
  have HGV : Sl (grantV key p = ⟨bH11, b101, bSwi, grantF key ++ if p.size = 0 then [] else [(bProt, p)]⟩) := ⟨rfl⟩
  have HGF : Sl (∀ f ∈ grantF key, f.1.size ≤ maxLen ∧ f.2.size ≤ maxLen) := ⟨fun f hf => by
    simp only [grantF, List.mem_cons, List.not_mem_nil, or_false] at hf
    rcases hf with rfl | rfl | rfl
    · decide
    · decide
    · exact ⟨show bAcc.size ≤ maxLen by decide, by rw [accS_size]; decide⟩⟩
  obtain ⟨x, hx⟩ : ∃ x, accS key = x := ⟨_, rfl⟩
  have HX : Sl (grantF key = [(bUp, bWs), (bConn, bUp), (bAcc, x)]) := ⟨by rw [← hx]; rfl⟩
  rw [hx] at HACC
  clear hx hg
  obtain ⟨w0, hw0⟩ : ∃ w0, w.alloc (.cells #[.string { data := #[] }, .string { data := #[] }, .string { data := #[] }, .slice none 0 0] 25) = w0 := ⟨_, rfl⟩
  have HR0 : Sl (w0.heap[w.heap.size]? = some (.cells #[.string { data := #[] }, .string { data := #[] }, .string { data := #[] }, .slice none 0 0] 25 (0, 0))) := ⟨by rw [← hw0]; exact alloc_new _ _ _ rfl⟩
  have HB0 : Sl (Below w.heap.size w w0) := ⟨by rw [← hw0]; exact (Below.refl _ _).alloc (Nat.le_refl _) _⟩
  have HZ0 : Sl (w0.heap.size = w.heap.size + 1) := ⟨by rw [← hw0, alloc_size]⟩
  have HP := Sl.mk hp
  rw [HX.out] at HGF HGV
  by_cases h0 : p.size = 0
  · have hq := eq_nil h0
    rw [if_pos h0, List.append_nil] at HGV
    clear h0 hp
    go_enter Tryz.func22, Tryz.ntmps22
    go_wp2_with fail
    clear hw0
    refine (HACC.out _ HB0.out).mono ?_
    rintro e w1 ⟨rfl, HB⟩
    have HR1 := Sl.mk (box_below HR0.out HB.out)
    have HB1 := Sl.mk (below_trans HB0.out HB.out)
    have hz : w.heap.size < w1.heap.size := by have h1 := HB.out.size; have h2 := HZ0.out; omega
    have HO := Sl.mk (ownF_lit w1 w0.heap.size [(bUp, bWs), (bConn, bUp), (bAcc, x)] _ HB.out.size rfl (show 3 ≤ 1000 by omega))
    obtain ⟨A1, hA1⟩ : ∃ A, w1.alloc (.cells #[.string { data := #[85, 112, 103, 114, 97, 100, 101] }, .string { data := #[119, 101, 98, 115, 111, 99, 107, 101, 116] }, .string { data := #[67, 111, 110, 110, 101, 99, 116, 105, 111, 110] }, .string { data := #[85, 112, 103, 114, 97, 100, 101] }, .string { data := #[83, 101, 99, 45, 87, 101, 98, 83, 111, 99, 107, 101, 116, 45, 65, 99, 99, 101, 112, 116] }, .string x] 60) = A := ⟨_, rfl⟩
    obtain ⟨A2, hA2⟩ : ∃ A, A1.alloc (.cells #[.string { data := #[72, 84, 84, 80, 47, 49, 46, 49] }, .string { data := #[49, 48, 49] }, .string { data := #[83, 119, 105, 116, 99, 104, 105, 110, 103, 32, 80, 114, 111, 116, 111, 99, 111, 108, 115] }, .slice (some ⟨w1.heap.size, 0, none⟩) 3 3] 25) = A := ⟨_, rfl⟩
    have hZ1 : A1.heap.size = w1.heap.size + 1 := by rw [← hA1, alloc_size]
    have BA : Sl (Below w1.heap.size w1 A2) := ⟨by rw [← hA2, ← hA1]; exact ((Below.refl _ _).alloc (Nat.le_refl _) _).alloc (by rw [alloc_size]; omega) _⟩
    have HF : Sl (FieldsAt A2 (.slice (some ⟨w1.heap.size, 0, none⟩) 3 3) [(bUp, bWs), (bConn, bUp), (bAcc, x)]) := ⟨by
      rw [← hA2]
      have h : OwnF (w1.alloc (.cells #[.string { data := #[85, 112, 103, 114, 97, 100, 101] }, .string { data := #[119, 101, 98, 115, 111, 99, 107, 101, 116] }, .string { data := #[67, 111, 110, 110, 101, 99, 116, 105, 111, 110] }, .string { data := #[85, 112, 103, 114, 97, 100, 101] }, .string { data := #[83, 101, 99, 45, 87, 101, 98, 83, 111, 99, 107, 101, 116, 45, 65, 99, 99, 101, 112, 116] }, .string x] 60)) w0.heap.size (.slice (some ⟨w1.heap.size, 0, none⟩) 3 3) [(bUp, bWs), (bConn, bUp), (bAcc, x)] := HO.out
      rw [hA1] at h
      exact (h.below ((Below.refl _ _).alloc (Nat.le_refl _) _)).fields HGF.out (show 3 < 100000 by omega)⟩
    have HH2 : Sl (A2.heap[A1.heap.size]? = some (.cells #[.string { data := #[72, 84, 84, 80, 47, 49, 46, 49] }, .string { data := #[49, 48, 49] }, .string { data := #[83, 119, 105, 116, 99, 104, 105, 110, 103, 32, 80, 114, 111, 116, 111, 99, 111, 108, 115] }, .slice (some ⟨w1.heap.size, 0, none⟩) 3 3] 25 (0, 0))) := ⟨by
      rw [← hA2]; exact alloc_new _ _ _ rfl⟩
    have HR2 := Sl.mk (box_below HR1.out BA.out)
    have HB2 := Sl.mk (below_trans HB1.out BA.out)
    have HZ := Sl.mk hz
    have Z1 := Sl.mk hZ1
    clear HO HR1 HB hz hZ1
    obtain ⟨p0, p1, p2, p3⟩ := head_cells HH2.out
    obtain ⟨⟨r0, r1, r2, r3⟩, ⟨q0, q1, q2, q3⟩⟩ := zero_cells HR2.out
    go_wp2
    obtain ⟨D1, D2, D3⟩ := head_done (w0 := w) (h := ⟨bH11, b101, bSwi, [(bUp, bWs), (bConn, bUp), (bAcc, x)]⟩) (v := .slice (some ⟨w1.heap.size, 0, none⟩) 3 3) HR2.out HB2.out (Nat.le_refl _) HF.out (own_ne_of (by have := HZ.out; omega))
    refine bodyPost_ret (ret_head1 rfl _ _ w.heap.size 25 _ (0, 0) rfl (four_cells _ _ _ _ _ _ _ _ _ _ HR2.out) rfl) rfl ?_
    rw [HGV.out]
    exact ⟨⟨_, _, rfl, D2.out⟩, D3⟩
  · have hq := neq_nil h0
    rw [if_neg h0] at HGV
    clear h0 hp
    go_enter Tryz.func22, Tryz.ntmps22
    go_wp2_with fail
    clear hw0
    refine (HACC.out _ HB0.out).mono ?_
    rintro e w1 ⟨rfl, HB⟩
    have HR1 := Sl.mk (box_below HR0.out HB.out)
    have HB1 := Sl.mk (below_trans HB0.out HB.out)
    have hz : w.heap.size < w1.heap.size := by have h1 := HB.out.size; have h2 := HZ0.out; omega
    have HO := Sl.mk (ownF_lit w1 w0.heap.size [(bUp, bWs), (bConn, bUp), (bAcc, x)] _ HB.out.size rfl (show 3 ≤ 1000 by omega))
    obtain ⟨A1, hA1⟩ : ∃ A, w1.alloc (.cells #[.string { data := #[85, 112, 103, 114, 97, 100, 101] }, .string { data := #[119, 101, 98, 115, 111, 99, 107, 101, 116] }, .string { data := #[67, 111, 110, 110, 101, 99, 116, 105, 111, 110] }, .string { data := #[85, 112, 103, 114, 97, 100, 101] }, .string { data := #[83, 101, 99, 45, 87, 101, 98, 83, 111, 99, 107, 101, 116, 45, 65, 99, 99, 101, 112, 116] }, .string x] 60) = A := ⟨_, rfl⟩
    obtain ⟨A2, hA2⟩ : ∃ A, A1.alloc (.cells #[.string { data := #[72, 84, 84, 80, 47, 49, 46, 49] }, .string { data := #[49, 48, 49] }, .string { data := #[83, 119, 105, 116, 99, 104, 105, 110, 103, 32, 80, 114, 111, 116, 111, 99, 111, 108, 115] }, .slice (some ⟨w1.heap.size, 0, none⟩) 3 3] 25) = A := ⟨_, rfl⟩
    obtain ⟨A3, hA3⟩ : ∃ A, A2.alloc (.cells #[.string { data := #[83, 101, 99, 45, 87, 101, 98, 83, 111, 99, 107, 101, 116, 45, 80, 114, 111, 116, 111, 99, 111, 108] }, .string p] 60) = A := ⟨_, rfl⟩
    have Z1 : Sl (A1.heap.size = w1.heap.size + 1) := ⟨by rw [← hA1, alloc_size]⟩
    have Z2 : Sl (A2.heap.size = w1.heap.size + 1 + 1) := ⟨by rw [← hA2, alloc_size, Z1.out]⟩
    have BA : Sl (Below w1.heap.size w1 A3) := ⟨by rw [← hA3, ← hA2, ← hA1]; exact (((Below.refl _ _).alloc (Nat.le_refl _) _).alloc (by rw [alloc_size]; omega) _).alloc (by rw [alloc_size, alloc_size]; omega) _⟩
    have HO3 : Sl (OwnF A3 w0.heap.size (.slice (some ⟨w1.heap.size, 0, none⟩) 3 3) [(bUp, bWs), (bConn, bUp), (bAcc, x)]) := ⟨by
      rw [← hA3, ← hA2]
      have h : OwnF (w1.alloc (.cells #[.string { data := #[85, 112, 103, 114, 97, 100, 101] }, .string { data := #[119, 101, 98, 115, 111, 99, 107, 101, 116] }, .string { data := #[67, 111, 110, 110, 101, 99, 116, 105, 111, 110] }, .string { data := #[85, 112, 103, 114, 97, 100, 101] }, .string { data := #[83, 101, 99, 45, 87, 101, 98, 83, 111, 99, 107, 101, 116, 45, 65, 99, 99, 101, 112, 116] }, .string x] 60)) w0.heap.size (.slice (some ⟨w1.heap.size, 0, none⟩) 3 3) [(bUp, bWs), (bConn, bUp), (bAcc, x)] := HO.out
      rw [hA1] at h
      exact h.below (((Below.refl _ _).alloc (Nat.le_refl _) _).alloc (by rw [alloc_size]; omega) _)⟩
    have HH3 : Sl (A3.heap[A1.heap.size]? = some (.cells #[.string { data := #[72, 84, 84, 80, 47, 49, 46, 49] }, .string { data := #[49, 48, 49] }, .string { data := #[83, 119, 105, 116, 99, 104, 105, 110, 103, 32, 80, 114, 111, 116, 111, 99, 111, 108, 115] }, .slice (some ⟨w1.heap.size, 0, none⟩) 3 3] 25 (0, 0))) := ⟨by
      rw [← hA3, alloc_old _ _ _ (by rw [Z2.out, Z1.out]; omega), ← hA2]; exact alloc_new _ _ _ rfl⟩
    have HL3 : Sl (A3.heap[A2.heap.size]? = some (.cells #[.string { data := #[83, 101, 99, 45, 87, 101, 98, 83, 111, 99, 107, 101, 116, 45, 80, 114, 111, 116, 111, 99, 111, 108] }, .string p] 60 (0, 0))) := ⟨by rw [← hA3]; exact alloc_new _ _ _ rfl⟩
    have HR3 := Sl.mk (box_below HR1.out BA.out)
    have HB3 := Sl.mk (below_trans HB1.out BA.out)
    have e3 : A2.cell? ⟨A1.heap.size, 3, none⟩ = some (.slice (some ⟨w1.heap.size, 0, none⟩) 3 3) := by rw [← hA2, cell_of_row _ _ _ _ _ _ (alloc_new _ _ _ rfl)]; rfl
    clear HO
    go_wp2_with (
      refine app_flds rfl rfl _ _ rfl w0.heap.size _ [(bUp, bWs), (bConn, bUp), (bAcc, x)] [(bProt, p)] A2.heap.size 1 rfl HO3.out rfl rfl _ HL3.out rfl (show 3 + 1 ≤ 1000 by omega) (Nat.le_trans HB.out.size BA.out.size) ?_
      intro v' w4 HO4 HG4
      obtain ⟨va, vc, hv'⟩ := HO4.out.slice
      subst hv'
      have HH4 := Sl.mk (staysF HO3.out HG4.out HH3.out (by decide))
      have HR4 := Sl.mk (staysF HO3.out HG4.out HR3.out (by decide))
      have HB4 : Sl (Below w.heap.size w w4) := ⟨HB3.out.grown HG4.out HB3.out.size (fun k hk => by have := ownF_ge HO3.out hk; have := HZ0.out; omega)⟩
      have HZ4 : Sl (A1.heap.size < w4.heap.size) := ⟨lt_of_block HH4.out⟩
      clear HG4 HO3 HL3 HH3 HR3 HB3 BA hA1 hA2 hA3
      obtain ⟨p0, p1, p2, p3⟩ := head_cells HH4.out
      have f3 : w4.frozen? ⟨A1.heap.size, 3, none⟩ = false := frozen_of_row _ _ _ _ _ HH4.out
      obtain ⟨⟨r0, r1, r2, r3⟩, ⟨q0, q1, q2, q3⟩⟩ := zero_cells HR4.out
      have hz4 := HZ4.out
      have hn1 : (A1.heap.size = w.heap.size) = False := eq_false (by have := Z1.out; omega)
      have hn2 : (w.heap.size = A1.heap.size) = False := eq_false (by have := Z1.out; omega))
    obtain ⟨D1, D2, D3⟩ := head_done2 (w0 := w) (a := bH11) (b := b101) (c := bSwi) HH4.out HR4.out (by have := Z1.out; omega) HB4.out (Nat.le_refl _) (by have := Z1.out; omega) HO4.out (fun f hf => by
      rcases List.mem_append.1 hf with hf | hf
      · exact HGF.out f hf
      · have : f = (bProt, p) := by simpa using hf
        subst this
        exact ⟨show bProt.size ≤ maxLen by decide, by have := HP.out; show p.size ≤ maxLen; unfold maxLen; omega⟩) (show 4 < 100000 by omega)
    refine bodyPost_ret (ret_head1 rfl _ _ w.heap.size 25 _ (0, 0) rfl (four_cells _ _ _ _ _ _ _ _ _ _ D1.out) rfl) rfl ?_
    rw [HGV.out]
    exact ⟨⟨_, _, rfl, D2.out⟩, D3⟩
end Go.Proofs.YthlagngpllahkaaGreatDoor
