/- Get: a name's values; the program's and the document's; whether two rows of texts are the same. -/
import Derived.Test.YtcohecghibndhaaDoorL
namespace Go.Proofs.YtcohecghibndhaaDoor
open Go.RowKit HeadPlain

/-- A name's values. -/
def getV (fs : List FV) (name : ByteArray) : List ByteArray := (fs.filter fun f => same (bytes f.1) (bytes name)).map (·.2)
theorem getV_bytes (fs : List FV) (name : ByteArray) : (getV fs name).map bytes = HeadPlain.get (fs.map fN) (bytes name) := by
  unfold getV HeadPlain.get
  rw [List.filter_map, List.map_map, List.map_map]
  rfl
theorem getV_succ (fs : List FV) (name : ByteArray) (k : Nat) (hk : k < fs.length) :
    getV (fs.take (k + 1)) name = if same (bytes (fs.getD k f0).1) (bytes name) = true then getV (fs.take k) name ++ [(fs.getD k f0).2] else getV (fs.take k) name := by
  have e : fs.getD k f0 = fs[k] := by simp [List.getD_eq_getElem?_getD, List.getElem?_eq_getElem hk]
  unfold getV
  rw [List.take_succ_eq_append_getElem hk, List.filter_append, List.map_append, e]
  by_cases h : same (bytes fs[k].1) (bytes name) = true <;> simp [h]
theorem getV_le (fs : List FV) (name : ByteArray) : (getV fs name).length ≤ fs.length := by
  unfold getV
  rw [List.length_map]
  exact List.length_filter_le _ _
theorem info9 : ∃ i, Tryd.prog.info? 9 = some i ∧ i.zero = some (.string ByteArray.empty) ∧ i.size = 1 ∧ i.bytes = 16 := by
  have h5 : (Tryd.prog.info? 9).map (fun i => (i.zero, i.size, i.bytes)) = some (some (.string ByteArray.empty), 1, 16) := by kernel_rfl
  cases hi : Tryd.prog.info? 9 with
  | none => rw [hi] at h5; cases h5
  | some i =>
    rw [hi] at h5
    simp only [Option.map_some, Option.some.injEq, Prod.mk.injEq] at h5
    exact ⟨i, rfl, h5.1, h5.2.1, h5.2.2⟩
/-- A row of strings of its own. -/
def OwnS (W : World) (base : Nat) (v : Value) (l : List ByteArray) : Prop := W.ownsRow base 9 1 v l.length (l.map Value.string)
theorem OwnS.slice {W : World} {base : Nat} {v : Value} {l : List ByteArray} (h : OwnS W base v l) : ∃ a c, v = .slice a l.length c := by
  obtain ⟨_, h2⟩ := h
  rcases h2 with ⟨rfl, hz⟩ | ⟨g, cap, cur, rfl, _⟩
  · rw [hz]; exact ⟨_, _, rfl⟩
  · exact ⟨_, _, rfl⟩
theorem OwnS.below {w w' : World} {base : Nat} {v : Value} {l : List ByteArray} (h : OwnS w base v l) (hb : Below w.heap.size w w') : OwnS w' base v l := own_below h hb
/-- What the loop of Get holds to. -/
structure GL (W : World) (h : HdV) (bx : Value) (name : ByteArray) (k : Nat) (v : Value) (wr : World) : Prop where
  o : OwnS wr W.heap.size v (getV (h.fs.take k) name)
  b : Below W.heap.size W wr
  x : wr.heap[W.heap.size]? = some (.cells #[.string h.a, .string h.b, .string h.c, bx] 25 (0, 0))

/-- One value more, in its own row, beside a block of another kind. -/
theorem app_str {P : Program} {w : World} {ops : Array Oper} {rest : List Oper} {o : Oper} {a : Act} {Q : Exit → Act → World → Prop} (hP : P = Tryd.prog) (hgd : o.guard = none) (s x : Operand)
    (ho : o.op = .call { callee := .builtin .append, args := #[s, x], argTypes := #[43, 43] }) (base : Nat) (v : Value) (l : List ByteArray) (y : ByteArray) (hs : a.eval s = v) (hown : OwnS w base v l)
    (ad : Addr) (c : Nat) (hx : a.eval x = .slice (some ad) 1 c) (hy : w.cell? ad = some (.string y)) (hsp : ad.spot = none) (hl : l.length ≤ 1000000) (hbase : base ≤ w.heap.size)
    (h : ∀ v' w', Sl (OwnS w' base v' (l ++ [y])) → Sl (w.grownBy w' v.ownBlock) → wpList P ops Q rest (a.put o.dst v') w') : wpList P ops Q (o :: rest) a w := by
  subst hP
  obtain ⟨i0, hi, hz0, hz1, hz2⟩ := info9
  refine wpList_append_own _ hgd s x 43 ho base 9 i0 (.string ByteArray.empty) 1 16 Tryd.underlying43 hi hz0 hz1 hz2 rfl (by decide) v l.length (l.map Value.string) hs hown ad 1 c [.string y] hx rfl ?_ ?_ ?_ ?_ hbase ?_
  · intro j u hu
    match j, hu with
    | 0, hu =>
      obtain ⟨b, off, spot⟩ := ad
      simp only at hsp
      subst hsp
      rw [Addr.add_mid]
      injection hu with hu
      subst hu
      exact hy
  · intro u hu; simp at hu; subst hu; rfl
  · unfold maxLen; omega
  · omega
  · intro v' w' h1 h2 _
    refine h v' w' ⟨?_⟩ ⟨h2⟩
    unfold OwnS
    rw [List.length_append, List.map_append]
    exact h1
/-- A block of another kind stays when a row of strings grows. -/
theorem stays {w w' : World} {base g : Nat} {v : Value} {l : List ByteArray} {cs : Array Value} {t : TypeId} (ho : OwnS w base v l) (hg : w.grownBy w' v.ownBlock) (h : w.heap[g]? = some (.cells cs t (0, 0))) (ht : t ≠ 9) : w'.heap[g]? = some (.cells cs t (0, 0)) := by
  rw [hg.block g (lt_of_block h) (fun e => by
    obtain ⟨_, h2⟩ := ho
    rcases h2 with ⟨rfl, _⟩ | ⟨k, cap, cur, rfl, _, hh, _⟩
    · cases e
    · have e2 : g = k := by simpa [Value.ownBlock] using e
      subst e2
      rw [h] at hh
      injection hh with hh
      injection hh with _ h4
      exact ht h4)]
  exact h

set_option maxHeartbeats 1000000 in
set_option maxRecDepth 100000 in
theorem get_any (h : HdV) (bx : Value) (name : ByteArray) (W : World) (hv : FieldsAt W bx h.fs) (hl : h.fs.length ≤ 100000) :
    Calls Tryd.prog 21 #[.agg #[.string h.a, .string h.b, .string h.c, bx], .string name] W fun e w' => ∃ v, e = .returned v ∧ Sl (OwnS w' W.heap.size v (getV h.fs name)) ∧ Sl (Below W.heap.size W w') := by
  obtain ⟨ad, cap, sb, so, rfl, hcap, hm, had, hcell⟩ := hv
  have HCE := Sl.mk hcell
  have HAD := Sl.mk had
  clear hm hcell had
  have HSA : Sl (∀ (a : ByteArray) (V : World), a.size ≤ maxLen → Calls Tryd.prog 25 #[.string a, .string name] V fun e w' => e = .returned (.bool (same (bytes a) (bytes name))) ∧ Still V w') := ⟨fun a V ha => same_any a name V ha⟩
  have HG0 : Sl (GL W h (.slice ad h.fs.length cap) name 0 (.slice none 0 0) (W.alloc (.cells #[.string h.a, .string h.b, .string h.c, .slice ad h.fs.length cap] 25))) := ⟨⟨World.ownsRow_nil _ _ _ _, (Below.refl _ _).alloc (Nat.le_refl _) _, alloc_new _ _ _ rfl⟩⟩
  go_enter Tryd.func21, Tryd.ntmps21
  go_wp2
  go_loopw [5, 11] (fun u i wr => ∃ (k : Nat) (v : Value), k ≤ h.fs.length ∧ v = u ∧ i = .int .i64 k ∧ GL W h (.slice ad h.fs.length cap) name k v wr) (fun _ i _ => h.fs.length - (intOf i).toNat)
  case atStart => exact ⟨0, _, Nat.zero_le _, rfl, rfl, HG0.out⟩
  case round =>
    obtain ⟨k, v, hk, rfl, rfl, hrel⟩ := hrel
    have HR := Sl.mk hrel
    clear hrel HG0
    by_cases hlt : k < h.fs.length
    · obtain rfl := HAD.out (by omega)
      obtain ⟨g1, g2, g3, g4⟩ := HCE.out k hlt
      have HS := Sl.mk (getV_succ h.fs name k hlt)
      obtain ⟨f, hf⟩ : ∃ f, h.fs.getD k f0 = f := ⟨_, rfl⟩
      rw [hf] at g1 g2 g3 g4 HS
      clear hf
      obtain ⟨n, x⟩ := f
      simp only at g1 g2 g3 g4 HS
      have HN := Sl.mk g3
      have k0 := block_lt_of_cell g1
      have e0 : wr.cell? ⟨sb, so + k * 2, none⟩ = some (.string n) := by rw [HR.out.b.cell (p := ⟨sb, so + k * 2, none⟩) k0]; exact g1
      have e1 : wr.cell? ⟨sb, so + k * 2 + 1, none⟩ = some (.string x) := by rw [HR.out.b.cell (p := ⟨sb, so + k * 2 + 1, none⟩) k0]; exact g2
      have hk0 : (0 : Int) ≤ (k : Int) := by omega
      have hk1 : (k : Int) < (h.fs.length : Int) := by omega
      clear g1 g2 g3 g4 k0
      go_wp2_with fail
      refine (HSA.out n _ HN.out).mono ?_
      rintro e w2 ⟨rfl, hst⟩
      have HX2 : Sl (w2.heap[wr.heap.size]? = some (.cells #[.string n, .string x] 48 (0, 0))) := ⟨by rw [hst.heap]; exact alloc_new _ _ _ rfl⟩
      have HB2 : Sl (Below wr.heap.size wr w2) := ⟨below_trans ((Below.refl _ _).alloc (Nat.le_refl _) _) hst.below⟩
      have HO2 : Sl (OwnS w2 W.heap.size v (getV (h.fs.take k) name)) := ⟨HR.out.o.below HB2.out⟩
      have HX3 : Sl (w2.heap[W.heap.size]? = some (.cells #[.string h.a, .string h.b, .string h.c, .slice (some ⟨sb, so, none⟩) h.fs.length cap] 25 (0, 0))) := ⟨by rw [HB2.out.block _ (lt_of_block HR.out.x)]; exact HR.out.x⟩
      have HBW : Sl (Below W.heap.size W w2) := ⟨below_trans HR.out.b HB2.out⟩
      clear hst e0 e1
      cases hsame : same (bytes n) (bytes name) with
      | false =>
        rw [hsame] at HS
        have HG3 : Sl (GL W h (.slice (some ⟨sb, so, none⟩) h.fs.length cap) name (k + 1) v w2) := ⟨⟨by rw [HS.out]; exact HO2.out, HBW.out, HX3.out⟩⟩
        clear HB2 hsame
        go_wp2
        refine ⟨⟨k + 1, _, by omega, rfl, by go_num, HG3.out⟩, by simp [intOf]; omega⟩
      | true =>
        rw [hsame] at HS
        have c1 : w2.cell? ⟨wr.heap.size, 1, none⟩ = some (.string x) := by rw [cell_of_row _ _ _ _ _ _ HX2.out]; rfl
        have HO3 : Sl (OwnS (w2.alloc (.cells #[.string x] 9)) W.heap.size v (getV (h.fs.take k) name)) := ⟨HO2.out.below ((Below.refl _ _).alloc (Nat.le_refl _) _)⟩
        have HLL : Sl ((getV (h.fs.take k) name).length ≤ 1000000) := ⟨by have := getV_le (h.fs.take k) name; rw [List.length_take] at this; omega⟩
        have HX4 : Sl ((w2.alloc (.cells #[.string x] 9)).heap[W.heap.size]? = some (.cells #[.string h.a, .string h.b, .string h.c, .slice (some ⟨sb, so, none⟩) h.fs.length cap] 25 (0, 0))) := ⟨by rw [alloc_old _ _ _ (lt_of_block HX3.out)]; exact HX3.out⟩
        have HBA : Sl (Below W.heap.size W (w2.alloc (.cells #[.string x] 9))) := ⟨HBW.out.alloc HBW.out.size _⟩
        clear HB2 hsame HX3 HBW HO2
        go_wp2_with (with_reducible refine app_str rfl rfl (.tmp 19) (.tmp 22) rfl W.heap.size v (getV (h.fs.take k) name) x rfl HO3.out ⟨w2.heap.size, 0, none⟩ 1 rfl ?c1 rfl HLL.out HBA.out.size ?_)
        case c1 => rw [cell_of_row _ _ _ _ _ _ (alloc_new _ _ _ rfl)]; rfl
        intro v' w3 HO4 HG4
        have HG3 : Sl (GL W h (.slice (some ⟨sb, so, none⟩) h.fs.length cap) name (k + 1) v' w3) := ⟨⟨by rw [HS.out]; exact HO4.out, below_grown HBA.out HO3.out HG4.out HBA.out.size, stays HO3.out HG4.out HX4.out (by decide)⟩⟩
        clear HO4 HG4 HX4 HO3 HBA c1 HX2
        go_wp2
        refine ⟨⟨k + 1, _, by omega, rfl, by go_num, HG3.out⟩, by simp [intOf]; omega⟩
    · have hge : ((k : Int) < (h.fs.length : Int)) = False := eq_false (by omega)
      obtain rfl : k = h.fs.length := by omega
      have HO : Sl (OwnS wr W.heap.size v (getV h.fs name)) := ⟨by
        have := HR.out.o
        rwa [List.take_of_length_le (Nat.le_refl _)] at this⟩
      have HB : Sl (Below W.heap.size W wr) := ⟨HR.out.b⟩
      clear HR
      go_wp2
      go_ret
      exact ⟨_, rfl, HO, HB⟩
end Go.Proofs.YtcohecghibndhaaDoor
