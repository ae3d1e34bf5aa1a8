/- The document's Get; Row. -/
import Derived.Test.YtcohecghibndhaaDoorM
namespace Go.Proofs.YtcohecghibndhaaDoor
open Go.RowKit HeadPlain

set_option maxHeartbeats 1000000 in
set_option maxRecDepth 100000 in
theorem getR_any (h : HdV) (bx : Value) (name : ByteArray) (W : World) (hv : FieldsAt W bx h.fs) (hl : h.fs.length ≤ 100000) :
    Calls Tryd.prog 22 #[.agg #[.string h.a, .string h.b, .string h.c, bx], .string name] W fun e w' => ∃ v, e = .returned v ∧ Sl (OwnS w' W.heap.size v (getV h.fs name)) ∧ Sl (Below W.heap.size W w') := by
  obtain ⟨ad, cap, sb, so, rfl, hcap, hm, had, hcell⟩ := hv
  have HCE := Sl.mk hcell
  have HAD := Sl.mk had
  clear hm hcell had
  have HSA : Sl (∀ (a : ByteArray) (V : World), a.size ≤ maxLen → Calls Tryd.prog 26 #[.string a, .string name] V fun e w' => e = .returned (.bool (same (bytes a) (bytes name))) ∧ Still V w') := ⟨fun a V ha => sameR_any a name V ha⟩
  have HG0 : Sl (GL W h (.slice ad h.fs.length cap) name 0 (.slice (some ⟨W.heap.size + 1, 0, none⟩) 0 0) ((W.alloc (.cells #[.string h.a, .string h.b, .string h.c, .slice ad h.fs.length cap] 25)).alloc (.cells #[] 9))) := ⟨⟨⟨rfl, Or.inr ⟨W.heap.size + 1, 0, #[], rfl, by omega, alloc_new _ _ _ (by rw [alloc_size]), Nat.le_refl 0, by decide, rfl, rfl⟩⟩, ((Below.refl _ _).alloc (Nat.le_refl _) _).alloc (by rw [alloc_size]; omega) _, by rw [alloc_old _ _ _ (by rw [alloc_size]; omega)]; exact alloc_new _ _ _ rfl⟩⟩
  go_enter Tryd.func22, Tryd.ntmps22
  go_wp2
  go_loopw [5, 6] (fun u i wr => ∃ (k : Nat) (v : Value), k ≤ h.fs.length ∧ v = u ∧ i = .int .i64 k ∧ GL W h (.slice ad h.fs.length cap) name k v wr) (fun _ i _ => h.fs.length - (intOf i).toNat)
  case atStart => exact ⟨0, _, Nat.zero_le _, rfl, rfl, HG0.out⟩
  case round =>
    obtain ⟨k, v, hk, rfl, rfl, hrel⟩ := hrel
    have HR := Sl.mk hrel
    have hb3 : wr.cell? ⟨W.heap.size, 3, none⟩ = some (.slice ad h.fs.length cap) := by rw [cell_of_row _ _ _ _ _ _ hrel.x]; rfl
    clear hrel HG0
    by_cases hlt : k < h.fs.length
    · obtain rfl := HAD.out (by omega)
      obtain ⟨g1, g2, g3, g4⟩ := HCE.out k hlt
      have HS := Sl.mk (getV_succ h.fs name k hlt)
      obtain ⟨f, hf⟩ : ∃ f, h.fs.getD k f0 = f := ⟨_, rfl⟩
      rw [hf] at g1 g2 g3 g4 HS
      clear hf
      obtain ⟨n, x⟩ := f
      simp only at g1 g2 g3 g4 HS
      have HN := Sl.mk g3
      have k0 := block_lt_of_cell g1
      have e0 : wr.cell? ⟨sb, so + k * 2, none⟩ = some (.string n) := by rw [HR.out.b.cell (p := ⟨sb, so + k * 2, none⟩) k0]; exact g1
      have E1 : Sl (∀ V : World, Below wr.heap.size wr V → V.cell? ⟨sb, so + k * 2 + 1, none⟩ = some (.string x)) := ⟨fun V hV => by
        have h1 : wr.cell? ⟨sb, so + k * 2 + 1, none⟩ = some (.string x) := by rw [HR.out.b.cell (p := ⟨sb, so + k * 2 + 1, none⟩) k0]; exact g2
        rw [hV.cell (p := ⟨sb, so + k * 2 + 1, none⟩) (block_lt_of_cell h1)]; exact h1⟩
      have hk0 : (0 : Int) ≤ (k : Int) := by omega
      have hk1 : (k : Int) < (h.fs.length : Int) := by omega
      clear g1 g2 g3 g4 k0
      go_wp2_with fail
      refine (HSA.out n _ HN.out).mono ?_
      rintro e w2 ⟨rfl, hst⟩
      have HB2 : Sl (Below wr.heap.size wr w2) := ⟨hst.below⟩
      have HO2 : Sl (OwnS w2 W.heap.size v (getV (h.fs.take k) name)) := ⟨HR.out.o.below HB2.out⟩
      have HX3 : Sl (w2.heap[W.heap.size]? = some (.cells #[.string h.a, .string h.b, .string h.c, .slice (some ⟨sb, so, none⟩) h.fs.length cap] 25 (0, 0))) := ⟨by rw [HB2.out.block _ (lt_of_block HR.out.x)]; exact HR.out.x⟩
      have HBW : Sl (Below W.heap.size W w2) := ⟨below_trans HR.out.b HB2.out⟩
      clear hst e0 hb3
      cases hsame : same (bytes n) (bytes name) with
      | false =>
        rw [hsame] at HS
        have HG3 : Sl (GL W h (.slice (some ⟨sb, so, none⟩) h.fs.length cap) name (k + 1) v w2) := ⟨⟨by rw [HS.out]; exact HO2.out, HBW.out, HX3.out⟩⟩
        clear HB2 hsame
        go_wp2
        refine ⟨⟨k + 1, _, by omega, rfl, by go_num, HG3.out⟩, by simp [intOf]; omega⟩
      | true =>
        rw [hsame] at HS
        have e1 := E1.out w2 HB2.out
        have b3 : w2.cell? ⟨W.heap.size, 3, none⟩ = some (.slice (some ⟨sb, so, none⟩) h.fs.length cap) := by rw [cell_of_row _ _ _ _ _ _ HX3.out]; rfl
        have HO3 : Sl (OwnS (w2.alloc (.cells #[.string x] 9)) W.heap.size v (getV (h.fs.take k) name)) := ⟨HO2.out.below ((Below.refl _ _).alloc (Nat.le_refl _) _)⟩
        have HLL : Sl ((getV (h.fs.take k) name).length ≤ 1000000) := ⟨by have := getV_le (h.fs.take k) name; rw [List.length_take] at this; omega⟩
        have HX4 : Sl ((w2.alloc (.cells #[.string x] 9)).heap[W.heap.size]? = some (.cells #[.string h.a, .string h.b, .string h.c, .slice (some ⟨sb, so, none⟩) h.fs.length cap] 25 (0, 0))) := ⟨by rw [alloc_old _ _ _ (lt_of_block HX3.out)]; exact HX3.out⟩
        have HBA : Sl (Below W.heap.size W (w2.alloc (.cells #[.string x] 9))) := ⟨HBW.out.alloc HBW.out.size _⟩
        clear HB2 hsame HX3 HBW HO2
        go_wp2_with (with_reducible refine app_str rfl rfl (.tmp 23) (.tmp 30) rfl W.heap.size v (getV (h.fs.take k) name) x rfl HO3.out ⟨w2.heap.size, 0, none⟩ 1 rfl ?c1 rfl HLL.out HBA.out.size ?_)
        case c1 => rw [cell_of_row _ _ _ _ _ _ (alloc_new _ _ _ rfl)]; rfl
        intro v' w3 HO4 HG4
        have HG3 : Sl (GL W h (.slice (some ⟨sb, so, none⟩) h.fs.length cap) name (k + 1) v' w3) := ⟨⟨by rw [HS.out]; exact HO4.out, below_grown HBA.out HO3.out HG4.out HBA.out.size, stays HO3.out HG4.out HX4.out (by decide)⟩⟩
        clear HO4 HG4 HX4 HO3 HBA
        go_wp2
        refine ⟨⟨k + 1, _, by omega, rfl, by go_num, HG3.out⟩, by simp [intOf]; omega⟩
    · have hge : ((k : Int) < (h.fs.length : Int)) = False := eq_false (by omega)
      obtain rfl : k = h.fs.length := by omega
      have HO : Sl (OwnS wr W.heap.size v (getV h.fs name)) := ⟨by
        have := HR.out.o
        rwa [List.take_of_length_le (Nat.le_refl _)] at this⟩
      have HB : Sl (Below W.heap.size W wr) := ⟨HR.out.b⟩
      clear HR
      go_wp2
      go_ret
      exact ⟨_, rfl, HO, HB⟩
/-- The strings l are the elements of the slice v. -/
def StrA (W : World) (v : Value) (l : List ByteArray) : Prop :=
  ∃ (a : Option Addr) (cap sb so : Nat), v = .slice a l.length cap ∧ l.length ≤ cap ∧ (0 < l.length → a = some ⟨sb, so, none⟩) ∧ ∀ i, i < l.length → W.cell? ⟨sb, so + i, none⟩ = some (.string (l.getD i ByteArray.empty))
theorem StrA.below {w w' : World} {v : Value} {l : List ByteArray} (h : StrA w v l) (hb : Below w.heap.size w w') : StrA w' v l := by
  obtain ⟨a, cap, sb, so, h1, h2, h3, h4⟩ := h
  exact ⟨a, cap, sb, so, h1, h2, h3, fun i hi => by
    have := h4 i hi
    rw [hb.cell (p := ⟨sb, so + i, none⟩) (block_lt_of_cell this)]; exact this⟩
theorem OwnS.strA {w : World} {base : Nat} {v : Value} {l : List ByteArray} (h : OwnS w base v l) : StrA w v l := by
  obtain ⟨h1, h2⟩ := h
  rcases h2 with ⟨rfl, hz⟩ | ⟨g, cap, cur, rfl, hg, hh, hc1, hc2, hsz, htk⟩
  · exact ⟨none, 0, 0, 0, by rw [hz], by omega, fun h => by omega, fun i hi => by omega⟩
  · refine ⟨some ⟨g, 0, none⟩, cap, g, 0, rfl, hc1, fun _ => rfl, fun i hi => ?_⟩
    have hu : (l.map Value.string)[i]? = some (.string (l.getD i ByteArray.empty)) := by
      rw [List.getElem?_map, List.getElem?_eq_getElem hi, List.getD_eq_getElem?_getD, List.getElem?_eq_getElem hi]; rfl
    rw [Nat.zero_add, cell_of_row _ _ _ _ _ _ hh]
    rw [← htk] at hu
    have hj : i < (cur.toList.take (l.length * 1)).length := (List.getElem?_eq_some_iff.1 hu).1
    rw [List.length_take] at hj
    rw [List.getElem?_take_of_lt (by omega)] at hu
    simpa using hu
theorem map_bytes_eq {a b : List ByteArray} (hl : a.length = b.length) (h : ∀ j, j < a.length → bytes (a.getD j ByteArray.empty) = bytes (b.getD j ByteArray.empty)) : a.map bytes = b.map bytes := by
  apply List.ext_getElem (by simpa using hl)
  intro i h1 h2
  have hi : i < a.length := by simpa using h1
  have := h i hi
  simpa [List.getD_eq_getElem?_getD, List.getElem?_eq_getElem hi, List.getElem?_eq_getElem (hl ▸ hi : i < b.length)] using this
theorem map_bytes_ne {a b : List ByteArray} (k : Nat) (hk : k < a.length) (hl : a.length = b.length) (h : bytes (a.getD k ByteArray.empty) ≠ bytes (b.getD k ByteArray.empty)) : a.map bytes ≠ b.map bytes := by
  intro e
  apply h
  have := congrArg (fun l => l[k]?) e
  simpa [List.getD_eq_getElem?_getD, List.getElem?_eq_getElem hk, List.getElem?_eq_getElem (hl ▸ hk : k < b.length)] using this

set_option maxHeartbeats 1000000 in
theorem row_any (a b : List ByteArray) (x y : Value) (W : World) (ha : StrA W x a) (hb : StrA W y b) (hL : a.length ≤ 1000000) :
    Calls Tryd.prog 20 #[x, y] W fun e w' => e = .returned (.bool (decide (a.map bytes = b.map bytes))) ∧ Still W w' := by
  obtain ⟨ad, ca, sa, oa, rfl, hca, haa, hcella⟩ := ha
  obtain ⟨bd, cb, sb, ob, rfl, hcb, hab, hcellb⟩ := hb
  have HA := Sl.mk hcella
  have HB := Sl.mk hcellb
  have HAA := Sl.mk haa
  have HAB := Sl.mk hab
  clear hcella hcellb haa hab
  by_cases hl : a.length = b.length
  · have HL := Sl.mk hl
    obtain ⟨n, hn⟩ : ∃ n, a.length = n := ⟨_, rfl⟩
    have HN := Sl.mk hn
    have HNb : Sl (b.length = n) := ⟨by rw [← hl]; exact hn⟩
    rw [← hl, hn]
    rw [hn] at hL
    clear hl hn hca hcb
    go_enter Tryd.func20, Tryd.ntmps20
    go_wp2
    go_loopw [5] (fun i wr => ∃ k : Nat, k ≤ n ∧ i = .int .i64 k ∧ Sl (Still W wr) ∧ Sl (∀ j, j < k → bytes (a.getD j ByteArray.empty) = bytes (b.getD j ByteArray.empty))) (fun i _ => n - (intOf i).toNat)
    case atStart => exact ⟨0, Nat.zero_le _, rfl, ⟨Still.refl _⟩, ⟨fun j hj => by omega⟩⟩
    case round =>
      obtain ⟨k, hk, rfl, HS, HE⟩ := hrel
      by_cases hlt : k < n
      · obtain rfl := HAA.out (by rw [HN.out]; omega)
        obtain rfl := HAB.out (by rw [HNb.out]; omega)
        obtain ⟨p, hp⟩ : ∃ p, a.getD k ByteArray.empty = p := ⟨_, rfl⟩
        obtain ⟨q, hq⟩ : ∃ q, b.getD k ByteArray.empty = q := ⟨_, rfl⟩
        have HP := Sl.mk hp
        have HQ := Sl.mk hq
        have e0 : wr.cell? ⟨sa, oa + k, none⟩ = some (.string p) := by
          rw [World.cell?_of_block (w := W) (by rw [HS.out.heap]), HA.out k (by rw [HN.out]; omega), hp]
        have e1 : wr.cell? ⟨sb, ob + k, none⟩ = some (.string q) := by
          rw [World.cell?_of_block (w := W) (by rw [HS.out.heap]), HB.out k (by rw [HNb.out]; omega), hq]
        have hk0 : (0 : Int) ≤ (k : Int) := by omega
        have hk1 : (k : Int) < (n : Int) := by omega
        clear hp hq
        obtain ⟨r, hr⟩ : ∃ r, (p.toList == q.toList) = r := ⟨_, rfl⟩
        have HRR := Sl.mk hr
        go_wp2
        go_quiet (fail)
        cases r with
        | true =>
          go_wp2
          refine ⟨⟨k + 1, by omega, by go_num, ⟨HS.out.drewN _⟩, ⟨fun j hj => ?_⟩⟩, by simp [intOf]; omega⟩
          by_cases e : j = k
          · subst e
            rw [HP.out, HQ.out]
            have := HRR.out
            rw [beq_bytes2] at this
            exact of_decide_eq_true this
          · exact HE.out j (by omega)
        | false =>
          go_wp2
          go_ret
          refine ⟨ret_bool ?_, HS.out.drewN _⟩
          refine (decide_eq_false (map_bytes_ne k (by rw [HN.out]; omega) HL.out ?_)).symm
          rw [HP.out, HQ.out]
          have := HRR.out
          rw [beq_bytes2] at this
          exact of_decide_eq_false this
      · have hge : ((k : Int) < (n : Int)) = False := eq_false (by omega)
        have HY : Sl (decide (a.map bytes = b.map bytes) = true) := ⟨decide_eq_true (map_bytes_eq HL.out (fun j hj => HE.out j (by rw [HN.out] at hj; omega)))⟩
        go_wp2
        go_ret
        exact ⟨ret_bool HY.out.symm, HS.out⟩
  · have hl' : ((a.length : Int) == (b.length : Int)) = false := by simp; omega
    have HY : Sl (decide (a.map bytes = b.map bytes) = false) := ⟨decide_eq_false (fun e => hl (by have := congrArg List.length e; simpa using this))⟩
    go_enter Tryd.func20, Tryd.ntmps20
    go_wp2
    go_ret
    exact ⟨ret_bool HY.out.symm, Still.refl _⟩
end Go.Proofs.YtcohecghibndhaaDoor
