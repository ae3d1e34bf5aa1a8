/- Get: a name's values; the program's and the document's; whether two rows of texts are the same. -/
import Derived.Test.YthlagngpllahkaaGreatDoorHdC
import Derived.Test.YthlagngpllahkaaGreatDoorStrsOwn
import Derived.Test.YthlagngpllahkaaGreatDoorHdB
import Derived.Laws.StructEq
set_option maxRecDepth 100000
namespace Go.Proofs.YthlagngpllahkaaGreatDoor
open Go.RowKit HeadPlain

/-- A name's values. -/
def getV (fs : List FV) (name : ByteArray) : List ByteArray := (fs.filter fun f => same (bytes f.1) (bytes name)).map (·.2)
theorem getV_bytes (fs : List FV) (name : ByteArray) : (getV fs name).map bytes = HeadPlain.get (fs.map fN) (bytes name) := by
  unfold getV HeadPlain.get
  rw [List.filter_map, List.map_map, List.map_map]
  rfl
theorem getV_succ (fs : List FV) (name : ByteArray) (k : Nat) (hk : k < fs.length) :
    getV (fs.take (k + 1)) name = if same (bytes (fs.getD k f0).1) (bytes name) = true then getV (fs.take k) name ++ [(fs.getD k f0).2] else getV (fs.take k) name := by
  have e : fs.getD k f0 = fs[k] := by simp [List.getD_eq_getElem?_getD, List.getElem?_eq_getElem hk]
  unfold getV
  rw [List.take_succ_eq_append_getElem hk, List.filter_append, List.map_append, e]
  by_cases h : same (bytes fs[k].1) (bytes name) = true <;> simp [h]
theorem getV_le (fs : List FV) (name : ByteArray) : (getV fs name).length ≤ fs.length := by
  unfold getV
  rw [List.length_map]
  exact List.length_filter_le _ _
/-- What the loop of Get holds to. -/
structure GL (W : World) (h : HdV) (bx : Value) (name : ByteArray) (k : Nat) (v : Value) (wr : World) : Prop where
  o : OwnS wr W.heap.size v (getV (h.fs.take k) name)
  b : Below W.heap.size W wr
  x : wr.heap[W.heap.size]? = some (.cells #[.string h.a, .string h.b, .string h.c, bx] 25 (0, 0))

set_option maxHeartbeats 1000000 in
set_option maxRecDepth 100000 in
theorem get_any (h : HdV) (bx : Value) (name : ByteArray) (W : World) (hv : FieldsAt W bx h.fs) (hl : h.fs.length ≤ 100000) :
    Calls Tryz.prog 36 #[.agg #[.string h.a, .string h.b, .string h.c, bx], .string name] W fun e w' => ∃ v, e = .returned v ∧ Sl (OwnS w' W.heap.size v (getV h.fs name)) ∧ Sl (Below W.heap.size W w') := by
  obtain ⟨ad, cap, sb, so, rfl, hcap, hm, had, hcell⟩ := hv
  have HCE := Sl.mk hcell
  have HAD := Sl.mk had
  clear hm hcell had
  have HSA : Sl (∀ (a : ByteArray) (V : World), a.size ≤ maxLen → Calls Tryz.prog 66 #[.string a, .string name] V fun e w' => e = .returned (.bool (same (bytes a) (bytes name))) ∧ Still V w') := ⟨fun a V ha => same_any a name V ha⟩
  have HG0 : Sl (GL W h (.slice ad h.fs.length cap) name 0 (.slice none 0 0) (W.alloc (.cells #[.string h.a, .string h.b, .string h.c, .slice ad h.fs.length cap] 25))) := ⟨⟨World.ownsRow_nil _ _ _ _, (Below.refl _ _).alloc (Nat.le_refl _) _, alloc_new _ _ _ rfl⟩⟩
  go_enter Tryz.func36, Tryz.ntmps36
  go_wp2
  go_loopw [5, 11] (fun u i wr => ∃ (k : Nat) (v : Value), k ≤ h.fs.length ∧ v = u ∧ i = .int .i64 k ∧ GL W h (.slice ad h.fs.length cap) name k v wr) (fun _ i _ => h.fs.length - (intOf i).toNat)
  case atStart => exact ⟨0, _, Nat.zero_le _, rfl, rfl, HG0.out⟩
  case round =>
    obtain ⟨k, v, hk, rfl, rfl, hrel⟩ := hrel
    have HR := Sl.mk hrel
    clear hrel HG0
    by_cases hlt : k < h.fs.length
    · obtain rfl := HAD.out (by omega)
      obtain ⟨g1, g2, g3, g4⟩ := HCE.out k hlt
      have HS := Sl.mk (getV_succ h.fs name k hlt)
      obtain ⟨f, hf⟩ : ∃ f, h.fs.getD k f0 = f := ⟨_, rfl⟩
      rw [hf] at g1 g2 g3 g4 HS
      clear hf
      obtain ⟨n, x⟩ := f
      simp only at g1 g2 g3 g4 HS
      have HN := Sl.mk g3
      have k0 := block_lt_of_cell g1
      have e0 : wr.cell? ⟨sb, so + k * 2, none⟩ = some (.string n) := by rw [HR.out.b.cell (p := ⟨sb, so + k * 2, none⟩) k0]; exact g1
      have e1 : wr.cell? ⟨sb, so + k * 2 + 1, none⟩ = some (.string x) := by rw [HR.out.b.cell (p := ⟨sb, so + k * 2 + 1, none⟩) k0]; exact g2
      have hk0 : (0 : Int) ≤ (k : Int) := by omega
      have hk1 : (k : Int) < (h.fs.length : Int) := by omega
      clear g1 g2 g3 g4 k0
      go_wp2_with fail
      refine (HSA.out n _ HN.out).mono ?_
      rintro e w2 ⟨rfl, hst⟩
      have HX2 : Sl (w2.heap[wr.heap.size]? = some (.cells #[.string n, .string x] 60 (0, 0))) := ⟨by rw [hst.heap]; exact alloc_new _ _ _ rfl⟩
      have HB2 : Sl (Below wr.heap.size wr w2) := ⟨below_trans ((Below.refl _ _).alloc (Nat.le_refl _) _) hst.below⟩
      have HO2 : Sl (OwnS w2 W.heap.size v (getV (h.fs.take k) name)) := ⟨HR.out.o.below HB2.out⟩
      have HX3 : Sl (w2.heap[W.heap.size]? = some (.cells #[.string h.a, .string h.b, .string h.c, .slice (some ⟨sb, so, none⟩) h.fs.length cap] 25 (0, 0))) := ⟨by rw [HB2.out.block _ (lt_of_block HR.out.x)]; exact HR.out.x⟩
      have HBW : Sl (Below W.heap.size W w2) := ⟨below_trans HR.out.b HB2.out⟩
      clear hst e0 e1
      cases hsame : same (bytes n) (bytes name) with
      | false =>
        rw [hsame] at HS
        have HG3 : Sl (GL W h (.slice (some ⟨sb, so, none⟩) h.fs.length cap) name (k + 1) v w2) := ⟨⟨by rw [HS.out]; exact HO2.out, HBW.out, HX3.out⟩⟩
        clear HB2 hsame
        go_wp2
        refine ⟨⟨k + 1, _, by omega, rfl, by go_num, HG3.out⟩, by simp [intOf]; omega⟩
      | true =>
        rw [hsame] at HS
        have c1 : w2.cell? ⟨wr.heap.size, 1, none⟩ = some (.string x) := by rw [cell_of_row _ _ _ _ _ _ HX2.out]; rfl
        have HO3 : Sl (OwnS (w2.alloc (.cells #[.string x] 9)) W.heap.size v (getV (h.fs.take k) name)) := ⟨HO2.out.below ((Below.refl _ _).alloc (Nat.le_refl _) _)⟩
        have HLL : Sl ((getV (h.fs.take k) name).length ≤ 1000000) := ⟨by have := getV_le (h.fs.take k) name; rw [List.length_take] at this; omega⟩
        have HX4 : Sl ((w2.alloc (.cells #[.string x] 9)).heap[W.heap.size]? = some (.cells #[.string h.a, .string h.b, .string h.c, .slice (some ⟨sb, so, none⟩) h.fs.length cap] 25 (0, 0))) := ⟨by rw [alloc_old _ _ _ (lt_of_block HX3.out)]; exact HX3.out⟩
        have HBA : Sl (Below W.heap.size W (w2.alloc (.cells #[.string x] 9))) := ⟨HBW.out.alloc HBW.out.size _⟩
        clear HB2 hsame HX3 HBW HO2
        go_wp2_with (with_reducible refine app_str rfl rfl (.tmp 19) (.tmp 22) rfl W.heap.size v (getV (h.fs.take k) name) x rfl HO3.out ⟨w2.heap.size, 0, none⟩ 1 rfl ?c1 rfl HLL.out HBA.out.size ?_)
        case c1 => rw [cell_of_row _ _ _ _ _ _ (alloc_new _ _ _ rfl)]; rfl
        intro v' w3 HO4 HG4
        have HG3 : Sl (GL W h (.slice (some ⟨sb, so, none⟩) h.fs.length cap) name (k + 1) v' w3) := ⟨⟨by rw [HS.out]; exact HO4.out, below_grown HBA.out HO3.out HG4.out HBA.out.size, stays HO3.out HG4.out HX4.out (by decide)⟩⟩
        clear HO4 HG4 HX4 HO3 HBA c1 HX2
        go_wp2
        refine ⟨⟨k + 1, _, by omega, rfl, by go_num, HG3.out⟩, by simp [intOf]; omega⟩
    · have hge : ((k : Int) < (h.fs.length : Int)) = False := eq_false (by omega)
      obtain rfl : k = h.fs.length := by omega
      have HO : Sl (OwnS wr W.heap.size v (getV h.fs name)) := ⟨by
        have := HR.out.o
        rwa [List.take_of_length_le (Nat.le_refl _)] at this⟩
      have HB : Sl (Below W.heap.size W wr) := ⟨HR.out.b⟩
      clear HR
      go_wp2
      go_ret
      exact ⟨_, rfl, HO, HB⟩
end Go.Proofs.YthlagngpllahkaaGreatDoor
/- The document's Get; Row. -/
namespace Go.Proofs.YthlagngpllahkaaGreatDoor
open Go.RowKit HeadPlain

set_option maxHeartbeats 1000000 in
set_option maxRecDepth 100000 in
theorem getR_any (h : HdV) (bx : Value) (name : ByteArray) (W : World) (hv : FieldsAt W bx h.fs) (hl : h.fs.length ≤ 100000) :
    Calls Tryz.prog 38 #[.agg #[.string h.a, .string h.b, .string h.c, bx], .string name] W fun e w' => ∃ v, e = .returned v ∧ Sl (OwnS w' W.heap.size v (getV h.fs name)) ∧ Sl (Below W.heap.size W w') := by
  obtain ⟨ad, cap, sb, so, rfl, hcap, hm, had, hcell⟩ := hv
  have HCE := Sl.mk hcell
  have HAD := Sl.mk had
  clear hm hcell had
  have HSA : Sl (∀ (a : ByteArray) (V : World), a.size ≤ maxLen → Calls Tryz.prog 35 #[.string a, .string name] V fun e w' => e = .returned (.bool (same (bytes a) (bytes name))) ∧ Still V w') := ⟨fun a V ha => sameR_any a name V ha⟩
  have HG0 : Sl (GL W h (.slice ad h.fs.length cap) name 0 (.slice (some ⟨W.heap.size + 1, 0, none⟩) 0 0) ((W.alloc (.cells #[.string h.a, .string h.b, .string h.c, .slice ad h.fs.length cap] 25)).alloc (.cells #[] 9))) := ⟨⟨⟨rfl, Or.inr ⟨W.heap.size + 1, 0, #[], rfl, by omega, alloc_new _ _ _ (by rw [alloc_size]), Nat.le_refl 0, by decide, rfl, rfl⟩⟩, ((Below.refl _ _).alloc (Nat.le_refl _) _).alloc (by rw [alloc_size]; omega) _, by rw [alloc_old _ _ _ (by rw [alloc_size]; omega)]; exact alloc_new _ _ _ rfl⟩⟩
  go_enter Tryz.func38, Tryz.ntmps38
  go_wp2
  go_loopw [5, 6] (fun u i wr => ∃ (k : Nat) (v : Value), k ≤ h.fs.length ∧ v = u ∧ i = .int .i64 k ∧ GL W h (.slice ad h.fs.length cap) name k v wr) (fun _ i _ => h.fs.length - (intOf i).toNat)
  case atStart => exact ⟨0, _, Nat.zero_le _, rfl, rfl, HG0.out⟩
  case round =>
    obtain ⟨k, v, hk, rfl, rfl, hrel⟩ := hrel
    have HR := Sl.mk hrel
    have hb3 : wr.cell? ⟨W.heap.size, 3, none⟩ = some (.slice ad h.fs.length cap) := by rw [cell_of_row _ _ _ _ _ _ hrel.x]; rfl
    clear hrel HG0
    by_cases hlt : k < h.fs.length
    · obtain rfl := HAD.out (by omega)
      obtain ⟨g1, g2, g3, g4⟩ := HCE.out k hlt
      have HS := Sl.mk (getV_succ h.fs name k hlt)
      obtain ⟨f, hf⟩ : ∃ f, h.fs.getD k f0 = f := ⟨_, rfl⟩
      rw [hf] at g1 g2 g3 g4 HS
      clear hf
      obtain ⟨n, x⟩ := f
      simp only at g1 g2 g3 g4 HS
      have HN := Sl.mk g3
      have k0 := block_lt_of_cell g1
      have e0 : wr.cell? ⟨sb, so + k * 2, none⟩ = some (.string n) := by rw [HR.out.b.cell (p := ⟨sb, so + k * 2, none⟩) k0]; exact g1
      have E1 : Sl (∀ V : World, Below wr.heap.size wr V → V.cell? ⟨sb, so + k * 2 + 1, none⟩ = some (.string x)) := ⟨fun V hV => by
        have h1 : wr.cell? ⟨sb, so + k * 2 + 1, none⟩ = some (.string x) := by rw [HR.out.b.cell (p := ⟨sb, so + k * 2 + 1, none⟩) k0]; exact g2
        rw [hV.cell (p := ⟨sb, so + k * 2 + 1, none⟩) (block_lt_of_cell h1)]; exact h1⟩
      have hk0 : (0 : Int) ≤ (k : Int) := by omega
      have hk1 : (k : Int) < (h.fs.length : Int) := by omega
      clear g1 g2 g3 g4 k0
      go_wp2_with fail
      refine (HSA.out n _ HN.out).mono ?_
      rintro e w2 ⟨rfl, hst⟩
      have HB2 : Sl (Below wr.heap.size wr w2) := ⟨hst.below⟩
      have HO2 : Sl (OwnS w2 W.heap.size v (getV (h.fs.take k) name)) := ⟨HR.out.o.below HB2.out⟩
      have HX3 : Sl (w2.heap[W.heap.size]? = some (.cells #[.string h.a, .string h.b, .string h.c, .slice (some ⟨sb, so, none⟩) h.fs.length cap] 25 (0, 0))) := ⟨by rw [HB2.out.block _ (lt_of_block HR.out.x)]; exact HR.out.x⟩
      have HBW : Sl (Below W.heap.size W w2) := ⟨below_trans HR.out.b HB2.out⟩
      clear hst e0 hb3
      cases hsame : same (bytes n) (bytes name) with
      | false =>
        rw [hsame] at HS
        have HG3 : Sl (GL W h (.slice (some ⟨sb, so, none⟩) h.fs.length cap) name (k + 1) v w2) := ⟨⟨by rw [HS.out]; exact HO2.out, HBW.out, HX3.out⟩⟩
        clear HB2 hsame
        go_wp2
        refine ⟨⟨k + 1, _, by omega, rfl, by go_num, HG3.out⟩, by simp [intOf]; omega⟩
      | true =>
        rw [hsame] at HS
        have e1 := E1.out w2 HB2.out
        have b3 : w2.cell? ⟨W.heap.size, 3, none⟩ = some (.slice (some ⟨sb, so, none⟩) h.fs.length cap) := by rw [cell_of_row _ _ _ _ _ _ HX3.out]; rfl
        have HO3 : Sl (OwnS (w2.alloc (.cells #[.string x] 9)) W.heap.size v (getV (h.fs.take k) name)) := ⟨HO2.out.below ((Below.refl _ _).alloc (Nat.le_refl _) _)⟩
        have HLL : Sl ((getV (h.fs.take k) name).length ≤ 1000000) := ⟨by have := getV_le (h.fs.take k) name; rw [List.length_take] at this; omega⟩
        have HX4 : Sl ((w2.alloc (.cells #[.string x] 9)).heap[W.heap.size]? = some (.cells #[.string h.a, .string h.b, .string h.c, .slice (some ⟨sb, so, none⟩) h.fs.length cap] 25 (0, 0))) := ⟨by rw [alloc_old _ _ _ (lt_of_block HX3.out)]; exact HX3.out⟩
        have HBA : Sl (Below W.heap.size W (w2.alloc (.cells #[.string x] 9))) := ⟨HBW.out.alloc HBW.out.size _⟩
        clear HB2 hsame HX3 HBW HO2
        go_wp2_with (with_reducible refine app_str rfl rfl (.tmp 23) (.tmp 30) rfl W.heap.size v (getV (h.fs.take k) name) x rfl HO3.out ⟨w2.heap.size, 0, none⟩ 1 rfl ?c1 rfl HLL.out HBA.out.size ?_)
        case c1 => rw [cell_of_row _ _ _ _ _ _ (alloc_new _ _ _ rfl)]; rfl
        intro v' w3 HO4 HG4
        have HG3 : Sl (GL W h (.slice (some ⟨sb, so, none⟩) h.fs.length cap) name (k + 1) v' w3) := ⟨⟨by rw [HS.out]; exact HO4.out, below_grown HBA.out HO3.out HG4.out HBA.out.size, stays HO3.out HG4.out HX4.out (by decide)⟩⟩
        clear HO4 HG4 HX4 HO3 HBA
        go_wp2
        refine ⟨⟨k + 1, _, by omega, rfl, by go_num, HG3.out⟩, by simp [intOf]; omega⟩
    · have hge : ((k : Int) < (h.fs.length : Int)) = False := eq_false (by omega)
      obtain rfl : k = h.fs.length := by omega
      have HO : Sl (OwnS wr W.heap.size v (getV h.fs name)) := ⟨by
        have := HR.out.o
        rwa [List.take_of_length_le (Nat.le_refl _)] at this⟩
      have HB : Sl (Below W.heap.size W wr) := ⟨HR.out.b⟩
      clear HR
      go_wp2
      go_ret
      exact ⟨_, rfl, HO, HB⟩
set_option maxHeartbeats 1000000 in
theorem row_any (a b : List ByteArray) (x y : Value) (W : World) (ha : StrA W x a) (hb : StrA W y b) (hL : a.length ≤ 1000000) :
    Calls Tryz.prog 43 #[x, y] W fun e w' => e = .returned (.bool (decide (a.map bytes = b.map bytes))) ∧ Still W w' := by
  obtain ⟨ad, ca, sa, oa, rfl, hca, haa, hcella⟩ := ha
  obtain ⟨bd, cb, sb, ob, rfl, hcb, hab, hcellb⟩ := hb
  have HA := Sl.mk hcella
  have HB := Sl.mk hcellb
  have HAA := Sl.mk haa
  have HAB := Sl.mk hab
  clear hcella hcellb haa hab
  by_cases hl : a.length = b.length
  · have HL := Sl.mk hl
    obtain ⟨n, hn⟩ : ∃ n, a.length = n := ⟨_, rfl⟩
    have HN := Sl.mk hn
    have HNb : Sl (b.length = n) := ⟨by rw [← hl]; exact hn⟩
    rw [← hl, hn]
    rw [hn] at hL
    clear hl hn hca hcb
    go_enter Tryz.func43, Tryz.ntmps43
    go_wp2
    go_loopw [5] (fun i wr => ∃ k : Nat, k ≤ n ∧ i = .int .i64 k ∧ Sl (Still W wr) ∧ Sl (∀ j, j < k → bytes (a.getD j ByteArray.empty) = bytes (b.getD j ByteArray.empty))) (fun i _ => n - (intOf i).toNat)
    case atStart => exact ⟨0, Nat.zero_le _, rfl, ⟨Still.refl _⟩, ⟨fun j hj => by omega⟩⟩
    case round =>
      obtain ⟨k, hk, rfl, HS, HE⟩ := hrel
      by_cases hlt : k < n
      · obtain rfl := HAA.out (by rw [HN.out]; omega)
        obtain rfl := HAB.out (by rw [HNb.out]; omega)
        obtain ⟨p, hp⟩ : ∃ p, a.getD k ByteArray.empty = p := ⟨_, rfl⟩
        obtain ⟨q, hq⟩ : ∃ q, b.getD k ByteArray.empty = q := ⟨_, rfl⟩
        have HP := Sl.mk hp
        have HQ := Sl.mk hq
        have e0 : wr.cell? ⟨sa, oa + k, none⟩ = some (.string p) := by
          rw [World.cell?_of_block (w := W) (by rw [HS.out.heap]), HA.out k (by rw [HN.out]; omega), hp]
        have e1 : wr.cell? ⟨sb, ob + k, none⟩ = some (.string q) := by
          rw [World.cell?_of_block (w := W) (by rw [HS.out.heap]), HB.out k (by rw [HNb.out]; omega), hq]
        have hk0 : (0 : Int) ≤ (k : Int) := by omega
        have hk1 : (k : Int) < (n : Int) := by omega
        clear hp hq
        obtain ⟨r, hr⟩ : ∃ r, (p.toList == q.toList) = r := ⟨_, rfl⟩
        have HRR := Sl.mk hr
        go_wp2
        go_quiet (fail)
        cases r with
        | true =>
          go_wp2
          refine ⟨⟨k + 1, by omega, by go_num, ⟨HS.out.drewN _⟩, ⟨fun j hj => ?_⟩⟩, by simp [intOf]; omega⟩
          by_cases e : j = k
          · subst e
            rw [HP.out, HQ.out]
            have := HRR.out
            rw [beq_bytes2] at this
            exact of_decide_eq_true this
          · exact HE.out j (by omega)
        | false =>
          go_wp2
          go_ret
          refine ⟨ret_bool ?_, HS.out.drewN _⟩
          refine (decide_eq_false (map_bytes_ne k (by rw [HN.out]; omega) HL.out ?_)).symm
          rw [HP.out, HQ.out]
          have := HRR.out
          rw [beq_bytes2] at this
          exact of_decide_eq_false this
      · have hge : ((k : Int) < (n : Int)) = False := eq_false (by omega)
        have HY : Sl (decide (a.map bytes = b.map bytes) = true) := ⟨decide_eq_true (map_bytes_eq HL.out (fun j hj => HE.out j (by rw [HN.out] at hj; omega)))⟩
        go_wp2
        go_ret
        exact ⟨ret_bool HY.out.symm, HS.out⟩
  · have hl' : ((a.length : Int) == (b.length : Int)) = false := by simp; omega
    have HY : Sl (decide (a.map bytes = b.map bytes) = false) := ⟨decide_eq_false (fun e => hl (by have := congrArg List.length e; simpa using this))⟩
    go_enter Tryz.func43, Tryz.ntmps43
    go_wp2
    go_ret
    exact ⟨ret_bool HY.out.symm, Still.refl _⟩
end Go.Proofs.YthlagngpllahkaaGreatDoor
/- What Show's bytes are as a text, and handed to Read; the contract of awake. -/
namespace Go.Proofs.YthlagngpllahkaaGreatDoor
open Go.RowKit HeadPlain

/-- Threes of texts are compared text by text. -/
theorem eq22 (a b c x y z : ByteArray) (W : World) : (Op.equalIn 10000 22 (.agg #[.string a, .string b, .string c]) (.agg #[.string x, .string y, .string z])).run Tryz.prog W = .ok ((a.toList == x.toList) && ((b.toList == y.toList) && (c.toList == z.toList))) W := by
  have c9 : Tryz.prog.cellsOf 9 = 1 := by kernel_rfl
  have hs : (Tryz.prog.info? 9).map (·.size) = some 1 := by kernel_rfl
  have ha : ∀ w, (isAgg 9).run Tryz.prog w = .ok false w := run_isAgg_plain Tryz.underlying9 rfl
  have e9 : ∀ (p q : ByteArray) (w : World), (Op.equalIn 9999 9 (.string p) (.string q)).run Tryz.prog w = .ok (p.toList == q.toList) w := fun p q w => run_equalIn_string w 9998 9 p q Tryz.underlying9
  rw [Op.equalIn]
  simp only [Sem.run_bind, run_underlying Tryz.underlying22, Result.andThen_ok]
  cases hi : Tryz.prog.info? 9 with
  | none => rw [hi] at hs; cases hs
  | some i =>
    rw [hi] at hs
    simp only [Option.map_some, Option.some.injEq] at hs
    have hp : ∀ (xs : Array Value) (k : Nat) (v : Value) (w : World), xs[k]? = some v → (part 9 xs k).run Tryz.prog w = .ok v w := fun xs k v w h => by
      simp [part, ha, h, Result.andThen]
    have q0 := fun w => hp #[.string a, .string b, .string c] 0 (.string a) w rfl
    have q1 := fun w => hp #[.string a, .string b, .string c] 1 (.string b) w rfl
    have q2 := fun w => hp #[.string a, .string b, .string c] 2 (.string c) w rfl
    have q3 := fun w => hp #[.string x, .string y, .string z] 0 (.string x) w rfl
    have q4 := fun w => hp #[.string x, .string y, .string z] 1 (.string y) w rfl
    have q5 := fun w => hp #[.string x, .string y, .string z] 2 (.string z) w rfl
    cases h1 : (a.toList == x.toList) <;> cases h2 : (b.toList == y.toList) <;> cases h3 : (c.toList == z.toList) <;>
      simp [sizeOf, typeInfo, hi, hs, List.range', Result.andThen, q0, q1, q2, q3, q4, q5, e9, h1, h2, h3]
/-- Bytes in a row of their own. -/
theorem own_src {w : World} {base : Nat} {v : Value} {l : List Nat} (ho : w.ownsRow base 5 1 v l.length (u8s l)) (hl : 0 < l.length) : SrcS w v l := by
  obtain ⟨_, h2⟩ := ho
  rcases h2 with ⟨_, hz⟩ | ⟨g, cap, cur, rfl, hg, hh, hc1, hc2, hsz, htk⟩
  · omega
  · refine ⟨cap, g, 0, rfl, hc1, fun i hi => ?_⟩
    have hu := u8s_get l i hi
    rw [Nat.zero_add, cell_of_row _ _ _ _ _ _ hh]
    rw [← htk] at hu
    have hj : i < (cur.toList.take (l.length * 1)).length := (List.getElem?_eq_some_iff.1 hu).1
    rw [List.length_take] at hj
    rw [List.getElem?_take_of_lt (by omega)] at hu
    simpa using hu
theorem SrcS.str {w : World} {v : Value} {l : List Nat} (h : SrcS w v l) : (convert 53 9 v).run Tryz.prog w = .ok (.string (strOf l)) w := by
  obtain ⟨cap, sb, so, rfl, hcap, hcell⟩ := h
  refine run_convert_bytes_arg _ 53 5 Tryz.underlying53 Tryz.underlying5 sb so l.length cap (l.map fun (n : Nat) => (n : Int)) (by simp) (fun i hi => ?_) 9 Tryz.underlying9
  have hi' : i < l.length := hi
  rw [hcell i hi']
  simp [List.getD_eq_getElem?_getD, List.getElem?_eq_getElem hi']
/-- The chapter's example. -/
def exH : Hd := ⟨[71, 69, 84], [47], [72, 84, 84, 80, 47, 49, 46, 49], [([72, 111, 115, 116], [97])]⟩
def exM : List Nat := [71, 69, 84, 32, 47, 32, 72, 84, 84, 80, 47, 49, 46, 49, 13, 10, 72, 111, 115, 116, 58, 32, 97, 13, 10, 13, 10, 109, 111, 114, 101]
theorem exRead : rd exM = .ok exH 27 := by
  have h := rd_text exH ((formB_iff _).1 (by decide)) [109, 111, 114, 101] (by decide) (by decide)
  exact h
theorem exText : text exH = [71, 69, 84, 32, 47, 32, 72, 84, 84, 80, 47, 49, 46, 49, 13, 10, 72, 111, 115, 116, 58, 32, 97, 13, 10, 13, 10] := by decide
theorem chk_ex {h : HdV} (hh : h.hd = exH) : chk h = 0 := by
  have h1 : formB h.hd = true := by rw [hh]; decide
  have h2 : h.fs.length = 1 := by
    have := congrArg (fun x => x.fs.length) hh
    simpa [HdV.hd, exH] using this
  have h3 : (text h.hd).length = 27 := by rw [hh]; decide
  unfold chk
  rw [if_pos h1, if_neg (by omega)]

theorem HdV.Siz.fit {h : HdV} (s : h.Siz) : h.Fit := ⟨by have := s.a; unfold maxLen; omega, by have := s.b; unfold maxLen; omega, by have := s.c; unfold maxLen; omega⟩
theorem read_ex (w0 W : World) (s : List Nat) (v : Value) (hB : Below w0.heap.size w0 W) (hg : Globs w0) (hv : SrcS W v s) (hs : Small 256 s) (hL : s.length ≤ 100000) :
    Calls Tryz.prog 33 #[v] W fun e w' => Sl (ReadR w' s e) ∧ Sl (Below W.heap.size W w') ∧ Sl (Below w0.heap.size w0 w') :=
  (read_any s v W (hg.of hB) hv hs hL).mono fun _ _ ⟨h1, h2⟩ => ⟨h1, h2, ⟨below_trans hB h2.out⟩⟩
theorem show_ex (w0 W : World) (h : HdV) (v : Value) (hB : Below w0.heap.size w0 W) (hg : Globs w0) (hv : FieldsAt W v h.fs) (hf : h.Fit) (hL : (text h.hd).length ≤ 1000000) :
    Calls Tryz.prog 32 #[.agg #[.string h.a, .string h.b, .string h.c, v]] W fun e w' => Sl (ShowR W w' h e) ∧ Sl (Below W.heap.size W w') ∧ Sl (Below w0.heap.size w0 w') :=
  (show_any h v W (hg.of hB) hv hf hL).mono fun _ _ ⟨h1, h2⟩ => ⟨h1, h2, ⟨below_trans hB h2.out⟩⟩
theorem check_ex (w0 W : World) (h : HdV) (v : Value) (c : Nat) (hc : chk h = c) (hB : Below w0.heap.size w0 W) (hg : Globs w0) (hv : FieldsAt W v h.fs) (hf : h.Fit) (hL : (text h.hd).length ≤ 1000000) :
    Calls Tryz.prog 55 #[.agg #[.string h.a, .string h.b, .string h.c, v]] W fun e w' => e = .returned (.int .i64 (c : Nat)) ∧ Sl (Below W.heap.size W w') ∧ Sl (Below w0.heap.size w0 w') := by
  subst hc
  exact (check_any h v W (hg.of hB) hv hf hL).mono fun _ _ ⟨h1, h2⟩ => ⟨h1, h2, ⟨below_trans hB h2.out⟩⟩
theorem get_ex (w0 W : World) (h : HdV) (v : Value) (name : ByteArray) (hB : Below w0.heap.size w0 W) (hv : FieldsAt W v h.fs) (hl : h.fs.length ≤ 100000) :
    Calls Tryz.prog 36 #[.agg #[.string h.a, .string h.b, .string h.c, v], .string name] W fun e w' => ∃ a c, e = .returned (.slice a (getV h.fs name).length c) ∧ Sl (StrA w' (.slice a (getV h.fs name).length c) (getV h.fs name)) ∧ Sl (Below W.heap.size W w') ∧ Sl (Below w0.heap.size w0 w') :=
  (get_any h v name W hv hl).mono fun _ _ ⟨x, h1, h2, h3⟩ => by
    obtain ⟨a, c, rfl⟩ := h2.out.slice
    exact ⟨a, c, h1, ⟨h2.out.strA⟩, h3, ⟨below_trans hB h3.out⟩⟩
theorem token_ex (w0 W : World) (s : ByteArray) (r : Bool) (hr : token (bytes s) = r) (hB : Below w0.heap.size w0 W) (hg : Globs w0) (hs : s.size ≤ maxLen) :
    Calls Tryz.prog 98 #[.string s] W fun e w' => e = .returned (.bool r) ∧ Sl (Below W.heap.size W w') ∧ Sl (Below w0.heap.size w0 w') := by
  subst hr
  exact (token_any s W (hg.of hB) hs).mono fun _ _ ⟨h1, h2⟩ => ⟨h1, h2, ⟨below_trans hB h2.out⟩⟩
theorem same_ex (w0 W : World) (a b : ByteArray) (r : Bool) (hr : same (bytes a) (bytes b) = r) (hB : Below w0.heap.size w0 W) (ha : a.size ≤ maxLen) :
    Calls Tryz.prog 66 #[.string a, .string b] W fun e w' => e = .returned (.bool r) ∧ Sl (Below W.heap.size W w') ∧ Sl (Below w0.heap.size w0 w') := by
  subst hr
  exact (same_any a b W ha).mono fun _ _ ⟨h1, h2⟩ => ⟨h1, ⟨h2.below⟩, ⟨below_trans hB h2.below⟩⟩
theorem row_ex (w0 W : World) (a b : List ByteArray) (x y : Value) (r : Bool) (hr : decide (a.map bytes = b.map bytes) = r) (hB : Below w0.heap.size w0 W) (ha : StrA W x a) (hb : StrA W y b) (hL : a.length ≤ 1000000) :
    Calls Tryz.prog 43 #[x, y] W fun e w' => e = .returned (.bool r) ∧ Sl (Below W.heap.size W w') ∧ Sl (Below w0.heap.size w0 w') := by
  subst hr
  exact (row_any a b x y W ha hb hL).mono fun _ _ ⟨h1, h2⟩ => ⟨h1, ⟨h2.below⟩, ⟨below_trans hB h2.below⟩⟩
theorem readR_ok {w' : World} {s : List Nat} {e : Ending} {hd : Hd} {n : Nat} (h : ReadR w' s e) (hr : rd s = .ok hd n) :
    ∃ (h : HdV) (a : Option Addr) (c : Nat), h.hd = hd ∧ e = .returned (.tuple #[.agg #[.string h.a, .string h.b, .string h.c, .slice a h.fs.length c], .int .i64 (n : Nat), .int .i64 0]) ∧ h.Siz ∧ FieldsAt w' (.slice a h.fs.length c) h.fs := by
  unfold ReadR at h
  rw [hr] at h
  obtain ⟨g, v, h1, h2, h3, h4⟩ := h
  have h5 := h4
  obtain ⟨a, c, _, _, rfl, _⟩ := h5
  exact ⟨g, a, c, h1, h2, h3, h4⟩
theorem showR_ok {w0 w' : World} {h : HdV} {e : Ending} (hr : ShowR w0 w' h e) (hc : chk h = 0) :
    ∃ (a : Option Addr) (c : Nat), e = .returned (.tuple #[.slice a (text h.hd).length c, .int .i64 0]) ∧ SrcS w' (.slice a (text h.hd).length c) (text h.hd) := by
  rcases hr with ⟨h1, _⟩ | ⟨_, v, he, ho⟩
  · exact absurd hc h1
  · have hs := own_src ho (by
      rw [text, List.length_append]
      show 0 < _ + 2
      omega)
    have hs2 := hs
    obtain ⟨cap, sb, so, rfl, _⟩ := hs2
    exact ⟨_, _, he, hs⟩

theorem head_cells {W : World} {g : Nat} {a b c : ByteArray} {v : Value} (h : W.heap[g]? = some (.cells #[.string a, .string b, .string c, v] 25 (0, 0))) :
    W.cell? ⟨g, 0, none⟩ = some (.string a) ∧ W.cell? ⟨g, 1, none⟩ = some (.string b) ∧ W.cell? ⟨g, 2, none⟩ = some (.string c) ∧ W.cell? ⟨g, 3, none⟩ = some v :=
  ⟨by rw [cell_of_row _ _ _ _ _ _ h]; rfl, by rw [cell_of_row _ _ _ _ _ _ h]; rfl, by rw [cell_of_row _ _ _ _ _ _ h]; rfl, by rw [cell_of_row _ _ _ _ _ _ h]; rfl⟩
theorem box_below {w w' : World} {g : Nat} {cs : Array Value} {t : TypeId} (h : w.heap[g]? = some (.cells cs t (0, 0))) (hb : Below w.heap.size w w') : w'.heap[g]? = some (.cells cs t (0, 0)) := by
  rw [hb.block _ (lt_of_block h)]; exact h
theorem SrcS.of {w w' : World} {v : Value} {l : List Nat} (h : SrcS w v l) (hb : Below w.heap.size w w') : SrcS w' v l := h.below hb

end Go.Proofs.YthlagngpllahkaaGreatDoor
