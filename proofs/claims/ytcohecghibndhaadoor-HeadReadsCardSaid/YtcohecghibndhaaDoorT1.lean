/- Whether two heads are the same. -/
import Derived.Test.YtcohecghibndhaaDoorT0
namespace Go.Proofs.YtcohecghibndhaaDoor
open Go.RowKit HeadPlain

def alikeB (g h : HdV) : Bool := decide (bytes g.a = bytes h.a ∧ bytes g.b = bytes h.b ∧ bytes g.c = bytes h.c ∧ g.fs.length = h.fs.length ∧ ∀ j, j < g.fs.length → fN (g.fs.getD j f0) = fN (h.fs.getD j f0))
theorem alike_no {g h : HdV} (hn : ¬ (bytes g.a = bytes h.a ∧ bytes g.b = bytes h.b ∧ bytes g.c = bytes h.c ∧ g.fs.length = h.fs.length ∧ ∀ j, j < g.fs.length → fN (g.fs.getD j f0) = fN (h.fs.getD j f0))) : alikeB g h = false := decide_eq_false hn
theorem alike_yes {g h : HdV} (hn : bytes g.a = bytes h.a ∧ bytes g.b = bytes h.b ∧ bytes g.c = bytes h.c ∧ g.fs.length = h.fs.length ∧ ∀ j, j < g.fs.length → fN (g.fs.getD j f0) = fN (h.fs.getD j f0)) : alikeB g h = true := decide_eq_true hn
theorem alike_iff {g h : HdV} : alikeB g h = true ↔ g.hd = h.hd :=
  ⟨fun e => by
    obtain ⟨h1, h2, h3, h4, h5⟩ := of_decide_eq_true e
    exact hd_eq h1 h2 h3 h4 h5, fun e => alike_yes (hd_ne e)⟩

set_option maxHeartbeats 2000000 in
set_option maxRecDepth 100000 in
theorem alike_any (g h : HdV) (x y : Value) (W : World) (hx : FieldsAt W x g.fs) (hy : FieldsAt W y h.fs) :
    Calls Tryd.prog 18 #[.agg #[.string g.a, .string g.b, .string g.c, x], .agg #[.string h.a, .string h.b, .string h.c, y]] W fun e w' => e = .returned (.bool (alikeB g h)) ∧ Sl (Below W.heap.size W w') := by
  obtain ⟨ax, cx, sx, ox, rfl, hcx, hmx, hadx, hcellx⟩ := hx
  obtain ⟨ay, cy, sy, oy, rfl, hcy, hmy, hady, hcelly⟩ := hy
  have HCX := Sl.mk hcellx
  have HCY := Sl.mk hcelly
  have HAX := Sl.mk hadx
  have HAY := Sl.mk hady
  unfold maxLen at hmx hmy
  clear hcellx hcelly hadx hady
  obtain ⟨w1, hw1⟩ : ∃ w1, (W.alloc (.cells #[.string g.a, .string g.b, .string g.c, .slice ax g.fs.length cx] 25)).alloc (.cells #[.string h.a, .string h.b, .string h.c, .slice ay h.fs.length cy] 25) = w1 := ⟨_, rfl⟩
  have HB1 : Sl (Below W.heap.size W w1) := ⟨by rw [← hw1]; exact ((Below.refl _ _).alloc (Nat.le_refl _) _).alloc (by rw [alloc_size]; omega) _⟩
  have HX1 : Sl (w1.heap[W.heap.size]? = some (.cells #[.string g.a, .string g.b, .string g.c, .slice ax g.fs.length cx] 25 (0, 0))) := ⟨by rw [← hw1, alloc_old _ _ _ (by rw [alloc_size]; omega)]; exact alloc_new _ _ _ rfl⟩
  have HY1 : Sl (w1.heap[W.heap.size + 1]? = some (.cells #[.string h.a, .string h.b, .string h.c, .slice ay h.fs.length cy] 25 (0, 0))) := ⟨by rw [← hw1]; exact alloc_new _ _ _ (by rw [alloc_size])⟩
  obtain ⟨p0, p1, p2, p3⟩ := head_cells HX1.out
  obtain ⟨q0, q1, q2, q3⟩ := head_cells HY1.out
  have e22 := fun V => eq22 g.a g.b g.c h.a h.b h.c V
  obtain ⟨r, hr⟩ : ∃ r, (g.a.toList == h.a.toList && (g.b.toList == h.b.toList && g.c.toList == h.c.toList)) = r := ⟨_, rfl⟩
  have HRR : Sl (r = true ↔ bytes g.a = bytes h.a ∧ bytes g.b = bytes h.b ∧ bytes g.c = bytes h.c) := ⟨by
    rw [← hr, beq_bytes2, beq_bytes2, beq_bytes2]
    simp⟩
  rw [hr] at e22
  clear hr
  go_enter Tryd.func18, Tryd.ntmps18
  cases r with
  | false =>
    have HNO : Sl (alikeB g h = false) := ⟨alike_no (fun ⟨h1, h2, h3, _⟩ => by have := HRR.out.2 ⟨h1, h2, h3⟩; cases this)⟩
    go_wp2
    go_ret
    exact ⟨ret_bool HNO.out.symm, HB1⟩
  | true =>
    have HABC : Sl (bytes g.a = bytes h.a ∧ bytes g.b = bytes h.b ∧ bytes g.c = bytes h.c) := ⟨HRR.out.1 rfl⟩
    clear HRR
    by_cases hl : g.fs.length = h.fs.length
    · have HL := Sl.mk hl
      rw [← hl] at q3 HCY HAY
      clear hl
      go_wp2
      clear p0 p1 p2 q0 q1 q2 e22 hw1
      go_loopw [5] (fun i wr => ∃ k : Nat, k ≤ g.fs.length ∧ i = .int .i64 k ∧ Sl (Still w1 wr) ∧ Sl (∀ j, j < k → fN (g.fs.getD j f0) = fN (h.fs.getD j f0))) (fun i _ => g.fs.length - (intOf i).toNat)
      case atStart => exact ⟨0, Nat.zero_le _, rfl, ⟨Still.refl _⟩, ⟨fun j hj => by omega⟩⟩
      case round =>
        obtain ⟨k, hk, rfl, HST, HA⟩ := hrel
        have HB2 : Sl (Below W.heap.size W wr) := ⟨below_trans HB1.out HST.out.below⟩
        have b3 : wr.cell? ⟨W.heap.size, 3, none⟩ = some (.slice ax g.fs.length cx) := by rw [World.cell?_of_block (w := w1) (by rw [HST.out.heap])]; exact p3
        have b4 : wr.cell? ⟨W.heap.size + 1, 3, none⟩ = some (.slice ay g.fs.length cy) := by rw [World.cell?_of_block (w := w1) (by rw [HST.out.heap])]; exact q3
        by_cases hlt : k < g.fs.length
        · obtain rfl := HAX.out (by omega)
          obtain rfl := HAY.out (by omega)
          obtain ⟨g1, g2, _, _⟩ := HCX.out k hlt
          obtain ⟨i1, i2, _, _⟩ := HCY.out k hlt
          obtain ⟨u, hu⟩ : ∃ f, g.fs.getD k f0 = f := ⟨_, rfl⟩
          obtain ⟨v, hv⟩ : ∃ f, h.fs.getD k f0 = f := ⟨_, rfl⟩
          have HU := Sl.mk hu
          have HV := Sl.mk hv
          rw [hu] at g1 g2
          rw [hv] at i1 i2
          clear hu hv
          obtain ⟨n, x⟩ := u
          obtain ⟨m, y⟩ := v
          simp only at g1 g2 i1 i2
          have k0 := block_lt_of_cell g1
          have k1 := block_lt_of_cell i1
          have c0 : wr.cell? ⟨sx, ox + k * 2, none⟩ = some (.string n) := by rw [HB2.out.cell (p := ⟨sx, ox + k * 2, none⟩) k0]; exact g1
          have c1 : wr.cell? ⟨sx, ox + k * 2 + 1, none⟩ = some (.string x) := by rw [HB2.out.cell (p := ⟨sx, ox + k * 2 + 1, none⟩) k0]; exact g2
          have c2 : wr.cell? ⟨sy, oy + k * 2, none⟩ = some (.string m) := by rw [HB2.out.cell (p := ⟨sy, oy + k * 2, none⟩) k1]; exact i1
          have c3 : wr.cell? ⟨sy, oy + k * 2 + 1, none⟩ = some (.string y) := by rw [HB2.out.cell (p := ⟨sy, oy + k * 2 + 1, none⟩) k1]; exact i2
          have hk0 : (0 : Int) ≤ (k : Int) := by omega
          have hk1 : (k : Int) < (g.fs.length : Int) := by omega
          have e48 := fun V => eq48 n x m y V
          obtain ⟨s, hs⟩ : ∃ s, (n.toList == m.toList && x.toList == y.toList) = s := ⟨_, rfl⟩
          have HSS : Sl (s = true ↔ fN (n, x) = fN (m, y)) := ⟨by
            rw [← hs, beq_bytes2, beq_bytes2]
            simp [fN]⟩
          rw [hs] at e48
          clear g1 g2 i1 i2 k0 k1 hs p3 q3
          go_wp2
          go_quiet (fail)
          cases s with
          | true =>
            go_wp2
            refine ⟨⟨k + 1, by omega, by go_num, ⟨HST.out.drewN _⟩, ⟨fun j hj => ?_⟩⟩, by simp [intOf]; omega⟩
            by_cases e : j = k
            · subst e; rw [HU.out, HV.out]; exact HSS.out.1 (by first | rfl | trivial)
            · exact HA.out j (by omega)
          | false =>
            have HNO : Sl (alikeB g h = false) := ⟨alike_no (fun ⟨_, _, _, _, h5⟩ => by
              have := h5 k hlt
              rw [HU.out, HV.out] at this
              have := HSS.out.2 this
              cases this)⟩
            go_wp2
            go_ret
            exact ⟨ret_bool HNO.out.symm, ⟨below_trans HB2.out (Still.below ⟨_, rfl⟩)⟩⟩
        · have hge : ((k : Int) < (g.fs.length : Int)) = False := eq_false (by omega)
          have HY : Sl (alikeB g h = true) := ⟨by
            obtain ⟨h1, h2, h3⟩ := HABC.out
            exact alike_yes ⟨h1, h2, h3, HL.out, fun j hj => HA.out j (by omega)⟩⟩
          go_wp2
          go_ret
          exact ⟨ret_bool HY.out.symm, HB2⟩
    · have hl' : ((g.fs.length : Int) == (h.fs.length : Int)) = false := by simp; omega
      have HNO : Sl (alikeB g h = false) := ⟨alike_no (fun ⟨_, _, _, h4, _⟩ => hl h4)⟩
      go_wp2
      go_ret
      exact ⟨ret_bool HNO.out.symm, HB1⟩
end Go.Proofs.YtcohecghibndhaaDoor
