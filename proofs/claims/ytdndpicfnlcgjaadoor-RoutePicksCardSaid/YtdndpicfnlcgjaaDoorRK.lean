/- route: the document's Pick, Admit, Few. -/
import Derived.Test.YtdndpicfnlcgjaaDoorRJ
set_option maxRecDepth 100000
namespace Go.Proofs.YtdndpicfnlcgjaaDoor.Rou
open Go.RowKit Nam
open RoutePlain (Rt below better fits pick)

theorem bestB_step {p : List Nat} {ps : List (List Nat)} {rs : List Rb} {k : Nat} (hk : k < rs.length) : bestB p ps (rs.take (k + 1)) = stepB p ps (bestB p ps (rs.take k)) (rs.getD k Rb0) := by rw [takeT hk, bestB_snoc]
/-- Where the route that is picked stands. -/
def AtB (rs : List Rb) (o : Option Rb) (k : Nat) (a : Int) : Prop := (a = -1 ∧ o = none) ∨ ∃ j : Nat, a = (j : Int) ∧ j < k ∧ j < rs.length ∧ o = some (rs.getD j Rb0)
set_option maxHeartbeats 16000000 in
theorem rpick_any (rs : List Rb) (a1 : Option Addr) (n1 c1 : Nat) (a2 : Option Addr) (n2 c2 : Nat) (tb ms fr ct bs ot sh id po cl : Int) (path : ByteArray) (pv : Value) (ps : List ByteArray) (W : World) (hv : RtsAt W (.slice a1 n1 c1) rs) (ok : ∀ r ∈ rs, Short r) (hl : rs.length ≤ 1000000) (hp : path.size ≤ maxLen) (hpv : StrA W pv ps) (hpl : ps.length ≤ 1000000) (_hps : ∀ s ∈ ps, s.size ≤ maxLen) :
    Calls Tryd.prog 16 #[.agg #[.slice a1 n1 c1, .slice a2 n2 c2, .int .i64 tb, .int .i64 ms, .int .i64 fr, .int .i64 ct, .int .i64 bs, .int .i64 ot, .int .i64 sh, .int .i64 id, .int .i64 po, .int .i64 cl], .string path, pv] W fun en w' => en = .returned (pickV (bestB (bytes path) (ps.map bytes) rs)) ∧ Sl (Below W.heap.size W w') := by
  obtain ⟨wa, hwa, HBa, hx⟩ := cfg_box W #[.slice a1 n1 c1, .slice a2 n2 c2, .int .i64 tb, .int .i64 ms, .int .i64 fr, .int .i64 ct, .int .i64 bs, .int .i64 ot, .int .i64 sh, .int .i64 id, .int .i64 po, .int .i64 cl]
  obtain ⟨wb, hwb, HBb, hy⟩ := box_rt wa
  obtain ⟨g3, hg3⟩ : ∃ g, W.heap.size = g := ⟨_, rfl⟩
  obtain ⟨g6, hg6⟩ : ∃ g, wa.heap.size = g := ⟨_, rfl⟩
  have HX := Sl.mk (below_key hx HBb.out)
  have HY := Sl.mk hy
  have HBW : Sl (Below W.heap.size W wb) := ⟨HBa.out.trans (HBb.out.mono HBa.out.size)⟩
  have HV0 := Sl.mk hv
  have HN1 : Sl (n1 = rs.length) := ⟨hv.cap.1⟩
  have BL : Sl (∀ V f r, f.size ≤ maxLen → below (bytes path) (bytes f) = r → Calls Tryd.prog 20 #[.string path, .string f] V fun e w' => e = .returned (.bool r) ∧ V = w') := ⟨fun V f r hf h => rbelow_any path f V hp hf r h⟩
  have IN : Sl (∀ V b, Below W.heap.size W V → Calls Tryd.prog 22 #[.string b, pv] V fun e w' => e = .returned (.bool (decide (bytes b ∈ ps.map bytes))) ∧ V = w') := ⟨fun V b h => in_any b ps pv V (hpv.below h) hpl⟩
  have HOK := Sl.mk ok
  have HL3 : Sl (g3 ≤ g6) := ⟨by rw [← hg3, ← hg6]; exact HBa.out.size⟩
  have HS0 : Sl (W.heap.size = g3) := ⟨hg3⟩
  have hsv : ∃ a c, pv = .slice a ps.length c := by obtain ⟨a, c, _, _, h, _⟩ := hpv; exact ⟨a, c, h⟩
  obtain ⟨pa, pc, hpe⟩ := hsv
  subst hpe
  rw [hg3] at HX
  rw [hg6] at HY
  rw [hg3] at HBW
  clear hx hy hv ok hpv hp
  rw [hg3]
  go_enter Tryd.func16, Tryd.ntmps16
  go_upto_region 1 with fail
  (try rw [hwa, hwb])
  (try rw [hg3, hg6])
  clear hwa hwb HBa HBb
  have e0 := cell_at HX.out 0 _ rfl
  have hcap : n1 ≤ c1 := HV0.out.cap.2.1
  go_wp2
  go_loopw [9, 8] (fun i a wr => ∃ (k : Nat) (z : Int), k ≤ n1 ∧ i = .int .i64 k ∧ a = .int .i64 z ∧ Sl (AtB rs (bestB (bytes path) (ps.map bytes) (rs.take k)) k z) ∧ Sl (Below g3 W wr) ∧ Sl (wr.heap[g3]? = some (.cells #[.slice a1 n1 c1, .slice a2 n2 c2, .int .i64 tb, .int .i64 ms, .int .i64 fr, .int .i64 ct, .int .i64 bs, .int .i64 ot, .int .i64 sh, .int .i64 id, .int .i64 po, .int .i64 cl] 25 (0, 0))) ∧ Sl (wr.heap[g6]? = some (.cells #[.string { data := #[] }, .string { data := #[] }, .string { data := #[] }] 34 (0, 0)))) (fun i _ _ => n1 - (intOf i).toNat)
  case atStart => exact ⟨0, -1, Nat.zero_le _, rfl, rfl, ⟨.inl ⟨rfl, rfl⟩⟩, HBW, HX, HY⟩
  case round =>
    clear e0
    obtain ⟨k, z, hk, rfl, rfl, HA, HB, HX, HY⟩ := hrel
    have e0 := cell_at HX.out 0 _ rfl
    by_cases hlt : k < n1
    · have hq : ((k : Int) < (n1 : Int)) = True := eq_true (by omega)
      have hkl : k < rs.length := by rw [← HN1.out]; exact hlt
      obtain ⟨sb, so, rfl⟩ := HV0.out.cap.2.2 (by omega)
      obtain ⟨x, y, u, he⟩ : ∃ x y z, rs.getD k Rb0 = ⟨x, y, z⟩ := ⟨_, _, _, rfl⟩
      have HE := Sl.mk he
      have hok : Short ⟨x, y, u⟩ := by
        rw [← he]; refine HOK.out _ ?_
        rw [List.getD_eq_getElem?_getD, List.getElem?_eq_getElem hkl]; exact List.getElem_mem _
      have hBW : Below W.heap.size W wr := by rw [HS0.out]; exact HB.out
      obtain ⟨c0, c1', c2'⟩ := (HV0.out.below hBW).at3 k hkl he
      obtain ⟨wx, hwx, HBx, hx⟩ := box_rt wr
      obtain ⟨wy, hwy, HBy, HXR⟩ := set_rt hx HBx.out (Nat.le_refl _) #[.string x, .string y, .string u]
      have HI : (Tryd.prog.info? 34).map (·.size) = some (#[Value.string x, .string y, .string u] : Array Value).size := rt_info rfl
      have HXy := Sl.mk (below_key HX.out HBy.out)
      have HYy := Sl.mk (below_key HY.out HBy.out)
      have HWy : Sl (Below W.heap.size W wy) := ⟨hBW.trans (HBy.out.mono hBW.size)⟩
      have HBz : Sl (Below g3 W wy) := ⟨by rw [← HS0.out]; exact HWy.out⟩
      obtain ⟨b, hb⟩ : ∃ b, bestB (bytes path) (ps.map bytes) (rs.take k) = b := ⟨_, rfl⟩
      rw [hb] at HA
      have HSN : Sl (bestB (bytes path) (ps.map bytes) (rs.take (k + 1)) = stepB (bytes path) (ps.map bytes) b ⟨x, y, u⟩) := ⟨by rw [bestB_step hkl, hb, he]⟩
      obtain ⟨p1, hp1⟩ : ∃ p, below (bytes path) (bytes x) = p := ⟨_, rfl⟩
      obtain ⟨p2, hp2⟩ : ∃ p, decide (bytes y = []) = p := ⟨_, rfl⟩
      obtain ⟨p3, hp3⟩ : ∃ p, decide (bytes y ∈ ps.map bytes) = p := ⟨_, rfl⟩
      have HPF : Sl (fits (bytes path) (ps.map bytes) ⟨bytes x, bytes y, bytes u⟩ = (p1 && (p2 || p3))) := ⟨by unfold RoutePlain.fits; simp only; rw [hp1, hp2, hp3]⟩
      have B1 := Sl.mk (BL.out wy x p1 (Nat.le_trans hok.1 (by decide)) hp1)
      have B2 := Sl.mk (IN.out wy y HWy.out)
      rw [hp3] at B2
      have HP2 := Sl.mk hp2
      have hk4 : (0 : Int) ≤ (k : Int) := by omega
      clear he hb hok hp1 hp2 hp3
      go_upto_region 6 with (refine wpList_store_row rfl 34 (.tmp 10) (.tmp 22) rfl wr.heap.size #[.string x, .string y, .string u] rfl rfl 34 #[.string { data := #[] }, .string { data := #[] }, .string { data := #[] }] hx HI rfl (rt_all _ _ _) ?_)
      (try rw [hwy])
      clear hwx hwy hx HBx c0 c1' c2' e0 HX HY
      obtain ⟨g, hgg⟩ : ∃ g, wr.heap.size = g := ⟨_, rfl⟩
      rw [hgg] at HXR
      (try rw [hgg])
      clear hgg HBy HB hBW
      obtain ⟨d0, d1, d2⟩ := rt_cells HXR.out
      have HC := HXR
      have cont : Sl (fits (bytes path) (ps.map bytes) ⟨bytes x, bytes y, bytes u⟩ = false → AtB rs (bestB (bytes path) (ps.map bytes) (rs.take (k + 1))) (k + 1) z) := ⟨fun h => by
        rw [HSN.out, stepB_no h]
        rcases HA.out with ⟨h1, h2⟩ | ⟨j, h1, h2, h3, h4⟩
        · exact .inl ⟨h1, h2⟩
        · exact .inr ⟨j, h1, by omega, h3, h4⟩⟩
      obtain ⟨F, hF⟩ : ∃ F, (p1 && (p2 || p3)) = F := ⟨_, rfl⟩
      have HFF := Sl.mk hF
      rw [hF] at HPF
      clear hF
      have HSY : Sl (g3 ≤ wy.heap.size) := ⟨by rw [← HS0.out]; exact HWy.out.size⟩
      simp only [Act.put]
      go_cut [39] (fun s39 wx => s39 = .bool (!F) ∧ wy = wx)
      case first =>
        cases p1 with
        | false =>
          go_wp2_with fail
          refine (B1.out).mono ?_
          rintro e w3 ⟨rfl, rfl⟩
          go_wp2_with fail
          go_meet
          exact ⟨by rw [← HFF.out]; rfl, rfl⟩
        | true =>
          go_wp2_with fail
          refine (B1.out).mono ?_
          rintro e w3 ⟨rfl, rfl⟩
          cases p2 with
          | true =>
            obtain ⟨l1, l2, l3⟩ := nil_yes HP2.out
            go_wp2_with fail
            go_meet
            exact ⟨by rw [← HFF.out]; rfl, rfl⟩
          | false =>
            obtain ⟨l1, l2, l3⟩ := nil_no HP2.out
            go_wp2_with fail
            refine (B2.out).mono ?_
            rintro e w4 ⟨rfl, rfl⟩
            cases p3 <;> (go_wp2_with fail; go_meet; exact ⟨by rw [← HFF.out]; rfl, rfl⟩)
      case rest =>
        obtain ⟨rfl, rfl⟩ := hcut
        clear B1 B2
        cases F with
        | false =>
          have HPF2 := HPF
          go_wp2
          exact ⟨⟨k + 1, z, by omega, by go_num, rfl, ⟨cont.out HPF2.out⟩, HBz, HXy, HYy⟩, by simp [intOf]; omega⟩
        | true =>
          have HPF2 := HPF
          rw [Bool.not_true]
          clear cont
          rcases HA.out with ⟨hz, hn⟩ | ⟨j, hz, hjk, hjl, hn⟩
          · subst hz hn
            have HS2 : Sl (bestB (bytes path) (ps.map bytes) (rs.take (k + 1)) = some (rs.getD k Rb0)) := ⟨by rw [HSN.out, stepB_first HPF2.out, HE.out]⟩
            clear HA
            go_upto_region 7 with fail
            obtain ⟨Rw, hRw⟩ : ∃ R, wy.drew = R := ⟨_, rfl⟩
            have HBR : Below wy.heap.size wy Rw := by rw [← hRw]; exact (Below.refl _ _).drew
            refine wp_region_noPanic ?_
            refine wp_region_held (S := fun V => Below wy.heap.size wy V) (by kernel_rfl) ?_
            change wpAnyH _ _ _ _ _ _ _ _ wy.drew
            rw [hRw]
            clear hRw
            refine heldTake (d := some 40) (op := .move (Operand.tmp 8)) (g := none) 0 ?v0n1 rfl (by kernel_rfl) (by kernel_rfl) (by kernel_rfl) (by kernel_rfl) ?y0n1 HBR ?_
            case y0n1 => intro o' ho W hS; simp only [execOp, ho]; go_simp; try rfl
            simp only [Act.put, List.setIfInBounds_toArray, List.set_cons_zero, List.set_cons_succ]
            refine heldTake (d := some 41) (op := .binOp BinOp.lss 3 (Operand.tmp 40) (Operand.const (Value.int IntKind.i64 0)) 3) (g := none) 1 (.bool true) rfl (by kernel_rfl) (by kernel_rfl) (by kernel_rfl) (by kernel_rfl) ?y1n1 HBR ?_
            case y1n1 => intro o' ho W hS; exact by simp only [execOp, ho]; go_simp; try rfl
            simp only [Act.put, List.setIfInBounds_toArray, List.set_cons_zero, List.set_cons_succ]
            refine heldTake (d := some 42) (op := .move (Operand.tmp 41)) (g := none) 2 (.bool true) rfl (by kernel_rfl) (by kernel_rfl) (by kernel_rfl) (by kernel_rfl) ?y2n1 HBR ?_
            case y2n1 => intro o' ho W hS; exact by simp only [execOp, ho]; go_simp; try rfl
            simp only [Act.put, List.setIfInBounds_toArray, List.set_cons_zero, List.set_cons_succ]
            refine heldSkip (d := some 43) (op := .fieldAddr 34 (Operand.tmp 10) 0) (g := some (2, false)) 3 rfl (by kernel_rfl) (by kernel_rfl) (by kernel_rfl) (by kernel_rfl) HBR ?_
            simp only [Act.put, List.setIfInBounds_toArray, List.set_cons_zero, List.set_cons_succ]
            refine heldSkip (d := some 44) (op := .load 9 (Operand.tmp 43)) (g := some (2, false)) 4 rfl (by kernel_rfl) (by kernel_rfl) (by kernel_rfl) (by kernel_rfl) HBR ?_
            simp only [Act.put, List.setIfInBounds_toArray, List.set_cons_zero, List.set_cons_succ]
            refine heldSkip (d := some 45) (op := .call { callee := Callee.builtin Builtin.len, args := #[Operand.tmp 44], argTypes := #[9] }) (g := some (2, false)) 5 rfl (by kernel_rfl) (by kernel_rfl) (by kernel_rfl) (by kernel_rfl) HBR ?_
            simp only [Act.put, List.setIfInBounds_toArray, List.set_cons_zero, List.set_cons_succ]
            refine heldSkip (d := some 46) (op := .fieldAddr 25 (Operand.tmp 3) 0) (g := some (2, false)) 6 rfl (by kernel_rfl) (by kernel_rfl) (by kernel_rfl) (by kernel_rfl) HBR ?_
            simp only [Act.put, List.setIfInBounds_toArray, List.set_cons_zero, List.set_cons_succ]
            refine heldSkip (d := some 47) (op := .load 22 (Operand.tmp 46)) (g := some (2, false)) 7 rfl (by kernel_rfl) (by kernel_rfl) (by kernel_rfl) (by kernel_rfl) HBR ?_
            simp only [Act.put, List.setIfInBounds_toArray, List.set_cons_zero, List.set_cons_succ]
            refine heldSkip (d := some 48) (op := .move (Operand.tmp 8)) (g := some (2, false)) 8 rfl (by kernel_rfl) (by kernel_rfl) (by kernel_rfl) (by kernel_rfl) HBR ?_
            simp only [Act.put, List.setIfInBounds_toArray, List.set_cons_zero, List.set_cons_succ]
            refine heldSkip (d := some 49) (op := .indexAddr 22 (Operand.tmp 47) (Operand.tmp 48)) (g := some (2, false)) 9 rfl (by kernel_rfl) (by kernel_rfl) (by kernel_rfl) (by kernel_rfl) HBR ?_
            simp only [Act.put, List.setIfInBounds_toArray, List.set_cons_zero, List.set_cons_succ]
            refine heldSkip (d := some 50) (op := .fieldAddr 34 (Operand.tmp 49) 0) (g := some (2, false)) 10 rfl (by kernel_rfl) (by kernel_rfl) (by kernel_rfl) (by kernel_rfl) HBR ?_
            simp only [Act.put, List.setIfInBounds_toArray, List.set_cons_zero, List.set_cons_succ]
            refine heldSkip (d := some 51) (op := .load 9 (Operand.tmp 50)) (g := some (2, false)) 11 rfl (by kernel_rfl) (by kernel_rfl) (by kernel_rfl) (by kernel_rfl) HBR ?_
            simp only [Act.put, List.setIfInBounds_toArray, List.set_cons_zero, List.set_cons_succ]
            refine heldSkip (d := some 52) (op := .call { callee := Callee.builtin Builtin.len, args := #[Operand.tmp 51], argTypes := #[9] }) (g := some (2, false)) 12 rfl (by kernel_rfl) (by kernel_rfl) (by kernel_rfl) (by kernel_rfl) HBR ?_
            simp only [Act.put, List.setIfInBounds_toArray, List.set_cons_zero, List.set_cons_succ]
            refine heldSkip (d := some 53) (op := .binOp BinOp.gtr 3 (Operand.tmp 45) (Operand.tmp 52) 3) (g := some (2, false)) 13 rfl (by kernel_rfl) (by kernel_rfl) (by kernel_rfl) (by kernel_rfl) HBR ?_
            simp only [Act.put, List.setIfInBounds_toArray, List.set_cons_zero, List.set_cons_succ]
            refine heldTake (d := some 54) (op := .pick (Operand.tmp 42) (Operand.const (Value.bool true)) (Operand.tmp 53)) (g := none) 14 (.bool true) rfl (by kernel_rfl) (by kernel_rfl) (by kernel_rfl) (by kernel_rfl) ?y14n1 HBR ?_
            case y14n1 => intro o' ho W hS; exact by simp only [execOp, ho]; go_simp; try rfl
            simp only [Act.put, List.setIfInBounds_toArray, List.set_cons_zero, List.set_cons_succ]
            refine heldTake (d := some 55) (op := .move (Operand.tmp 54)) (g := none) 15 (.bool true) rfl (by kernel_rfl) (by kernel_rfl) (by kernel_rfl) (by kernel_rfl) ?y15n1 HBR ?_
            case y15n1 => intro o' ho W hS; exact by simp only [execOp, ho]; go_simp; try rfl
            simp only [Act.put, List.setIfInBounds_toArray, List.set_cons_zero, List.set_cons_succ]
            refine heldSkip (d := some 56) (op := .fieldAddr 34 (Operand.tmp 10) 0) (g := some (15, false)) 16 rfl (by kernel_rfl) (by kernel_rfl) (by kernel_rfl) (by kernel_rfl) HBR ?_
            simp only [Act.put, List.setIfInBounds_toArray, List.set_cons_zero, List.set_cons_succ]
            refine heldSkip (d := some 57) (op := .load 9 (Operand.tmp 56)) (g := some (15, false)) 17 rfl (by kernel_rfl) (by kernel_rfl) (by kernel_rfl) (by kernel_rfl) HBR ?_
            simp only [Act.put, List.setIfInBounds_toArray, List.set_cons_zero, List.set_cons_succ]
            refine heldSkip (d := some 58) (op := .call { callee := Callee.builtin Builtin.len, args := #[Operand.tmp 57], argTypes := #[9] }) (g := some (15, false)) 18 rfl (by kernel_rfl) (by kernel_rfl) (by kernel_rfl) (by kernel_rfl) HBR ?_
            simp only [Act.put, List.setIfInBounds_toArray, List.set_cons_zero, List.set_cons_succ]
            refine heldSkip (d := some 59) (op := .fieldAddr 25 (Operand.tmp 3) 0) (g := some (15, false)) 19 rfl (by kernel_rfl) (by kernel_rfl) (by kernel_rfl) (by kernel_rfl) HBR ?_
            simp only [Act.put, List.setIfInBounds_toArray, List.set_cons_zero, List.set_cons_succ]
            refine heldSkip (d := some 60) (op := .load 22 (Operand.tmp 59)) (g := some (15, false)) 20 rfl (by kernel_rfl) (by kernel_rfl) (by kernel_rfl) (by kernel_rfl) HBR ?_
            simp only [Act.put, List.setIfInBounds_toArray, List.set_cons_zero, List.set_cons_succ]
            refine heldSkip (d := some 61) (op := .move (Operand.tmp 8)) (g := some (15, false)) 21 rfl (by kernel_rfl) (by kernel_rfl) (by kernel_rfl) (by kernel_rfl) HBR ?_
            simp only [Act.put, List.setIfInBounds_toArray, List.set_cons_zero, List.set_cons_succ]
            refine heldSkip (d := some 62) (op := .indexAddr 22 (Operand.tmp 60) (Operand.tmp 61)) (g := some (15, false)) 22 rfl (by kernel_rfl) (by kernel_rfl) (by kernel_rfl) (by kernel_rfl) HBR ?_
            simp only [Act.put, List.setIfInBounds_toArray, List.set_cons_zero, List.set_cons_succ]
            refine heldSkip (d := some 63) (op := .fieldAddr 34 (Operand.tmp 62) 0) (g := some (15, false)) 23 rfl (by kernel_rfl) (by kernel_rfl) (by kernel_rfl) (by kernel_rfl) HBR ?_
            simp only [Act.put, List.setIfInBounds_toArray, List.set_cons_zero, List.set_cons_succ]
            refine heldSkip (d := some 64) (op := .load 9 (Operand.tmp 63)) (g := some (15, false)) 24 rfl (by kernel_rfl) (by kernel_rfl) (by kernel_rfl) (by kernel_rfl) HBR ?_
            simp only [Act.put, List.setIfInBounds_toArray, List.set_cons_zero, List.set_cons_succ]
            refine heldSkip (d := some 65) (op := .call { callee := Callee.builtin Builtin.len, args := #[Operand.tmp 64], argTypes := #[9] }) (g := some (15, false)) 25 rfl (by kernel_rfl) (by kernel_rfl) (by kernel_rfl) (by kernel_rfl) HBR ?_
            simp only [Act.put, List.setIfInBounds_toArray, List.set_cons_zero, List.set_cons_succ]
            refine heldSkip (d := some 66) (op := .binOp BinOp.eql 3 (Operand.tmp 58) (Operand.tmp 65) 3) (g := some (15, false)) 26 rfl (by kernel_rfl) (by kernel_rfl) (by kernel_rfl) (by kernel_rfl) HBR ?_
            simp only [Act.put, List.setIfInBounds_toArray, List.set_cons_zero, List.set_cons_succ]
            refine heldSkip (d := some 67) (op := .move (Operand.tmp 66)) (g := some (15, false)) 27 rfl (by kernel_rfl) (by kernel_rfl) (by kernel_rfl) (by kernel_rfl) HBR ?_
            simp only [Act.put, List.setIfInBounds_toArray, List.set_cons_zero, List.set_cons_succ]
            refine heldSkip (d := some 68) (op := .fieldAddr 25 (Operand.tmp 3) 0) (g := some (27, true)) 28 rfl (by kernel_rfl) (by kernel_rfl) (by kernel_rfl) (by kernel_rfl) HBR ?_
            simp only [Act.put, List.setIfInBounds_toArray, List.set_cons_zero, List.set_cons_succ]
            refine heldSkip (d := some 69) (op := .load 22 (Operand.tmp 68)) (g := some (27, true)) 29 rfl (by kernel_rfl) (by kernel_rfl) (by kernel_rfl) (by kernel_rfl) HBR ?_
            simp only [Act.put, List.setIfInBounds_toArray, List.set_cons_zero, List.set_cons_succ]
            refine heldSkip (d := some 70) (op := .move (Operand.tmp 8)) (g := some (27, true)) 30 rfl (by kernel_rfl) (by kernel_rfl) (by kernel_rfl) (by kernel_rfl) HBR ?_
            simp only [Act.put, List.setIfInBounds_toArray, List.set_cons_zero, List.set_cons_succ]
            refine heldSkip (d := some 71) (op := .indexAddr 22 (Operand.tmp 69) (Operand.tmp 70)) (g := some (27, true)) 31 rfl (by kernel_rfl) (by kernel_rfl) (by kernel_rfl) (by kernel_rfl) HBR ?_
            simp only [Act.put, List.setIfInBounds_toArray, List.set_cons_zero, List.set_cons_succ]
            refine heldSkip (d := some 72) (op := .fieldAddr 34 (Operand.tmp 71) 1) (g := some (27, true)) 32 rfl (by kernel_rfl) (by kernel_rfl) (by kernel_rfl) (by kernel_rfl) HBR ?_
            simp only [Act.put, List.setIfInBounds_toArray, List.set_cons_zero, List.set_cons_succ]
            refine heldSkip (d := some 73) (op := .load 9 (Operand.tmp 72)) (g := some (27, true)) 33 rfl (by kernel_rfl) (by kernel_rfl) (by kernel_rfl) (by kernel_rfl) HBR ?_
            simp only [Act.put, List.setIfInBounds_toArray, List.set_cons_zero, List.set_cons_succ]
            refine heldSkip (d := some 74) (op := .binOp BinOp.eql 9 (Operand.tmp 73) (Operand.const (Value.string { data := #[] })) 9) (g := some (27, true)) 34 rfl (by kernel_rfl) (by kernel_rfl) (by kernel_rfl) (by kernel_rfl) HBR ?_
            simp only [Act.put, List.setIfInBounds_toArray, List.set_cons_zero, List.set_cons_succ]
            refine heldSkip (d := some 75) (op := .pick (Operand.tmp 67) (Operand.tmp 74) (Operand.const (Value.bool false))) (g := some (15, false)) 35 rfl (by kernel_rfl) (by kernel_rfl) (by kernel_rfl) (by kernel_rfl) HBR ?_
            simp only [Act.put, List.setIfInBounds_toArray, List.set_cons_zero, List.set_cons_succ]
            refine heldSkip (d := some 76) (op := .move (Operand.tmp 75)) (g := some (15, false)) 36 rfl (by kernel_rfl) (by kernel_rfl) (by kernel_rfl) (by kernel_rfl) HBR ?_
            simp only [Act.put, List.setIfInBounds_toArray, List.set_cons_zero, List.set_cons_succ]
            refine heldSkip (d := some 77) (op := .fieldAddr 34 (Operand.tmp 10) 1) (g := some (36, true)) 37 rfl (by kernel_rfl) (by kernel_rfl) (by kernel_rfl) (by kernel_rfl) HBR ?_
            simp only [Act.put, List.setIfInBounds_toArray, List.set_cons_zero, List.set_cons_succ]
            refine heldSkip (d := some 78) (op := .load 9 (Operand.tmp 77)) (g := some (36, true)) 38 rfl (by kernel_rfl) (by kernel_rfl) (by kernel_rfl) (by kernel_rfl) HBR ?_
            simp only [Act.put, List.setIfInBounds_toArray, List.set_cons_zero, List.set_cons_succ]
            refine heldSkip (d := some 79) (op := .binOp BinOp.neq 9 (Operand.tmp 78) (Operand.const (Value.string { data := #[] })) 9) (g := some (36, true)) 39 rfl (by kernel_rfl) (by kernel_rfl) (by kernel_rfl) (by kernel_rfl) HBR ?_
            simp only [Act.put, List.setIfInBounds_toArray, List.set_cons_zero, List.set_cons_succ]
            refine heldSkip (d := some 80) (op := .pick (Operand.tmp 76) (Operand.tmp 79) (Operand.const (Value.bool false))) (g := some (15, false)) 40 rfl (by kernel_rfl) (by kernel_rfl) (by kernel_rfl) (by kernel_rfl) HBR ?_
            simp only [Act.put, List.setIfInBounds_toArray, List.set_cons_zero, List.set_cons_succ]
            refine heldTake (d := some 81) (op := .pick (Operand.tmp 55) (Operand.const (Value.bool true)) (Operand.tmp 80)) (g := none) 41 (.bool true) rfl (by kernel_rfl) (by kernel_rfl) (by kernel_rfl) (by kernel_rfl) ?y41n1 HBR ?_
            case y41n1 => intro o' ho W hS; exact by simp only [execOp, ho]; go_simp; try rfl
            simp only [Act.put, List.setIfInBounds_toArray, List.set_cons_zero, List.set_cons_succ]
            refine wpAnyH_done (by kernel_rfl) ?_ _
            refine NoPanic.normal ?_
            have HXz := Sl.mk (below_key HXy.out HBR)
            have HYz := Sl.mk (below_key HYy.out HBR)
            have HBq : Sl (Below g3 W Rw) := ⟨HBz.out.trans (HBR.mono HSY.out)⟩
            go_wp2
            exact ⟨⟨k + 1, (k : Int), by omega, by go_num, rfl, ⟨.inr ⟨k, rfl, by omega, hkl, HS2.out⟩⟩, HBq, HXz, HYz⟩, by simp [intOf]; omega⟩
          · subst hz hn
            obtain ⟨x', y', u', hf⟩ : ∃ x y z, rs.getD j Rb0 = ⟨x, y, z⟩ := ⟨_, _, _, rfl⟩
            have HFJ := Sl.mk hf
            have HST : Sl (bestB (bytes path) (ps.map bytes) (rs.take (k + 1)) = if better ⟨bytes x', bytes y', bytes u'⟩ ⟨bytes x, bytes y, bytes u⟩ = true then some (rs.getD k Rb0) else some (rs.getD j Rb0)) := ⟨by rw [HSN.out, hf, stepB_some HPF2.out, HE.out]; rfl⟩
            have hj0 : ((j : Int) < 0) = False := eq_false (by omega)
            have hj1 : (0 : Int) ≤ (j : Int) := by omega
            have hj2 : (j : Int) < (n1 : Int) := by omega
            have hbt : better ⟨bytes x', bytes y', bytes u'⟩ ⟨bytes x, bytes y, bytes u⟩ = (decide (x'.size < x.size) || (decide (x.size = x'.size) && (decide (bytes y' = []) && !decide (bytes y = [])))) := by
              unfold RoutePlain.better; simp only; rw [bytes_length, bytes_length, ← decide_not]
            have HBT := Sl.mk hbt
            clear hf hbt HA
            go_upto_region 7 with fail
            by_cases h1 : x'.size < x.size
            · have h1' : ((x.size : Int) > (x'.size : Int)) = True := eq_true (by omega)
              have HQ : Sl (better ⟨bytes x', bytes y', bytes u'⟩ ⟨bytes x, bytes y, bytes u⟩ = true) := ⟨by rw [HBT.out, decide_eq_true h1]; rfl⟩
              obtain ⟨Rw, hRw⟩ : ∃ R, wy.drew = R := ⟨_, rfl⟩
              have HBR : Below wy.heap.size wy Rw := by rw [← hRw]; exact (Below.refl _ _).drew
              refine wp_region_noPanic ?_
              refine wp_region_held (S := fun V => Below wy.heap.size wy V) (by kernel_rfl) ?_
              change wpAnyH _ _ _ _ _ _ _ _ wy.drew
              rw [hRw]
              clear hRw
              refine heldTake (d := some 40) (op := .move (Operand.tmp 8)) (g := none) 0 ?v0n2 rfl (by kernel_rfl) (by kernel_rfl) (by kernel_rfl) (by kernel_rfl) ?y0n2 HBR ?_
              case y0n2 => intro o' ho W hS; simp only [execOp, ho]; go_simp; try rfl
              simp only [Act.put, List.setIfInBounds_toArray, List.set_cons_zero, List.set_cons_succ]
              refine heldTake (d := some 41) (op := .binOp BinOp.lss 3 (Operand.tmp 40) (Operand.const (Value.int IntKind.i64 0)) 3) (g := none) 1 (.bool false) rfl (by kernel_rfl) (by kernel_rfl) (by kernel_rfl) (by kernel_rfl) ?y1n2 HBR ?_
              case y1n2 => intro o' ho W hS; exact by simp only [execOp, ho]; go_simp; try rfl
              simp only [Act.put, List.setIfInBounds_toArray, List.set_cons_zero, List.set_cons_succ]
              refine heldTake (d := some 42) (op := .move (Operand.tmp 41)) (g := none) 2 (.bool false) rfl (by kernel_rfl) (by kernel_rfl) (by kernel_rfl) (by kernel_rfl) ?y2n2 HBR ?_
              case y2n2 => intro o' ho W hS; exact by simp only [execOp, ho]; go_simp; try rfl
              simp only [Act.put, List.setIfInBounds_toArray, List.set_cons_zero, List.set_cons_succ]
              refine heldTake (d := some 43) (op := .fieldAddr 34 (Operand.tmp 10) 0) (g := some (2, false)) 3 ?v3n2 rfl (by kernel_rfl) (by kernel_rfl) (by kernel_rfl) (by kernel_rfl) ?y3n2 HBR ?_
              case y3n2 => intro o' ho W hS; simp only [execOp, ho]; go_simp; try rfl
              simp only [Act.put, List.setIfInBounds_toArray, List.set_cons_zero, List.set_cons_succ]
              refine heldTake (d := some 44) (op := .load 9 (Operand.tmp 43)) (g := some (2, false)) 4 ?v4n2 rfl (by kernel_rfl) (by kernel_rfl) (by kernel_rfl) (by kernel_rfl) ?y4n2 HBR ?_
              case y4n2 => intro o' ho W hS; obtain ⟨f0, f1, f2⟩ := rt_cells (below_key HC.out hS); simp only [execOp, ho]; go_simp; try rfl
              simp only [Act.put, List.setIfInBounds_toArray, List.set_cons_zero, List.set_cons_succ]
              refine heldTake (d := some 45) (op := .call { callee := Callee.builtin Builtin.len, args := #[Operand.tmp 44], argTypes := #[9] }) (g := some (2, false)) 5 ?v5n2 rfl (by kernel_rfl) (by kernel_rfl) (by kernel_rfl) (by kernel_rfl) ?y5n2 HBR ?_
              case y5n2 => intro o' ho W hS; simp only [execOp, ho]; go_simp; try rfl
              simp only [Act.put, List.setIfInBounds_toArray, List.set_cons_zero, List.set_cons_succ]
              refine heldTake (d := some 46) (op := .fieldAddr 25 (Operand.tmp 3) 0) (g := some (2, false)) 6 ?v6n2 rfl (by kernel_rfl) (by kernel_rfl) (by kernel_rfl) (by kernel_rfl) ?y6n2 HBR ?_
              case y6n2 => intro o' ho W hS; simp only [execOp, ho]; go_simp; try rfl
              simp only [Act.put, List.setIfInBounds_toArray, List.set_cons_zero, List.set_cons_succ]
              refine heldTake (d := some 47) (op := .load 22 (Operand.tmp 46)) (g := some (2, false)) 7 ?v7n2 rfl (by kernel_rfl) (by kernel_rfl) (by kernel_rfl) (by kernel_rfl) ?y7n2 HBR ?_
              case y7n2 => intro o' ho W hS; have f0 : W.cell? ⟨g3, 0, none⟩ = some (.slice (some ⟨sb, so, none⟩) n1 c1) := cell_at (below_key HXy.out hS) 0 _ rfl; simp only [execOp, ho]; go_simp; try rfl
              simp only [Act.put, List.setIfInBounds_toArray, List.set_cons_zero, List.set_cons_succ]
              refine heldTake (d := some 48) (op := .move (Operand.tmp 8)) (g := some (2, false)) 8 ?v8n2 rfl (by kernel_rfl) (by kernel_rfl) (by kernel_rfl) (by kernel_rfl) ?y8n2 HBR ?_
              case y8n2 => intro o' ho W hS; simp only [execOp, ho]; go_simp; try rfl
              simp only [Act.put, List.setIfInBounds_toArray, List.set_cons_zero, List.set_cons_succ]
              refine heldTake (d := some 49) (op := .indexAddr 22 (Operand.tmp 47) (Operand.tmp 48)) (g := some (2, false)) 9 ?v9n2 rfl (by kernel_rfl) (by kernel_rfl) (by kernel_rfl) (by kernel_rfl) ?y9n2 HBR ?_
              case y9n2 => intro o' ho W hS; simp only [execOp, ho]; go_simp; try rfl
              simp only [Act.put, List.setIfInBounds_toArray, List.set_cons_zero, List.set_cons_succ]
              refine heldTake (d := some 50) (op := .fieldAddr 34 (Operand.tmp 49) 0) (g := some (2, false)) 10 ?v10n2 rfl (by kernel_rfl) (by kernel_rfl) (by kernel_rfl) (by kernel_rfl) ?y10n2 HBR ?_
              case y10n2 => intro o' ho W hS; simp only [execOp, ho]; go_simp; try rfl
              simp only [Act.put, List.setIfInBounds_toArray, List.set_cons_zero, List.set_cons_succ]
              refine heldTake (d := some 51) (op := .load 9 (Operand.tmp 50)) (g := some (2, false)) 11 ?v11n2 rfl (by kernel_rfl) (by kernel_rfl) (by kernel_rfl) (by kernel_rfl) ?y11n2 HBR ?_
              case y11n2 => intro o' ho W hS; obtain ⟨f0, f1, f2⟩ := ((HV0.out.below HWy.out).below hS).at3 j hjl HFJ.out; simp only [execOp, ho]; go_simp; try rfl
              simp only [Act.put, List.setIfInBounds_toArray, List.set_cons_zero, List.set_cons_succ]
              refine heldTake (d := some 52) (op := .call { callee := Callee.builtin Builtin.len, args := #[Operand.tmp 51], argTypes := #[9] }) (g := some (2, false)) 12 ?v12n2 rfl (by kernel_rfl) (by kernel_rfl) (by kernel_rfl) (by kernel_rfl) ?y12n2 HBR ?_
              case y12n2 => intro o' ho W hS; simp only [execOp, ho]; go_simp; try rfl
              simp only [Act.put, List.setIfInBounds_toArray, List.set_cons_zero, List.set_cons_succ]
              refine heldTake (d := some 53) (op := .binOp BinOp.gtr 3 (Operand.tmp 45) (Operand.tmp 52) 3) (g := some (2, false)) 13 (.bool true) rfl (by kernel_rfl) (by kernel_rfl) (by kernel_rfl) (by kernel_rfl) ?y13n2 HBR ?_
              case y13n2 => intro o' ho W hS; exact by simp only [execOp, ho]; go_simp; try rfl
              simp only [Act.put, List.setIfInBounds_toArray, List.set_cons_zero, List.set_cons_succ]
              refine heldTake (d := some 54) (op := .pick (Operand.tmp 42) (Operand.const (Value.bool true)) (Operand.tmp 53)) (g := none) 14 (.bool true) rfl (by kernel_rfl) (by kernel_rfl) (by kernel_rfl) (by kernel_rfl) ?y14n2 HBR ?_
              case y14n2 => intro o' ho W hS; exact by simp only [execOp, ho]; go_simp; try rfl
              simp only [Act.put, List.setIfInBounds_toArray, List.set_cons_zero, List.set_cons_succ]
              refine heldTake (d := some 55) (op := .move (Operand.tmp 54)) (g := none) 15 (.bool true) rfl (by kernel_rfl) (by kernel_rfl) (by kernel_rfl) (by kernel_rfl) ?y15n2 HBR ?_
              case y15n2 => intro o' ho W hS; exact by simp only [execOp, ho]; go_simp; try rfl
              simp only [Act.put, List.setIfInBounds_toArray, List.set_cons_zero, List.set_cons_succ]
              refine heldSkip (d := some 56) (op := .fieldAddr 34 (Operand.tmp 10) 0) (g := some (15, false)) 16 rfl (by kernel_rfl) (by kernel_rfl) (by kernel_rfl) (by kernel_rfl) HBR ?_
              simp only [Act.put, List.setIfInBounds_toArray, List.set_cons_zero, List.set_cons_succ]
              refine heldSkip (d := some 57) (op := .load 9 (Operand.tmp 56)) (g := some (15, false)) 17 rfl (by kernel_rfl) (by kernel_rfl) (by kernel_rfl) (by kernel_rfl) HBR ?_
              simp only [Act.put, List.setIfInBounds_toArray, List.set_cons_zero, List.set_cons_succ]
              refine heldSkip (d := some 58) (op := .call { callee := Callee.builtin Builtin.len, args := #[Operand.tmp 57], argTypes := #[9] }) (g := some (15, false)) 18 rfl (by kernel_rfl) (by kernel_rfl) (by kernel_rfl) (by kernel_rfl) HBR ?_
              simp only [Act.put, List.setIfInBounds_toArray, List.set_cons_zero, List.set_cons_succ]
              refine heldSkip (d := some 59) (op := .fieldAddr 25 (Operand.tmp 3) 0) (g := some (15, false)) 19 rfl (by kernel_rfl) (by kernel_rfl) (by kernel_rfl) (by kernel_rfl) HBR ?_
              simp only [Act.put, List.setIfInBounds_toArray, List.set_cons_zero, List.set_cons_succ]
              refine heldSkip (d := some 60) (op := .load 22 (Operand.tmp 59)) (g := some (15, false)) 20 rfl (by kernel_rfl) (by kernel_rfl) (by kernel_rfl) (by kernel_rfl) HBR ?_
              simp only [Act.put, List.setIfInBounds_toArray, List.set_cons_zero, List.set_cons_succ]
              refine heldSkip (d := some 61) (op := .move (Operand.tmp 8)) (g := some (15, false)) 21 rfl (by kernel_rfl) (by kernel_rfl) (by kernel_rfl) (by kernel_rfl) HBR ?_
              simp only [Act.put, List.setIfInBounds_toArray, List.set_cons_zero, List.set_cons_succ]
              refine heldSkip (d := some 62) (op := .indexAddr 22 (Operand.tmp 60) (Operand.tmp 61)) (g := some (15, false)) 22 rfl (by kernel_rfl) (by kernel_rfl) (by kernel_rfl) (by kernel_rfl) HBR ?_
              simp only [Act.put, List.setIfInBounds_toArray, List.set_cons_zero, List.set_cons_succ]
              refine heldSkip (d := some 63) (op := .fieldAddr 34 (Operand.tmp 62) 0) (g := some (15, false)) 23 rfl (by kernel_rfl) (by kernel_rfl) (by kernel_rfl) (by kernel_rfl) HBR ?_
              simp only [Act.put, List.setIfInBounds_toArray, List.set_cons_zero, List.set_cons_succ]
              refine heldSkip (d := some 64) (op := .load 9 (Operand.tmp 63)) (g := some (15, false)) 24 rfl (by kernel_rfl) (by kernel_rfl) (by kernel_rfl) (by kernel_rfl) HBR ?_
              simp only [Act.put, List.setIfInBounds_toArray, List.set_cons_zero, List.set_cons_succ]
              refine heldSkip (d := some 65) (op := .call { callee := Callee.builtin Builtin.len, args := #[Operand.tmp 64], argTypes := #[9] }) (g := some (15, false)) 25 rfl (by kernel_rfl) (by kernel_rfl) (by kernel_rfl) (by kernel_rfl) HBR ?_
              simp only [Act.put, List.setIfInBounds_toArray, List.set_cons_zero, List.set_cons_succ]
              refine heldSkip (d := some 66) (op := .binOp BinOp.eql 3 (Operand.tmp 58) (Operand.tmp 65) 3) (g := some (15, false)) 26 rfl (by kernel_rfl) (by kernel_rfl) (by kernel_rfl) (by kernel_rfl) HBR ?_
              simp only [Act.put, List.setIfInBounds_toArray, List.set_cons_zero, List.set_cons_succ]
              refine heldSkip (d := some 67) (op := .move (Operand.tmp 66)) (g := some (15, false)) 27 rfl (by kernel_rfl) (by kernel_rfl) (by kernel_rfl) (by kernel_rfl) HBR ?_
              simp only [Act.put, List.setIfInBounds_toArray, List.set_cons_zero, List.set_cons_succ]
              refine heldSkip (d := some 68) (op := .fieldAddr 25 (Operand.tmp 3) 0) (g := some (27, true)) 28 rfl (by kernel_rfl) (by kernel_rfl) (by kernel_rfl) (by kernel_rfl) HBR ?_
              simp only [Act.put, List.setIfInBounds_toArray, List.set_cons_zero, List.set_cons_succ]
              refine heldSkip (d := some 69) (op := .load 22 (Operand.tmp 68)) (g := some (27, true)) 29 rfl (by kernel_rfl) (by kernel_rfl) (by kernel_rfl) (by kernel_rfl) HBR ?_
              simp only [Act.put, List.setIfInBounds_toArray, List.set_cons_zero, List.set_cons_succ]
              refine heldSkip (d := some 70) (op := .move (Operand.tmp 8)) (g := some (27, true)) 30 rfl (by kernel_rfl) (by kernel_rfl) (by kernel_rfl) (by kernel_rfl) HBR ?_
              simp only [Act.put, List.setIfInBounds_toArray, List.set_cons_zero, List.set_cons_succ]
              refine heldSkip (d := some 71) (op := .indexAddr 22 (Operand.tmp 69) (Operand.tmp 70)) (g := some (27, true)) 31 rfl (by kernel_rfl) (by kernel_rfl) (by kernel_rfl) (by kernel_rfl) HBR ?_
              simp only [Act.put, List.setIfInBounds_toArray, List.set_cons_zero, List.set_cons_succ]
              refine heldSkip (d := some 72) (op := .fieldAddr 34 (Operand.tmp 71) 1) (g := some (27, true)) 32 rfl (by kernel_rfl) (by kernel_rfl) (by kernel_rfl) (by kernel_rfl) HBR ?_
              simp only [Act.put, List.setIfInBounds_toArray, List.set_cons_zero, List.set_cons_succ]
              refine heldSkip (d := some 73) (op := .load 9 (Operand.tmp 72)) (g := some (27, true)) 33 rfl (by kernel_rfl) (by kernel_rfl) (by kernel_rfl) (by kernel_rfl) HBR ?_
              simp only [Act.put, List.setIfInBounds_toArray, List.set_cons_zero, List.set_cons_succ]
              refine heldSkip (d := some 74) (op := .binOp BinOp.eql 9 (Operand.tmp 73) (Operand.const (Value.string { data := #[] })) 9) (g := some (27, true)) 34 rfl (by kernel_rfl) (by kernel_rfl) (by kernel_rfl) (by kernel_rfl) HBR ?_
              simp only [Act.put, List.setIfInBounds_toArray, List.set_cons_zero, List.set_cons_succ]
              refine heldSkip (d := some 75) (op := .pick (Operand.tmp 67) (Operand.tmp 74) (Operand.const (Value.bool false))) (g := some (15, false)) 35 rfl (by kernel_rfl) (by kernel_rfl) (by kernel_rfl) (by kernel_rfl) HBR ?_
              simp only [Act.put, List.setIfInBounds_toArray, List.set_cons_zero, List.set_cons_succ]
              refine heldSkip (d := some 76) (op := .move (Operand.tmp 75)) (g := some (15, false)) 36 rfl (by kernel_rfl) (by kernel_rfl) (by kernel_rfl) (by kernel_rfl) HBR ?_
              simp only [Act.put, List.setIfInBounds_toArray, List.set_cons_zero, List.set_cons_succ]
              refine heldSkip (d := some 77) (op := .fieldAddr 34 (Operand.tmp 10) 1) (g := some (36, true)) 37 rfl (by kernel_rfl) (by kernel_rfl) (by kernel_rfl) (by kernel_rfl) HBR ?_
              simp only [Act.put, List.setIfInBounds_toArray, List.set_cons_zero, List.set_cons_succ]
              refine heldSkip (d := some 78) (op := .load 9 (Operand.tmp 77)) (g := some (36, true)) 38 rfl (by kernel_rfl) (by kernel_rfl) (by kernel_rfl) (by kernel_rfl) HBR ?_
              simp only [Act.put, List.setIfInBounds_toArray, List.set_cons_zero, List.set_cons_succ]
              refine heldSkip (d := some 79) (op := .binOp BinOp.neq 9 (Operand.tmp 78) (Operand.const (Value.string { data := #[] })) 9) (g := some (36, true)) 39 rfl (by kernel_rfl) (by kernel_rfl) (by kernel_rfl) (by kernel_rfl) HBR ?_
              simp only [Act.put, List.setIfInBounds_toArray, List.set_cons_zero, List.set_cons_succ]
              refine heldSkip (d := some 80) (op := .pick (Operand.tmp 76) (Operand.tmp 79) (Operand.const (Value.bool false))) (g := some (15, false)) 40 rfl (by kernel_rfl) (by kernel_rfl) (by kernel_rfl) (by kernel_rfl) HBR ?_
              simp only [Act.put, List.setIfInBounds_toArray, List.set_cons_zero, List.set_cons_succ]
              refine heldTake (d := some 81) (op := .pick (Operand.tmp 55) (Operand.const (Value.bool true)) (Operand.tmp 80)) (g := none) 41 (.bool true) rfl (by kernel_rfl) (by kernel_rfl) (by kernel_rfl) (by kernel_rfl) ?y41n2 HBR ?_
              case y41n2 => intro o' ho W hS; exact by simp only [execOp, ho]; go_simp; try rfl
              simp only [Act.put, List.setIfInBounds_toArray, List.set_cons_zero, List.set_cons_succ]
              refine wpAnyH_done (by kernel_rfl) ?_ _
              refine NoPanic.normal ?_
              have HXz := Sl.mk (below_key HXy.out HBR)
              have HYz := Sl.mk (below_key HYy.out HBR)
              have HBq : Sl (Below g3 W Rw) := ⟨HBz.out.trans (HBR.mono HSY.out)⟩
              go_wp2
              exact ⟨⟨k + 1, (k : Int), by omega, by go_num, rfl, ⟨.inr ⟨k, rfl, by omega, hkl, by rw [HST.out, if_pos HQ.out]⟩⟩, HBq, HXz, HYz⟩, by simp [intOf]; omega⟩
            · have h1' : ((x.size : Int) > (x'.size : Int)) = False := eq_false (by omega)
              have h1a : (x.size : Int) ≤ (x'.size : Int) := by omega
              by_cases h2 : x.size = x'.size
              · have h2' : ((x.size : Int) == (x'.size : Int)) = true := by rw [h2]; exact beq_self_eq_true _
                cases hy' : decide (bytes y' = []) with
                | true =>
                  obtain ⟨m1, m2, m3⟩ := nil_yes hy'
                  cases hyy : decide (bytes y = []) with
                  | true =>
                    obtain ⟨l1, l2, l3⟩ := nil_yes hyy
                    have HQ : Sl (better ⟨bytes x', bytes y', bytes u'⟩ ⟨bytes x, bytes y, bytes u⟩ = false) := ⟨by rw [HBT.out, decide_eq_false h1, hyy]; simp⟩
                    have H2 := Sl.mk h2
                    clear h2 h1 hy' hyy
                    obtain ⟨Rw, hRw⟩ : ∃ R, wy.drew = R := ⟨_, rfl⟩
                    have HBR : Below wy.heap.size wy Rw := by rw [← hRw]; exact (Below.refl _ _).drew
                    refine wp_region_noPanic ?_
                    refine wp_region_held (S := fun V => Below wy.heap.size wy V) (by kernel_rfl) ?_
                    change wpAnyH _ _ _ _ _ _ _ _ wy.drew
                    rw [hRw]
                    clear hRw
                    refine heldTake (d := some 40) (op := .move (Operand.tmp 8)) (g := none) 0 ?v0n3 rfl (by kernel_rfl) (by kernel_rfl) (by kernel_rfl) (by kernel_rfl) ?y0n3 HBR ?_
                    case y0n3 => intro o' ho W hS; simp only [execOp, ho]; go_simp; try rfl
                    simp only [Act.put, List.setIfInBounds_toArray, List.set_cons_zero, List.set_cons_succ]
                    refine heldTake (d := some 41) (op := .binOp BinOp.lss 3 (Operand.tmp 40) (Operand.const (Value.int IntKind.i64 0)) 3) (g := none) 1 (.bool false) rfl (by kernel_rfl) (by kernel_rfl) (by kernel_rfl) (by kernel_rfl) ?y1n3 HBR ?_
                    case y1n3 => intro o' ho W hS; exact by simp only [execOp, ho]; go_simp; try rfl
                    simp only [Act.put, List.setIfInBounds_toArray, List.set_cons_zero, List.set_cons_succ]
                    refine heldTake (d := some 42) (op := .move (Operand.tmp 41)) (g := none) 2 (.bool false) rfl (by kernel_rfl) (by kernel_rfl) (by kernel_rfl) (by kernel_rfl) ?y2n3 HBR ?_
                    case y2n3 => intro o' ho W hS; exact by simp only [execOp, ho]; go_simp; try rfl
                    simp only [Act.put, List.setIfInBounds_toArray, List.set_cons_zero, List.set_cons_succ]
                    refine heldTake (d := some 43) (op := .fieldAddr 34 (Operand.tmp 10) 0) (g := some (2, false)) 3 ?v3n3 rfl (by kernel_rfl) (by kernel_rfl) (by kernel_rfl) (by kernel_rfl) ?y3n3 HBR ?_
                    case y3n3 => intro o' ho W hS; simp only [execOp, ho]; go_simp; try rfl
                    simp only [Act.put, List.setIfInBounds_toArray, List.set_cons_zero, List.set_cons_succ]
                    refine heldTake (d := some 44) (op := .load 9 (Operand.tmp 43)) (g := some (2, false)) 4 ?v4n3 rfl (by kernel_rfl) (by kernel_rfl) (by kernel_rfl) (by kernel_rfl) ?y4n3 HBR ?_
                    case y4n3 => intro o' ho W hS; obtain ⟨f0, f1, f2⟩ := rt_cells (below_key HC.out hS); simp only [execOp, ho]; go_simp; try rfl
                    simp only [Act.put, List.setIfInBounds_toArray, List.set_cons_zero, List.set_cons_succ]
                    refine heldTake (d := some 45) (op := .call { callee := Callee.builtin Builtin.len, args := #[Operand.tmp 44], argTypes := #[9] }) (g := some (2, false)) 5 ?v5n3 rfl (by kernel_rfl) (by kernel_rfl) (by kernel_rfl) (by kernel_rfl) ?y5n3 HBR ?_
                    case y5n3 => intro o' ho W hS; simp only [execOp, ho]; go_simp; try rfl
                    simp only [Act.put, List.setIfInBounds_toArray, List.set_cons_zero, List.set_cons_succ]
                    refine heldTake (d := some 46) (op := .fieldAddr 25 (Operand.tmp 3) 0) (g := some (2, false)) 6 ?v6n3 rfl (by kernel_rfl) (by kernel_rfl) (by kernel_rfl) (by kernel_rfl) ?y6n3 HBR ?_
                    case y6n3 => intro o' ho W hS; simp only [execOp, ho]; go_simp; try rfl
                    simp only [Act.put, List.setIfInBounds_toArray, List.set_cons_zero, List.set_cons_succ]
                    refine heldTake (d := some 47) (op := .load 22 (Operand.tmp 46)) (g := some (2, false)) 7 ?v7n3 rfl (by kernel_rfl) (by kernel_rfl) (by kernel_rfl) (by kernel_rfl) ?y7n3 HBR ?_
                    case y7n3 => intro o' ho W hS; have f0 : W.cell? ⟨g3, 0, none⟩ = some (.slice (some ⟨sb, so, none⟩) n1 c1) := cell_at (below_key HXy.out hS) 0 _ rfl; simp only [execOp, ho]; go_simp; try rfl
                    simp only [Act.put, List.setIfInBounds_toArray, List.set_cons_zero, List.set_cons_succ]
                    refine heldTake (d := some 48) (op := .move (Operand.tmp 8)) (g := some (2, false)) 8 ?v8n3 rfl (by kernel_rfl) (by kernel_rfl) (by kernel_rfl) (by kernel_rfl) ?y8n3 HBR ?_
                    case y8n3 => intro o' ho W hS; simp only [execOp, ho]; go_simp; try rfl
                    simp only [Act.put, List.setIfInBounds_toArray, List.set_cons_zero, List.set_cons_succ]
                    refine heldTake (d := some 49) (op := .indexAddr 22 (Operand.tmp 47) (Operand.tmp 48)) (g := some (2, false)) 9 ?v9n3 rfl (by kernel_rfl) (by kernel_rfl) (by kernel_rfl) (by kernel_rfl) ?y9n3 HBR ?_
                    case y9n3 => intro o' ho W hS; simp only [execOp, ho]; go_simp; try rfl
                    simp only [Act.put, List.setIfInBounds_toArray, List.set_cons_zero, List.set_cons_succ]
                    refine heldTake (d := some 50) (op := .fieldAddr 34 (Operand.tmp 49) 0) (g := some (2, false)) 10 ?v10n3 rfl (by kernel_rfl) (by kernel_rfl) (by kernel_rfl) (by kernel_rfl) ?y10n3 HBR ?_
                    case y10n3 => intro o' ho W hS; simp only [execOp, ho]; go_simp; try rfl
                    simp only [Act.put, List.setIfInBounds_toArray, List.set_cons_zero, List.set_cons_succ]
                    refine heldTake (d := some 51) (op := .load 9 (Operand.tmp 50)) (g := some (2, false)) 11 ?v11n3 rfl (by kernel_rfl) (by kernel_rfl) (by kernel_rfl) (by kernel_rfl) ?y11n3 HBR ?_
                    case y11n3 => intro o' ho W hS; obtain ⟨f0, f1, f2⟩ := ((HV0.out.below HWy.out).below hS).at3 j hjl HFJ.out; simp only [execOp, ho]; go_simp; try rfl
                    simp only [Act.put, List.setIfInBounds_toArray, List.set_cons_zero, List.set_cons_succ]
                    refine heldTake (d := some 52) (op := .call { callee := Callee.builtin Builtin.len, args := #[Operand.tmp 51], argTypes := #[9] }) (g := some (2, false)) 12 ?v12n3 rfl (by kernel_rfl) (by kernel_rfl) (by kernel_rfl) (by kernel_rfl) ?y12n3 HBR ?_
                    case y12n3 => intro o' ho W hS; simp only [execOp, ho]; go_simp; try rfl
                    simp only [Act.put, List.setIfInBounds_toArray, List.set_cons_zero, List.set_cons_succ]
                    refine heldTake (d := some 53) (op := .binOp BinOp.gtr 3 (Operand.tmp 45) (Operand.tmp 52) 3) (g := some (2, false)) 13 (.bool false) rfl (by kernel_rfl) (by kernel_rfl) (by kernel_rfl) (by kernel_rfl) ?y13n3 HBR ?_
                    case y13n3 => intro o' ho W hS; exact by simp only [execOp, ho]; go_simp; try rfl
                    simp only [Act.put, List.setIfInBounds_toArray, List.set_cons_zero, List.set_cons_succ]
                    refine heldTake (d := some 54) (op := .pick (Operand.tmp 42) (Operand.const (Value.bool true)) (Operand.tmp 53)) (g := none) 14 (.bool false) rfl (by kernel_rfl) (by kernel_rfl) (by kernel_rfl) (by kernel_rfl) ?y14n3 HBR ?_
                    case y14n3 => intro o' ho W hS; exact by simp only [execOp, ho]; go_simp; try rfl
                    simp only [Act.put, List.setIfInBounds_toArray, List.set_cons_zero, List.set_cons_succ]
                    refine heldTake (d := some 55) (op := .move (Operand.tmp 54)) (g := none) 15 (.bool false) rfl (by kernel_rfl) (by kernel_rfl) (by kernel_rfl) (by kernel_rfl) ?y15n3 HBR ?_
                    case y15n3 => intro o' ho W hS; exact by simp only [execOp, ho]; go_simp; try rfl
                    simp only [Act.put, List.setIfInBounds_toArray, List.set_cons_zero, List.set_cons_succ]
                    refine heldTake (d := some 56) (op := .fieldAddr 34 (Operand.tmp 10) 0) (g := some (15, false)) 16 ?v16n3 rfl (by kernel_rfl) (by kernel_rfl) (by kernel_rfl) (by kernel_rfl) ?y16n3 HBR ?_
                    case y16n3 => intro o' ho W hS; simp only [execOp, ho]; go_simp; try rfl
                    simp only [Act.put, List.setIfInBounds_toArray, List.set_cons_zero, List.set_cons_succ]
                    refine heldTake (d := some 57) (op := .load 9 (Operand.tmp 56)) (g := some (15, false)) 17 ?v17n3 rfl (by kernel_rfl) (by kernel_rfl) (by kernel_rfl) (by kernel_rfl) ?y17n3 HBR ?_
                    case y17n3 => intro o' ho W hS; obtain ⟨f0, f1, f2⟩ := rt_cells (below_key HC.out hS); simp only [execOp, ho]; go_simp; try rfl
                    simp only [Act.put, List.setIfInBounds_toArray, List.set_cons_zero, List.set_cons_succ]
                    refine heldTake (d := some 58) (op := .call { callee := Callee.builtin Builtin.len, args := #[Operand.tmp 57], argTypes := #[9] }) (g := some (15, false)) 18 ?v18n3 rfl (by kernel_rfl) (by kernel_rfl) (by kernel_rfl) (by kernel_rfl) ?y18n3 HBR ?_
                    case y18n3 => intro o' ho W hS; simp only [execOp, ho]; go_simp; try rfl
                    simp only [Act.put, List.setIfInBounds_toArray, List.set_cons_zero, List.set_cons_succ]
                    refine heldTake (d := some 59) (op := .fieldAddr 25 (Operand.tmp 3) 0) (g := some (15, false)) 19 ?v19n3 rfl (by kernel_rfl) (by kernel_rfl) (by kernel_rfl) (by kernel_rfl) ?y19n3 HBR ?_
                    case y19n3 => intro o' ho W hS; simp only [execOp, ho]; go_simp; try rfl
                    simp only [Act.put, List.setIfInBounds_toArray, List.set_cons_zero, List.set_cons_succ]
                    refine heldTake (d := some 60) (op := .load 22 (Operand.tmp 59)) (g := some (15, false)) 20 ?v20n3 rfl (by kernel_rfl) (by kernel_rfl) (by kernel_rfl) (by kernel_rfl) ?y20n3 HBR ?_
                    case y20n3 => intro o' ho W hS; have f0 : W.cell? ⟨g3, 0, none⟩ = some (.slice (some ⟨sb, so, none⟩) n1 c1) := cell_at (below_key HXy.out hS) 0 _ rfl; simp only [execOp, ho]; go_simp; try rfl
                    simp only [Act.put, List.setIfInBounds_toArray, List.set_cons_zero, List.set_cons_succ]
                    refine heldTake (d := some 61) (op := .move (Operand.tmp 8)) (g := some (15, false)) 21 ?v21n3 rfl (by kernel_rfl) (by kernel_rfl) (by kernel_rfl) (by kernel_rfl) ?y21n3 HBR ?_
                    case y21n3 => intro o' ho W hS; simp only [execOp, ho]; go_simp; try rfl
                    simp only [Act.put, List.setIfInBounds_toArray, List.set_cons_zero, List.set_cons_succ]
                    refine heldTake (d := some 62) (op := .indexAddr 22 (Operand.tmp 60) (Operand.tmp 61)) (g := some (15, false)) 22 ?v22n3 rfl (by kernel_rfl) (by kernel_rfl) (by kernel_rfl) (by kernel_rfl) ?y22n3 HBR ?_
                    case y22n3 => intro o' ho W hS; simp only [execOp, ho]; go_simp; try rfl
                    simp only [Act.put, List.setIfInBounds_toArray, List.set_cons_zero, List.set_cons_succ]
                    refine heldTake (d := some 63) (op := .fieldAddr 34 (Operand.tmp 62) 0) (g := some (15, false)) 23 ?v23n3 rfl (by kernel_rfl) (by kernel_rfl) (by kernel_rfl) (by kernel_rfl) ?y23n3 HBR ?_
                    case y23n3 => intro o' ho W hS; simp only [execOp, ho]; go_simp; try rfl
                    simp only [Act.put, List.setIfInBounds_toArray, List.set_cons_zero, List.set_cons_succ]
                    refine heldTake (d := some 64) (op := .load 9 (Operand.tmp 63)) (g := some (15, false)) 24 ?v24n3 rfl (by kernel_rfl) (by kernel_rfl) (by kernel_rfl) (by kernel_rfl) ?y24n3 HBR ?_
                    case y24n3 => intro o' ho W hS; obtain ⟨f0, f1, f2⟩ := ((HV0.out.below HWy.out).below hS).at3 j hjl HFJ.out; simp only [execOp, ho]; go_simp; try rfl
                    simp only [Act.put, List.setIfInBounds_toArray, List.set_cons_zero, List.set_cons_succ]
                    refine heldTake (d := some 65) (op := .call { callee := Callee.builtin Builtin.len, args := #[Operand.tmp 64], argTypes := #[9] }) (g := some (15, false)) 25 ?v25n3 rfl (by kernel_rfl) (by kernel_rfl) (by kernel_rfl) (by kernel_rfl) ?y25n3 HBR ?_
                    case y25n3 => intro o' ho W hS; simp only [execOp, ho]; go_simp; try rfl
                    simp only [Act.put, List.setIfInBounds_toArray, List.set_cons_zero, List.set_cons_succ]
                    refine heldTake (d := some 66) (op := .binOp BinOp.eql 3 (Operand.tmp 58) (Operand.tmp 65) 3) (g := some (15, false)) 26 (.bool true) rfl (by kernel_rfl) (by kernel_rfl) (by kernel_rfl) (by kernel_rfl) ?y26n3 HBR ?_
                    case y26n3 => intro o' ho W hS; exact by simp only [execOp, ho]; go_simp; try rfl
                    simp only [Act.put, List.setIfInBounds_toArray, List.set_cons_zero, List.set_cons_succ]
                    refine heldTake (d := some 67) (op := .move (Operand.tmp 66)) (g := some (15, false)) 27 (.bool true) rfl (by kernel_rfl) (by kernel_rfl) (by kernel_rfl) (by kernel_rfl) ?y27n3 HBR ?_
                    case y27n3 => intro o' ho W hS; exact by simp only [execOp, ho]; go_simp; try rfl
                    simp only [Act.put, List.setIfInBounds_toArray, List.set_cons_zero, List.set_cons_succ]
                    refine heldTake (d := some 68) (op := .fieldAddr 25 (Operand.tmp 3) 0) (g := some (27, true)) 28 ?v28n3 rfl (by kernel_rfl) (by kernel_rfl) (by kernel_rfl) (by kernel_rfl) ?y28n3 HBR ?_
                    case y28n3 => intro o' ho W hS; simp only [execOp, ho]; go_simp; try rfl
                    simp only [Act.put, List.setIfInBounds_toArray, List.set_cons_zero, List.set_cons_succ]
                    refine heldTake (d := some 69) (op := .load 22 (Operand.tmp 68)) (g := some (27, true)) 29 ?v29n3 rfl (by kernel_rfl) (by kernel_rfl) (by kernel_rfl) (by kernel_rfl) ?y29n3 HBR ?_
                    case y29n3 => intro o' ho W hS; have f0 : W.cell? ⟨g3, 0, none⟩ = some (.slice (some ⟨sb, so, none⟩) n1 c1) := cell_at (below_key HXy.out hS) 0 _ rfl; simp only [execOp, ho]; go_simp; try rfl
                    simp only [Act.put, List.setIfInBounds_toArray, List.set_cons_zero, List.set_cons_succ]
                    refine heldTake (d := some 70) (op := .move (Operand.tmp 8)) (g := some (27, true)) 30 ?v30n3 rfl (by kernel_rfl) (by kernel_rfl) (by kernel_rfl) (by kernel_rfl) ?y30n3 HBR ?_
                    case y30n3 => intro o' ho W hS; simp only [execOp, ho]; go_simp; try rfl
                    simp only [Act.put, List.setIfInBounds_toArray, List.set_cons_zero, List.set_cons_succ]
                    refine heldTake (d := some 71) (op := .indexAddr 22 (Operand.tmp 69) (Operand.tmp 70)) (g := some (27, true)) 31 ?v31n3 rfl (by kernel_rfl) (by kernel_rfl) (by kernel_rfl) (by kernel_rfl) ?y31n3 HBR ?_
                    case y31n3 => intro o' ho W hS; simp only [execOp, ho]; go_simp; try rfl
                    simp only [Act.put, List.setIfInBounds_toArray, List.set_cons_zero, List.set_cons_succ]
                    refine heldTake (d := some 72) (op := .fieldAddr 34 (Operand.tmp 71) 1) (g := some (27, true)) 32 ?v32n3 rfl (by kernel_rfl) (by kernel_rfl) (by kernel_rfl) (by kernel_rfl) ?y32n3 HBR ?_
                    case y32n3 => intro o' ho W hS; simp only [execOp, ho]; go_simp; try rfl
                    simp only [Act.put, List.setIfInBounds_toArray, List.set_cons_zero, List.set_cons_succ]
                    refine heldTake (d := some 73) (op := .load 9 (Operand.tmp 72)) (g := some (27, true)) 33 ?v33n3 rfl (by kernel_rfl) (by kernel_rfl) (by kernel_rfl) (by kernel_rfl) ?y33n3 HBR ?_
                    case y33n3 => intro o' ho W hS; obtain ⟨f0, f1, f2⟩ := ((HV0.out.below HWy.out).below hS).at3 j hjl HFJ.out; simp only [execOp, ho]; go_simp; try rfl
                    simp only [Act.put, List.setIfInBounds_toArray, List.set_cons_zero, List.set_cons_succ]
                    refine heldTake (d := some 74) (op := .binOp BinOp.eql 9 (Operand.tmp 73) (Operand.const (Value.string { data := #[] })) 9) (g := some (27, true)) 34 (.bool true) rfl (by kernel_rfl) (by kernel_rfl) (by kernel_rfl) (by kernel_rfl) ?y34n3 HBR ?_
                    case y34n3 => intro o' ho W hS; exact by simp only [execOp, ho]; go_simp; try rfl
                    simp only [Act.put, List.setIfInBounds_toArray, List.set_cons_zero, List.set_cons_succ]
                    refine heldTake (d := some 75) (op := .pick (Operand.tmp 67) (Operand.tmp 74) (Operand.const (Value.bool false))) (g := some (15, false)) 35 (.bool true) rfl (by kernel_rfl) (by kernel_rfl) (by kernel_rfl) (by kernel_rfl) ?y35n3 HBR ?_
                    case y35n3 => intro o' ho W hS; exact by simp only [execOp, ho]; go_simp; try rfl
                    simp only [Act.put, List.setIfInBounds_toArray, List.set_cons_zero, List.set_cons_succ]
                    refine heldTake (d := some 76) (op := .move (Operand.tmp 75)) (g := some (15, false)) 36 (.bool true) rfl (by kernel_rfl) (by kernel_rfl) (by kernel_rfl) (by kernel_rfl) ?y36n3 HBR ?_
                    case y36n3 => intro o' ho W hS; exact by simp only [execOp, ho]; go_simp; try rfl
                    simp only [Act.put, List.setIfInBounds_toArray, List.set_cons_zero, List.set_cons_succ]
                    refine heldTake (d := some 77) (op := .fieldAddr 34 (Operand.tmp 10) 1) (g := some (36, true)) 37 ?v37n3 rfl (by kernel_rfl) (by kernel_rfl) (by kernel_rfl) (by kernel_rfl) ?y37n3 HBR ?_
                    case y37n3 => intro o' ho W hS; simp only [execOp, ho]; go_simp; try rfl
                    simp only [Act.put, List.setIfInBounds_toArray, List.set_cons_zero, List.set_cons_succ]
                    refine heldTake (d := some 78) (op := .load 9 (Operand.tmp 77)) (g := some (36, true)) 38 ?v38n3 rfl (by kernel_rfl) (by kernel_rfl) (by kernel_rfl) (by kernel_rfl) ?y38n3 HBR ?_
                    case y38n3 => intro o' ho W hS; obtain ⟨f0, f1, f2⟩ := rt_cells (below_key HC.out hS); simp only [execOp, ho]; go_simp; try rfl
                    simp only [Act.put, List.setIfInBounds_toArray, List.set_cons_zero, List.set_cons_succ]
                    refine heldTake (d := some 79) (op := .binOp BinOp.neq 9 (Operand.tmp 78) (Operand.const (Value.string { data := #[] })) 9) (g := some (36, true)) 39 (.bool false) rfl (by kernel_rfl) (by kernel_rfl) (by kernel_rfl) (by kernel_rfl) ?y39n3 HBR ?_
                    case y39n3 => intro o' ho W hS; exact by simp only [execOp, ho]; go_simp; try rfl
                    simp only [Act.put, List.setIfInBounds_toArray, List.set_cons_zero, List.set_cons_succ]
                    refine heldTake (d := some 80) (op := .pick (Operand.tmp 76) (Operand.tmp 79) (Operand.const (Value.bool false))) (g := some (15, false)) 40 (.bool false) rfl (by kernel_rfl) (by kernel_rfl) (by kernel_rfl) (by kernel_rfl) ?y40n3 HBR ?_
                    case y40n3 => intro o' ho W hS; exact by simp only [execOp, ho]; go_simp; try rfl
                    simp only [Act.put, List.setIfInBounds_toArray, List.set_cons_zero, List.set_cons_succ]
                    refine heldTake (d := some 81) (op := .pick (Operand.tmp 55) (Operand.const (Value.bool true)) (Operand.tmp 80)) (g := none) 41 (.bool false) rfl (by kernel_rfl) (by kernel_rfl) (by kernel_rfl) (by kernel_rfl) ?y41n3 HBR ?_
                    case y41n3 => intro o' ho W hS; exact by simp only [execOp, ho]; go_simp; try rfl
                    simp only [Act.put, List.setIfInBounds_toArray, List.set_cons_zero, List.set_cons_succ]
                    refine wpAnyH_done (by kernel_rfl) ?_ _
                    refine NoPanic.normal ?_
                    have HXz := Sl.mk (below_key HXy.out HBR)
                    have HYz := Sl.mk (below_key HYy.out HBR)
                    have HBq : Sl (Below g3 W Rw) := ⟨HBz.out.trans (HBR.mono HSY.out)⟩
                    go_wp2
                    exact ⟨⟨k + 1, (j : Int), by omega, by go_num, rfl, ⟨.inr ⟨j, rfl, by omega, hjl, by rw [HST.out, if_neg (by rw [HQ.out]; decide)]⟩⟩, HBq, HXz, HYz⟩, by simp [intOf]; omega⟩
                  | false =>
                    obtain ⟨l1, l2, l3⟩ := nil_no hyy
                    have HQ : Sl (better ⟨bytes x', bytes y', bytes u'⟩ ⟨bytes x, bytes y, bytes u⟩ = true) := ⟨by rw [HBT.out, decide_eq_true h2, hy', hyy]; simp⟩
                    have H2 := Sl.mk h2
                    clear h2 h1 hy' hyy
                    obtain ⟨Rw, hRw⟩ : ∃ R, wy.drew = R := ⟨_, rfl⟩
                    have HBR : Below wy.heap.size wy Rw := by rw [← hRw]; exact (Below.refl _ _).drew
                    refine wp_region_noPanic ?_
                    refine wp_region_held (S := fun V => Below wy.heap.size wy V) (by kernel_rfl) ?_
                    change wpAnyH _ _ _ _ _ _ _ _ wy.drew
                    rw [hRw]
                    clear hRw
                    refine heldTake (d := some 40) (op := .move (Operand.tmp 8)) (g := none) 0 ?v0n4 rfl (by kernel_rfl) (by kernel_rfl) (by kernel_rfl) (by kernel_rfl) ?y0n4 HBR ?_
                    case y0n4 => intro o' ho W hS; simp only [execOp, ho]; go_simp; try rfl
                    simp only [Act.put, List.setIfInBounds_toArray, List.set_cons_zero, List.set_cons_succ]
                    refine heldTake (d := some 41) (op := .binOp BinOp.lss 3 (Operand.tmp 40) (Operand.const (Value.int IntKind.i64 0)) 3) (g := none) 1 (.bool false) rfl (by kernel_rfl) (by kernel_rfl) (by kernel_rfl) (by kernel_rfl) ?y1n4 HBR ?_
                    case y1n4 => intro o' ho W hS; exact by simp only [execOp, ho]; go_simp; try rfl
                    simp only [Act.put, List.setIfInBounds_toArray, List.set_cons_zero, List.set_cons_succ]
                    refine heldTake (d := some 42) (op := .move (Operand.tmp 41)) (g := none) 2 (.bool false) rfl (by kernel_rfl) (by kernel_rfl) (by kernel_rfl) (by kernel_rfl) ?y2n4 HBR ?_
                    case y2n4 => intro o' ho W hS; exact by simp only [execOp, ho]; go_simp; try rfl
                    simp only [Act.put, List.setIfInBounds_toArray, List.set_cons_zero, List.set_cons_succ]
                    refine heldTake (d := some 43) (op := .fieldAddr 34 (Operand.tmp 10) 0) (g := some (2, false)) 3 ?v3n4 rfl (by kernel_rfl) (by kernel_rfl) (by kernel_rfl) (by kernel_rfl) ?y3n4 HBR ?_
                    case y3n4 => intro o' ho W hS; simp only [execOp, ho]; go_simp; try rfl
                    simp only [Act.put, List.setIfInBounds_toArray, List.set_cons_zero, List.set_cons_succ]
                    refine heldTake (d := some 44) (op := .load 9 (Operand.tmp 43)) (g := some (2, false)) 4 ?v4n4 rfl (by kernel_rfl) (by kernel_rfl) (by kernel_rfl) (by kernel_rfl) ?y4n4 HBR ?_
                    case y4n4 => intro o' ho W hS; obtain ⟨f0, f1, f2⟩ := rt_cells (below_key HC.out hS); simp only [execOp, ho]; go_simp; try rfl
                    simp only [Act.put, List.setIfInBounds_toArray, List.set_cons_zero, List.set_cons_succ]
                    refine heldTake (d := some 45) (op := .call { callee := Callee.builtin Builtin.len, args := #[Operand.tmp 44], argTypes := #[9] }) (g := some (2, false)) 5 ?v5n4 rfl (by kernel_rfl) (by kernel_rfl) (by kernel_rfl) (by kernel_rfl) ?y5n4 HBR ?_
                    case y5n4 => intro o' ho W hS; simp only [execOp, ho]; go_simp; try rfl
                    simp only [Act.put, List.setIfInBounds_toArray, List.set_cons_zero, List.set_cons_succ]
                    refine heldTake (d := some 46) (op := .fieldAddr 25 (Operand.tmp 3) 0) (g := some (2, false)) 6 ?v6n4 rfl (by kernel_rfl) (by kernel_rfl) (by kernel_rfl) (by kernel_rfl) ?y6n4 HBR ?_
                    case y6n4 => intro o' ho W hS; simp only [execOp, ho]; go_simp; try rfl
                    simp only [Act.put, List.setIfInBounds_toArray, List.set_cons_zero, List.set_cons_succ]
                    refine heldTake (d := some 47) (op := .load 22 (Operand.tmp 46)) (g := some (2, false)) 7 ?v7n4 rfl (by kernel_rfl) (by kernel_rfl) (by kernel_rfl) (by kernel_rfl) ?y7n4 HBR ?_
                    case y7n4 => intro o' ho W hS; have f0 : W.cell? ⟨g3, 0, none⟩ = some (.slice (some ⟨sb, so, none⟩) n1 c1) := cell_at (below_key HXy.out hS) 0 _ rfl; simp only [execOp, ho]; go_simp; try rfl
                    simp only [Act.put, List.setIfInBounds_toArray, List.set_cons_zero, List.set_cons_succ]
                    refine heldTake (d := some 48) (op := .move (Operand.tmp 8)) (g := some (2, false)) 8 ?v8n4 rfl (by kernel_rfl) (by kernel_rfl) (by kernel_rfl) (by kernel_rfl) ?y8n4 HBR ?_
                    case y8n4 => intro o' ho W hS; simp only [execOp, ho]; go_simp; try rfl
                    simp only [Act.put, List.setIfInBounds_toArray, List.set_cons_zero, List.set_cons_succ]
                    refine heldTake (d := some 49) (op := .indexAddr 22 (Operand.tmp 47) (Operand.tmp 48)) (g := some (2, false)) 9 ?v9n4 rfl (by kernel_rfl) (by kernel_rfl) (by kernel_rfl) (by kernel_rfl) ?y9n4 HBR ?_
                    case y9n4 => intro o' ho W hS; simp only [execOp, ho]; go_simp; try rfl
                    simp only [Act.put, List.setIfInBounds_toArray, List.set_cons_zero, List.set_cons_succ]
                    refine heldTake (d := some 50) (op := .fieldAddr 34 (Operand.tmp 49) 0) (g := some (2, false)) 10 ?v10n4 rfl (by kernel_rfl) (by kernel_rfl) (by kernel_rfl) (by kernel_rfl) ?y10n4 HBR ?_
                    case y10n4 => intro o' ho W hS; simp only [execOp, ho]; go_simp; try rfl
                    simp only [Act.put, List.setIfInBounds_toArray, List.set_cons_zero, List.set_cons_succ]
                    refine heldTake (d := some 51) (op := .load 9 (Operand.tmp 50)) (g := some (2, false)) 11 ?v11n4 rfl (by kernel_rfl) (by kernel_rfl) (by kernel_rfl) (by kernel_rfl) ?y11n4 HBR ?_
                    case y11n4 => intro o' ho W hS; obtain ⟨f0, f1, f2⟩ := ((HV0.out.below HWy.out).below hS).at3 j hjl HFJ.out; simp only [execOp, ho]; go_simp; try rfl
                    simp only [Act.put, List.setIfInBounds_toArray, List.set_cons_zero, List.set_cons_succ]
                    refine heldTake (d := some 52) (op := .call { callee := Callee.builtin Builtin.len, args := #[Operand.tmp 51], argTypes := #[9] }) (g := some (2, false)) 12 ?v12n4 rfl (by kernel_rfl) (by kernel_rfl) (by kernel_rfl) (by kernel_rfl) ?y12n4 HBR ?_
                    case y12n4 => intro o' ho W hS; simp only [execOp, ho]; go_simp; try rfl
                    simp only [Act.put, List.setIfInBounds_toArray, List.set_cons_zero, List.set_cons_succ]
                    refine heldTake (d := some 53) (op := .binOp BinOp.gtr 3 (Operand.tmp 45) (Operand.tmp 52) 3) (g := some (2, false)) 13 (.bool false) rfl (by kernel_rfl) (by kernel_rfl) (by kernel_rfl) (by kernel_rfl) ?y13n4 HBR ?_
                    case y13n4 => intro o' ho W hS; exact by simp only [execOp, ho]; go_simp; try rfl
                    simp only [Act.put, List.setIfInBounds_toArray, List.set_cons_zero, List.set_cons_succ]
                    refine heldTake (d := some 54) (op := .pick (Operand.tmp 42) (Operand.const (Value.bool true)) (Operand.tmp 53)) (g := none) 14 (.bool false) rfl (by kernel_rfl) (by kernel_rfl) (by kernel_rfl) (by kernel_rfl) ?y14n4 HBR ?_
                    case y14n4 => intro o' ho W hS; exact by simp only [execOp, ho]; go_simp; try rfl
                    simp only [Act.put, List.setIfInBounds_toArray, List.set_cons_zero, List.set_cons_succ]
                    refine heldTake (d := some 55) (op := .move (Operand.tmp 54)) (g := none) 15 (.bool false) rfl (by kernel_rfl) (by kernel_rfl) (by kernel_rfl) (by kernel_rfl) ?y15n4 HBR ?_
                    case y15n4 => intro o' ho W hS; exact by simp only [execOp, ho]; go_simp; try rfl
                    simp only [Act.put, List.setIfInBounds_toArray, List.set_cons_zero, List.set_cons_succ]
                    refine heldTake (d := some 56) (op := .fieldAddr 34 (Operand.tmp 10) 0) (g := some (15, false)) 16 ?v16n4 rfl (by kernel_rfl) (by kernel_rfl) (by kernel_rfl) (by kernel_rfl) ?y16n4 HBR ?_
                    case y16n4 => intro o' ho W hS; simp only [execOp, ho]; go_simp; try rfl
                    simp only [Act.put, List.setIfInBounds_toArray, List.set_cons_zero, List.set_cons_succ]
                    refine heldTake (d := some 57) (op := .load 9 (Operand.tmp 56)) (g := some (15, false)) 17 ?v17n4 rfl (by kernel_rfl) (by kernel_rfl) (by kernel_rfl) (by kernel_rfl) ?y17n4 HBR ?_
                    case y17n4 => intro o' ho W hS; obtain ⟨f0, f1, f2⟩ := rt_cells (below_key HC.out hS); simp only [execOp, ho]; go_simp; try rfl
                    simp only [Act.put, List.setIfInBounds_toArray, List.set_cons_zero, List.set_cons_succ]
                    refine heldTake (d := some 58) (op := .call { callee := Callee.builtin Builtin.len, args := #[Operand.tmp 57], argTypes := #[9] }) (g := some (15, false)) 18 ?v18n4 rfl (by kernel_rfl) (by kernel_rfl) (by kernel_rfl) (by kernel_rfl) ?y18n4 HBR ?_
                    case y18n4 => intro o' ho W hS; simp only [execOp, ho]; go_simp; try rfl
                    simp only [Act.put, List.setIfInBounds_toArray, List.set_cons_zero, List.set_cons_succ]
                    refine heldTake (d := some 59) (op := .fieldAddr 25 (Operand.tmp 3) 0) (g := some (15, false)) 19 ?v19n4 rfl (by kernel_rfl) (by kernel_rfl) (by kernel_rfl) (by kernel_rfl) ?y19n4 HBR ?_
                    case y19n4 => intro o' ho W hS; simp only [execOp, ho]; go_simp; try rfl
                    simp only [Act.put, List.setIfInBounds_toArray, List.set_cons_zero, List.set_cons_succ]
                    refine heldTake (d := some 60) (op := .load 22 (Operand.tmp 59)) (g := some (15, false)) 20 ?v20n4 rfl (by kernel_rfl) (by kernel_rfl) (by kernel_rfl) (by kernel_rfl) ?y20n4 HBR ?_
                    case y20n4 => intro o' ho W hS; have f0 : W.cell? ⟨g3, 0, none⟩ = some (.slice (some ⟨sb, so, none⟩) n1 c1) := cell_at (below_key HXy.out hS) 0 _ rfl; simp only [execOp, ho]; go_simp; try rfl
                    simp only [Act.put, List.setIfInBounds_toArray, List.set_cons_zero, List.set_cons_succ]
                    refine heldTake (d := some 61) (op := .move (Operand.tmp 8)) (g := some (15, false)) 21 ?v21n4 rfl (by kernel_rfl) (by kernel_rfl) (by kernel_rfl) (by kernel_rfl) ?y21n4 HBR ?_
                    case y21n4 => intro o' ho W hS; simp only [execOp, ho]; go_simp; try rfl
                    simp only [Act.put, List.setIfInBounds_toArray, List.set_cons_zero, List.set_cons_succ]
                    refine heldTake (d := some 62) (op := .indexAddr 22 (Operand.tmp 60) (Operand.tmp 61)) (g := some (15, false)) 22 ?v22n4 rfl (by kernel_rfl) (by kernel_rfl) (by kernel_rfl) (by kernel_rfl) ?y22n4 HBR ?_
                    case y22n4 => intro o' ho W hS; simp only [execOp, ho]; go_simp; try rfl
                    simp only [Act.put, List.setIfInBounds_toArray, List.set_cons_zero, List.set_cons_succ]
                    refine heldTake (d := some 63) (op := .fieldAddr 34 (Operand.tmp 62) 0) (g := some (15, false)) 23 ?v23n4 rfl (by kernel_rfl) (by kernel_rfl) (by kernel_rfl) (by kernel_rfl) ?y23n4 HBR ?_
                    case y23n4 => intro o' ho W hS; simp only [execOp, ho]; go_simp; try rfl
                    simp only [Act.put, List.setIfInBounds_toArray, List.set_cons_zero, List.set_cons_succ]
                    refine heldTake (d := some 64) (op := .load 9 (Operand.tmp 63)) (g := some (15, false)) 24 ?v24n4 rfl (by kernel_rfl) (by kernel_rfl) (by kernel_rfl) (by kernel_rfl) ?y24n4 HBR ?_
                    case y24n4 => intro o' ho W hS; obtain ⟨f0, f1, f2⟩ := ((HV0.out.below HWy.out).below hS).at3 j hjl HFJ.out; simp only [execOp, ho]; go_simp; try rfl
                    simp only [Act.put, List.setIfInBounds_toArray, List.set_cons_zero, List.set_cons_succ]
                    refine heldTake (d := some 65) (op := .call { callee := Callee.builtin Builtin.len, args := #[Operand.tmp 64], argTypes := #[9] }) (g := some (15, false)) 25 ?v25n4 rfl (by kernel_rfl) (by kernel_rfl) (by kernel_rfl) (by kernel_rfl) ?y25n4 HBR ?_
                    case y25n4 => intro o' ho W hS; simp only [execOp, ho]; go_simp; try rfl
                    simp only [Act.put, List.setIfInBounds_toArray, List.set_cons_zero, List.set_cons_succ]
                    refine heldTake (d := some 66) (op := .binOp BinOp.eql 3 (Operand.tmp 58) (Operand.tmp 65) 3) (g := some (15, false)) 26 (.bool true) rfl (by kernel_rfl) (by kernel_rfl) (by kernel_rfl) (by kernel_rfl) ?y26n4 HBR ?_
                    case y26n4 => intro o' ho W hS; exact by simp only [execOp, ho]; go_simp; try rfl
                    simp only [Act.put, List.setIfInBounds_toArray, List.set_cons_zero, List.set_cons_succ]
                    refine heldTake (d := some 67) (op := .move (Operand.tmp 66)) (g := some (15, false)) 27 (.bool true) rfl (by kernel_rfl) (by kernel_rfl) (by kernel_rfl) (by kernel_rfl) ?y27n4 HBR ?_
                    case y27n4 => intro o' ho W hS; exact by simp only [execOp, ho]; go_simp; try rfl
                    simp only [Act.put, List.setIfInBounds_toArray, List.set_cons_zero, List.set_cons_succ]
                    refine heldTake (d := some 68) (op := .fieldAddr 25 (Operand.tmp 3) 0) (g := some (27, true)) 28 ?v28n4 rfl (by kernel_rfl) (by kernel_rfl) (by kernel_rfl) (by kernel_rfl) ?y28n4 HBR ?_
                    case y28n4 => intro o' ho W hS; simp only [execOp, ho]; go_simp; try rfl
                    simp only [Act.put, List.setIfInBounds_toArray, List.set_cons_zero, List.set_cons_succ]
                    refine heldTake (d := some 69) (op := .load 22 (Operand.tmp 68)) (g := some (27, true)) 29 ?v29n4 rfl (by kernel_rfl) (by kernel_rfl) (by kernel_rfl) (by kernel_rfl) ?y29n4 HBR ?_
                    case y29n4 => intro o' ho W hS; have f0 : W.cell? ⟨g3, 0, none⟩ = some (.slice (some ⟨sb, so, none⟩) n1 c1) := cell_at (below_key HXy.out hS) 0 _ rfl; simp only [execOp, ho]; go_simp; try rfl
                    simp only [Act.put, List.setIfInBounds_toArray, List.set_cons_zero, List.set_cons_succ]
                    refine heldTake (d := some 70) (op := .move (Operand.tmp 8)) (g := some (27, true)) 30 ?v30n4 rfl (by kernel_rfl) (by kernel_rfl) (by kernel_rfl) (by kernel_rfl) ?y30n4 HBR ?_
                    case y30n4 => intro o' ho W hS; simp only [execOp, ho]; go_simp; try rfl
                    simp only [Act.put, List.setIfInBounds_toArray, List.set_cons_zero, List.set_cons_succ]
                    refine heldTake (d := some 71) (op := .indexAddr 22 (Operand.tmp 69) (Operand.tmp 70)) (g := some (27, true)) 31 ?v31n4 rfl (by kernel_rfl) (by kernel_rfl) (by kernel_rfl) (by kernel_rfl) ?y31n4 HBR ?_
                    case y31n4 => intro o' ho W hS; simp only [execOp, ho]; go_simp; try rfl
                    simp only [Act.put, List.setIfInBounds_toArray, List.set_cons_zero, List.set_cons_succ]
                    refine heldTake (d := some 72) (op := .fieldAddr 34 (Operand.tmp 71) 1) (g := some (27, true)) 32 ?v32n4 rfl (by kernel_rfl) (by kernel_rfl) (by kernel_rfl) (by kernel_rfl) ?y32n4 HBR ?_
                    case y32n4 => intro o' ho W hS; simp only [execOp, ho]; go_simp; try rfl
                    simp only [Act.put, List.setIfInBounds_toArray, List.set_cons_zero, List.set_cons_succ]
                    refine heldTake (d := some 73) (op := .load 9 (Operand.tmp 72)) (g := some (27, true)) 33 ?v33n4 rfl (by kernel_rfl) (by kernel_rfl) (by kernel_rfl) (by kernel_rfl) ?y33n4 HBR ?_
                    case y33n4 => intro o' ho W hS; obtain ⟨f0, f1, f2⟩ := ((HV0.out.below HWy.out).below hS).at3 j hjl HFJ.out; simp only [execOp, ho]; go_simp; try rfl
                    simp only [Act.put, List.setIfInBounds_toArray, List.set_cons_zero, List.set_cons_succ]
                    refine heldTake (d := some 74) (op := .binOp BinOp.eql 9 (Operand.tmp 73) (Operand.const (Value.string { data := #[] })) 9) (g := some (27, true)) 34 (.bool true) rfl (by kernel_rfl) (by kernel_rfl) (by kernel_rfl) (by kernel_rfl) ?y34n4 HBR ?_
                    case y34n4 => intro o' ho W hS; exact by simp only [execOp, ho]; go_simp; try rfl
                    simp only [Act.put, List.setIfInBounds_toArray, List.set_cons_zero, List.set_cons_succ]
                    refine heldTake (d := some 75) (op := .pick (Operand.tmp 67) (Operand.tmp 74) (Operand.const (Value.bool false))) (g := some (15, false)) 35 (.bool true) rfl (by kernel_rfl) (by kernel_rfl) (by kernel_rfl) (by kernel_rfl) ?y35n4 HBR ?_
                    case y35n4 => intro o' ho W hS; exact by simp only [execOp, ho]; go_simp; try rfl
                    simp only [Act.put, List.setIfInBounds_toArray, List.set_cons_zero, List.set_cons_succ]
                    refine heldTake (d := some 76) (op := .move (Operand.tmp 75)) (g := some (15, false)) 36 (.bool true) rfl (by kernel_rfl) (by kernel_rfl) (by kernel_rfl) (by kernel_rfl) ?y36n4 HBR ?_
                    case y36n4 => intro o' ho W hS; exact by simp only [execOp, ho]; go_simp; try rfl
                    simp only [Act.put, List.setIfInBounds_toArray, List.set_cons_zero, List.set_cons_succ]
                    refine heldTake (d := some 77) (op := .fieldAddr 34 (Operand.tmp 10) 1) (g := some (36, true)) 37 ?v37n4 rfl (by kernel_rfl) (by kernel_rfl) (by kernel_rfl) (by kernel_rfl) ?y37n4 HBR ?_
                    case y37n4 => intro o' ho W hS; simp only [execOp, ho]; go_simp; try rfl
                    simp only [Act.put, List.setIfInBounds_toArray, List.set_cons_zero, List.set_cons_succ]
                    refine heldTake (d := some 78) (op := .load 9 (Operand.tmp 77)) (g := some (36, true)) 38 ?v38n4 rfl (by kernel_rfl) (by kernel_rfl) (by kernel_rfl) (by kernel_rfl) ?y38n4 HBR ?_
                    case y38n4 => intro o' ho W hS; obtain ⟨f0, f1, f2⟩ := rt_cells (below_key HC.out hS); simp only [execOp, ho]; go_simp; try rfl
                    simp only [Act.put, List.setIfInBounds_toArray, List.set_cons_zero, List.set_cons_succ]
                    refine heldTake (d := some 79) (op := .binOp BinOp.neq 9 (Operand.tmp 78) (Operand.const (Value.string { data := #[] })) 9) (g := some (36, true)) 39 (.bool true) rfl (by kernel_rfl) (by kernel_rfl) (by kernel_rfl) (by kernel_rfl) ?y39n4 HBR ?_
                    case y39n4 => intro o' ho W hS; exact by simp only [execOp, ho]; go_simp; try rfl
                    simp only [Act.put, List.setIfInBounds_toArray, List.set_cons_zero, List.set_cons_succ]
                    refine heldTake (d := some 80) (op := .pick (Operand.tmp 76) (Operand.tmp 79) (Operand.const (Value.bool false))) (g := some (15, false)) 40 (.bool true) rfl (by kernel_rfl) (by kernel_rfl) (by kernel_rfl) (by kernel_rfl) ?y40n4 HBR ?_
                    case y40n4 => intro o' ho W hS; exact by simp only [execOp, ho]; go_simp; try rfl
                    simp only [Act.put, List.setIfInBounds_toArray, List.set_cons_zero, List.set_cons_succ]
                    refine heldTake (d := some 81) (op := .pick (Operand.tmp 55) (Operand.const (Value.bool true)) (Operand.tmp 80)) (g := none) 41 (.bool true) rfl (by kernel_rfl) (by kernel_rfl) (by kernel_rfl) (by kernel_rfl) ?y41n4 HBR ?_
                    case y41n4 => intro o' ho W hS; exact by simp only [execOp, ho]; go_simp; try rfl
                    simp only [Act.put, List.setIfInBounds_toArray, List.set_cons_zero, List.set_cons_succ]
                    refine wpAnyH_done (by kernel_rfl) ?_ _
                    refine NoPanic.normal ?_
                    have HXz := Sl.mk (below_key HXy.out HBR)
                    have HYz := Sl.mk (below_key HYy.out HBR)
                    have HBq : Sl (Below g3 W Rw) := ⟨HBz.out.trans (HBR.mono HSY.out)⟩
                    go_wp2
                    exact ⟨⟨k + 1, (k : Int), by omega, by go_num, rfl, ⟨.inr ⟨k, rfl, by omega, hkl, by rw [HST.out, if_pos HQ.out]⟩⟩, HBq, HXz, HYz⟩, by simp [intOf]; omega⟩
                | false =>
                  obtain ⟨m1, m2, m3⟩ := nil_no hy'
                  have HQ : Sl (better ⟨bytes x', bytes y', bytes u'⟩ ⟨bytes x, bytes y, bytes u⟩ = false) := ⟨by rw [HBT.out, decide_eq_false h1, hy']; simp⟩
                  have H2 := Sl.mk h2
                  clear h2 h1 hy'
                  obtain ⟨Rw, hRw⟩ : ∃ R, wy.drew = R := ⟨_, rfl⟩
                  have HBR : Below wy.heap.size wy Rw := by rw [← hRw]; exact (Below.refl _ _).drew
                  refine wp_region_noPanic ?_
                  refine wp_region_held (S := fun V => Below wy.heap.size wy V) (by kernel_rfl) ?_
                  change wpAnyH _ _ _ _ _ _ _ _ wy.drew
                  rw [hRw]
                  clear hRw
                  refine heldTake (d := some 40) (op := .move (Operand.tmp 8)) (g := none) 0 ?v0n5 rfl (by kernel_rfl) (by kernel_rfl) (by kernel_rfl) (by kernel_rfl) ?y0n5 HBR ?_
                  case y0n5 => intro o' ho W hS; simp only [execOp, ho]; go_simp; try rfl
                  simp only [Act.put, List.setIfInBounds_toArray, List.set_cons_zero, List.set_cons_succ]
                  refine heldTake (d := some 41) (op := .binOp BinOp.lss 3 (Operand.tmp 40) (Operand.const (Value.int IntKind.i64 0)) 3) (g := none) 1 (.bool false) rfl (by kernel_rfl) (by kernel_rfl) (by kernel_rfl) (by kernel_rfl) ?y1n5 HBR ?_
                  case y1n5 => intro o' ho W hS; exact by simp only [execOp, ho]; go_simp; try rfl
                  simp only [Act.put, List.setIfInBounds_toArray, List.set_cons_zero, List.set_cons_succ]
                  refine heldTake (d := some 42) (op := .move (Operand.tmp 41)) (g := none) 2 (.bool false) rfl (by kernel_rfl) (by kernel_rfl) (by kernel_rfl) (by kernel_rfl) ?y2n5 HBR ?_
                  case y2n5 => intro o' ho W hS; exact by simp only [execOp, ho]; go_simp; try rfl
                  simp only [Act.put, List.setIfInBounds_toArray, List.set_cons_zero, List.set_cons_succ]
                  refine heldTake (d := some 43) (op := .fieldAddr 34 (Operand.tmp 10) 0) (g := some (2, false)) 3 ?v3n5 rfl (by kernel_rfl) (by kernel_rfl) (by kernel_rfl) (by kernel_rfl) ?y3n5 HBR ?_
                  case y3n5 => intro o' ho W hS; simp only [execOp, ho]; go_simp; try rfl
                  simp only [Act.put, List.setIfInBounds_toArray, List.set_cons_zero, List.set_cons_succ]
                  refine heldTake (d := some 44) (op := .load 9 (Operand.tmp 43)) (g := some (2, false)) 4 ?v4n5 rfl (by kernel_rfl) (by kernel_rfl) (by kernel_rfl) (by kernel_rfl) ?y4n5 HBR ?_
                  case y4n5 => intro o' ho W hS; obtain ⟨f0, f1, f2⟩ := rt_cells (below_key HC.out hS); simp only [execOp, ho]; go_simp; try rfl
                  simp only [Act.put, List.setIfInBounds_toArray, List.set_cons_zero, List.set_cons_succ]
                  refine heldTake (d := some 45) (op := .call { callee := Callee.builtin Builtin.len, args := #[Operand.tmp 44], argTypes := #[9] }) (g := some (2, false)) 5 ?v5n5 rfl (by kernel_rfl) (by kernel_rfl) (by kernel_rfl) (by kernel_rfl) ?y5n5 HBR ?_
                  case y5n5 => intro o' ho W hS; simp only [execOp, ho]; go_simp; try rfl
                  simp only [Act.put, List.setIfInBounds_toArray, List.set_cons_zero, List.set_cons_succ]
                  refine heldTake (d := some 46) (op := .fieldAddr 25 (Operand.tmp 3) 0) (g := some (2, false)) 6 ?v6n5 rfl (by kernel_rfl) (by kernel_rfl) (by kernel_rfl) (by kernel_rfl) ?y6n5 HBR ?_
                  case y6n5 => intro o' ho W hS; simp only [execOp, ho]; go_simp; try rfl
                  simp only [Act.put, List.setIfInBounds_toArray, List.set_cons_zero, List.set_cons_succ]
                  refine heldTake (d := some 47) (op := .load 22 (Operand.tmp 46)) (g := some (2, false)) 7 ?v7n5 rfl (by kernel_rfl) (by kernel_rfl) (by kernel_rfl) (by kernel_rfl) ?y7n5 HBR ?_
                  case y7n5 => intro o' ho W hS; have f0 : W.cell? ⟨g3, 0, none⟩ = some (.slice (some ⟨sb, so, none⟩) n1 c1) := cell_at (below_key HXy.out hS) 0 _ rfl; simp only [execOp, ho]; go_simp; try rfl
                  simp only [Act.put, List.setIfInBounds_toArray, List.set_cons_zero, List.set_cons_succ]
                  refine heldTake (d := some 48) (op := .move (Operand.tmp 8)) (g := some (2, false)) 8 ?v8n5 rfl (by kernel_rfl) (by kernel_rfl) (by kernel_rfl) (by kernel_rfl) ?y8n5 HBR ?_
                  case y8n5 => intro o' ho W hS; simp only [execOp, ho]; go_simp; try rfl
                  simp only [Act.put, List.setIfInBounds_toArray, List.set_cons_zero, List.set_cons_succ]
                  refine heldTake (d := some 49) (op := .indexAddr 22 (Operand.tmp 47) (Operand.tmp 48)) (g := some (2, false)) 9 ?v9n5 rfl (by kernel_rfl) (by kernel_rfl) (by kernel_rfl) (by kernel_rfl) ?y9n5 HBR ?_
                  case y9n5 => intro o' ho W hS; simp only [execOp, ho]; go_simp; try rfl
                  simp only [Act.put, List.setIfInBounds_toArray, List.set_cons_zero, List.set_cons_succ]
                  refine heldTake (d := some 50) (op := .fieldAddr 34 (Operand.tmp 49) 0) (g := some (2, false)) 10 ?v10n5 rfl (by kernel_rfl) (by kernel_rfl) (by kernel_rfl) (by kernel_rfl) ?y10n5 HBR ?_
                  case y10n5 => intro o' ho W hS; simp only [execOp, ho]; go_simp; try rfl
                  simp only [Act.put, List.setIfInBounds_toArray, List.set_cons_zero, List.set_cons_succ]
                  refine heldTake (d := some 51) (op := .load 9 (Operand.tmp 50)) (g := some (2, false)) 11 ?v11n5 rfl (by kernel_rfl) (by kernel_rfl) (by kernel_rfl) (by kernel_rfl) ?y11n5 HBR ?_
                  case y11n5 => intro o' ho W hS; obtain ⟨f0, f1, f2⟩ := ((HV0.out.below HWy.out).below hS).at3 j hjl HFJ.out; simp only [execOp, ho]; go_simp; try rfl
                  simp only [Act.put, List.setIfInBounds_toArray, List.set_cons_zero, List.set_cons_succ]
                  refine heldTake (d := some 52) (op := .call { callee := Callee.builtin Builtin.len, args := #[Operand.tmp 51], argTypes := #[9] }) (g := some (2, false)) 12 ?v12n5 rfl (by kernel_rfl) (by kernel_rfl) (by kernel_rfl) (by kernel_rfl) ?y12n5 HBR ?_
                  case y12n5 => intro o' ho W hS; simp only [execOp, ho]; go_simp; try rfl
                  simp only [Act.put, List.setIfInBounds_toArray, List.set_cons_zero, List.set_cons_succ]
                  refine heldTake (d := some 53) (op := .binOp BinOp.gtr 3 (Operand.tmp 45) (Operand.tmp 52) 3) (g := some (2, false)) 13 (.bool false) rfl (by kernel_rfl) (by kernel_rfl) (by kernel_rfl) (by kernel_rfl) ?y13n5 HBR ?_
                  case y13n5 => intro o' ho W hS; exact by simp only [execOp, ho]; go_simp; try rfl
                  simp only [Act.put, List.setIfInBounds_toArray, List.set_cons_zero, List.set_cons_succ]
                  refine heldTake (d := some 54) (op := .pick (Operand.tmp 42) (Operand.const (Value.bool true)) (Operand.tmp 53)) (g := none) 14 (.bool false) rfl (by kernel_rfl) (by kernel_rfl) (by kernel_rfl) (by kernel_rfl) ?y14n5 HBR ?_
                  case y14n5 => intro o' ho W hS; exact by simp only [execOp, ho]; go_simp; try rfl
                  simp only [Act.put, List.setIfInBounds_toArray, List.set_cons_zero, List.set_cons_succ]
                  refine heldTake (d := some 55) (op := .move (Operand.tmp 54)) (g := none) 15 (.bool false) rfl (by kernel_rfl) (by kernel_rfl) (by kernel_rfl) (by kernel_rfl) ?y15n5 HBR ?_
                  case y15n5 => intro o' ho W hS; exact by simp only [execOp, ho]; go_simp; try rfl
                  simp only [Act.put, List.setIfInBounds_toArray, List.set_cons_zero, List.set_cons_succ]
                  refine heldTake (d := some 56) (op := .fieldAddr 34 (Operand.tmp 10) 0) (g := some (15, false)) 16 ?v16n5 rfl (by kernel_rfl) (by kernel_rfl) (by kernel_rfl) (by kernel_rfl) ?y16n5 HBR ?_
                  case y16n5 => intro o' ho W hS; simp only [execOp, ho]; go_simp; try rfl
                  simp only [Act.put, List.setIfInBounds_toArray, List.set_cons_zero, List.set_cons_succ]
                  refine heldTake (d := some 57) (op := .load 9 (Operand.tmp 56)) (g := some (15, false)) 17 ?v17n5 rfl (by kernel_rfl) (by kernel_rfl) (by kernel_rfl) (by kernel_rfl) ?y17n5 HBR ?_
                  case y17n5 => intro o' ho W hS; obtain ⟨f0, f1, f2⟩ := rt_cells (below_key HC.out hS); simp only [execOp, ho]; go_simp; try rfl
                  simp only [Act.put, List.setIfInBounds_toArray, List.set_cons_zero, List.set_cons_succ]
                  refine heldTake (d := some 58) (op := .call { callee := Callee.builtin Builtin.len, args := #[Operand.tmp 57], argTypes := #[9] }) (g := some (15, false)) 18 ?v18n5 rfl (by kernel_rfl) (by kernel_rfl) (by kernel_rfl) (by kernel_rfl) ?y18n5 HBR ?_
                  case y18n5 => intro o' ho W hS; simp only [execOp, ho]; go_simp; try rfl
                  simp only [Act.put, List.setIfInBounds_toArray, List.set_cons_zero, List.set_cons_succ]
                  refine heldTake (d := some 59) (op := .fieldAddr 25 (Operand.tmp 3) 0) (g := some (15, false)) 19 ?v19n5 rfl (by kernel_rfl) (by kernel_rfl) (by kernel_rfl) (by kernel_rfl) ?y19n5 HBR ?_
                  case y19n5 => intro o' ho W hS; simp only [execOp, ho]; go_simp; try rfl
                  simp only [Act.put, List.setIfInBounds_toArray, List.set_cons_zero, List.set_cons_succ]
                  refine heldTake (d := some 60) (op := .load 22 (Operand.tmp 59)) (g := some (15, false)) 20 ?v20n5 rfl (by kernel_rfl) (by kernel_rfl) (by kernel_rfl) (by kernel_rfl) ?y20n5 HBR ?_
                  case y20n5 => intro o' ho W hS; have f0 : W.cell? ⟨g3, 0, none⟩ = some (.slice (some ⟨sb, so, none⟩) n1 c1) := cell_at (below_key HXy.out hS) 0 _ rfl; simp only [execOp, ho]; go_simp; try rfl
                  simp only [Act.put, List.setIfInBounds_toArray, List.set_cons_zero, List.set_cons_succ]
                  refine heldTake (d := some 61) (op := .move (Operand.tmp 8)) (g := some (15, false)) 21 ?v21n5 rfl (by kernel_rfl) (by kernel_rfl) (by kernel_rfl) (by kernel_rfl) ?y21n5 HBR ?_
                  case y21n5 => intro o' ho W hS; simp only [execOp, ho]; go_simp; try rfl
                  simp only [Act.put, List.setIfInBounds_toArray, List.set_cons_zero, List.set_cons_succ]
                  refine heldTake (d := some 62) (op := .indexAddr 22 (Operand.tmp 60) (Operand.tmp 61)) (g := some (15, false)) 22 ?v22n5 rfl (by kernel_rfl) (by kernel_rfl) (by kernel_rfl) (by kernel_rfl) ?y22n5 HBR ?_
                  case y22n5 => intro o' ho W hS; simp only [execOp, ho]; go_simp; try rfl
                  simp only [Act.put, List.setIfInBounds_toArray, List.set_cons_zero, List.set_cons_succ]
                  refine heldTake (d := some 63) (op := .fieldAddr 34 (Operand.tmp 62) 0) (g := some (15, false)) 23 ?v23n5 rfl (by kernel_rfl) (by kernel_rfl) (by kernel_rfl) (by kernel_rfl) ?y23n5 HBR ?_
                  case y23n5 => intro o' ho W hS; simp only [execOp, ho]; go_simp; try rfl
                  simp only [Act.put, List.setIfInBounds_toArray, List.set_cons_zero, List.set_cons_succ]
                  refine heldTake (d := some 64) (op := .load 9 (Operand.tmp 63)) (g := some (15, false)) 24 ?v24n5 rfl (by kernel_rfl) (by kernel_rfl) (by kernel_rfl) (by kernel_rfl) ?y24n5 HBR ?_
                  case y24n5 => intro o' ho W hS; obtain ⟨f0, f1, f2⟩ := ((HV0.out.below HWy.out).below hS).at3 j hjl HFJ.out; simp only [execOp, ho]; go_simp; try rfl
                  simp only [Act.put, List.setIfInBounds_toArray, List.set_cons_zero, List.set_cons_succ]
                  refine heldTake (d := some 65) (op := .call { callee := Callee.builtin Builtin.len, args := #[Operand.tmp 64], argTypes := #[9] }) (g := some (15, false)) 25 ?v25n5 rfl (by kernel_rfl) (by kernel_rfl) (by kernel_rfl) (by kernel_rfl) ?y25n5 HBR ?_
                  case y25n5 => intro o' ho W hS; simp only [execOp, ho]; go_simp; try rfl
                  simp only [Act.put, List.setIfInBounds_toArray, List.set_cons_zero, List.set_cons_succ]
                  refine heldTake (d := some 66) (op := .binOp BinOp.eql 3 (Operand.tmp 58) (Operand.tmp 65) 3) (g := some (15, false)) 26 (.bool true) rfl (by kernel_rfl) (by kernel_rfl) (by kernel_rfl) (by kernel_rfl) ?y26n5 HBR ?_
                  case y26n5 => intro o' ho W hS; exact by simp only [execOp, ho]; go_simp; try rfl
                  simp only [Act.put, List.setIfInBounds_toArray, List.set_cons_zero, List.set_cons_succ]
                  refine heldTake (d := some 67) (op := .move (Operand.tmp 66)) (g := some (15, false)) 27 (.bool true) rfl (by kernel_rfl) (by kernel_rfl) (by kernel_rfl) (by kernel_rfl) ?y27n5 HBR ?_
                  case y27n5 => intro o' ho W hS; exact by simp only [execOp, ho]; go_simp; try rfl
                  simp only [Act.put, List.setIfInBounds_toArray, List.set_cons_zero, List.set_cons_succ]
                  refine heldTake (d := some 68) (op := .fieldAddr 25 (Operand.tmp 3) 0) (g := some (27, true)) 28 ?v28n5 rfl (by kernel_rfl) (by kernel_rfl) (by kernel_rfl) (by kernel_rfl) ?y28n5 HBR ?_
                  case y28n5 => intro o' ho W hS; simp only [execOp, ho]; go_simp; try rfl
                  simp only [Act.put, List.setIfInBounds_toArray, List.set_cons_zero, List.set_cons_succ]
                  refine heldTake (d := some 69) (op := .load 22 (Operand.tmp 68)) (g := some (27, true)) 29 ?v29n5 rfl (by kernel_rfl) (by kernel_rfl) (by kernel_rfl) (by kernel_rfl) ?y29n5 HBR ?_
                  case y29n5 => intro o' ho W hS; have f0 : W.cell? ⟨g3, 0, none⟩ = some (.slice (some ⟨sb, so, none⟩) n1 c1) := cell_at (below_key HXy.out hS) 0 _ rfl; simp only [execOp, ho]; go_simp; try rfl
                  simp only [Act.put, List.setIfInBounds_toArray, List.set_cons_zero, List.set_cons_succ]
                  refine heldTake (d := some 70) (op := .move (Operand.tmp 8)) (g := some (27, true)) 30 ?v30n5 rfl (by kernel_rfl) (by kernel_rfl) (by kernel_rfl) (by kernel_rfl) ?y30n5 HBR ?_
                  case y30n5 => intro o' ho W hS; simp only [execOp, ho]; go_simp; try rfl
                  simp only [Act.put, List.setIfInBounds_toArray, List.set_cons_zero, List.set_cons_succ]
                  refine heldTake (d := some 71) (op := .indexAddr 22 (Operand.tmp 69) (Operand.tmp 70)) (g := some (27, true)) 31 ?v31n5 rfl (by kernel_rfl) (by kernel_rfl) (by kernel_rfl) (by kernel_rfl) ?y31n5 HBR ?_
                  case y31n5 => intro o' ho W hS; simp only [execOp, ho]; go_simp; try rfl
                  simp only [Act.put, List.setIfInBounds_toArray, List.set_cons_zero, List.set_cons_succ]
                  refine heldTake (d := some 72) (op := .fieldAddr 34 (Operand.tmp 71) 1) (g := some (27, true)) 32 ?v32n5 rfl (by kernel_rfl) (by kernel_rfl) (by kernel_rfl) (by kernel_rfl) ?y32n5 HBR ?_
                  case y32n5 => intro o' ho W hS; simp only [execOp, ho]; go_simp; try rfl
                  simp only [Act.put, List.setIfInBounds_toArray, List.set_cons_zero, List.set_cons_succ]
                  refine heldTake (d := some 73) (op := .load 9 (Operand.tmp 72)) (g := some (27, true)) 33 ?v33n5 rfl (by kernel_rfl) (by kernel_rfl) (by kernel_rfl) (by kernel_rfl) ?y33n5 HBR ?_
                  case y33n5 => intro o' ho W hS; obtain ⟨f0, f1, f2⟩ := ((HV0.out.below HWy.out).below hS).at3 j hjl HFJ.out; simp only [execOp, ho]; go_simp; try rfl
                  simp only [Act.put, List.setIfInBounds_toArray, List.set_cons_zero, List.set_cons_succ]
                  refine heldTake (d := some 74) (op := .binOp BinOp.eql 9 (Operand.tmp 73) (Operand.const (Value.string { data := #[] })) 9) (g := some (27, true)) 34 (.bool false) rfl (by kernel_rfl) (by kernel_rfl) (by kernel_rfl) (by kernel_rfl) ?y34n5 HBR ?_
                  case y34n5 => intro o' ho W hS; exact by simp only [execOp, ho]; go_simp; try rfl
                  simp only [Act.put, List.setIfInBounds_toArray, List.set_cons_zero, List.set_cons_succ]
                  refine heldTake (d := some 75) (op := .pick (Operand.tmp 67) (Operand.tmp 74) (Operand.const (Value.bool false))) (g := some (15, false)) 35 (.bool false) rfl (by kernel_rfl) (by kernel_rfl) (by kernel_rfl) (by kernel_rfl) ?y35n5 HBR ?_
                  case y35n5 => intro o' ho W hS; exact by simp only [execOp, ho]; go_simp; try rfl
                  simp only [Act.put, List.setIfInBounds_toArray, List.set_cons_zero, List.set_cons_succ]
                  refine heldTake (d := some 76) (op := .move (Operand.tmp 75)) (g := some (15, false)) 36 (.bool false) rfl (by kernel_rfl) (by kernel_rfl) (by kernel_rfl) (by kernel_rfl) ?y36n5 HBR ?_
                  case y36n5 => intro o' ho W hS; exact by simp only [execOp, ho]; go_simp; try rfl
                  simp only [Act.put, List.setIfInBounds_toArray, List.set_cons_zero, List.set_cons_succ]
                  refine heldSkip (d := some 77) (op := .fieldAddr 34 (Operand.tmp 10) 1) (g := some (36, true)) 37 rfl (by kernel_rfl) (by kernel_rfl) (by kernel_rfl) (by kernel_rfl) HBR ?_
                  simp only [Act.put, List.setIfInBounds_toArray, List.set_cons_zero, List.set_cons_succ]
                  refine heldSkip (d := some 78) (op := .load 9 (Operand.tmp 77)) (g := some (36, true)) 38 rfl (by kernel_rfl) (by kernel_rfl) (by kernel_rfl) (by kernel_rfl) HBR ?_
                  simp only [Act.put, List.setIfInBounds_toArray, List.set_cons_zero, List.set_cons_succ]
                  refine heldSkip (d := some 79) (op := .binOp BinOp.neq 9 (Operand.tmp 78) (Operand.const (Value.string { data := #[] })) 9) (g := some (36, true)) 39 rfl (by kernel_rfl) (by kernel_rfl) (by kernel_rfl) (by kernel_rfl) HBR ?_
                  simp only [Act.put, List.setIfInBounds_toArray, List.set_cons_zero, List.set_cons_succ]
                  refine heldTake (d := some 80) (op := .pick (Operand.tmp 76) (Operand.tmp 79) (Operand.const (Value.bool false))) (g := some (15, false)) 40 (.bool false) rfl (by kernel_rfl) (by kernel_rfl) (by kernel_rfl) (by kernel_rfl) ?y40n5 HBR ?_
                  case y40n5 => intro o' ho W hS; exact by simp only [execOp, ho]; go_simp; try rfl
                  simp only [Act.put, List.setIfInBounds_toArray, List.set_cons_zero, List.set_cons_succ]
                  refine heldTake (d := some 81) (op := .pick (Operand.tmp 55) (Operand.const (Value.bool true)) (Operand.tmp 80)) (g := none) 41 (.bool false) rfl (by kernel_rfl) (by kernel_rfl) (by kernel_rfl) (by kernel_rfl) ?y41n5 HBR ?_
                  case y41n5 => intro o' ho W hS; exact by simp only [execOp, ho]; go_simp; try rfl
                  simp only [Act.put, List.setIfInBounds_toArray, List.set_cons_zero, List.set_cons_succ]
                  refine wpAnyH_done (by kernel_rfl) ?_ _
                  refine NoPanic.normal ?_
                  have HXz := Sl.mk (below_key HXy.out HBR)
                  have HYz := Sl.mk (below_key HYy.out HBR)
                  have HBq : Sl (Below g3 W Rw) := ⟨HBz.out.trans (HBR.mono HSY.out)⟩
                  go_wp2
                  exact ⟨⟨k + 1, (j : Int), by omega, by go_num, rfl, ⟨.inr ⟨j, rfl, by omega, hjl, by rw [HST.out, if_neg (by rw [HQ.out]; decide)]⟩⟩, HBq, HXz, HYz⟩, by simp [intOf]; omega⟩
              · have h2' : ((x.size : Int) == (x'.size : Int)) = false := beq_eq_false_iff_ne.2 (by omega)
                have HQ : Sl (better ⟨bytes x', bytes y', bytes u'⟩ ⟨bytes x, bytes y, bytes u⟩ = false) := ⟨by rw [HBT.out, decide_eq_false h1, decide_eq_false h2]; rfl⟩
                clear h2 h1
                obtain ⟨Rw, hRw⟩ : ∃ R, wy.drew = R := ⟨_, rfl⟩
                have HBR : Below wy.heap.size wy Rw := by rw [← hRw]; exact (Below.refl _ _).drew
                refine wp_region_noPanic ?_
                refine wp_region_held (S := fun V => Below wy.heap.size wy V) (by kernel_rfl) ?_
                change wpAnyH _ _ _ _ _ _ _ _ wy.drew
                rw [hRw]
                clear hRw
                refine heldTake (d := some 40) (op := .move (Operand.tmp 8)) (g := none) 0 ?v0n6 rfl (by kernel_rfl) (by kernel_rfl) (by kernel_rfl) (by kernel_rfl) ?y0n6 HBR ?_
                case y0n6 => intro o' ho W hS; simp only [execOp, ho]; go_simp; try rfl
                simp only [Act.put, List.setIfInBounds_toArray, List.set_cons_zero, List.set_cons_succ]
                refine heldTake (d := some 41) (op := .binOp BinOp.lss 3 (Operand.tmp 40) (Operand.const (Value.int IntKind.i64 0)) 3) (g := none) 1 (.bool false) rfl (by kernel_rfl) (by kernel_rfl) (by kernel_rfl) (by kernel_rfl) ?y1n6 HBR ?_
                case y1n6 => intro o' ho W hS; exact by simp only [execOp, ho]; go_simp; try rfl
                simp only [Act.put, List.setIfInBounds_toArray, List.set_cons_zero, List.set_cons_succ]
                refine heldTake (d := some 42) (op := .move (Operand.tmp 41)) (g := none) 2 (.bool false) rfl (by kernel_rfl) (by kernel_rfl) (by kernel_rfl) (by kernel_rfl) ?y2n6 HBR ?_
                case y2n6 => intro o' ho W hS; exact by simp only [execOp, ho]; go_simp; try rfl
                simp only [Act.put, List.setIfInBounds_toArray, List.set_cons_zero, List.set_cons_succ]
                refine heldTake (d := some 43) (op := .fieldAddr 34 (Operand.tmp 10) 0) (g := some (2, false)) 3 ?v3n6 rfl (by kernel_rfl) (by kernel_rfl) (by kernel_rfl) (by kernel_rfl) ?y3n6 HBR ?_
                case y3n6 => intro o' ho W hS; simp only [execOp, ho]; go_simp; try rfl
                simp only [Act.put, List.setIfInBounds_toArray, List.set_cons_zero, List.set_cons_succ]
                refine heldTake (d := some 44) (op := .load 9 (Operand.tmp 43)) (g := some (2, false)) 4 ?v4n6 rfl (by kernel_rfl) (by kernel_rfl) (by kernel_rfl) (by kernel_rfl) ?y4n6 HBR ?_
                case y4n6 => intro o' ho W hS; obtain ⟨f0, f1, f2⟩ := rt_cells (below_key HC.out hS); simp only [execOp, ho]; go_simp; try rfl
                simp only [Act.put, List.setIfInBounds_toArray, List.set_cons_zero, List.set_cons_succ]
                refine heldTake (d := some 45) (op := .call { callee := Callee.builtin Builtin.len, args := #[Operand.tmp 44], argTypes := #[9] }) (g := some (2, false)) 5 ?v5n6 rfl (by kernel_rfl) (by kernel_rfl) (by kernel_rfl) (by kernel_rfl) ?y5n6 HBR ?_
                case y5n6 => intro o' ho W hS; simp only [execOp, ho]; go_simp; try rfl
                simp only [Act.put, List.setIfInBounds_toArray, List.set_cons_zero, List.set_cons_succ]
                refine heldTake (d := some 46) (op := .fieldAddr 25 (Operand.tmp 3) 0) (g := some (2, false)) 6 ?v6n6 rfl (by kernel_rfl) (by kernel_rfl) (by kernel_rfl) (by kernel_rfl) ?y6n6 HBR ?_
                case y6n6 => intro o' ho W hS; simp only [execOp, ho]; go_simp; try rfl
                simp only [Act.put, List.setIfInBounds_toArray, List.set_cons_zero, List.set_cons_succ]
                refine heldTake (d := some 47) (op := .load 22 (Operand.tmp 46)) (g := some (2, false)) 7 ?v7n6 rfl (by kernel_rfl) (by kernel_rfl) (by kernel_rfl) (by kernel_rfl) ?y7n6 HBR ?_
                case y7n6 => intro o' ho W hS; have f0 : W.cell? ⟨g3, 0, none⟩ = some (.slice (some ⟨sb, so, none⟩) n1 c1) := cell_at (below_key HXy.out hS) 0 _ rfl; simp only [execOp, ho]; go_simp; try rfl
                simp only [Act.put, List.setIfInBounds_toArray, List.set_cons_zero, List.set_cons_succ]
                refine heldTake (d := some 48) (op := .move (Operand.tmp 8)) (g := some (2, false)) 8 ?v8n6 rfl (by kernel_rfl) (by kernel_rfl) (by kernel_rfl) (by kernel_rfl) ?y8n6 HBR ?_
                case y8n6 => intro o' ho W hS; simp only [execOp, ho]; go_simp; try rfl
                simp only [Act.put, List.setIfInBounds_toArray, List.set_cons_zero, List.set_cons_succ]
                refine heldTake (d := some 49) (op := .indexAddr 22 (Operand.tmp 47) (Operand.tmp 48)) (g := some (2, false)) 9 ?v9n6 rfl (by kernel_rfl) (by kernel_rfl) (by kernel_rfl) (by kernel_rfl) ?y9n6 HBR ?_
                case y9n6 => intro o' ho W hS; simp only [execOp, ho]; go_simp; try rfl
                simp only [Act.put, List.setIfInBounds_toArray, List.set_cons_zero, List.set_cons_succ]
                refine heldTake (d := some 50) (op := .fieldAddr 34 (Operand.tmp 49) 0) (g := some (2, false)) 10 ?v10n6 rfl (by kernel_rfl) (by kernel_rfl) (by kernel_rfl) (by kernel_rfl) ?y10n6 HBR ?_
                case y10n6 => intro o' ho W hS; simp only [execOp, ho]; go_simp; try rfl
                simp only [Act.put, List.setIfInBounds_toArray, List.set_cons_zero, List.set_cons_succ]
                refine heldTake (d := some 51) (op := .load 9 (Operand.tmp 50)) (g := some (2, false)) 11 ?v11n6 rfl (by kernel_rfl) (by kernel_rfl) (by kernel_rfl) (by kernel_rfl) ?y11n6 HBR ?_
                case y11n6 => intro o' ho W hS; obtain ⟨f0, f1, f2⟩ := ((HV0.out.below HWy.out).below hS).at3 j hjl HFJ.out; simp only [execOp, ho]; go_simp; try rfl
                simp only [Act.put, List.setIfInBounds_toArray, List.set_cons_zero, List.set_cons_succ]
                refine heldTake (d := some 52) (op := .call { callee := Callee.builtin Builtin.len, args := #[Operand.tmp 51], argTypes := #[9] }) (g := some (2, false)) 12 ?v12n6 rfl (by kernel_rfl) (by kernel_rfl) (by kernel_rfl) (by kernel_rfl) ?y12n6 HBR ?_
                case y12n6 => intro o' ho W hS; simp only [execOp, ho]; go_simp; try rfl
                simp only [Act.put, List.setIfInBounds_toArray, List.set_cons_zero, List.set_cons_succ]
                refine heldTake (d := some 53) (op := .binOp BinOp.gtr 3 (Operand.tmp 45) (Operand.tmp 52) 3) (g := some (2, false)) 13 (.bool false) rfl (by kernel_rfl) (by kernel_rfl) (by kernel_rfl) (by kernel_rfl) ?y13n6 HBR ?_
                case y13n6 => intro o' ho W hS; exact by simp only [execOp, ho]; go_simp; try rfl
                simp only [Act.put, List.setIfInBounds_toArray, List.set_cons_zero, List.set_cons_succ]
                refine heldTake (d := some 54) (op := .pick (Operand.tmp 42) (Operand.const (Value.bool true)) (Operand.tmp 53)) (g := none) 14 (.bool false) rfl (by kernel_rfl) (by kernel_rfl) (by kernel_rfl) (by kernel_rfl) ?y14n6 HBR ?_
                case y14n6 => intro o' ho W hS; exact by simp only [execOp, ho]; go_simp; try rfl
                simp only [Act.put, List.setIfInBounds_toArray, List.set_cons_zero, List.set_cons_succ]
                refine heldTake (d := some 55) (op := .move (Operand.tmp 54)) (g := none) 15 (.bool false) rfl (by kernel_rfl) (by kernel_rfl) (by kernel_rfl) (by kernel_rfl) ?y15n6 HBR ?_
                case y15n6 => intro o' ho W hS; exact by simp only [execOp, ho]; go_simp; try rfl
                simp only [Act.put, List.setIfInBounds_toArray, List.set_cons_zero, List.set_cons_succ]
                refine heldTake (d := some 56) (op := .fieldAddr 34 (Operand.tmp 10) 0) (g := some (15, false)) 16 ?v16n6 rfl (by kernel_rfl) (by kernel_rfl) (by kernel_rfl) (by kernel_rfl) ?y16n6 HBR ?_
                case y16n6 => intro o' ho W hS; simp only [execOp, ho]; go_simp; try rfl
                simp only [Act.put, List.setIfInBounds_toArray, List.set_cons_zero, List.set_cons_succ]
                refine heldTake (d := some 57) (op := .load 9 (Operand.tmp 56)) (g := some (15, false)) 17 ?v17n6 rfl (by kernel_rfl) (by kernel_rfl) (by kernel_rfl) (by kernel_rfl) ?y17n6 HBR ?_
                case y17n6 => intro o' ho W hS; obtain ⟨f0, f1, f2⟩ := rt_cells (below_key HC.out hS); simp only [execOp, ho]; go_simp; try rfl
                simp only [Act.put, List.setIfInBounds_toArray, List.set_cons_zero, List.set_cons_succ]
                refine heldTake (d := some 58) (op := .call { callee := Callee.builtin Builtin.len, args := #[Operand.tmp 57], argTypes := #[9] }) (g := some (15, false)) 18 ?v18n6 rfl (by kernel_rfl) (by kernel_rfl) (by kernel_rfl) (by kernel_rfl) ?y18n6 HBR ?_
                case y18n6 => intro o' ho W hS; simp only [execOp, ho]; go_simp; try rfl
                simp only [Act.put, List.setIfInBounds_toArray, List.set_cons_zero, List.set_cons_succ]
                refine heldTake (d := some 59) (op := .fieldAddr 25 (Operand.tmp 3) 0) (g := some (15, false)) 19 ?v19n6 rfl (by kernel_rfl) (by kernel_rfl) (by kernel_rfl) (by kernel_rfl) ?y19n6 HBR ?_
                case y19n6 => intro o' ho W hS; simp only [execOp, ho]; go_simp; try rfl
                simp only [Act.put, List.setIfInBounds_toArray, List.set_cons_zero, List.set_cons_succ]
                refine heldTake (d := some 60) (op := .load 22 (Operand.tmp 59)) (g := some (15, false)) 20 ?v20n6 rfl (by kernel_rfl) (by kernel_rfl) (by kernel_rfl) (by kernel_rfl) ?y20n6 HBR ?_
                case y20n6 => intro o' ho W hS; have f0 : W.cell? ⟨g3, 0, none⟩ = some (.slice (some ⟨sb, so, none⟩) n1 c1) := cell_at (below_key HXy.out hS) 0 _ rfl; simp only [execOp, ho]; go_simp; try rfl
                simp only [Act.put, List.setIfInBounds_toArray, List.set_cons_zero, List.set_cons_succ]
                refine heldTake (d := some 61) (op := .move (Operand.tmp 8)) (g := some (15, false)) 21 ?v21n6 rfl (by kernel_rfl) (by kernel_rfl) (by kernel_rfl) (by kernel_rfl) ?y21n6 HBR ?_
                case y21n6 => intro o' ho W hS; simp only [execOp, ho]; go_simp; try rfl
                simp only [Act.put, List.setIfInBounds_toArray, List.set_cons_zero, List.set_cons_succ]
                refine heldTake (d := some 62) (op := .indexAddr 22 (Operand.tmp 60) (Operand.tmp 61)) (g := some (15, false)) 22 ?v22n6 rfl (by kernel_rfl) (by kernel_rfl) (by kernel_rfl) (by kernel_rfl) ?y22n6 HBR ?_
                case y22n6 => intro o' ho W hS; simp only [execOp, ho]; go_simp; try rfl
                simp only [Act.put, List.setIfInBounds_toArray, List.set_cons_zero, List.set_cons_succ]
                refine heldTake (d := some 63) (op := .fieldAddr 34 (Operand.tmp 62) 0) (g := some (15, false)) 23 ?v23n6 rfl (by kernel_rfl) (by kernel_rfl) (by kernel_rfl) (by kernel_rfl) ?y23n6 HBR ?_
                case y23n6 => intro o' ho W hS; simp only [execOp, ho]; go_simp; try rfl
                simp only [Act.put, List.setIfInBounds_toArray, List.set_cons_zero, List.set_cons_succ]
                refine heldTake (d := some 64) (op := .load 9 (Operand.tmp 63)) (g := some (15, false)) 24 ?v24n6 rfl (by kernel_rfl) (by kernel_rfl) (by kernel_rfl) (by kernel_rfl) ?y24n6 HBR ?_
                case y24n6 => intro o' ho W hS; obtain ⟨f0, f1, f2⟩ := ((HV0.out.below HWy.out).below hS).at3 j hjl HFJ.out; simp only [execOp, ho]; go_simp; try rfl
                simp only [Act.put, List.setIfInBounds_toArray, List.set_cons_zero, List.set_cons_succ]
                refine heldTake (d := some 65) (op := .call { callee := Callee.builtin Builtin.len, args := #[Operand.tmp 64], argTypes := #[9] }) (g := some (15, false)) 25 ?v25n6 rfl (by kernel_rfl) (by kernel_rfl) (by kernel_rfl) (by kernel_rfl) ?y25n6 HBR ?_
                case y25n6 => intro o' ho W hS; simp only [execOp, ho]; go_simp; try rfl
                simp only [Act.put, List.setIfInBounds_toArray, List.set_cons_zero, List.set_cons_succ]
                refine heldTake (d := some 66) (op := .binOp BinOp.eql 3 (Operand.tmp 58) (Operand.tmp 65) 3) (g := some (15, false)) 26 (.bool false) rfl (by kernel_rfl) (by kernel_rfl) (by kernel_rfl) (by kernel_rfl) ?y26n6 HBR ?_
                case y26n6 => intro o' ho W hS; exact by simp only [execOp, ho]; go_simp; try rfl
                simp only [Act.put, List.setIfInBounds_toArray, List.set_cons_zero, List.set_cons_succ]
                refine heldTake (d := some 67) (op := .move (Operand.tmp 66)) (g := some (15, false)) 27 (.bool false) rfl (by kernel_rfl) (by kernel_rfl) (by kernel_rfl) (by kernel_rfl) ?y27n6 HBR ?_
                case y27n6 => intro o' ho W hS; exact by simp only [execOp, ho]; go_simp; try rfl
                simp only [Act.put, List.setIfInBounds_toArray, List.set_cons_zero, List.set_cons_succ]
                refine heldSkip (d := some 68) (op := .fieldAddr 25 (Operand.tmp 3) 0) (g := some (27, true)) 28 rfl (by kernel_rfl) (by kernel_rfl) (by kernel_rfl) (by kernel_rfl) HBR ?_
                simp only [Act.put, List.setIfInBounds_toArray, List.set_cons_zero, List.set_cons_succ]
                refine heldSkip (d := some 69) (op := .load 22 (Operand.tmp 68)) (g := some (27, true)) 29 rfl (by kernel_rfl) (by kernel_rfl) (by kernel_rfl) (by kernel_rfl) HBR ?_
                simp only [Act.put, List.setIfInBounds_toArray, List.set_cons_zero, List.set_cons_succ]
                refine heldSkip (d := some 70) (op := .move (Operand.tmp 8)) (g := some (27, true)) 30 rfl (by kernel_rfl) (by kernel_rfl) (by kernel_rfl) (by kernel_rfl) HBR ?_
                simp only [Act.put, List.setIfInBounds_toArray, List.set_cons_zero, List.set_cons_succ]
                refine heldSkip (d := some 71) (op := .indexAddr 22 (Operand.tmp 69) (Operand.tmp 70)) (g := some (27, true)) 31 rfl (by kernel_rfl) (by kernel_rfl) (by kernel_rfl) (by kernel_rfl) HBR ?_
                simp only [Act.put, List.setIfInBounds_toArray, List.set_cons_zero, List.set_cons_succ]
                refine heldSkip (d := some 72) (op := .fieldAddr 34 (Operand.tmp 71) 1) (g := some (27, true)) 32 rfl (by kernel_rfl) (by kernel_rfl) (by kernel_rfl) (by kernel_rfl) HBR ?_
                simp only [Act.put, List.setIfInBounds_toArray, List.set_cons_zero, List.set_cons_succ]
                refine heldSkip (d := some 73) (op := .load 9 (Operand.tmp 72)) (g := some (27, true)) 33 rfl (by kernel_rfl) (by kernel_rfl) (by kernel_rfl) (by kernel_rfl) HBR ?_
                simp only [Act.put, List.setIfInBounds_toArray, List.set_cons_zero, List.set_cons_succ]
                refine heldSkip (d := some 74) (op := .binOp BinOp.eql 9 (Operand.tmp 73) (Operand.const (Value.string { data := #[] })) 9) (g := some (27, true)) 34 rfl (by kernel_rfl) (by kernel_rfl) (by kernel_rfl) (by kernel_rfl) HBR ?_
                simp only [Act.put, List.setIfInBounds_toArray, List.set_cons_zero, List.set_cons_succ]
                refine heldTake (d := some 75) (op := .pick (Operand.tmp 67) (Operand.tmp 74) (Operand.const (Value.bool false))) (g := some (15, false)) 35 (.bool false) rfl (by kernel_rfl) (by kernel_rfl) (by kernel_rfl) (by kernel_rfl) ?y35n6 HBR ?_
                case y35n6 => intro o' ho W hS; exact by simp only [execOp, ho]; go_simp; try rfl
                simp only [Act.put, List.setIfInBounds_toArray, List.set_cons_zero, List.set_cons_succ]
                refine heldTake (d := some 76) (op := .move (Operand.tmp 75)) (g := some (15, false)) 36 (.bool false) rfl (by kernel_rfl) (by kernel_rfl) (by kernel_rfl) (by kernel_rfl) ?y36n6 HBR ?_
                case y36n6 => intro o' ho W hS; exact by simp only [execOp, ho]; go_simp; try rfl
                simp only [Act.put, List.setIfInBounds_toArray, List.set_cons_zero, List.set_cons_succ]
                refine heldSkip (d := some 77) (op := .fieldAddr 34 (Operand.tmp 10) 1) (g := some (36, true)) 37 rfl (by kernel_rfl) (by kernel_rfl) (by kernel_rfl) (by kernel_rfl) HBR ?_
                simp only [Act.put, List.setIfInBounds_toArray, List.set_cons_zero, List.set_cons_succ]
                refine heldSkip (d := some 78) (op := .load 9 (Operand.tmp 77)) (g := some (36, true)) 38 rfl (by kernel_rfl) (by kernel_rfl) (by kernel_rfl) (by kernel_rfl) HBR ?_
                simp only [Act.put, List.setIfInBounds_toArray, List.set_cons_zero, List.set_cons_succ]
                refine heldSkip (d := some 79) (op := .binOp BinOp.neq 9 (Operand.tmp 78) (Operand.const (Value.string { data := #[] })) 9) (g := some (36, true)) 39 rfl (by kernel_rfl) (by kernel_rfl) (by kernel_rfl) (by kernel_rfl) HBR ?_
                simp only [Act.put, List.setIfInBounds_toArray, List.set_cons_zero, List.set_cons_succ]
                refine heldTake (d := some 80) (op := .pick (Operand.tmp 76) (Operand.tmp 79) (Operand.const (Value.bool false))) (g := some (15, false)) 40 (.bool false) rfl (by kernel_rfl) (by kernel_rfl) (by kernel_rfl) (by kernel_rfl) ?y40n6 HBR ?_
                case y40n6 => intro o' ho W hS; exact by simp only [execOp, ho]; go_simp; try rfl
                simp only [Act.put, List.setIfInBounds_toArray, List.set_cons_zero, List.set_cons_succ]
                refine heldTake (d := some 81) (op := .pick (Operand.tmp 55) (Operand.const (Value.bool true)) (Operand.tmp 80)) (g := none) 41 (.bool false) rfl (by kernel_rfl) (by kernel_rfl) (by kernel_rfl) (by kernel_rfl) ?y41n6 HBR ?_
                case y41n6 => intro o' ho W hS; exact by simp only [execOp, ho]; go_simp; try rfl
                simp only [Act.put, List.setIfInBounds_toArray, List.set_cons_zero, List.set_cons_succ]
                refine wpAnyH_done (by kernel_rfl) ?_ _
                refine NoPanic.normal ?_
                have HXz := Sl.mk (below_key HXy.out HBR)
                have HYz := Sl.mk (below_key HYy.out HBR)
                have HBq : Sl (Below g3 W Rw) := ⟨HBz.out.trans (HBR.mono HSY.out)⟩
                go_wp2
                exact ⟨⟨k + 1, (j : Int), by omega, by go_num, rfl, ⟨.inr ⟨j, rfl, by omega, hjl, by rw [HST.out, if_neg (by rw [HQ.out]; decide)]⟩⟩, HBq, HXz, HYz⟩, by simp [intOf]; omega⟩
    · obtain rfl : k = n1 := by omega
      have hge : ((k : Int) < (k : Int)) = False := eq_false (by omega)
      have hall : rs.take k = rs := List.take_of_length_le (by rw [HN1.out]; exact Nat.le_refl _)
      rw [hall] at HA
      obtain ⟨b, hb⟩ : ∃ b, bestB (bytes path) (ps.map bytes) rs = b := ⟨_, rfl⟩
      rw [hb] at HA
      have HBB := Sl.mk hb
      clear hb hall
      rcases HA.out with ⟨hz, hn⟩ | ⟨j, hz, hjk, hjl, hn⟩
      · subst hz hn
        go_wp2_with (refine wpList_store_row rfl 34 (.tmp 6) (.tmp 85) rfl g6 #[.string { data := #[] }, .string { data := #[] }, .string { data := #[] }] rfl rfl 34 #[.string { data := #[] }, .string { data := #[] }, .string { data := #[] }] HY.out (rt_info rfl) rfl (rt_all _ _ _) ?_)
        (try simp only [Exit.then, Exit.inBlock])
        refine bodyPost_ret (ret_rt rfl _ _ g6 _ rfl (setRow_heap _ _ _ _ _ _ HY.out) rfl) rfl ?_
        exact ⟨by rw [HBB.out]; rfl, ⟨below_setRow HB.out HL3.out _⟩⟩
      · subst hz hn
        obtain ⟨x, y, u, he⟩ : ∃ x y z, rs.getD j Rb0 = ⟨x, y, z⟩ := ⟨_, _, _, rfl⟩
        have HEE := Sl.mk he
        obtain ⟨sb, so, rfl⟩ := HV0.out.cap.2.2 (by omega)
        have hBW : Below W.heap.size W wr := by rw [HS0.out]; exact HB.out
        obtain ⟨c0, c1', c2'⟩ := (HV0.out.below hBW).at3 j hjl he
        have hj0 : ((j : Int) < 0) = False := eq_false (by omega)
        have hj1 : (0 : Int) ≤ (j : Int) := by omega
        have hj2 : (j : Int) < (k : Int) := by omega
        clear he
        go_wp2_with (refine wpList_store_row rfl 34 (.tmp 6) (.tmp 90) rfl g6 #[.string x, .string y, .string u] rfl rfl 34 #[.string { data := #[] }, .string { data := #[] }, .string { data := #[] }] HY.out (rt_info rfl) rfl (rt_all _ _ _) ?_)
        (try simp only [Exit.then, Exit.inBlock])
        refine bodyPost_ret (ret_rt rfl _ _ g6 _ rfl (setRow_heap _ _ _ _ _ _ HY.out) rfl) rfl ?_
        exact ⟨by rw [HBB.out, HEE.out]; rfl, ⟨below_setRow HB.out HL3.out _⟩⟩
set_option maxHeartbeats 8000000 in
theorem radmit_any (rs : List Rb) (a1 : Option Addr) (n1 c1 : Nat) (a2 : Option Addr) (n2 c2 : Nat) (tb ms fr ct bs ot sh id po cl : Int) (path host key origin : ByteArray) (pa : Option Addr) (pc : Nat) (ps : List ByteArray) (os : List ByteArray) (n : Int) (W : World) (hv : RtsAt W (.slice a1 n1 c1) rs) (ho : StrA W (.slice a2 n2 c2) os) (hol : os.length ≤ 1000000) (ok : ∀ r ∈ rs, Short r) (hl : rs.length ≤ 1000000) (hp : path.size ≤ maxLen) (hpv : StrA W (.slice pa ps.length pc) ps) (hpl : ps.length ≤ 1000000) (hps : ∀ s ∈ ps, s.size ≤ maxLen) :
    Calls Tryd.prog 18 #[.agg #[.slice a1 n1 c1, .slice a2 n2 c2, .int .i64 tb, .int .i64 ms, .int .i64 fr, .int .i64 ct, .int .i64 bs, .int .i64 ot, .int .i64 sh, .int .i64 id, .int .i64 po, .int .i64 cl], .agg #[.string path, .string host, .string key, .string origin, .slice pa ps.length pc], .int .i64 n] W fun en w' => en = .returned (admV (allowB origin os) (bestB (bytes path) (ps.map bytes) rs) (decide (tb ≤ n))) ∧ Sl (Below W.heap.size W w') := by
  obtain ⟨wa, g4, g6, hwa, HGG, HBa, HX, HO, HY⟩ := boxes3 W #[.slice a1 n1 c1, .slice a2 n2 c2, .int .i64 tb, .int .i64 ms, .int .i64 fr, .int .i64 ct, .int .i64 bs, .int .i64 ot, .int .i64 sh, .int .i64 id, .int .i64 po, .int .i64 cl] #[.string path, .string host, .string key, .string origin, .slice pa ps.length pc]
  obtain ⟨-, -, hg4, hg6⟩ := HGG.out
  have HN2 : Sl (n2 = os.length) := ⟨by obtain ⟨_, _, _, _, h, _⟩ := ho; injection h⟩
  obtain ⟨al, hal⟩ : ∃ a, allowB origin os = a := ⟨_, rfl⟩
  obtain ⟨b, hb⟩ : ∃ b, bestB (bytes path) (ps.map bytes) rs = b := ⟨_, rfl⟩
  have IN := Sl.mk (in_any origin os (.slice a2 n2 c2) wa (ho.below HBa.out) hol)
  rw [allow_eq] at hal
  obtain ⟨i1, hi1⟩ : ∃ i, decide (bytes origin ∈ os.map bytes) = i := ⟨_, rfl⟩
  rw [hi1] at hal IN
  rw [← HN2.out] at hal
  have HAL := Sl.mk hal
  have PK : Sl (∀ V, Below wa.heap.size wa V → Calls Tryd.prog 16 #[.agg #[.slice a1 n1 c1, .slice a2 n2 c2, .int .i64 tb, .int .i64 ms, .int .i64 fr, .int .i64 ct, .int .i64 bs, .int .i64 ot, .int .i64 sh, .int .i64 id, .int .i64 po, .int .i64 cl], .string path, .slice pa ps.length pc] V fun en w' => en = .returned (pickV b) ∧ Sl (Below V.heap.size V w')) := ⟨fun V h => by
    rw [← hb]
    exact rpick_any rs a1 n1 c1 a2 n2 c2 tb ms fr ct bs ot sh id po cl path (.slice pa ps.length pc) ps V ((hv.below HBa.out).below h) ok hl hp ((hpv.below HBa.out).below h) hpl hps⟩
  obtain ⟨g3, hg3⟩ : ∃ g, W.heap.size = g := ⟨_, rfl⟩
  have HSZ : Sl (g3 ≤ wa.heap.size) := ⟨by rw [← hg3]; exact HBa.out.size⟩
  have H34 : Sl (g3 < g4 ∧ g4 < g6) := ⟨by rw [← hg3]; exact ⟨HGG.out.1, HGG.out.2.1⟩⟩
  rw [allow_eq, hi1, ← HN2.out, hal]
  rw [hb, hg3]
  rw [hg3] at HX HBa
  clear hal hb hv ho ok hpv hps hp HGG hi1
  go_enter Tryd.func18, Tryd.ntmps18
  go_upto_region 1 with fail
  (try rw [hg4, hg6])
  (try rw [hg3])
  (try rw [hwa])
  clear hwa hg4 hg6
  have o3 := cell_at HO.out 3 _ rfl
  have x1 := cell_at HX.out 1 _ rfl
  by_cases h0 : n2 = 0
  · have h0' : ((n2 : Int) > 0) = False := eq_false (by omega)
    have h0'' : (0 < n2) = False := eq_false (by omega)
    obtain rfl : al = true := by rw [← HAL.out, decide_eq_true h0]; rfl
    clear h0 IN HAL
    have HB0 : Sl (Below wa.heap.size wa wa) := ⟨Below.refl _ _⟩
    have k0 := cell_at HX.out 0 _ rfl
    have k1 := cell_at HX.out 1 _ rfl
    have k2 := cell_at HX.out 2 _ rfl
    have k3 := cell_at HX.out 3 _ rfl
    have k4 := cell_at HX.out 4 _ rfl
    have k5 := cell_at HX.out 5 _ rfl
    have k6 := cell_at HX.out 6 _ rfl
    have k7 := cell_at HX.out 7 _ rfl
    have k8 := cell_at HX.out 8 _ rfl
    have k9 := cell_at HX.out 9 _ rfl
    have k10 := cell_at HX.out 10 _ rfl
    have k11 := cell_at HX.out 11 _ rfl
    have o0 := cell_at HO.out 0 _ rfl
    have o4 := cell_at HO.out 4 _ rfl
    go_wp2_with fail
    refine (PK.out _ HB0.out).mono ?_
    rintro e w2 ⟨rfl, HB2⟩
    clear PK k0 k1 k2 k3 k4 k5 k6 k7 k8 k9 k10 k11 o0 o4
    have HX2 := Sl.mk (below_key HX.out HB2.out)
    have HY2 := Sl.mk (below_key HY.out HB2.out)
    have HB3 : Sl (Below g3 W w2) := ⟨HBa.out.trans (HB2.out.mono HSZ.out)⟩
    have HB2s : Sl (wa.heap.size ≤ w2.heap.size) := ⟨HB2.out.size⟩
    clear HX HY HBa HO HB2
    obtain ⟨wx, hwx, HBx, hx⟩ := box_rt w2
    obtain ⟨⟨x, y, z⟩, hr⟩ : ∃ r, b.getD Rn = r := ⟨_, rfl⟩
    have HRB := Sl.mk hr
    obtain ⟨f, hf⟩ : ∃ f, b.isSome = f := ⟨_, rfl⟩
    have HF := Sl.mk hf
    unfold pickV rv3
    rw [hr, hf]
    simp only
    clear hr hf
    obtain ⟨wy, hwy, HBy, HP⟩ := set_rt hx HBx.out (Nat.le_refl _) #[.string x, .string y, .string z]
    have HY3 := Sl.mk (below_key HY2.out HBy.out)
    have HX3 := Sl.mk (below_key HX2.out HBy.out)
    have HB4 : Sl (Below g3 W wy) := ⟨HB3.out.trans (HBy.out.mono (Nat.le_trans HSZ.out HB2s.out))⟩
    have HI : (Tryd.prog.info? 34).map (·.size) = some (#[Value.string x, .string y, .string z] : Array Value).size := rt_info rfl
    go_upto_region 4 with (refine wpList_store_row rfl 34 (.tmp 8) (.tmp 30) rfl w2.heap.size #[.string x, .string y, .string z] rfl rfl 34 #[.string { data := #[] }, .string { data := #[] }, .string { data := #[] }] hx HI rfl (rt_all _ _ _) ?_)
    (try rw [hwy])
    obtain ⟨g8, hg8⟩ : ∃ g, w2.heap.size = g := ⟨_, rfl⟩
    rw [hg8] at HP
    (try rw [hg8])
    clear hwx hwy hx HBx HBy hg8 HX2 HY2 HB3
    have HY := HY3
    cases b with
    | none =>
      obtain rfl : f = false := HF.out.symm
      go_wp2_with (refine wpList_store_row rfl 34 (.tmp 6) (.tmp 34) rfl g6 #[.string { data := #[] }, .string { data := #[] }, .string { data := #[] }] rfl rfl 34 #[.string { data := #[] }, .string { data := #[] }, .string { data := #[] }] HY.out (rt_info rfl) rfl (rt_all _ _ _) ?_)
      (try simp only [Exit.then, Exit.inBlock])
      refine bodyPost_ret (ret_rt rfl _ _ g6 _ rfl (setRow_heap _ _ _ _ _ _ HY.out) rfl) rfl ?_
      exact ⟨rfl, ⟨below_setRow HB4.out (by have := H34.out; omega) _⟩⟩
    | some v =>
      obtain rfl : f = true := HF.out.symm
      have hv3 : v = ⟨x, y, z⟩ := HRB.out
      subst hv3
      have k2 := cell_at HX3.out 2 _ rfl
      by_cases hn : tb ≤ n
      · have hn' : (n ≥ tb) = True := eq_true hn
        have hd := decide_eq_true hn
        go_wp2_with (refine wpList_store_row rfl 34 (.tmp 6) (.tmp 39) rfl g6 #[.string { data := #[] }, .string { data := #[] }, .string { data := #[] }] rfl rfl 34 #[.string { data := #[] }, .string { data := #[] }, .string { data := #[] }] HY.out (rt_info rfl) rfl (rt_all _ _ _) ?_)
        (try simp only [Exit.then, Exit.inBlock])
        refine bodyPost_ret (ret_rt rfl _ _ g6 _ rfl (setRow_heap _ _ _ _ _ _ HY.out) rfl) rfl ?_
        exact ⟨by (try rw [hd]); rfl, ⟨below_setRow HB4.out (by have := H34.out; omega) _⟩⟩
      · have hn' : (n ≥ tb) = False := eq_false hn
        have hd := decide_eq_false hn
        have hn2 : n < tb := by omega
        obtain ⟨p0, p1, p2⟩ := rt_cells HP.out
        go_wp2_with (refine wpList_store_row rfl 34 (.tmp 6) (.tmp 40) rfl g6 #[.string x, .string y, .string z] rfl rfl 34 #[.string { data := #[] }, .string { data := #[] }, .string { data := #[] }] HY.out HI rfl (rt_all _ _ _) ?_)
        (try simp only [Exit.then, Exit.inBlock])
        refine bodyPost_ret (ret_rt rfl _ _ g6 _ rfl (setRow_heap _ _ _ _ _ _ HY.out) rfl) rfl ?_
        exact ⟨by (try rw [hd]); rfl, ⟨below_setRow HB4.out (by have := H34.out; omega) _⟩⟩
  · have h0' : ((n2 : Int) > 0) = True := eq_true (by omega)
    have h0'' : (0 < n2) = True := eq_true (by omega)
    have HAL2 : Sl (i1 = al) := ⟨by rw [← HAL.out, decide_eq_false h0]; rfl⟩
    clear h0 HAL
    go_wp2_with fail
    refine (IN.out).mono ?_
    rintro e w1 ⟨rfl, rfl⟩
    clear IN o3 x1
    cases i1 with
    | false =>
      obtain rfl := HAL2.out
      go_wp2_with (refine wpList_store_row rfl 34 (.tmp 6) (.tmp 22) rfl g6 #[.string { data := #[] }, .string { data := #[] }, .string { data := #[] }] rfl rfl 34 #[.string { data := #[] }, .string { data := #[] }, .string { data := #[] }] HY.out (rt_info rfl) rfl (rt_all _ _ _) ?_)
      (try simp only [Exit.then, Exit.inBlock])
      refine bodyPost_ret (ret_rt rfl _ _ g6 _ rfl (setRow_heap _ _ _ _ _ _ HY.out) rfl) rfl ?_
      exact ⟨rfl, ⟨below_setRow HBa.out (by have := H34.out; omega) _⟩⟩
    | true =>
      obtain rfl := HAL2.out
      have HB0 : Sl (Below wa.heap.size wa wa) := ⟨Below.refl _ _⟩
      have k0 := cell_at HX.out 0 _ rfl
      have k1 := cell_at HX.out 1 _ rfl
      have k2 := cell_at HX.out 2 _ rfl
      have k3 := cell_at HX.out 3 _ rfl
      have k4 := cell_at HX.out 4 _ rfl
      have k5 := cell_at HX.out 5 _ rfl
      have k6 := cell_at HX.out 6 _ rfl
      have k7 := cell_at HX.out 7 _ rfl
      have k8 := cell_at HX.out 8 _ rfl
      have k9 := cell_at HX.out 9 _ rfl
      have k10 := cell_at HX.out 10 _ rfl
      have k11 := cell_at HX.out 11 _ rfl
      have o0 := cell_at HO.out 0 _ rfl
      have o4 := cell_at HO.out 4 _ rfl
      go_wp2_with fail
      refine (PK.out _ HB0.out).mono ?_
      rintro e w2 ⟨rfl, HB2⟩
      clear PK k0 k1 k2 k3 k4 k5 k6 k7 k8 k9 k10 k11 o0 o4
      have HX2 := Sl.mk (below_key HX.out HB2.out)
      have HY2 := Sl.mk (below_key HY.out HB2.out)
      have HB3 : Sl (Below g3 W w2) := ⟨HBa.out.trans (HB2.out.mono HSZ.out)⟩
      have HB2s : Sl (wa.heap.size ≤ w2.heap.size) := ⟨HB2.out.size⟩
      clear HX HY HBa HO HB2
      obtain ⟨wx, hwx, HBx, hx⟩ := box_rt w2
      obtain ⟨⟨x, y, z⟩, hr⟩ : ∃ r, b.getD Rn = r := ⟨_, rfl⟩
      have HRB := Sl.mk hr
      obtain ⟨f, hf⟩ : ∃ f, b.isSome = f := ⟨_, rfl⟩
      have HF := Sl.mk hf
      unfold pickV rv3
      rw [hr, hf]
      simp only
      clear hr hf
      obtain ⟨wy, hwy, HBy, HP⟩ := set_rt hx HBx.out (Nat.le_refl _) #[.string x, .string y, .string z]
      have HY3 := Sl.mk (below_key HY2.out HBy.out)
      have HX3 := Sl.mk (below_key HX2.out HBy.out)
      have HB4 : Sl (Below g3 W wy) := ⟨HB3.out.trans (HBy.out.mono (Nat.le_trans HSZ.out HB2s.out))⟩
      have HI : (Tryd.prog.info? 34).map (·.size) = some (#[Value.string x, .string y, .string z] : Array Value).size := rt_info rfl
      go_upto_region 4 with (refine wpList_store_row rfl 34 (.tmp 8) (.tmp 30) rfl w2.heap.size #[.string x, .string y, .string z] rfl rfl 34 #[.string { data := #[] }, .string { data := #[] }, .string { data := #[] }] hx HI rfl (rt_all _ _ _) ?_)
      (try rw [hwy])
      obtain ⟨g8, hg8⟩ : ∃ g, w2.heap.size = g := ⟨_, rfl⟩
      rw [hg8] at HP
      (try rw [hg8])
      clear hwx hwy hx HBx HBy hg8 HX2 HY2 HB3
      have HY := HY3
      cases b with
      | none =>
        obtain rfl : f = false := HF.out.symm
        go_wp2_with (refine wpList_store_row rfl 34 (.tmp 6) (.tmp 34) rfl g6 #[.string { data := #[] }, .string { data := #[] }, .string { data := #[] }] rfl rfl 34 #[.string { data := #[] }, .string { data := #[] }, .string { data := #[] }] HY.out (rt_info rfl) rfl (rt_all _ _ _) ?_)
        (try simp only [Exit.then, Exit.inBlock])
        refine bodyPost_ret (ret_rt rfl _ _ g6 _ rfl (setRow_heap _ _ _ _ _ _ HY.out) rfl) rfl ?_
        exact ⟨rfl, ⟨below_setRow HB4.out (by have := H34.out; omega) _⟩⟩
      | some v =>
        obtain rfl : f = true := HF.out.symm
        have hv3 : v = ⟨x, y, z⟩ := HRB.out
        subst hv3
        have k2 := cell_at HX3.out 2 _ rfl
        by_cases hn : tb ≤ n
        · have hn' : (n ≥ tb) = True := eq_true hn
          have hd := decide_eq_true hn
          go_wp2_with (refine wpList_store_row rfl 34 (.tmp 6) (.tmp 39) rfl g6 #[.string { data := #[] }, .string { data := #[] }, .string { data := #[] }] rfl rfl 34 #[.string { data := #[] }, .string { data := #[] }, .string { data := #[] }] HY.out (rt_info rfl) rfl (rt_all _ _ _) ?_)
          (try simp only [Exit.then, Exit.inBlock])
          refine bodyPost_ret (ret_rt rfl _ _ g6 _ rfl (setRow_heap _ _ _ _ _ _ HY.out) rfl) rfl ?_
          exact ⟨by (try rw [hd]); rfl, ⟨below_setRow HB4.out (by have := H34.out; omega) _⟩⟩
        · have hn' : (n ≥ tb) = False := eq_false hn
          have hd := decide_eq_false hn
          have hn2 : n < tb := by omega
          obtain ⟨p0, p1, p2⟩ := rt_cells HP.out
          go_wp2_with (refine wpList_store_row rfl 34 (.tmp 6) (.tmp 40) rfl g6 #[.string x, .string y, .string z] rfl rfl 34 #[.string { data := #[] }, .string { data := #[] }, .string { data := #[] }] HY.out HI rfl (rt_all _ _ _) ?_)
          (try simp only [Exit.then, Exit.inBlock])
          refine bodyPost_ret (ret_rt rfl _ _ g6 _ rfl (setRow_heap _ _ _ _ _ _ HY.out) rfl) rfl ?_
          exact ⟨by (try rw [hd]); rfl, ⟨below_setRow HB4.out (by have := H34.out; omega) _⟩⟩
end Go.Proofs.YtdndpicfnlcgjaaDoor.Rou
