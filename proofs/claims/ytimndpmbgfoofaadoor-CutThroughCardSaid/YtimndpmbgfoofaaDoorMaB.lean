/- mask: Put. -/
import Derived.Test.YtimndpmbgfoofaaDoorMaA
import Derived.Deep.DeepCutAuto
import Derived.Stop.BytesEq
set_option maxRecDepth 100000
namespace Go.Proofs.YtimndpmbgfoofaaDoor.Mas
open Go.RowKit MaskPlain

section
variable {P : Program} {md : Region.Mode} {ops : Array Oper} {Q : Exit → Act → World → Prop} {S : World → Prop}
end
/-- What Put answers. -/
inductive PutR (w : World) (o : Option (List Nat)) : Ending → World → Prop where
  | yes (s : List Nat) (g cap : Nat) (w' : World) (h : o = some s) (hs : Sl (SrcAt w' (.slice (some ⟨g, 0, none⟩) s.length cap) s)) (hg : Sl (w.heap.size ≤ g)) (hb : Sl (Below w.heap.size w w')) :
      PutR w o (.returned (.tuple #[.slice (some ⟨g, 0, none⟩) s.length cap, .int .i64 0])) w'
  | no (w' : World) (h : o = none) (hb : Sl (Below w.heap.size w w')) : PutR w o (.returned (.tuple #[.slice none 0 0, .int .i64 81])) w'
theorem row_put (k : Nat) (hk : k < 2) (n : Nat) (h0 : ¬ n < 126) (hp : ∀ j, j < k → ¬ n ≤ (row j).most) (h : n ≤ (row k).most) : putL n = some ((row k).first :: be n (row k).behind) := by
  unfold putL
  match k, hk with
  | 0, _ =>
    have h1 : n ≤ 65535 := h
    rw [if_neg (by omega), if_neg h0, if_pos h1]; rfl
  | 1, _ =>
    have h1 : n ≤ 9223372036854775807 := h
    have h2 : ¬ n ≤ 65535 := hp 0 (by decide)
    rw [if_neg (by omega), if_neg h0, if_neg h2]; rfl
theorem put_none (n : Nat) (hp : ∀ j, j < 2 → ¬ n ≤ (row j).most) : putL n = none := by
  have h2 : ¬ n ≤ 9223372036854775807 := hp 1 (by decide)
  unfold putL
  rw [if_pos (by omega)]

set_option maxHeartbeats 2000000 in
theorem put_any (n : Nat) (w : World) (hg : Globs w) : Calls Tryd.prog 58 #[.int .u64 n] w (PutR w (putL n)) := by
  have HI48 : Sl ((Tryd.prog.info? 118).map (·.size) = some table.length) := ⟨by kernel_rfl⟩
  have HG := Sl.mk hg
  have HB0 : Sl (Below w.heap.size w w) := ⟨Below.refl _ _⟩
  have c2 : w.cell? ⟨0, 2, none⟩ = some (.int .u64 126) := hg.t 2 _ rfl
  clear hg
  obtain ⟨o, ho⟩ : ∃ o, putL n = o := ⟨_, rfl⟩
  rw [ho]
  have HO := Sl.mk ho
  clear ho
  go_enter Tryd.func58, Tryd.ntmps58
  by_cases h0 : n < 126
  · have f1 : IntKind.u8.wrap (n : Int) = (n : Int) := by rw [IntKind.wrap_u8']; omega
    have HP : Sl (o = some [n]) := ⟨by rw [← HO.out]; unfold putL; rw [if_neg (by omega), if_pos h0]⟩
    have h0' : (n : Int) < 126 := by omega
    go_wp2
    go_ret2
    refine .yes [n] w.heap.size 1 _ HP.out ⟨?_⟩ ⟨Nat.le_refl _⟩ ⟨(Below.refl _ _).alloc (Nat.le_refl _) _⟩
    exact RowB.src (rowB_new w [n])
  · have h0' : ((n : Int) < 126) = False := eq_false (by omega)
    have H0 := Sl.mk h0
    clear h0
    go_wp2_with (first | (refine wpList_load_mid rfl 118 (.global 0) rfl 0 0 rfl table (.array 2 117) HG.out.t Tryd.underlying118 rfl HI48.out ?_))
    go_loopw [15] (fun i wr => ∃ k : Nat, k ≤ 2 ∧ i = .int .i64 k ∧ Sl (∀ j, j < k → ¬ n ≤ (row j).most) ∧ Sl (Below w.heap.size w wr)) (fun i _ => 2 - (intOf i).toNat)
    case atStart => exact ⟨0, Nat.zero_le _, rfl, ⟨fun j hj => absurd hj (Nat.not_lt_zero _)⟩, HB0⟩
    case round =>
      obtain ⟨k, hk, rfl, HP, HB⟩ := hrel
      by_cases hlt : k < 2
      · have hidx := index_row k hlt
        obtain ⟨hr1, hr2, hr3⟩ := row_ok k
        have HRG := Sl.mk (row_put k hlt n H0.out HP.out)
        have HRP : Sl (¬ n ≤ (row k).most → ∀ j, j < k + 1 → ¬ n ≤ (row j).most) := ⟨fun hne j hj => by
          by_cases e : j = k
          · subst e; exact hne
          · exact HP.out j (by omega)⟩
        obtain ⟨r, hr⟩ : ∃ r, r = row k := ⟨_, rfl⟩
        rw [← hr] at hidx hr1 hr2 hr3 HRG HRP
        clear hr
        obtain ⟨f, B, le, mo⟩ := r
        simp only [Row.cells] at hidx
        simp only at hr1 hr2 hr3 HRG HRP
        obtain ⟨g, hgg⟩ : ∃ g, wr.heap.size = g := ⟨_, rfl⟩
        have hgw := HB.out.size
        rw [hgg] at hgw
        have HGW := Sl.mk hgw
        by_cases he : n ≤ mo
        · have HE := Sl.mk (HRG.out he)
          have he2 : (n : Int) ≤ (mo : Int) := by omega
          clear HRG HRP hgw
          go_wp2
          obtain ⟨R, hR⟩ : ∃ R, (wr.alloc (.cells #[.int .u8 (f : Int), .int .i64 (B : Int), .int .u64 (le : Int), .int .u64 (mo : Int)] 117)).drew = R := ⟨_, rfl⟩
          have HS0 : Below w.heap.size w R ∧ R.heap[g]? = some (.cells #[.int .u8 (f : Int), .int .i64 (B : Int), .int .u64 (le : Int), .int .u64 (mo : Int)] 117 (0, 0)) := ⟨by rw [← hR]; exact (HB.out.alloc (by rw [hgg]; exact HGW.out) _).drew, by rw [← hR, ← hgg]; exact alloc_new _ _ _ rfl⟩
          refine wp_region_noPanic ?_
          refine wp_region_held (S := fun V => Below w.heap.size w V ∧ V.heap[g]? = some (.cells #[.int .u8 (f : Int), .int .i64 (B : Int), .int .u64 (le : Int), .int .u64 (mo : Int)] 117 (0, 0))) (by kernel_rfl) ?_
          change wpAnyH _ _ _ _ _ _ _ _ (wr.alloc (.cells #[.int .u8 (f : Int), .int .i64 (B : Int), .int .u64 (le : Int), .int .u64 (mo : Int)] 117)).drew
          rw [hR]
          clear hR
          refine heldTake (d := some 22) (op := .fieldAddr 117 (.tmp 5) 0) (g := none) 0 ?v0 rfl (by kernel_rfl) (by kernel_rfl) (by kernel_rfl) (by kernel_rfl) ?y0 HS0 ?_
          case y0 => intro o' ho W hS; simp only [execOp, ho]; go_simp; try rfl
          simp only [Act.put, List.setIfInBounds_toArray, List.set_cons_zero, List.set_cons_succ]
          refine heldTake (d := some 23) (op := .load 5 (.tmp 22)) (g := none) 1 ?v1 rfl (by kernel_rfl) (by kernel_rfl) (by kernel_rfl) (by kernel_rfl) ?y1 HS0 ?_
          case y1 => intro o' ho W hS; have cF := cell_of_row _ _ 0 _ _ _ hS.2; have cB := cell_of_row _ _ 1 _ _ _ hS.2; simp only [List.getElem?_toArray, List.getElem?_cons_zero, List.getElem?_cons_succ] at cF cB; simp only [execOp, ho]; go_simp; try rfl
          simp only [Act.put, List.setIfInBounds_toArray, List.set_cons_zero, List.set_cons_succ]
          refine heldTake (d := some 25) (op := .move (.tmp 0)) (g := none) 3 ?v3 rfl (by kernel_rfl) (by kernel_rfl) (by kernel_rfl) (by kernel_rfl) ?y3 HS0 ?_
          case y3 => intro o' ho W hS; simp only [execOp, ho]; go_simp; try rfl
          simp only [Act.put, List.setIfInBounds_toArray, List.set_cons_zero, List.set_cons_succ]
          refine heldTake (d := some 26) (op := .fieldAddr 117 (.tmp 5) 1) (g := none) 4 ?v4 rfl (by kernel_rfl) (by kernel_rfl) (by kernel_rfl) (by kernel_rfl) ?y4 HS0 ?_
          case y4 => intro o' ho W hS; simp only [execOp, ho]; go_simp; try rfl
          simp only [Act.put, List.setIfInBounds_toArray, List.set_cons_zero, List.set_cons_succ]
          refine heldTake (d := some 27) (op := .load 3 (.tmp 26)) (g := none) 5 ?v5 rfl (by kernel_rfl) (by kernel_rfl) (by kernel_rfl) (by kernel_rfl) ?y5 HS0 ?_
          case y5 => intro o' ho W hS; have cF := cell_of_row _ _ 0 _ _ _ hS.2; have cB := cell_of_row _ _ 1 _ _ _ hS.2; simp only [List.getElem?_toArray, List.getElem?_cons_zero, List.getElem?_cons_succ] at cF cB; simp only [execOp, ho]; go_simp; try rfl
          simp only [Act.put, List.setIfInBounds_toArray, List.set_cons_zero, List.set_cons_succ]
          obtain ⟨A, hA⟩ : ∃ A, R.alloc (.cells #[.int .u8 (f : Int)] 5) = A := ⟨_, rfl⟩
          have HRA : Sl (RowB A R.heap.size [f]) := ⟨by rw [← hA]; exact rowB_new R [f]⟩
          have BA : Sl (Below R.heap.size R A) := ⟨by rw [← hA]; exact (Below.refl _ _).alloc (Nat.le_refl _) _⟩
          have HSB : ∀ V V' : World, (Below w.heap.size w V ∧ V.heap[g]? = some (.cells #[.int .u8 (f : Int), .int .i64 (B : Int), .int .u64 (le : Int), .int .u64 (mo : Int)] 117 (0, 0))) → Below V.heap.size V V' → (Below w.heap.size w V' ∧ V'.heap[g]? = some (.cells #[.int .u8 (f : Int), .int .i64 (B : Int), .int .u64 (le : Int), .int .u64 (mo : Int)] 117 (0, 0))) := fun V V' h hb => ⟨h.1.trans (hb.mono h.1.size), by rw [hb.block _ (Array.getElem?_eq_some_iff.1 h.2).1]; exact h.2⟩
          have HSA := HSB _ _ HS0 BA.out
          refine heldCA (di := some 24) (opi := .buildSlice 36 1 #[(0, .tmp 23)]) (dj := some 28) (opj := .call { callee := .value (.func 51), args := #[.tmp 25, .tmp 27], argTypes := #[100, 3] }) (ti := 36) (tj := 36) 2 6 (.slice (some ⟨R.heap.size, 0, none⟩) 1 1) A 51 #[.int .u64 (n : Int), .int .i64 (B : Int)] rfl rfl (by kernel_rfl) ?y2 ?y6 HSA ?first ?second
          case y2 => intro o' ho ht; simp only [execOp, ho]; go_simp; first | done | rw [hA] | rfl
          case y6 => intro o' ho ht; simp only [execOp, ho]; go_simp; try rfl
          case first =>
            simp only [Act.put, List.setIfInBounds_toArray, List.set_cons_zero, List.set_cons_succ]
            refine heldCall (d := some 28) (op := .call { callee := .value (.func 51), args := #[.tmp 25, .tmp 27], argTypes := #[100, 3] }) (g := none) 6 51 #[.int .u64 (n : Int), .int .i64 (B : Int)] rfl (by kernel_rfl) (by kernel_rfl) ?y6p ?_
            case y6p => intro o' ho; simp only [execOp, ho]; go_simp; try rfl
            refine (nb_any n B A hr1).mono ?_
            rintro e X ⟨rfl, HRX, HBX⟩
            have HSX0 := HSB _ _ HSA HBX.out
            refine ⟨_, rfl, HSX0, ?_⟩
            simp only [Act.put, List.setIfInBounds_toArray, List.set_cons_zero, List.set_cons_succ]
            have hRle : w.heap.size ≤ R.heap.size := HS0.1.size
            have h1 : RowB X R.heap.size [f] := HRA.out.below HBX.out
            have h2 : RowB X A.heap.size (be n B) := HRX.out
            have hg2 : g < R.heap.size := (Array.getElem?_eq_some_iff.1 HS0.2).1
            obtain ⟨v1, X5, hr6, ho6, hg6⟩ := add_bytes (base := w.heap.size) 36 h1 hRle h2 (by simp [be_length]; omega) HSX0.1.size
            rw [be_length] at hr6
            have HB6 : Below w.heap.size w X5 := HSX0.1.grown hg6 HSX0.1.size (fun k hk => by injection hk with hk; rw [← hk]; exact hRle)
            have HSX : Below w.heap.size w X5 ∧ X5.heap[g]? = some (.cells #[.int .u8 (f : Int), .int .i64 (B : Int), .int .u64 (le : Int), .int .u64 (mo : Int)] 117 (0, 0)) := ⟨HB6, by rw [hg6.block _ (Array.getElem?_eq_some_iff.1 HSX0.2).1 (fun e => by injection e with e; have h9 := (Array.getElem?_eq_some_iff.1 HS0.2).1; omega)]; exact HSX0.2⟩
            obtain ⟨gv, cv, hv, hgv, hsv⟩ := own_src ho6 (by simp)
            subst hv
            refine heldRunT (d := some 29) (op := .call { callee := .builtin .append, args := #[.tmp 24, .tmp 28], argTypes := #[36, 36] }) (g := none) (t := 36) 7 (.slice (some ⟨gv, 0, none⟩) ([f] ++ be n B).length cv) X5 rfl (by kernel_rfl) (by kernel_rfl) ?y7p HSX ?_
            case y7p => intro o' ho ht; simp only [execOp, ho, ht, resolve, invoke, builtin, Sem.run_bind, Sem.run_pure, Result.andThen_ok, List.map_toArray, List.map_cons, List.map_nil]; refine (congrArg (fun r => Result.andThen r _) hr6).trans ?_; rfl
            simp only [Act.put, List.setIfInBounds_toArray, List.set_cons_zero, List.set_cons_succ]
            refine heldTake (d := some 2) (op := .assign (.tmp 29)) (g := none) 8 ?v8p rfl (by kernel_rfl) (by kernel_rfl) (by kernel_rfl) (by kernel_rfl) ?y8p HSX ?_
            case y8p => intro o' ho W hS; simp only [execOp, ho]; go_simp; try rfl
            simp only [Act.put, List.setIfInBounds_toArray, List.set_cons_zero, List.set_cons_succ]
            refine heldTake (d := some 3) (op := .assign (.const (.int .i64 0))) (g := none) 9 ?v9p rfl (by kernel_rfl) (by kernel_rfl) (by kernel_rfl) (by kernel_rfl) ?y9p HSX ?_
            case y9p => intro o' ho W hS; simp only [execOp, ho]; go_simp; try rfl
            simp only [Act.put, List.setIfInBounds_toArray, List.set_cons_zero, List.set_cons_succ]
            refine wpAnyH_done (by kernel_rfl) ?_ _
            refine NoPanic.normal ?_
            go_wp2
            go_ret2
            exact .yes _ gv cv _ (HO.out.symm.trans HE.out) ⟨hsv⟩ ⟨hgv⟩ ⟨HB6⟩
          case second =>
            refine (nb_any n B R hr1).mono ?_
            rintro e X ⟨rfl, HRX, HBX⟩
            have HSX0 := HSB _ _ HS0 HBX.out
            refine ⟨_, rfl, HSX0, ?_⟩
            simp only [Act.put, List.setIfInBounds_toArray, List.set_cons_zero, List.set_cons_succ]
            obtain ⟨Y, hY⟩ : ∃ Y, X.alloc (.cells #[.int .u8 (f : Int)] 5) = Y := ⟨_, rfl⟩
            have BY : Sl (Below X.heap.size X Y) := ⟨by rw [← hY]; exact (Below.refl _ _).alloc (Nat.le_refl _) _⟩
            have HSY := HSB _ _ HSX0 BY.out
            have h1 : RowB Y X.heap.size [f] := by rw [← hY]; exact rowB_new X [f]
            have h2 : RowB Y R.heap.size (be n B) := HRX.out.below BY.out
            have hRle : w.heap.size ≤ X.heap.size := HSX0.1.size
            have hg2 : g < X.heap.size := (Array.getElem?_eq_some_iff.1 HSX0.2).1
            refine heldRunT (d := some 24) (op := .buildSlice 36 1 #[(0, .tmp 23)]) (g := none) (t := 36) 2 (.slice (some ⟨X.heap.size, 0, none⟩) 1 1) Y rfl (by kernel_rfl) (by kernel_rfl) ?y2q HSY ?_
            case y2q => intro o' ho ht; simp only [execOp, ho]; go_simp; first | done | rw [hY] | rfl
            simp only [Act.put, List.setIfInBounds_toArray, List.set_cons_zero, List.set_cons_succ]
            obtain ⟨v1, X5, hr6, ho6, hg6⟩ := add_bytes (base := w.heap.size) 36 h1 hRle h2 (by simp [be_length]; omega) HSY.1.size
            rw [be_length] at hr6
            have HB6 : Below w.heap.size w X5 := HSY.1.grown hg6 HSY.1.size (fun k hk => by injection hk with hk; rw [← hk]; exact hRle)
            have HSX : Below w.heap.size w X5 ∧ X5.heap[g]? = some (.cells #[.int .u8 (f : Int), .int .i64 (B : Int), .int .u64 (le : Int), .int .u64 (mo : Int)] 117 (0, 0)) := ⟨HB6, by rw [hg6.block _ (Array.getElem?_eq_some_iff.1 HSY.2).1 (fun e => by injection e with e; omega)]; exact HSY.2⟩
            obtain ⟨gv, cv, hv, hgv, hsv⟩ := own_src ho6 (by simp)
            subst hv
            refine heldRunT (d := some 29) (op := .call { callee := .builtin .append, args := #[.tmp 24, .tmp 28], argTypes := #[36, 36] }) (g := none) (t := 36) 7 (.slice (some ⟨gv, 0, none⟩) ([f] ++ be n B).length cv) X5 rfl (by kernel_rfl) (by kernel_rfl) ?y7q HSX ?_
            case y7q => intro o' ho ht; simp only [execOp, ho, ht, resolve, invoke, builtin, Sem.run_bind, Sem.run_pure, Result.andThen_ok, List.map_toArray, List.map_cons, List.map_nil]; refine (congrArg (fun r => Result.andThen r _) hr6).trans ?_; rfl
            simp only [Act.put, List.setIfInBounds_toArray, List.set_cons_zero, List.set_cons_succ]
            refine heldTake (d := some 2) (op := .assign (.tmp 29)) (g := none) 8 ?v8q rfl (by kernel_rfl) (by kernel_rfl) (by kernel_rfl) (by kernel_rfl) ?y8q HSX ?_
            case y8q => intro o' ho W hS; simp only [execOp, ho]; go_simp; try rfl
            simp only [Act.put, List.setIfInBounds_toArray, List.set_cons_zero, List.set_cons_succ]
            refine heldTake (d := some 3) (op := .assign (.const (.int .i64 0))) (g := none) 9 ?v9q rfl (by kernel_rfl) (by kernel_rfl) (by kernel_rfl) (by kernel_rfl) ?y9q HSX ?_
            case y9q => intro o' ho W hS; simp only [execOp, ho]; go_simp; try rfl
            simp only [Act.put, List.setIfInBounds_toArray, List.set_cons_zero, List.set_cons_succ]
            refine wpAnyH_done (by kernel_rfl) ?_ _
            refine NoPanic.normal ?_
            go_wp2
            go_ret2
            exact .yes _ gv cv _ (HO.out.symm.trans HE.out) ⟨hsv⟩ ⟨hgv⟩ ⟨HB6⟩
        · have HP2 := Sl.mk (HRP.out he)
          clear HRG HRP hgw
          have he2 : ((n : Int) ≤ (mo : Int)) = False := eq_false (by omega)
          go_wp2
          exact ⟨⟨k + 1, by omega, by go_num, HP2, ⟨HB.out.alloc (by rw [hgg]; exact HGW.out) _⟩⟩, by simp [intOf]; omega⟩
      · have hge : ((k : Int) < 2) = False := eq_false (by omega)
        obtain rfl : k = 2 := by omega
        have HN := Sl.mk (HO.out.symm.trans (put_none n HP.out))
        go_wp2
        go_ret2
        exact .no _ HN.out HB
end Go.Proofs.YtimndpmbgfoofaaDoor.Mas
/- mask: Key. -/
set_option maxRecDepth 100000
namespace Go.Proofs.YtimndpmbgfoofaaDoor.Mas
open Go.RowKit MaskPlain

set_option maxHeartbeats 2000000 in
theorem key_any (n : Nat) (w : World) (hn : n < 4294967296) : Calls Tryd.prog 37 #[.int .u32 n] w fun e w' => e = .returned (.agg (u8s (be n 4)).toArray) ∧ Sl (Below w.heap.size w w') := by
  have f1 : IntKind.u64.wrap (n : Int) = (n : Int) := by rw [IntKind.wrap_u64]; omega
  obtain ⟨g, hg⟩ : ∃ g, w.heap.size = g := ⟨_, rfl⟩
  go_enter Tryd.func37, Tryd.ntmps37
  go_upto_region 2 with fail
  obtain ⟨R, hR⟩ : ∃ R, ((w.alloc (.cells (u8s (zs 4)).toArray 42)).alloc (.cells (u8s (zs 4)).toArray 42)).drew = R := ⟨_, rfl⟩
  have H0 : R.heap[g]? = some (.cells (u8s (zs 4)).toArray 42 (0, 0)) := by rw [← hR]; show ((w.alloc (.cells (u8s (zs 4)).toArray 42)).alloc (.cells (u8s (zs 4)).toArray 42)).heap[g]? = _; rw [alloc_old _ _ _ (by rw [alloc_size]; omega)]; exact alloc_new _ _ _ hg.symm
  have HS0 : Below g w R ∧ R.heap[g + 1]? = some (.cells (u8s (zs 4)).toArray 42 (0, 0)) ∧ R.heap[g]? = some (.cells (u8s (zs 4)).toArray 42 (0, 0)) := ⟨by rw [← hR]; exact (((Below.refl _ _).alloc (by omega) _).alloc (by rw [alloc_size]; omega) _).drew, by rw [← hR]; exact alloc_new _ _ _ (by rw [alloc_size, hg]), H0⟩
  clear H0
  refine wp_region_noPanic ?_
  refine wp_region_held (S := fun V => Below g w V) (by kernel_rfl) ?_
  change wpAnyH _ _ _ _ _ _ _ _ ((w.alloc (.cells (u8s (zs 4)).toArray 42)).alloc (.cells (u8s (zs 4)).toArray 42)).drew
  rw [hR]
  clear hR
  refine heldTake (d := some 4) (op := .slice 42 (.tmp 3) none none none) (g := none) 0 ?v0 rfl (by kernel_rfl) (by kernel_rfl) (by kernel_rfl) (by kernel_rfl) ?y0 HS0.1 ?_
  case y0 => intro o' ho W hS; simp only [execOp, ho]; go_simp; try rfl
  simp only [Act.put, List.setIfInBounds_toArray, List.set_cons_zero, List.set_cons_succ]
  refine heldTake (d := some 5) (op := .move (.tmp 0)) (g := none) 1 ?v1 rfl (by kernel_rfl) (by kernel_rfl) (by kernel_rfl) (by kernel_rfl) ?y1 HS0.1 ?_
  case y1 => intro o' ho W hS; simp only [execOp, ho]; go_simp; try rfl
  simp only [Act.put, List.setIfInBounds_toArray, List.set_cons_zero, List.set_cons_succ]
  refine heldTake (d := some 6) (op := .convert 45 100 (.tmp 5)) (g := none) 2 ?v2 rfl (by kernel_rfl) (by kernel_rfl) (by kernel_rfl) (by kernel_rfl) ?y2 HS0.1 ?_
  case y2 => intro o' ho W hS; simp only [execOp, ho]; go_simp; try rfl
  simp only [Act.put, List.setIfInBounds_toArray, List.set_cons_zero, List.set_cons_succ]
  refine heldCall (d := some 7) (op := .call { callee := .value (.func 51), args := #[.tmp 6, .const (.int .i64 4)], argTypes := #[100, 3] }) (g := none) 3 51 #[.int .u64 (n : Int), .int .i64 4] rfl (by kernel_rfl) (by kernel_rfl) ?y3 ?_
  case y3 => intro o' ho; simp only [execOp, ho]; go_simp; try rfl
  refine (nb_any n 4 R (by omega)).mono ?_
  rintro e X ⟨rfl, HRX, HBX⟩
  have hgR : g + 1 < R.heap.size := (Array.getElem?_eq_some_iff.1 HS0.2.1).1
  have hX0 : X.heap[g]? = some (.cells (u8s (zs 4)).toArray 42 (0, 0)) := by rw [HBX.out.block _ (by omega)]; exact HS0.2.2
  have hX1 : X.heap[g + 1]? = some (.cells (u8s (zs 4)).toArray 42 (0, 0)) := by rw [HBX.out.block _ hgR]; exact HS0.2.1
  have hBX : Below g w X := HS0.1.trans (HBX.out.mono (by have := HS0.1.size; omega))
  refine ⟨_, rfl, hBX, ?_⟩
  simp only [Act.put, List.setIfInBounds_toArray, List.set_cons_zero, List.set_cons_succ]
  have hrun := run_copy_row (P := Tryd.prog) X 36 36 3 5 (g + 1) 0 4 4 ⟨R.heap.size, 0, none⟩ 4 4 (u8s (zs 4)).toArray 42 (u8s (be n 4)) Tryd.underlying36 size5 hX1 (by simp [be_length]) (fun j u hu => by
    have hj : j < (be n 4).length := by have := (List.getElem?_eq_some_iff.1 hu).1; simpa using this
    rw [Addr.add_mid, Nat.zero_add, HRX.out.cell j hj, ← hu, u8s_get _ j hj]) (by simp [be_length]) (u8s_one _)
  rw [show ((u8s (zs 4)).toArray.toList.take 0 ++ u8s (be n 4) ++ (u8s (zs 4)).toArray.toList.drop (0 + (u8s (be n 4)).length)) = u8s (be n 4) by simp [be_length], show (u8s (be n 4)).length = 4 by simp [be_length]] at hrun
  obtain ⟨Y, hY⟩ : ∃ Y, X.setRow (g + 1) (u8s (be n 4)).toArray = Y := ⟨_, rfl⟩
  have hY1 : Sl (Y.heap[g + 1]? = some (.cells (u8s (be n 4)).toArray 42 (0, 0))) := ⟨by rw [← hY]; exact setRow_heap _ _ _ _ _ _ hX1⟩
  have hY0 : Sl (Y.heap[g]? = some (.cells (u8s (zs 4)).toArray 42 (0, 0))) := ⟨by rw [← hY, setRow_other _ _ _ _ (by omega)]; exact hX0⟩
  have hBY : Sl (Below g w Y) := ⟨by rw [← hY]; exact below_setRow hBX (by omega) _⟩
  rw [hY] at hrun
  clear hY
  refine heldRunT (d := some 8) (op := .call { callee := .builtin .copy, args := #[.tmp 4, .tmp 7], argTypes := #[36, 36] }) (g := none) (t := 3) 4 (.int .i64 4) Y rfl (by kernel_rfl) (by kernel_rfl) ?y4 hBY.out ?_
  case y4 => intro o' ho ht; simp only [execOp, ho, ht, resolve, invoke, builtin, Sem.run_bind, Sem.run_pure, Result.andThen_ok, List.map_toArray, List.map_cons, List.map_nil]; refine (congrArg (fun r => Result.andThen r _) hrun).trans ?_; rfl
  simp only [Act.put, List.setIfInBounds_toArray, List.set_cons_zero, List.set_cons_succ]
  refine wpAnyH_done (by kernel_rfl) ?_ _
  refine NoPanic.normal ?_
  have HI : Sl ((Tryd.prog.info? 42).map (·.size) = some (u8s (be n 4)).toArray.size) := ⟨by
    have : (Tryd.prog.info? 42).map (·.size) = some 4 := by kernel_rfl
    simpa [be_length] using this⟩
  have HO : Sl ((u8s (zs 4)).toArray.size = (u8s (be n 4)).toArray.size) := ⟨by simp [be_length]⟩
  go_wp2_with (first
    | (refine wpList_load_row rfl 42 (.tmp 3) rfl (g + 1) rfl 42 _ (0, 0) (.array 4 5) hY1.out Tryd.underlying42 rfl HI.out ?_)
    | (refine wpList_store_row rfl 42 (.tmp 2) (.tmp 9) rfl g _ rfl rfl 42 _ hY0.out HI.out HO.out (all_oneCell_toArray (u8s_one _)) ?_))
  refine bodyPost_ret (v := .agg (u8s (be n 4)).toArray) ?_ rfl ⟨rfl, ⟨below_setRow (by rw [hg]; exact hBY.out) (by omega) _⟩⟩
  exact results_cell_row Tryd.results37 _ _ g 42 _ (0, 0) (.array 4 5) rfl (setRow_heap _ _ _ _ _ _ hY0.out) Tryd.underlying42 rfl HI.out
end Go.Proofs.YtimndpmbgfoofaaDoor.Mas
/- mask: the contracts in the form in which they are used; arrays compared; awake. -/
set_option maxRecDepth 100000
namespace Go.Proofs.YtimndpmbgfoofaaDoor.Mas
open Go.RowKit MaskPlain

theorem put_yes (n : Nat) (s : List Nat) (w : World) (hg : Globs w) (h : putL n = some s) :
    Calls Tryd.prog 58 #[.int .u64 n] w fun e w' => ∃ g cap, e = .returned (.tuple #[.slice (some ⟨g, 0, none⟩) s.length cap, .int .i64 0]) ∧ Sl (SrcAt w' (.slice (some ⟨g, 0, none⟩) s.length cap) s) ∧ Sl (Below w.heap.size w w') :=
  (put_any n w hg).mono fun _ _ hr => by
    cases hr with
    | yes s' g cap w' h' hs hg hb =>
      rw [h] at h'
      injection h' with h'
      subst h'
      exact ⟨g, cap, rfl, hs, hb⟩
    | no w' h' hb => rw [h] at h'; cases h'
theorem put_no (n : Nat) (w : World) (hg : Globs w) (h : putL n = none) :
    Calls Tryd.prog 58 #[.int .u64 n] w fun e w' => e = .returned (.tuple #[.slice none 0 0, .int .i64 81]) ∧ Sl (Below w.heap.size w w') :=
  (put_any n w hg).mono fun _ _ hr => by
    cases hr with
    | yes s' g cap w' h' hs hg hb => rw [h] at h'; cases h'
    | no w' h' hb => exact ⟨rfl, hb⟩
theorem get_ex (v : Value) (bs : List Nat) (n k e : Nat) (w : World) (hg : Globs w) (hv : SrcAt w v bs) (hsm : Small 256 bs) (hm : bs.length ≤ 1000000) (h : getL bs = (n, k, e)) :
    Calls Tryd.prog 69 #[v] w fun x w' => x = .returned (.tuple #[.int .u64 (n : Int), .int .i64 (k : Int), .int .i64 (e : Int)]) ∧ Sl (Below w.heap.size w w') :=
  (get_any v bs w hg hv hsm hm).mono fun _ _ ⟨hx, hb⟩ => ⟨by rw [hx, h]; rfl, hb⟩
theorem key_ex (n : Nat) (l : List Nat) (w : World) (hn : n < 4294967296) (h : be n 4 = l) : Calls Tryd.prog 37 #[.int .u32 n] w fun e w' => e = .returned (.agg (u8s l).toArray) ∧ Sl (Below w.heap.size w w') :=
  (key_any n w hn).mono fun _ _ ⟨hx, hb⟩ => ⟨by rw [hx, h], hb⟩
end Go.Proofs.YtimndpmbgfoofaaDoor.Mas
