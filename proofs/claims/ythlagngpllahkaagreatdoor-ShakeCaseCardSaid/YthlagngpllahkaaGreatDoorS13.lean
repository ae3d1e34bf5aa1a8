/- shake: Question: what is asked for, or the status. -/
import Derived.Test.YthlagngpllahkaaGreatDoorS12
import Derived.Laws.EntriesVeiled
set_option maxRecDepth 100000
namespace Go.Proofs.YthlagngpllahkaaGreatDoor
open Go.RowKit HeadPlain

theorem steps_any (h : HdV) (bx : Value) (p : Nat) (W : World) :
    Calls Tryz.prog 37 #[.agg #[.string h.a, .string h.b, .string h.c, bx], .pointer (some ⟨p, 0, none⟩)] W fun e w' => e = .returned (.slice (some ⟨W.heap.size + 1 + 1, 0, none⟩) 9 9) ∧
      ((W.alloc (.cells #[.string h.a, .string h.b, .string h.c, bx] 25)).alloc (.cells #[.pointer (some ⟨p, 0, none⟩)] 68)).alloc (.cells (stepCells W.heap.size (W.heap.size + 1)) 70) = w' := by
  have hmf : ∀ (fn : Fn) (first cap : Array Value) (w : World), (Instr.makeFunc fn first cap).run Tryz.prog w = .ok (.func fn first cap) w := fun _ _ _ _ => rfl
  go_enter Tryz.func37, Tryz.ntmps37
  go_wp2
  go_ret
  exact ⟨rfl, rfl⟩
/-- Whether each step is right. -/
def r1B (h : HdV) : Bool := h.a.toList == bGET.toList
def r2B (h : HdV) : Bool := (h.c.toList == bH11.toList) && Lib.hasPrefix h.b.data.toList [47]
def r3B (h : HdV) : Bool := !((oneS (getV h.fs bHost)).toList == [])
def r4B (h : HdV) : Bool := Nam.hasB bWs (getV h.fs bUp)
def r5B (h : HdV) : Bool := Nam.hasB bUp (getV h.fs bConn)
def r6B (h : HdV) : Bool := (oneS (getV h.fs bVer)).toList == b13.toList
def r7B (h : HdV) : Bool := keyB (bytes (oneS (getV h.fs bKey)))
def r8B (h : HdV) : Bool := (Nam.tell (getV h.fs bProt)).all Nam.tokT && offerB (Nam.tell (getV h.fs bProt))
def r9B (h : HdV) : Bool := decide ((getV h.fs bOrg).length ≤ 1)
/-- The status. -/
def statV (h : HdV) : Nat :=
  if r1B h = false then 405 else
  if r2B h = false then 400 else
  if r3B h = false then 400 else
  if r4B h = false then 426 else
  if r5B h = false then 400 else
  if r6B h = false then 426 else
  if r7B h = false then 400 else
  if r8B h = false then 400 else
  if r9B h = false then 400 else
  0
/-- What Question answers. -/
def QuestR (w' : World) (h : HdV) (e : Ending) : Prop :=
  (statV h ≠ 0 ∧ e = .returned (.tuple #[.agg #[.string e0, .string e0, .string e0, .string e0, .slice none 0 0], .int .i64 (statV h : Nat)])) ∨
  (statV h = 0 ∧ ∃ a c, e = .returned (.tuple #[.agg #[.string h.b, .string (oneS (getV h.fs bHost)), .string (oneS (getV h.fs bKey)), .string (oneS (getV h.fs bOrg)), .slice a (Nam.tell (getV h.fs bProt)).length c], .int .i64 0]) ∧ StrA w' (.slice a (Nam.tell (getV h.fs bProt)).length c) (Nam.tell (getV h.fs bProt)))
section
variable (w : World) (hb ob p sb rb : Nat) (h : HdV) (bx : Value)
def QL0 (W : World) : Prop := QS w hb ob p sb [(rb, .cells #[.string e0, .string e0, .string e0, .string e0, .slice none 0 0] 30 (0, 0))] h bx h.b e0 e0 e0 (.slice none 0 0) W
def QL1 (W : World) : Prop := r1B h = true ∧ QS w hb ob p sb [(rb, .cells #[.string e0, .string e0, .string e0, .string e0, .slice none 0 0] 30 (0, 0))] h bx h.b e0 e0 e0 (.slice none 0 0) W
def QL2 (W : World) : Prop := r1B h = true ∧ r2B h = true ∧ QS w hb ob p sb [(rb, .cells #[.string e0, .string e0, .string e0, .string e0, .slice none 0 0] 30 (0, 0))] h bx h.b e0 e0 e0 (.slice none 0 0) W
def QL3 (W : World) : Prop := r1B h = true ∧ r2B h = true ∧ r3B h = true ∧ QS w hb ob p sb [(rb, .cells #[.string e0, .string e0, .string e0, .string e0, .slice none 0 0] 30 (0, 0))] h bx h.b (oneS (getV h.fs bHost)) e0 e0 (.slice none 0 0) W
def QL4 (W : World) : Prop := r1B h = true ∧ r2B h = true ∧ r3B h = true ∧ r4B h = true ∧ QS w hb ob p sb [(rb, .cells #[.string e0, .string e0, .string e0, .string e0, .slice none 0 0] 30 (0, 0))] h bx h.b (oneS (getV h.fs bHost)) e0 e0 (.slice none 0 0) W
def QL5 (W : World) : Prop := r1B h = true ∧ r2B h = true ∧ r3B h = true ∧ r4B h = true ∧ r5B h = true ∧ QS w hb ob p sb [(rb, .cells #[.string e0, .string e0, .string e0, .string e0, .slice none 0 0] 30 (0, 0))] h bx h.b (oneS (getV h.fs bHost)) e0 e0 (.slice none 0 0) W
def QL6 (W : World) : Prop := r1B h = true ∧ r2B h = true ∧ r3B h = true ∧ r4B h = true ∧ r5B h = true ∧ r6B h = true ∧ QS w hb ob p sb [(rb, .cells #[.string e0, .string e0, .string e0, .string e0, .slice none 0 0] 30 (0, 0))] h bx h.b (oneS (getV h.fs bHost)) e0 e0 (.slice none 0 0) W
def QL7 (W : World) : Prop := r1B h = true ∧ r2B h = true ∧ r3B h = true ∧ r4B h = true ∧ r5B h = true ∧ r6B h = true ∧ r7B h = true ∧ QS w hb ob p sb [(rb, .cells #[.string e0, .string e0, .string e0, .string e0, .slice none 0 0] 30 (0, 0))] h bx h.b (oneS (getV h.fs bHost)) (oneS (getV h.fs bKey)) e0 (.slice none 0 0) W
def QL8 (W : World) : Prop := r1B h = true ∧ r2B h = true ∧ r3B h = true ∧ r4B h = true ∧ r5B h = true ∧ r6B h = true ∧ r7B h = true ∧ r8B h = true ∧ ∃ v base, OwnS W base v (Nam.tell (getV h.fs bProt)) ∧ QS w hb ob p sb [(rb, .cells #[.string e0, .string e0, .string e0, .string e0, .slice none 0 0] 30 (0, 0))] h bx h.b (oneS (getV h.fs bHost)) (oneS (getV h.fs bKey)) e0 v W
def QL9 (W : World) : Prop := r1B h = true ∧ r2B h = true ∧ r3B h = true ∧ r4B h = true ∧ r5B h = true ∧ r6B h = true ∧ r7B h = true ∧ r8B h = true ∧ r9B h = true ∧ ∃ v base, OwnS W base v (Nam.tell (getV h.fs bProt)) ∧ QS w hb ob p sb [(rb, .cells #[.string e0, .string e0, .string e0, .string e0, .slice none 0 0] 30 (0, 0))] h bx h.b (oneS (getV h.fs bHost)) (oneS (getV h.fs bKey)) (oneS (getV h.fs bOrg)) v W
/-- Where the k-th round begins. -/
def QL (k : Nat) (W : World) : Prop := match k with
  | 0 => QL0 w hb ob p sb rb h bx W
  | 1 => QL1 w hb ob p sb rb h bx W
  | 2 => QL2 w hb ob p sb rb h bx W
  | 3 => QL3 w hb ob p sb rb h bx W
  | 4 => QL4 w hb ob p sb rb h bx W
  | 5 => QL5 w hb ob p sb rb h bx W
  | 6 => QL6 w hb ob p sb rb h bx W
  | 7 => QL7 w hb ob p sb rb h bx W
  | 8 => QL8 w hb ob p sb rb h bx W
  | _ => QL9 w hb ob p sb rb h bx W
end
theorem step_cell {W : World} {hb ob sb : Nat} (h : W.heap[sb]? = some (.cells (stepCells hb ob) 70 (0, 0))) (j : Nat) (x : Value) (hx : (stepCells hb ob)[j]? = some x) : W.cell? ⟨sb, j, none⟩ = some x := by
  rw [cell_of_row _ _ _ _ _ _ h]; exact hx
theorem ownS_grown {W W' : World} {base g : Nat} {v : Value} {l : List ByteArray} (ho : OwnS W base v l) (hg : W.grownBy W' (some g)) (hne : v.ownBlock ≠ some g) : OwnS W' base v l :=
  ho.kept hg (by cases h2 : v.ownBlock with | none => exact .inl rfl | some k => exact .inr (fun e => hne (by rw [h2, e])))
theorem five_zero {W : World} {g : Nat} (h : W.heap[g]? = some (.cells #[.string e0, .string e0, .string e0, .string e0, .slice none 0 0] 30 (0, 0))) :
    (W.cell? ⟨g, 0, none⟩ = some (.string { data := #[] }) ∧ W.cell? ⟨g, 1, none⟩ = some (.string { data := #[] }) ∧ W.cell? ⟨g, 2, none⟩ = some (.string { data := #[] }) ∧ W.cell? ⟨g, 3, none⟩ = some (.string { data := #[] }) ∧ W.cell? ⟨g, 4, none⟩ = some (.slice none 0 0)) ∧
    (W.frozen? ⟨g, 0, none⟩ = false ∧ W.frozen? ⟨g, 1, none⟩ = false ∧ W.frozen? ⟨g, 2, none⟩ = false ∧ W.frozen? ⟨g, 3, none⟩ = false ∧ W.frozen? ⟨g, 4, none⟩ = false) :=
  ⟨⟨by rw [cell_of_row _ _ _ _ _ _ h]; rfl, by rw [cell_of_row _ _ _ _ _ _ h]; rfl, by rw [cell_of_row _ _ _ _ _ _ h]; rfl, by rw [cell_of_row _ _ _ _ _ _ h]; rfl, by rw [cell_of_row _ _ _ _ _ _ h]; rfl⟩,
   ⟨frozen_of_row _ _ _ _ _ h, frozen_of_row _ _ _ _ _ h, frozen_of_row _ _ _ _ _ h, frozen_of_row _ _ _ _ _ h, frozen_of_row _ _ _ _ _ h⟩⟩
theorem five_cells (w : World) (g : Nat) (a b c d : ByteArray) (v v0 v1 v2 v3 v4 : Value) (h : w.heap[g]? = some (.cells #[v0, v1, v2, v3, v4] 30 (0, 0))) :
    (((((w.setCell ⟨g, 0, none⟩ (.string a)).setCell ⟨g, 1, none⟩ (.string b)).setCell ⟨g, 2, none⟩ (.string c)).setCell ⟨g, 3, none⟩ (.string d)).setCell ⟨g, 4, none⟩ v).heap[g]? = some (.cells #[.string a, .string b, .string c, .string d, v] 30 (0, 0)) := by
  rw [heap_setCell_same _ _ _ _ _ _ (heap_setCell_same _ _ _ _ _ _ (heap_setCell_same _ _ _ _ _ _ (heap_setCell_same _ _ _ _ _ _ (heap_setCell_same _ _ _ _ _ _ h))))]
  rfl
theorem ret_offer {fn : Func} {p u : Tmp} (h : fn.results = #[.cell p 30, .tmp u]) (tmps : Array Value) (w : World) (g : Nat) (t : TypeId) (cs : Array Value) (fr : Nat × Nat)
    (hp : tmps.getD p undef = .pointer (some ⟨g, 0, none⟩)) (hg : w.heap[g]? = some (.cells cs t fr)) (hs : cs.size = 5) :
    (results fn tmps).run Tryz.prog w = .ok (.tuple #[.agg cs, tmps.getD u undef]) w := by
  have hi : (Tryz.prog.info? 30).map (·.size) = some cs.size := by rw [hs]; kernel_rfl
  rw [results_cell_tmp h, hp]
  simp [asAddr, Result.andThen, run_loadVar_row (P := Tryz.prog) w g t 30 cs fr _ hg Tryz.underlying30 rfl hi]
theorem grown_five (W : World) (g : Nat) (a b c d v : Value) : W.grownBy (((((W.setCell ⟨g, 0, none⟩ a).setCell ⟨g, 1, none⟩ b).setCell ⟨g, 2, none⟩ c).setCell ⟨g, 3, none⟩ d).setCell ⟨g, 4, none⟩ v) (some g) :=
  grown_trans (grown_trans (grown_trans (grown_trans (grown_setCell W g 0 a) (grown_setCell _ g 1 b)) (grown_setCell _ g 2 c)) (grown_setCell _ g 3 d)) (grown_setCell _ g 4 v)
set_option maxHeartbeats 4000000 in
theorem question_any (h : HdV) (bx : Value) (w : World) (hg : GlobA w) (hv : FieldsAt w bx h.fs) (hf : Fw h) :
    Calls Tryz.prog 14 #[.agg #[.string h.a, .string h.b, .string h.c, bx]] w fun e w' => Sl (QuestR w' h e) ∧ Sl (Below w.heap.size w w') := by
  have HG := Sl.mk hg
  have HV := Sl.mk hv
  have HF := Sl.mk hf
  clear hg hv hf
  obtain ⟨w1, hw1⟩ : ∃ V, (((w.alloc (.cells #[.string h.a, .string h.b, .string h.c, bx] 25)).alloc (.cells #[.string { data := #[] }, .string { data := #[] }, .string { data := #[] }, .string { data := #[] }, .slice none 0 0] 30)).alloc (.cells #[.string h.b, .string { data := #[] }, .string { data := #[] }, .string { data := #[] }, .slice none 0 0] 30)) = V := ⟨_, rfl⟩
  have HZ1 : Sl (w1.heap.size = w.heap.size + 1 + 1 + 1) := ⟨by rw [← hw1]; rw [alloc_size, alloc_size, alloc_size]⟩
  have HB1 : Sl (Below w.heap.size w w1) := ⟨by rw [← hw1]; exact (((Below.refl _ _).alloc (Nat.le_refl _) _).alloc (by rw [alloc_size]; omega) _).alloc (by rw [alloc_size, alloc_size]; omega) _⟩
  have HR1 : Sl (w1.heap[w.heap.size + 1]? = some (.cells #[.string e0, .string e0, .string e0, .string e0, .slice none 0 0] 30 (0, 0))) := ⟨by
    rw [← hw1, alloc_old _ _ _ (by rw [alloc_size, alloc_size]; omega)]; exact alloc_new _ _ _ (by rw [alloc_size])⟩
  have HP1 : Sl (w1.heap[w.heap.size + 1 + 1]? = some (.cells #[.string h.b, .string e0, .string e0, .string e0, .slice none 0 0] 30 (0, 0))) := ⟨by
    rw [← hw1]; exact alloc_new _ _ _ (by rw [alloc_size, alloc_size])⟩
  have HH1 : Sl (QL0 w (w.heap.size + 1 + 1 + 1) (w.heap.size + 1 + 1 + 1 + 1) (w.heap.size + 1 + 1) (w.heap.size + 1 + 1 + 1 + 1 + 1) (w.heap.size + 1) h bx (((w1.alloc (.cells #[.string h.a, .string h.b, .string h.c, bx] 25)).alloc (.cells #[.pointer (some ⟨w.heap.size + 1 + 1, 0, none⟩)] 68)).alloc (.cells (stepCells w1.heap.size (w1.heap.size + 1)) 70))) := ⟨by
    have hz := HZ1.out
    show QS w (w.heap.size + 1 + 1 + 1) (w.heap.size + 1 + 1 + 1 + 1) (w.heap.size + 1 + 1) (w.heap.size + 1 + 1 + 1 + 1 + 1) [(w.heap.size + 1, .cells #[.string e0, .string e0, .string e0, .string e0, .slice none 0 0] 30 (0, 0))] h bx h.b e0 e0 e0 (.slice none 0 0) _
    exact {
      B := ((HB1.out.alloc HB1.out.size _).alloc (by rw [alloc_size]; have := HB1.out.size; omega) _).alloc (by rw [alloc_size, alloc_size]; have := HB1.out.size; omega) _
      H := by rw [alloc_old _ _ _ (by rw [alloc_size, alloc_size]; omega), alloc_old _ _ _ (by rw [alloc_size]; omega)]; exact alloc_new _ _ _ hz.symm
      O := by rw [alloc_old _ _ _ (by rw [alloc_size, alloc_size]; omega)]; exact alloc_new _ _ _ (by rw [alloc_size, hz])
      P := by rw [alloc_old _ _ _ (by rw [alloc_size, alloc_size]; have := lt_of_block HP1.out; omega), alloc_old _ _ _ (by rw [alloc_size]; have := lt_of_block HP1.out; omega), alloc_old _ _ _ (lt_of_block HP1.out)]; exact HP1.out
      S := by rw [hz]; exact alloc_new _ _ _ (by rw [alloc_size, alloc_size, hz])
      g := by omega
      K := fun x hx => by
        obtain rfl := List.mem_singleton.1 hx
        exact ⟨by rw [alloc_old _ _ _ (by rw [alloc_size, alloc_size]; have := lt_of_block HR1.out; omega), alloc_old _ _ _ (by rw [alloc_size]; have := lt_of_block HR1.out; omega), alloc_old _ _ _ (lt_of_block HR1.out)]; exact HR1.out, show w.heap.size + 1 ≠ w.heap.size + 1 + 1 by omega⟩ }⟩
  rw [← hw1] at HH1
  clear hw1 HZ1 HB1 HR1 HP1
  clear w1
  go_enter Tryz.func14, Tryz.ntmps14
  go_wp2_with fail
  refine (steps_any h bx _ _).mono ?_
  rintro e w2 ⟨rfl, hw2⟩
  have HQ0 : Sl (QL0 w (w.heap.size + 1 + 1 + 1) (w.heap.size + 1 + 1 + 1 + 1) (w.heap.size + 1 + 1) (w.heap.size + 1 + 1 + 1 + 1 + 1) (w.heap.size + 1) h bx w2) := ⟨by rw [← hw2]; exact HH1.out⟩
  clear hw2 HH1
  go_wp2_with fail
  go_loopw [14] (fun i wr => ∃ k : Nat, k ≤ 9 ∧ i = .int .i64 k ∧ QL w (w.heap.size + 1 + 1 + 1) (w.heap.size + 1 + 1 + 1 + 1) (w.heap.size + 1 + 1) (w.heap.size + 1 + 1 + 1 + 1 + 1) (w.heap.size + 1) h bx k wr) (fun i _ => 9 - (intOf i).toNat)
  case atStart => exact ⟨0, by omega, rfl, HQ0.out⟩
  case round =>
    clear HQ0
    obtain ⟨k, hk, rfl, hq⟩ := hrel
    have HQ := Sl.mk hq
    clear hq
    by_cases hlt : k < 9
    · have hk9 : k = 0 ∨ k = 1 ∨ k = 2 ∨ k = 3 ∨ k = 4 ∨ k = 5 ∨ k = 6 ∨ k = 7 ∨ k = 8 := by omega
      clear hlt hk
      rcases hk9 with rfl | rfl | rfl | rfl | rfl | rfl | rfl | rfl | rfl
      · have hs : QL0 w (w.heap.size + 1 + 1 + 1) (w.heap.size + 1 + 1 + 1 + 1) (w.heap.size + 1 + 1) (w.heap.size + 1 + 1 + 1 + 1 + 1) (w.heap.size + 1) h bx wr := HQ.out
        have HS : Sl (QS w (w.heap.size + 1 + 1 + 1) (w.heap.size + 1 + 1 + 1 + 1) (w.heap.size + 1 + 1) (w.heap.size + 1 + 1 + 1 + 1 + 1) [(w.heap.size + 1, .cells #[.string e0, .string e0, .string e0, .string e0, .slice none 0 0] 30 (0, 0))] h bx h.b e0 e0 e0 (.slice none 0 0) wr) := ⟨hs⟩
        clear hs HQ
        have s0 : wr.cell? ⟨w.heap.size + 1 + 1 + 1 + 1 + 1, 0, none⟩ = some (.int .i64 405) := step_cell HS.out.S 0 _ rfl
        have s1 : wr.cell? ⟨w.heap.size + 1 + 1 + 1 + 1 + 1, 1, none⟩ = some (.func (.func 67) #[] #[.pointer (some ⟨w.heap.size + 1 + 1 + 1, 0, none⟩)]) := step_cell HS.out.S 1 _ rfl
        obtain ⟨WA, hWA⟩ : ∃ V, wr.alloc (.cells #[.int .i64 405, .func (.func 67) #[] #[.pointer (some ⟨w.heap.size + 1 + 1 + 1, 0, none⟩)]] 70) = V := ⟨_, rfl⟩
        have HBA : Sl (Below wr.heap.size wr WA) := ⟨by rw [← hWA]; exact (Below.refl _ _).alloc (Nat.le_refl _) _⟩
        have HQA : Sl (QS w (w.heap.size + 1 + 1 + 1) (w.heap.size + 1 + 1 + 1 + 1) (w.heap.size + 1 + 1) (w.heap.size + 1 + 1 + 1 + 1 + 1) ((wr.heap.size, .cells #[.int .i64 405, .func (.func 67) #[] #[.pointer (some ⟨w.heap.size + 1 + 1 + 1, 0, none⟩)]] 70 (0, 0)) :: [(w.heap.size + 1, .cells #[.string e0, .string e0, .string e0, .string e0, .slice none 0 0] 30 (0, 0))]) h bx h.b e0 e0 e0 (.slice none 0 0) WA) := ⟨(HS.out.below HBA.out).more _ _ (by rw [← hWA]; exact alloc_new _ _ _ rfl) (by have := lt_of_block HS.out.P; omega)⟩
        have sA0 : WA.cell? ⟨wr.heap.size, 0, none⟩ = some (.int .i64 405) := by rw [cell_of_row _ _ _ _ _ _ (HQA.out.K _ (List.mem_cons_self)).1]; rfl
        have sA1 : WA.cell? ⟨wr.heap.size, 1, none⟩ = some (.func (.func 67) #[] #[.pointer (some ⟨w.heap.size + 1 + 1 + 1, 0, none⟩)]) := by rw [cell_of_row _ _ _ _ _ _ (HQA.out.K _ (List.mem_cons_self)).1]; rfl
        have CK := Sl.mk (step1 h bx _ WA _ rfl HQA.out.H)
        obtain ⟨r, hr⟩ : ∃ r, r1B h = r := ⟨_, rfl⟩
        have HRN := Sl.mk hr
        rw [show (h.a.toList == bGET.toList) = r from hr] at CK
        clear hr
        cases r with
        | true =>
          go_wp2_with fail
          clear hWA
          refine CK.out.mono ?_
          rintro e w3 ⟨rfl, rfl⟩
          have HQ3 := HQA
          clear s0 s1 sA0 sA1 CK
          go_wp2
          exact ⟨⟨1, by omega, by go_num, ⟨HRN.out, HQ3.out.less⟩⟩, by simp [intOf]⟩
        | false =>
          go_wp2_with fail
          clear hWA
          refine CK.out.mono ?_
          rintro e w3 ⟨rfl, rfl⟩
          have HQ3 := HQA
          have HX3 := (HQ3.out.K _ (List.mem_cons_self)).1
          have HY3 := (HQ3.out.K _ (List.mem_cons_of_mem _ List.mem_cons_self)).1
          have t0 : WA.cell? ⟨wr.heap.size, 0, none⟩ = some (.int .i64 405) := by rw [cell_of_row _ _ _ _ _ _ HX3]; rfl
          have HY := Sl.mk HY3
          have HBW : Sl (Below w.heap.size w WA) := ⟨HQ3.out.B⟩
          obtain ⟨⟨a0, a1, a2, a3, a4⟩, ⟨f0, f1, f2, f3, f4⟩⟩ := five_zero HY.out
          have HX := Sl.mk HX3
          clear HX3 HY3 s0 s1 sA0 sA1 CK HQA HS HBA
          have HST : Sl (statV h = 405) := ⟨by unfold statV; rw [if_pos HRN.out]⟩
          go_wp2
          obtain ⟨R, hR⟩ : ∃ R, WA.drew = R := ⟨_, rfl⟩
          have HXR : R.heap[wr.heap.size]? = some (.cells #[.int .i64 405, .func (.func 67) #[] #[.pointer (some ⟨w.heap.size + 1 + 1 + 1, 0, none⟩)]] 70 (0, 0)) := by rw [← hR]; exact HX.out
          have HYR : Sl (R.heap[w.heap.size + 1]? = some (.cells #[.string e0, .string e0, .string e0, .string e0, .slice none 0 0] 30 (0, 0))) := ⟨by rw [← hR]; exact HY.out⟩
          have HBR : Sl (Below w.heap.size w R) := ⟨by rw [← hR]; exact HBW.out.drew⟩
          refine wp_region_noPanic ?_
          refine wp_region_held (S := fun V => V.heap[wr.heap.size]? = some (.cells #[.int .i64 405, .func (.func 67) #[] #[.pointer (some ⟨w.heap.size + 1 + 1 + 1, 0, none⟩)]] 70 (0, 0))) (by kernel_rfl) ?_
          change wpAnyH _ _ _ _ _ _ _ _ WA.drew
          rw [hR]
          clear hR a0 a1 a2 a3 a4 f0 f1 f2 f3 f4 t0
          refine heldTake (d := some 22) (op := Go.Op.build 30 #[]) (g := none) 0 ?v0k0 rfl (by kernel_rfl) (by kernel_rfl) (by kernel_rfl) (by kernel_rfl) ?y0k0 HXR ?_
          case y0k0 => intro o ho w _; simp only [execOp, ho]; go_simp; try rfl
          simp only [Act.put, List.setIfInBounds_toArray, List.set_cons_zero, List.set_cons_succ]
          refine heldTake (d := some 23) (op := Go.Op.fieldAddr 70 (Go.Operand.tmp 6) 0) (g := none) 1 ?v1k0 rfl (by kernel_rfl) (by kernel_rfl) (by kernel_rfl) (by kernel_rfl) ?y1k0 HXR ?_
          case y1k0 => intro o ho w _; simp only [execOp, ho]; go_simp; try rfl
          simp only [Act.put, List.setIfInBounds_toArray, List.set_cons_zero, List.set_cons_succ]
          refine heldTake (d := some 24) (op := Go.Op.load 3 (Go.Operand.tmp 23)) (g := none) 2 ?v2k0 rfl (by kernel_rfl) (by kernel_rfl) (by kernel_rfl) (by kernel_rfl) ?y2k0 HXR ?_
          case y2k0 => intro o ho w hS; have t0 : w.cell? ⟨wr.heap.size, 0, none⟩ = some (.int .i64 405) := (cell_of_row _ _ _ _ _ _ hS); simp only [execOp, ho]; go_simp; try rfl
          simp only [Act.put, List.setIfInBounds_toArray, List.set_cons_zero, List.set_cons_succ]
          obtain ⟨⟨a0, a1, a2, a3, a4⟩, ⟨f0, f1, f2, f3, f4⟩⟩ := five_zero HYR.out
          have hne : wr.heap.size ≠ w.heap.size + 1 := fun e => by
            have h1 := HYR.out
            rw [← e, HXR] at h1
            injection h1 with h1
            injection h1 with _ h2
            revert h2; decide
          have HXS : (((((R.setCell ⟨w.heap.size + 1, 0, none⟩ (.string { data := #[] })).setCell ⟨w.heap.size + 1, 1, none⟩ (.string { data := #[] })).setCell ⟨w.heap.size + 1, 2, none⟩ (.string { data := #[] })).setCell ⟨w.heap.size + 1, 3, none⟩ (.string { data := #[] })).setCell ⟨w.heap.size + 1, 4, none⟩ (.slice none 0 0)).heap[wr.heap.size]? = some (.cells #[.int .i64 405, .func (.func 67) #[] #[.pointer (some ⟨w.heap.size + 1 + 1 + 1, 0, none⟩)]] 70 (0, 0)) := by
            rw [(grown_five R (w.heap.size + 1) _ _ _ _ _).block _ (lt_of_block HXR) (fun e => hne (by injection e))]; exact HXR
          refine heldStore (d := none) (op := Go.Op.store 30 (Go.Operand.tmp 2) (Go.Operand.tmp 22)) (g := none) 3 (((((R.setCell ⟨w.heap.size + 1, 0, none⟩ (.string { data := #[] })).setCell ⟨w.heap.size + 1, 1, none⟩ (.string { data := #[] })).setCell ⟨w.heap.size + 1, 2, none⟩ (.string { data := #[] })).setCell ⟨w.heap.size + 1, 3, none⟩ (.string { data := #[] })).setCell ⟨w.heap.size + 1, 4, none⟩ (.slice none 0 0)) rfl (by kernel_rfl) (by kernel_rfl) ?y3k0 HXS ?_
          case y3k0 => intro o ho ht; simp only [execOp, ho]; go_simp; try rfl
          simp only [Act.put]
          refine heldTake (d := some 3) (op := Go.Op.assign (Go.Operand.tmp 24)) (g := none) 4 ?v4k0 rfl (by kernel_rfl) (by kernel_rfl) (by kernel_rfl) (by kernel_rfl) ?y4k0 HXS ?_
          case y4k0 => intro o ho w _; simp only [execOp, ho]; go_simp; try rfl
          simp only [Act.put, List.setIfInBounds_toArray, List.set_cons_zero, List.set_cons_succ]
          refine wpAnyH_done (by kernel_rfl) ?_ _
          refine NoPanic.normal ?_
          clear a0 a1 a2 a3 a4 f0 f1 f2 f3 f4 HXS HXR
          go_wp2
          refine bodyPost_ret (ret_offer rfl _ _ (w.heap.size + 1) 30 _ (0, 0) rfl (five_cells _ _ _ _ _ _ _ _ _ _ _ _ HYR.out) rfl) rfl ?_
          exact ⟨⟨.inl ⟨by rw [HST.out]; decide, by rw [HST.out]; rfl⟩⟩, ⟨HBR.out.grown (grown_five R (w.heap.size + 1) _ _ _ _ _) HBR.out.size (fun g hg => by injection hg with hg; omega)⟩⟩
      · have hs : QL1 w (w.heap.size + 1 + 1 + 1) (w.heap.size + 1 + 1 + 1 + 1) (w.heap.size + 1 + 1) (w.heap.size + 1 + 1 + 1 + 1 + 1) (w.heap.size + 1) h bx wr := HQ.out
        obtain ⟨hr1, hs⟩ := hs
        have HR1 := Sl.mk hr1
        have HS : Sl (QS w (w.heap.size + 1 + 1 + 1) (w.heap.size + 1 + 1 + 1 + 1) (w.heap.size + 1 + 1) (w.heap.size + 1 + 1 + 1 + 1 + 1) [(w.heap.size + 1, .cells #[.string e0, .string e0, .string e0, .string e0, .slice none 0 0] 30 (0, 0))] h bx h.b e0 e0 e0 (.slice none 0 0) wr) := ⟨hs⟩
        clear hs HQ hr1
        have s0 : wr.cell? ⟨w.heap.size + 1 + 1 + 1 + 1 + 1, 2, none⟩ = some (.int .i64 400) := step_cell HS.out.S 2 _ rfl
        have s1 : wr.cell? ⟨w.heap.size + 1 + 1 + 1 + 1 + 1, 3, none⟩ = some (.func (.func 68) #[] #[.pointer (some ⟨w.heap.size + 1 + 1 + 1, 0, none⟩)]) := step_cell HS.out.S 3 _ rfl
        obtain ⟨WA, hWA⟩ : ∃ V, wr.alloc (.cells #[.int .i64 400, .func (.func 68) #[] #[.pointer (some ⟨w.heap.size + 1 + 1 + 1, 0, none⟩)]] 70) = V := ⟨_, rfl⟩
        have HBA : Sl (Below wr.heap.size wr WA) := ⟨by rw [← hWA]; exact (Below.refl _ _).alloc (Nat.le_refl _) _⟩
        have HQA : Sl (QS w (w.heap.size + 1 + 1 + 1) (w.heap.size + 1 + 1 + 1 + 1) (w.heap.size + 1 + 1) (w.heap.size + 1 + 1 + 1 + 1 + 1) ((wr.heap.size, .cells #[.int .i64 400, .func (.func 68) #[] #[.pointer (some ⟨w.heap.size + 1 + 1 + 1, 0, none⟩)]] 70 (0, 0)) :: [(w.heap.size + 1, .cells #[.string e0, .string e0, .string e0, .string e0, .slice none 0 0] 30 (0, 0))]) h bx h.b e0 e0 e0 (.slice none 0 0) WA) := ⟨(HS.out.below HBA.out).more _ _ (by rw [← hWA]; exact alloc_new _ _ _ rfl) (by have := lt_of_block HS.out.P; omega)⟩
        have sA0 : WA.cell? ⟨wr.heap.size, 0, none⟩ = some (.int .i64 400) := by rw [cell_of_row _ _ _ _ _ _ (HQA.out.K _ (List.mem_cons_self)).1]; rfl
        have sA1 : WA.cell? ⟨wr.heap.size, 1, none⟩ = some (.func (.func 68) #[] #[.pointer (some ⟨w.heap.size + 1 + 1 + 1, 0, none⟩)]) := by rw [cell_of_row _ _ _ _ _ _ (HQA.out.K _ (List.mem_cons_self)).1]; rfl
        have CK := Sl.mk (step2 h bx _ WA _ rfl HQA.out.H)
        obtain ⟨r, hr⟩ : ∃ r, r2B h = r := ⟨_, rfl⟩
        have HRN := Sl.mk hr
        rw [show ((h.c.toList == bH11.toList) && Lib.hasPrefix h.b.data.toList [47]) = r from hr] at CK
        clear hr
        cases r with
        | true =>
          go_wp2_with fail
          clear hWA
          refine CK.out.mono ?_
          rintro e w3 ⟨rfl, rfl⟩
          have HQ3 := HQA
          clear s0 s1 sA0 sA1 CK
          go_wp2
          exact ⟨⟨2, by omega, by go_num, ⟨HR1.out, HRN.out, HQ3.out.less⟩⟩, by simp [intOf]⟩
        | false =>
          go_wp2_with fail
          clear hWA
          refine CK.out.mono ?_
          rintro e w3 ⟨rfl, rfl⟩
          have HQ3 := HQA
          have HX3 := (HQ3.out.K _ (List.mem_cons_self)).1
          have HY3 := (HQ3.out.K _ (List.mem_cons_of_mem _ List.mem_cons_self)).1
          have t0 : WA.cell? ⟨wr.heap.size, 0, none⟩ = some (.int .i64 400) := by rw [cell_of_row _ _ _ _ _ _ HX3]; rfl
          have HY := Sl.mk HY3
          have HBW : Sl (Below w.heap.size w WA) := ⟨HQ3.out.B⟩
          obtain ⟨⟨a0, a1, a2, a3, a4⟩, ⟨f0, f1, f2, f3, f4⟩⟩ := five_zero HY.out
          have HX := Sl.mk HX3
          clear HX3 HY3 s0 s1 sA0 sA1 CK HQA HS HBA
          have HST : Sl (statV h = 400) := ⟨by unfold statV; rw [if_neg (by rw [HR1.out]; decide)]; rw [if_pos HRN.out]⟩
          go_wp2
          obtain ⟨R, hR⟩ : ∃ R, WA.drew = R := ⟨_, rfl⟩
          have HXR : R.heap[wr.heap.size]? = some (.cells #[.int .i64 400, .func (.func 68) #[] #[.pointer (some ⟨w.heap.size + 1 + 1 + 1, 0, none⟩)]] 70 (0, 0)) := by rw [← hR]; exact HX.out
          have HYR : Sl (R.heap[w.heap.size + 1]? = some (.cells #[.string e0, .string e0, .string e0, .string e0, .slice none 0 0] 30 (0, 0))) := ⟨by rw [← hR]; exact HY.out⟩
          have HBR : Sl (Below w.heap.size w R) := ⟨by rw [← hR]; exact HBW.out.drew⟩
          refine wp_region_noPanic ?_
          refine wp_region_held (S := fun V => V.heap[wr.heap.size]? = some (.cells #[.int .i64 400, .func (.func 68) #[] #[.pointer (some ⟨w.heap.size + 1 + 1 + 1, 0, none⟩)]] 70 (0, 0))) (by kernel_rfl) ?_
          change wpAnyH _ _ _ _ _ _ _ _ WA.drew
          rw [hR]
          clear hR a0 a1 a2 a3 a4 f0 f1 f2 f3 f4 t0
          refine heldTake (d := some 22) (op := Go.Op.build 30 #[]) (g := none) 0 ?v0k1 rfl (by kernel_rfl) (by kernel_rfl) (by kernel_rfl) (by kernel_rfl) ?y0k1 HXR ?_
          case y0k1 => intro o ho w _; simp only [execOp, ho]; go_simp; try rfl
          simp only [Act.put, List.setIfInBounds_toArray, List.set_cons_zero, List.set_cons_succ]
          refine heldTake (d := some 23) (op := Go.Op.fieldAddr 70 (Go.Operand.tmp 6) 0) (g := none) 1 ?v1k1 rfl (by kernel_rfl) (by kernel_rfl) (by kernel_rfl) (by kernel_rfl) ?y1k1 HXR ?_
          case y1k1 => intro o ho w _; simp only [execOp, ho]; go_simp; try rfl
          simp only [Act.put, List.setIfInBounds_toArray, List.set_cons_zero, List.set_cons_succ]
          refine heldTake (d := some 24) (op := Go.Op.load 3 (Go.Operand.tmp 23)) (g := none) 2 ?v2k1 rfl (by kernel_rfl) (by kernel_rfl) (by kernel_rfl) (by kernel_rfl) ?y2k1 HXR ?_
          case y2k1 => intro o ho w hS; have t0 : w.cell? ⟨wr.heap.size, 0, none⟩ = some (.int .i64 400) := (cell_of_row _ _ _ _ _ _ hS); simp only [execOp, ho]; go_simp; try rfl
          simp only [Act.put, List.setIfInBounds_toArray, List.set_cons_zero, List.set_cons_succ]
          obtain ⟨⟨a0, a1, a2, a3, a4⟩, ⟨f0, f1, f2, f3, f4⟩⟩ := five_zero HYR.out
          have hne : wr.heap.size ≠ w.heap.size + 1 := fun e => by
            have h1 := HYR.out
            rw [← e, HXR] at h1
            injection h1 with h1
            injection h1 with _ h2
            revert h2; decide
          have HXS : (((((R.setCell ⟨w.heap.size + 1, 0, none⟩ (.string { data := #[] })).setCell ⟨w.heap.size + 1, 1, none⟩ (.string { data := #[] })).setCell ⟨w.heap.size + 1, 2, none⟩ (.string { data := #[] })).setCell ⟨w.heap.size + 1, 3, none⟩ (.string { data := #[] })).setCell ⟨w.heap.size + 1, 4, none⟩ (.slice none 0 0)).heap[wr.heap.size]? = some (.cells #[.int .i64 400, .func (.func 68) #[] #[.pointer (some ⟨w.heap.size + 1 + 1 + 1, 0, none⟩)]] 70 (0, 0)) := by
            rw [(grown_five R (w.heap.size + 1) _ _ _ _ _).block _ (lt_of_block HXR) (fun e => hne (by injection e))]; exact HXR
          refine heldStore (d := none) (op := Go.Op.store 30 (Go.Operand.tmp 2) (Go.Operand.tmp 22)) (g := none) 3 (((((R.setCell ⟨w.heap.size + 1, 0, none⟩ (.string { data := #[] })).setCell ⟨w.heap.size + 1, 1, none⟩ (.string { data := #[] })).setCell ⟨w.heap.size + 1, 2, none⟩ (.string { data := #[] })).setCell ⟨w.heap.size + 1, 3, none⟩ (.string { data := #[] })).setCell ⟨w.heap.size + 1, 4, none⟩ (.slice none 0 0)) rfl (by kernel_rfl) (by kernel_rfl) ?y3k1 HXS ?_
          case y3k1 => intro o ho ht; simp only [execOp, ho]; go_simp; try rfl
          simp only [Act.put]
          refine heldTake (d := some 3) (op := Go.Op.assign (Go.Operand.tmp 24)) (g := none) 4 ?v4k1 rfl (by kernel_rfl) (by kernel_rfl) (by kernel_rfl) (by kernel_rfl) ?y4k1 HXS ?_
          case y4k1 => intro o ho w _; simp only [execOp, ho]; go_simp; try rfl
          simp only [Act.put, List.setIfInBounds_toArray, List.set_cons_zero, List.set_cons_succ]
          refine wpAnyH_done (by kernel_rfl) ?_ _
          refine NoPanic.normal ?_
          clear a0 a1 a2 a3 a4 f0 f1 f2 f3 f4 HXS HXR
          go_wp2
          refine bodyPost_ret (ret_offer rfl _ _ (w.heap.size + 1) 30 _ (0, 0) rfl (five_cells _ _ _ _ _ _ _ _ _ _ _ _ HYR.out) rfl) rfl ?_
          exact ⟨⟨.inl ⟨by rw [HST.out]; decide, by rw [HST.out]; rfl⟩⟩, ⟨HBR.out.grown (grown_five R (w.heap.size + 1) _ _ _ _ _) HBR.out.size (fun g hg => by injection hg with hg; omega)⟩⟩
      · have hs : QL2 w (w.heap.size + 1 + 1 + 1) (w.heap.size + 1 + 1 + 1 + 1) (w.heap.size + 1 + 1) (w.heap.size + 1 + 1 + 1 + 1 + 1) (w.heap.size + 1) h bx wr := HQ.out
        obtain ⟨hr1, hr2, hs⟩ := hs
        have HR1 := Sl.mk hr1
        have HR2 := Sl.mk hr2
        have HS : Sl (QS w (w.heap.size + 1 + 1 + 1) (w.heap.size + 1 + 1 + 1 + 1) (w.heap.size + 1 + 1) (w.heap.size + 1 + 1 + 1 + 1 + 1) [(w.heap.size + 1, .cells #[.string e0, .string e0, .string e0, .string e0, .slice none 0 0] 30 (0, 0))] h bx h.b e0 e0 e0 (.slice none 0 0) wr) := ⟨hs⟩
        clear hs HQ hr1 hr2
        have s0 : wr.cell? ⟨w.heap.size + 1 + 1 + 1 + 1 + 1, 4, none⟩ = some (.int .i64 400) := step_cell HS.out.S 4 _ rfl
        have s1 : wr.cell? ⟨w.heap.size + 1 + 1 + 1 + 1 + 1, 5, none⟩ = some (.func (.func 70) #[] #[.pointer (some ⟨w.heap.size + 1 + 1 + 1, 0, none⟩), .pointer (some ⟨w.heap.size + 1 + 1 + 1 + 1, 0, none⟩)]) := step_cell HS.out.S 5 _ rfl
        obtain ⟨WA, hWA⟩ : ∃ V, wr.alloc (.cells #[.int .i64 400, .func (.func 70) #[] #[.pointer (some ⟨w.heap.size + 1 + 1 + 1, 0, none⟩), .pointer (some ⟨w.heap.size + 1 + 1 + 1 + 1, 0, none⟩)]] 70) = V := ⟨_, rfl⟩
        have HBA : Sl (Below wr.heap.size wr WA) := ⟨by rw [← hWA]; exact (Below.refl _ _).alloc (Nat.le_refl _) _⟩
        have HQA : Sl (QS w (w.heap.size + 1 + 1 + 1) (w.heap.size + 1 + 1 + 1 + 1) (w.heap.size + 1 + 1) (w.heap.size + 1 + 1 + 1 + 1 + 1) ((wr.heap.size, .cells #[.int .i64 400, .func (.func 70) #[] #[.pointer (some ⟨w.heap.size + 1 + 1 + 1, 0, none⟩), .pointer (some ⟨w.heap.size + 1 + 1 + 1 + 1, 0, none⟩)]] 70 (0, 0)) :: [(w.heap.size + 1, .cells #[.string e0, .string e0, .string e0, .string e0, .slice none 0 0] 30 (0, 0))]) h bx h.b e0 e0 e0 (.slice none 0 0) WA) := ⟨(HS.out.below HBA.out).more _ _ (by rw [← hWA]; exact alloc_new _ _ _ rfl) (by have := lt_of_block HS.out.P; omega)⟩
        have sA0 : WA.cell? ⟨wr.heap.size, 0, none⟩ = some (.int .i64 400) := by rw [cell_of_row _ _ _ _ _ _ (HQA.out.K _ (List.mem_cons_self)).1]; rfl
        have sA1 : WA.cell? ⟨wr.heap.size, 1, none⟩ = some (.func (.func 70) #[] #[.pointer (some ⟨w.heap.size + 1 + 1 + 1, 0, none⟩), .pointer (some ⟨w.heap.size + 1 + 1 + 1 + 1, 0, none⟩)]) := by rw [cell_of_row _ _ _ _ _ _ (HQA.out.K _ (List.mem_cons_self)).1]; rfl
        have CK := Sl.mk (step3 w _ _ _ _ _ h bx _ _ _ _ _ WA _ _ rfl rfl HV.out HF.out HQA.out)
        obtain ⟨r, hr⟩ : ∃ r, r3B h = r := ⟨_, rfl⟩
        have HRN := Sl.mk hr
        rw [show (!((oneS (getV h.fs bHost)).toList == [])) = r from hr] at CK
        clear hr
        cases r with
        | true =>
          go_wp2_with fail
          clear hWA
          refine CK.out.mono ?_
          rintro e w3 ⟨rfl, HQ3⟩
          clear s0 s1 sA0 sA1 CK
          go_wp2
          exact ⟨⟨3, by omega, by go_num, ⟨HR1.out, HR2.out, HRN.out, HQ3.out.less⟩⟩, by simp [intOf]⟩
        | false =>
          go_wp2_with fail
          clear hWA
          refine CK.out.mono ?_
          rintro e w3 ⟨rfl, HQ3⟩
          have HX3 := (HQ3.out.K _ (List.mem_cons_self)).1
          have HY3 := (HQ3.out.K _ (List.mem_cons_of_mem _ List.mem_cons_self)).1
          have t0 : w3.cell? ⟨wr.heap.size, 0, none⟩ = some (.int .i64 400) := by rw [cell_of_row _ _ _ _ _ _ HX3]; rfl
          have HY := Sl.mk HY3
          have HBW : Sl (Below w.heap.size w w3) := ⟨HQ3.out.B⟩
          obtain ⟨⟨a0, a1, a2, a3, a4⟩, ⟨f0, f1, f2, f3, f4⟩⟩ := five_zero HY.out
          have HX := Sl.mk HX3
          clear HX3 HY3 s0 s1 sA0 sA1 CK HQA HS HBA
          have HST : Sl (statV h = 400) := ⟨by unfold statV; rw [if_neg (by rw [HR1.out]; decide)]; rw [if_neg (by rw [HR2.out]; decide)]; rw [if_pos HRN.out]⟩
          go_wp2
          obtain ⟨R, hR⟩ : ∃ R, w3.drew = R := ⟨_, rfl⟩
          have HXR : R.heap[wr.heap.size]? = some (.cells #[.int .i64 400, .func (.func 70) #[] #[.pointer (some ⟨w.heap.size + 1 + 1 + 1, 0, none⟩), .pointer (some ⟨w.heap.size + 1 + 1 + 1 + 1, 0, none⟩)]] 70 (0, 0)) := by rw [← hR]; exact HX.out
          have HYR : Sl (R.heap[w.heap.size + 1]? = some (.cells #[.string e0, .string e0, .string e0, .string e0, .slice none 0 0] 30 (0, 0))) := ⟨by rw [← hR]; exact HY.out⟩
          have HBR : Sl (Below w.heap.size w R) := ⟨by rw [← hR]; exact HBW.out.drew⟩
          refine wp_region_noPanic ?_
          refine wp_region_held (S := fun V => V.heap[wr.heap.size]? = some (.cells #[.int .i64 400, .func (.func 70) #[] #[.pointer (some ⟨w.heap.size + 1 + 1 + 1, 0, none⟩), .pointer (some ⟨w.heap.size + 1 + 1 + 1 + 1, 0, none⟩)]] 70 (0, 0))) (by kernel_rfl) ?_
          change wpAnyH _ _ _ _ _ _ _ _ w3.drew
          rw [hR]
          clear hR a0 a1 a2 a3 a4 f0 f1 f2 f3 f4 t0
          refine heldTake (d := some 22) (op := Go.Op.build 30 #[]) (g := none) 0 ?v0k2 rfl (by kernel_rfl) (by kernel_rfl) (by kernel_rfl) (by kernel_rfl) ?y0k2 HXR ?_
          case y0k2 => intro o ho w _; simp only [execOp, ho]; go_simp; try rfl
          simp only [Act.put, List.setIfInBounds_toArray, List.set_cons_zero, List.set_cons_succ]
          refine heldTake (d := some 23) (op := Go.Op.fieldAddr 70 (Go.Operand.tmp 6) 0) (g := none) 1 ?v1k2 rfl (by kernel_rfl) (by kernel_rfl) (by kernel_rfl) (by kernel_rfl) ?y1k2 HXR ?_
          case y1k2 => intro o ho w _; simp only [execOp, ho]; go_simp; try rfl
          simp only [Act.put, List.setIfInBounds_toArray, List.set_cons_zero, List.set_cons_succ]
          refine heldTake (d := some 24) (op := Go.Op.load 3 (Go.Operand.tmp 23)) (g := none) 2 ?v2k2 rfl (by kernel_rfl) (by kernel_rfl) (by kernel_rfl) (by kernel_rfl) ?y2k2 HXR ?_
          case y2k2 => intro o ho w hS; have t0 : w.cell? ⟨wr.heap.size, 0, none⟩ = some (.int .i64 400) := (cell_of_row _ _ _ _ _ _ hS); simp only [execOp, ho]; go_simp; try rfl
          simp only [Act.put, List.setIfInBounds_toArray, List.set_cons_zero, List.set_cons_succ]
          obtain ⟨⟨a0, a1, a2, a3, a4⟩, ⟨f0, f1, f2, f3, f4⟩⟩ := five_zero HYR.out
          have hne : wr.heap.size ≠ w.heap.size + 1 := fun e => by
            have h1 := HYR.out
            rw [← e, HXR] at h1
            injection h1 with h1
            injection h1 with _ h2
            revert h2; decide
          have HXS : (((((R.setCell ⟨w.heap.size + 1, 0, none⟩ (.string { data := #[] })).setCell ⟨w.heap.size + 1, 1, none⟩ (.string { data := #[] })).setCell ⟨w.heap.size + 1, 2, none⟩ (.string { data := #[] })).setCell ⟨w.heap.size + 1, 3, none⟩ (.string { data := #[] })).setCell ⟨w.heap.size + 1, 4, none⟩ (.slice none 0 0)).heap[wr.heap.size]? = some (.cells #[.int .i64 400, .func (.func 70) #[] #[.pointer (some ⟨w.heap.size + 1 + 1 + 1, 0, none⟩), .pointer (some ⟨w.heap.size + 1 + 1 + 1 + 1, 0, none⟩)]] 70 (0, 0)) := by
            rw [(grown_five R (w.heap.size + 1) _ _ _ _ _).block _ (lt_of_block HXR) (fun e => hne (by injection e))]; exact HXR
          refine heldStore (d := none) (op := Go.Op.store 30 (Go.Operand.tmp 2) (Go.Operand.tmp 22)) (g := none) 3 (((((R.setCell ⟨w.heap.size + 1, 0, none⟩ (.string { data := #[] })).setCell ⟨w.heap.size + 1, 1, none⟩ (.string { data := #[] })).setCell ⟨w.heap.size + 1, 2, none⟩ (.string { data := #[] })).setCell ⟨w.heap.size + 1, 3, none⟩ (.string { data := #[] })).setCell ⟨w.heap.size + 1, 4, none⟩ (.slice none 0 0)) rfl (by kernel_rfl) (by kernel_rfl) ?y3k2 HXS ?_
          case y3k2 => intro o ho ht; simp only [execOp, ho]; go_simp; try rfl
          simp only [Act.put]
          refine heldTake (d := some 3) (op := Go.Op.assign (Go.Operand.tmp 24)) (g := none) 4 ?v4k2 rfl (by kernel_rfl) (by kernel_rfl) (by kernel_rfl) (by kernel_rfl) ?y4k2 HXS ?_
          case y4k2 => intro o ho w _; simp only [execOp, ho]; go_simp; try rfl
          simp only [Act.put, List.setIfInBounds_toArray, List.set_cons_zero, List.set_cons_succ]
          refine wpAnyH_done (by kernel_rfl) ?_ _
          refine NoPanic.normal ?_
          clear a0 a1 a2 a3 a4 f0 f1 f2 f3 f4 HXS HXR
          go_wp2
          refine bodyPost_ret (ret_offer rfl _ _ (w.heap.size + 1) 30 _ (0, 0) rfl (five_cells _ _ _ _ _ _ _ _ _ _ _ _ HYR.out) rfl) rfl ?_
          exact ⟨⟨.inl ⟨by rw [HST.out]; decide, by rw [HST.out]; rfl⟩⟩, ⟨HBR.out.grown (grown_five R (w.heap.size + 1) _ _ _ _ _) HBR.out.size (fun g hg => by injection hg with hg; omega)⟩⟩
      · have hs : QL3 w (w.heap.size + 1 + 1 + 1) (w.heap.size + 1 + 1 + 1 + 1) (w.heap.size + 1 + 1) (w.heap.size + 1 + 1 + 1 + 1 + 1) (w.heap.size + 1) h bx wr := HQ.out
        obtain ⟨hr1, hr2, hr3, hs⟩ := hs
        have HR1 := Sl.mk hr1
        have HR2 := Sl.mk hr2
        have HR3 := Sl.mk hr3
        have HS : Sl (QS w (w.heap.size + 1 + 1 + 1) (w.heap.size + 1 + 1 + 1 + 1) (w.heap.size + 1 + 1) (w.heap.size + 1 + 1 + 1 + 1 + 1) [(w.heap.size + 1, .cells #[.string e0, .string e0, .string e0, .string e0, .slice none 0 0] 30 (0, 0))] h bx h.b (oneS (getV h.fs bHost)) e0 e0 (.slice none 0 0) wr) := ⟨hs⟩
        clear hs HQ hr1 hr2 hr3
        have s0 : wr.cell? ⟨w.heap.size + 1 + 1 + 1 + 1 + 1, 6, none⟩ = some (.int .i64 426) := step_cell HS.out.S 6 _ rfl
        have s1 : wr.cell? ⟨w.heap.size + 1 + 1 + 1 + 1 + 1, 7, none⟩ = some (.func (.func 71) #[] #[.pointer (some ⟨w.heap.size + 1 + 1 + 1, 0, none⟩)]) := step_cell HS.out.S 7 _ rfl
        obtain ⟨WA, hWA⟩ : ∃ V, wr.alloc (.cells #[.int .i64 426, .func (.func 71) #[] #[.pointer (some ⟨w.heap.size + 1 + 1 + 1, 0, none⟩)]] 70) = V := ⟨_, rfl⟩
        have HBA : Sl (Below wr.heap.size wr WA) := ⟨by rw [← hWA]; exact (Below.refl _ _).alloc (Nat.le_refl _) _⟩
        have HQA : Sl (QS w (w.heap.size + 1 + 1 + 1) (w.heap.size + 1 + 1 + 1 + 1) (w.heap.size + 1 + 1) (w.heap.size + 1 + 1 + 1 + 1 + 1) ((wr.heap.size, .cells #[.int .i64 426, .func (.func 71) #[] #[.pointer (some ⟨w.heap.size + 1 + 1 + 1, 0, none⟩)]] 70 (0, 0)) :: [(w.heap.size + 1, .cells #[.string e0, .string e0, .string e0, .string e0, .slice none 0 0] 30 (0, 0))]) h bx h.b (oneS (getV h.fs bHost)) e0 e0 (.slice none 0 0) WA) := ⟨(HS.out.below HBA.out).more _ _ (by rw [← hWA]; exact alloc_new _ _ _ rfl) (by have := lt_of_block HS.out.P; omega)⟩
        have sA0 : WA.cell? ⟨wr.heap.size, 0, none⟩ = some (.int .i64 426) := by rw [cell_of_row _ _ _ _ _ _ (HQA.out.K _ (List.mem_cons_self)).1]; rfl
        have sA1 : WA.cell? ⟨wr.heap.size, 1, none⟩ = some (.func (.func 71) #[] #[.pointer (some ⟨w.heap.size + 1 + 1 + 1, 0, none⟩)]) := by rw [cell_of_row _ _ _ _ _ _ (HQA.out.K _ (List.mem_cons_self)).1]; rfl
        have CK := Sl.mk (step4 h bx _ WA _ rfl (HG.out.of HQA.out.B) (HV.out.below HQA.out.B) HF.out HQA.out.H)
        obtain ⟨r, hr⟩ : ∃ r, r4B h = r := ⟨_, rfl⟩
        have HRN := Sl.mk hr
        rw [show (Nam.hasB bWs (getV h.fs bUp)) = r from hr] at CK
        clear hr
        cases r with
        | true =>
          go_wp2_with fail
          clear hWA
          refine CK.out.mono ?_
          rintro e w3 ⟨rfl, HB3⟩
          have HQ3 := Sl.mk (HQA.out.below HB3.out)
          clear s0 s1 sA0 sA1 CK
          go_wp2
          exact ⟨⟨4, by omega, by go_num, ⟨HR1.out, HR2.out, HR3.out, HRN.out, HQ3.out.less⟩⟩, by simp [intOf]⟩
        | false =>
          go_wp2_with fail
          clear hWA
          refine CK.out.mono ?_
          rintro e w3 ⟨rfl, HB3⟩
          have HQ3 := Sl.mk (HQA.out.below HB3.out)
          have HX3 := (HQ3.out.K _ (List.mem_cons_self)).1
          have HY3 := (HQ3.out.K _ (List.mem_cons_of_mem _ List.mem_cons_self)).1
          have t0 : w3.cell? ⟨wr.heap.size, 0, none⟩ = some (.int .i64 426) := by rw [cell_of_row _ _ _ _ _ _ HX3]; rfl
          have HY := Sl.mk HY3
          have HBW : Sl (Below w.heap.size w w3) := ⟨HQ3.out.B⟩
          obtain ⟨⟨a0, a1, a2, a3, a4⟩, ⟨f0, f1, f2, f3, f4⟩⟩ := five_zero HY.out
          have HX := Sl.mk HX3
          clear HX3 HY3 s0 s1 sA0 sA1 CK HQA HS HBA
          have HST : Sl (statV h = 426) := ⟨by unfold statV; rw [if_neg (by rw [HR1.out]; decide)]; rw [if_neg (by rw [HR2.out]; decide)]; rw [if_neg (by rw [HR3.out]; decide)]; rw [if_pos HRN.out]⟩
          go_wp2
          obtain ⟨R, hR⟩ : ∃ R, w3.drew = R := ⟨_, rfl⟩
          have HXR : R.heap[wr.heap.size]? = some (.cells #[.int .i64 426, .func (.func 71) #[] #[.pointer (some ⟨w.heap.size + 1 + 1 + 1, 0, none⟩)]] 70 (0, 0)) := by rw [← hR]; exact HX.out
          have HYR : Sl (R.heap[w.heap.size + 1]? = some (.cells #[.string e0, .string e0, .string e0, .string e0, .slice none 0 0] 30 (0, 0))) := ⟨by rw [← hR]; exact HY.out⟩
          have HBR : Sl (Below w.heap.size w R) := ⟨by rw [← hR]; exact HBW.out.drew⟩
          refine wp_region_noPanic ?_
          refine wp_region_held (S := fun V => V.heap[wr.heap.size]? = some (.cells #[.int .i64 426, .func (.func 71) #[] #[.pointer (some ⟨w.heap.size + 1 + 1 + 1, 0, none⟩)]] 70 (0, 0))) (by kernel_rfl) ?_
          change wpAnyH _ _ _ _ _ _ _ _ w3.drew
          rw [hR]
          clear hR a0 a1 a2 a3 a4 f0 f1 f2 f3 f4 t0
          refine heldTake (d := some 22) (op := Go.Op.build 30 #[]) (g := none) 0 ?v0k3 rfl (by kernel_rfl) (by kernel_rfl) (by kernel_rfl) (by kernel_rfl) ?y0k3 HXR ?_
          case y0k3 => intro o ho w _; simp only [execOp, ho]; go_simp; try rfl
          simp only [Act.put, List.setIfInBounds_toArray, List.set_cons_zero, List.set_cons_succ]
          refine heldTake (d := some 23) (op := Go.Op.fieldAddr 70 (Go.Operand.tmp 6) 0) (g := none) 1 ?v1k3 rfl (by kernel_rfl) (by kernel_rfl) (by kernel_rfl) (by kernel_rfl) ?y1k3 HXR ?_
          case y1k3 => intro o ho w _; simp only [execOp, ho]; go_simp; try rfl
          simp only [Act.put, List.setIfInBounds_toArray, List.set_cons_zero, List.set_cons_succ]
          refine heldTake (d := some 24) (op := Go.Op.load 3 (Go.Operand.tmp 23)) (g := none) 2 ?v2k3 rfl (by kernel_rfl) (by kernel_rfl) (by kernel_rfl) (by kernel_rfl) ?y2k3 HXR ?_
          case y2k3 => intro o ho w hS; have t0 : w.cell? ⟨wr.heap.size, 0, none⟩ = some (.int .i64 426) := (cell_of_row _ _ _ _ _ _ hS); simp only [execOp, ho]; go_simp; try rfl
          simp only [Act.put, List.setIfInBounds_toArray, List.set_cons_zero, List.set_cons_succ]
          obtain ⟨⟨a0, a1, a2, a3, a4⟩, ⟨f0, f1, f2, f3, f4⟩⟩ := five_zero HYR.out
          have hne : wr.heap.size ≠ w.heap.size + 1 := fun e => by
            have h1 := HYR.out
            rw [← e, HXR] at h1
            injection h1 with h1
            injection h1 with _ h2
            revert h2; decide
          have HXS : (((((R.setCell ⟨w.heap.size + 1, 0, none⟩ (.string { data := #[] })).setCell ⟨w.heap.size + 1, 1, none⟩ (.string { data := #[] })).setCell ⟨w.heap.size + 1, 2, none⟩ (.string { data := #[] })).setCell ⟨w.heap.size + 1, 3, none⟩ (.string { data := #[] })).setCell ⟨w.heap.size + 1, 4, none⟩ (.slice none 0 0)).heap[wr.heap.size]? = some (.cells #[.int .i64 426, .func (.func 71) #[] #[.pointer (some ⟨w.heap.size + 1 + 1 + 1, 0, none⟩)]] 70 (0, 0)) := by
            rw [(grown_five R (w.heap.size + 1) _ _ _ _ _).block _ (lt_of_block HXR) (fun e => hne (by injection e))]; exact HXR
          refine heldStore (d := none) (op := Go.Op.store 30 (Go.Operand.tmp 2) (Go.Operand.tmp 22)) (g := none) 3 (((((R.setCell ⟨w.heap.size + 1, 0, none⟩ (.string { data := #[] })).setCell ⟨w.heap.size + 1, 1, none⟩ (.string { data := #[] })).setCell ⟨w.heap.size + 1, 2, none⟩ (.string { data := #[] })).setCell ⟨w.heap.size + 1, 3, none⟩ (.string { data := #[] })).setCell ⟨w.heap.size + 1, 4, none⟩ (.slice none 0 0)) rfl (by kernel_rfl) (by kernel_rfl) ?y3k3 HXS ?_
          case y3k3 => intro o ho ht; simp only [execOp, ho]; go_simp; try rfl
          simp only [Act.put]
          refine heldTake (d := some 3) (op := Go.Op.assign (Go.Operand.tmp 24)) (g := none) 4 ?v4k3 rfl (by kernel_rfl) (by kernel_rfl) (by kernel_rfl) (by kernel_rfl) ?y4k3 HXS ?_
          case y4k3 => intro o ho w _; simp only [execOp, ho]; go_simp; try rfl
          simp only [Act.put, List.setIfInBounds_toArray, List.set_cons_zero, List.set_cons_succ]
          refine wpAnyH_done (by kernel_rfl) ?_ _
          refine NoPanic.normal ?_
          clear a0 a1 a2 a3 a4 f0 f1 f2 f3 f4 HXS HXR
          go_wp2
          refine bodyPost_ret (ret_offer rfl _ _ (w.heap.size + 1) 30 _ (0, 0) rfl (five_cells _ _ _ _ _ _ _ _ _ _ _ _ HYR.out) rfl) rfl ?_
          exact ⟨⟨.inl ⟨by rw [HST.out]; decide, by rw [HST.out]; rfl⟩⟩, ⟨HBR.out.grown (grown_five R (w.heap.size + 1) _ _ _ _ _) HBR.out.size (fun g hg => by injection hg with hg; omega)⟩⟩
      · have hs : QL4 w (w.heap.size + 1 + 1 + 1) (w.heap.size + 1 + 1 + 1 + 1) (w.heap.size + 1 + 1) (w.heap.size + 1 + 1 + 1 + 1 + 1) (w.heap.size + 1) h bx wr := HQ.out
        obtain ⟨hr1, hr2, hr3, hr4, hs⟩ := hs
        have HR1 := Sl.mk hr1
        have HR2 := Sl.mk hr2
        have HR3 := Sl.mk hr3
        have HR4 := Sl.mk hr4
        have HS : Sl (QS w (w.heap.size + 1 + 1 + 1) (w.heap.size + 1 + 1 + 1 + 1) (w.heap.size + 1 + 1) (w.heap.size + 1 + 1 + 1 + 1 + 1) [(w.heap.size + 1, .cells #[.string e0, .string e0, .string e0, .string e0, .slice none 0 0] 30 (0, 0))] h bx h.b (oneS (getV h.fs bHost)) e0 e0 (.slice none 0 0) wr) := ⟨hs⟩
        clear hs HQ hr1 hr2 hr3 hr4
        have s0 : wr.cell? ⟨w.heap.size + 1 + 1 + 1 + 1 + 1, 8, none⟩ = some (.int .i64 400) := step_cell HS.out.S 8 _ rfl
        have s1 : wr.cell? ⟨w.heap.size + 1 + 1 + 1 + 1 + 1, 9, none⟩ = some (.func (.func 72) #[] #[.pointer (some ⟨w.heap.size + 1 + 1 + 1, 0, none⟩)]) := step_cell HS.out.S 9 _ rfl
        obtain ⟨WA, hWA⟩ : ∃ V, wr.alloc (.cells #[.int .i64 400, .func (.func 72) #[] #[.pointer (some ⟨w.heap.size + 1 + 1 + 1, 0, none⟩)]] 70) = V := ⟨_, rfl⟩
        have HBA : Sl (Below wr.heap.size wr WA) := ⟨by rw [← hWA]; exact (Below.refl _ _).alloc (Nat.le_refl _) _⟩
        have HQA : Sl (QS w (w.heap.size + 1 + 1 + 1) (w.heap.size + 1 + 1 + 1 + 1) (w.heap.size + 1 + 1) (w.heap.size + 1 + 1 + 1 + 1 + 1) ((wr.heap.size, .cells #[.int .i64 400, .func (.func 72) #[] #[.pointer (some ⟨w.heap.size + 1 + 1 + 1, 0, none⟩)]] 70 (0, 0)) :: [(w.heap.size + 1, .cells #[.string e0, .string e0, .string e0, .string e0, .slice none 0 0] 30 (0, 0))]) h bx h.b (oneS (getV h.fs bHost)) e0 e0 (.slice none 0 0) WA) := ⟨(HS.out.below HBA.out).more _ _ (by rw [← hWA]; exact alloc_new _ _ _ rfl) (by have := lt_of_block HS.out.P; omega)⟩
        have sA0 : WA.cell? ⟨wr.heap.size, 0, none⟩ = some (.int .i64 400) := by rw [cell_of_row _ _ _ _ _ _ (HQA.out.K _ (List.mem_cons_self)).1]; rfl
        have sA1 : WA.cell? ⟨wr.heap.size, 1, none⟩ = some (.func (.func 72) #[] #[.pointer (some ⟨w.heap.size + 1 + 1 + 1, 0, none⟩)]) := by rw [cell_of_row _ _ _ _ _ _ (HQA.out.K _ (List.mem_cons_self)).1]; rfl
        have CK := Sl.mk (step5 h bx _ WA _ rfl (HG.out.of HQA.out.B) (HV.out.below HQA.out.B) HF.out HQA.out.H)
        obtain ⟨r, hr⟩ : ∃ r, r5B h = r := ⟨_, rfl⟩
        have HRN := Sl.mk hr
        rw [show (Nam.hasB bUp (getV h.fs bConn)) = r from hr] at CK
        clear hr
        cases r with
        | true =>
          go_wp2_with fail
          clear hWA
          refine CK.out.mono ?_
          rintro e w3 ⟨rfl, HB3⟩
          have HQ3 := Sl.mk (HQA.out.below HB3.out)
          clear s0 s1 sA0 sA1 CK
          go_wp2
          exact ⟨⟨5, by omega, by go_num, ⟨HR1.out, HR2.out, HR3.out, HR4.out, HRN.out, HQ3.out.less⟩⟩, by simp [intOf]⟩
        | false =>
          go_wp2_with fail
          clear hWA
          refine CK.out.mono ?_
          rintro e w3 ⟨rfl, HB3⟩
          have HQ3 := Sl.mk (HQA.out.below HB3.out)
          have HX3 := (HQ3.out.K _ (List.mem_cons_self)).1
          have HY3 := (HQ3.out.K _ (List.mem_cons_of_mem _ List.mem_cons_self)).1
          have t0 : w3.cell? ⟨wr.heap.size, 0, none⟩ = some (.int .i64 400) := by rw [cell_of_row _ _ _ _ _ _ HX3]; rfl
          have HY := Sl.mk HY3
          have HBW : Sl (Below w.heap.size w w3) := ⟨HQ3.out.B⟩
          obtain ⟨⟨a0, a1, a2, a3, a4⟩, ⟨f0, f1, f2, f3, f4⟩⟩ := five_zero HY.out
          have HX := Sl.mk HX3
          clear HX3 HY3 s0 s1 sA0 sA1 CK HQA HS HBA
          have HST : Sl (statV h = 400) := ⟨by unfold statV; rw [if_neg (by rw [HR1.out]; decide)]; rw [if_neg (by rw [HR2.out]; decide)]; rw [if_neg (by rw [HR3.out]; decide)]; rw [if_neg (by rw [HR4.out]; decide)]; rw [if_pos HRN.out]⟩
          go_wp2
          obtain ⟨R, hR⟩ : ∃ R, w3.drew = R := ⟨_, rfl⟩
          have HXR : R.heap[wr.heap.size]? = some (.cells #[.int .i64 400, .func (.func 72) #[] #[.pointer (some ⟨w.heap.size + 1 + 1 + 1, 0, none⟩)]] 70 (0, 0)) := by rw [← hR]; exact HX.out
          have HYR : Sl (R.heap[w.heap.size + 1]? = some (.cells #[.string e0, .string e0, .string e0, .string e0, .slice none 0 0] 30 (0, 0))) := ⟨by rw [← hR]; exact HY.out⟩
          have HBR : Sl (Below w.heap.size w R) := ⟨by rw [← hR]; exact HBW.out.drew⟩
          refine wp_region_noPanic ?_
          refine wp_region_held (S := fun V => V.heap[wr.heap.size]? = some (.cells #[.int .i64 400, .func (.func 72) #[] #[.pointer (some ⟨w.heap.size + 1 + 1 + 1, 0, none⟩)]] 70 (0, 0))) (by kernel_rfl) ?_
          change wpAnyH _ _ _ _ _ _ _ _ w3.drew
          rw [hR]
          clear hR a0 a1 a2 a3 a4 f0 f1 f2 f3 f4 t0
          refine heldTake (d := some 22) (op := Go.Op.build 30 #[]) (g := none) 0 ?v0k4 rfl (by kernel_rfl) (by kernel_rfl) (by kernel_rfl) (by kernel_rfl) ?y0k4 HXR ?_
          case y0k4 => intro o ho w _; simp only [execOp, ho]; go_simp; try rfl
          simp only [Act.put, List.setIfInBounds_toArray, List.set_cons_zero, List.set_cons_succ]
          refine heldTake (d := some 23) (op := Go.Op.fieldAddr 70 (Go.Operand.tmp 6) 0) (g := none) 1 ?v1k4 rfl (by kernel_rfl) (by kernel_rfl) (by kernel_rfl) (by kernel_rfl) ?y1k4 HXR ?_
          case y1k4 => intro o ho w _; simp only [execOp, ho]; go_simp; try rfl
          simp only [Act.put, List.setIfInBounds_toArray, List.set_cons_zero, List.set_cons_succ]
          refine heldTake (d := some 24) (op := Go.Op.load 3 (Go.Operand.tmp 23)) (g := none) 2 ?v2k4 rfl (by kernel_rfl) (by kernel_rfl) (by kernel_rfl) (by kernel_rfl) ?y2k4 HXR ?_
          case y2k4 => intro o ho w hS; have t0 : w.cell? ⟨wr.heap.size, 0, none⟩ = some (.int .i64 400) := (cell_of_row _ _ _ _ _ _ hS); simp only [execOp, ho]; go_simp; try rfl
          simp only [Act.put, List.setIfInBounds_toArray, List.set_cons_zero, List.set_cons_succ]
          obtain ⟨⟨a0, a1, a2, a3, a4⟩, ⟨f0, f1, f2, f3, f4⟩⟩ := five_zero HYR.out
          have hne : wr.heap.size ≠ w.heap.size + 1 := fun e => by
            have h1 := HYR.out
            rw [← e, HXR] at h1
            injection h1 with h1
            injection h1 with _ h2
            revert h2; decide
          have HXS : (((((R.setCell ⟨w.heap.size + 1, 0, none⟩ (.string { data := #[] })).setCell ⟨w.heap.size + 1, 1, none⟩ (.string { data := #[] })).setCell ⟨w.heap.size + 1, 2, none⟩ (.string { data := #[] })).setCell ⟨w.heap.size + 1, 3, none⟩ (.string { data := #[] })).setCell ⟨w.heap.size + 1, 4, none⟩ (.slice none 0 0)).heap[wr.heap.size]? = some (.cells #[.int .i64 400, .func (.func 72) #[] #[.pointer (some ⟨w.heap.size + 1 + 1 + 1, 0, none⟩)]] 70 (0, 0)) := by
            rw [(grown_five R (w.heap.size + 1) _ _ _ _ _).block _ (lt_of_block HXR) (fun e => hne (by injection e))]; exact HXR
          refine heldStore (d := none) (op := Go.Op.store 30 (Go.Operand.tmp 2) (Go.Operand.tmp 22)) (g := none) 3 (((((R.setCell ⟨w.heap.size + 1, 0, none⟩ (.string { data := #[] })).setCell ⟨w.heap.size + 1, 1, none⟩ (.string { data := #[] })).setCell ⟨w.heap.size + 1, 2, none⟩ (.string { data := #[] })).setCell ⟨w.heap.size + 1, 3, none⟩ (.string { data := #[] })).setCell ⟨w.heap.size + 1, 4, none⟩ (.slice none 0 0)) rfl (by kernel_rfl) (by kernel_rfl) ?y3k4 HXS ?_
          case y3k4 => intro o ho ht; simp only [execOp, ho]; go_simp; try rfl
          simp only [Act.put]
          refine heldTake (d := some 3) (op := Go.Op.assign (Go.Operand.tmp 24)) (g := none) 4 ?v4k4 rfl (by kernel_rfl) (by kernel_rfl) (by kernel_rfl) (by kernel_rfl) ?y4k4 HXS ?_
          case y4k4 => intro o ho w _; simp only [execOp, ho]; go_simp; try rfl
          simp only [Act.put, List.setIfInBounds_toArray, List.set_cons_zero, List.set_cons_succ]
          refine wpAnyH_done (by kernel_rfl) ?_ _
          refine NoPanic.normal ?_
          clear a0 a1 a2 a3 a4 f0 f1 f2 f3 f4 HXS HXR
          go_wp2
          refine bodyPost_ret (ret_offer rfl _ _ (w.heap.size + 1) 30 _ (0, 0) rfl (five_cells _ _ _ _ _ _ _ _ _ _ _ _ HYR.out) rfl) rfl ?_
          exact ⟨⟨.inl ⟨by rw [HST.out]; decide, by rw [HST.out]; rfl⟩⟩, ⟨HBR.out.grown (grown_five R (w.heap.size + 1) _ _ _ _ _) HBR.out.size (fun g hg => by injection hg with hg; omega)⟩⟩
      · have hs : QL5 w (w.heap.size + 1 + 1 + 1) (w.heap.size + 1 + 1 + 1 + 1) (w.heap.size + 1 + 1) (w.heap.size + 1 + 1 + 1 + 1 + 1) (w.heap.size + 1) h bx wr := HQ.out
        obtain ⟨hr1, hr2, hr3, hr4, hr5, hs⟩ := hs
        have HR1 := Sl.mk hr1
        have HR2 := Sl.mk hr2
        have HR3 := Sl.mk hr3
        have HR4 := Sl.mk hr4
        have HR5 := Sl.mk hr5
        have HS : Sl (QS w (w.heap.size + 1 + 1 + 1) (w.heap.size + 1 + 1 + 1 + 1) (w.heap.size + 1 + 1) (w.heap.size + 1 + 1 + 1 + 1 + 1) [(w.heap.size + 1, .cells #[.string e0, .string e0, .string e0, .string e0, .slice none 0 0] 30 (0, 0))] h bx h.b (oneS (getV h.fs bHost)) e0 e0 (.slice none 0 0) wr) := ⟨hs⟩
        clear hs HQ hr1 hr2 hr3 hr4 hr5
        have s0 : wr.cell? ⟨w.heap.size + 1 + 1 + 1 + 1 + 1, 10, none⟩ = some (.int .i64 426) := step_cell HS.out.S 10 _ rfl
        have s1 : wr.cell? ⟨w.heap.size + 1 + 1 + 1 + 1 + 1, 11, none⟩ = some (.func (.func 73) #[] #[.pointer (some ⟨w.heap.size + 1 + 1 + 1, 0, none⟩)]) := step_cell HS.out.S 11 _ rfl
        obtain ⟨WA, hWA⟩ : ∃ V, wr.alloc (.cells #[.int .i64 426, .func (.func 73) #[] #[.pointer (some ⟨w.heap.size + 1 + 1 + 1, 0, none⟩)]] 70) = V := ⟨_, rfl⟩
        have HBA : Sl (Below wr.heap.size wr WA) := ⟨by rw [← hWA]; exact (Below.refl _ _).alloc (Nat.le_refl _) _⟩
        have HQA : Sl (QS w (w.heap.size + 1 + 1 + 1) (w.heap.size + 1 + 1 + 1 + 1) (w.heap.size + 1 + 1) (w.heap.size + 1 + 1 + 1 + 1 + 1) ((wr.heap.size, .cells #[.int .i64 426, .func (.func 73) #[] #[.pointer (some ⟨w.heap.size + 1 + 1 + 1, 0, none⟩)]] 70 (0, 0)) :: [(w.heap.size + 1, .cells #[.string e0, .string e0, .string e0, .string e0, .slice none 0 0] 30 (0, 0))]) h bx h.b (oneS (getV h.fs bHost)) e0 e0 (.slice none 0 0) WA) := ⟨(HS.out.below HBA.out).more _ _ (by rw [← hWA]; exact alloc_new _ _ _ rfl) (by have := lt_of_block HS.out.P; omega)⟩
        have sA0 : WA.cell? ⟨wr.heap.size, 0, none⟩ = some (.int .i64 426) := by rw [cell_of_row _ _ _ _ _ _ (HQA.out.K _ (List.mem_cons_self)).1]; rfl
        have sA1 : WA.cell? ⟨wr.heap.size, 1, none⟩ = some (.func (.func 73) #[] #[.pointer (some ⟨w.heap.size + 1 + 1 + 1, 0, none⟩)]) := by rw [cell_of_row _ _ _ _ _ _ (HQA.out.K _ (List.mem_cons_self)).1]; rfl
        have CK := Sl.mk (step6 h bx _ WA _ rfl (HV.out.below HQA.out.B) HF.out HQA.out.H)
        obtain ⟨r, hr⟩ : ∃ r, r6B h = r := ⟨_, rfl⟩
        have HRN := Sl.mk hr
        rw [show ((oneS (getV h.fs bVer)).toList == b13.toList) = r from hr] at CK
        clear hr
        cases r with
        | true =>
          go_wp2_with fail
          clear hWA
          refine CK.out.mono ?_
          rintro e w3 ⟨rfl, HB3⟩
          have HQ3 := Sl.mk (HQA.out.below HB3.out)
          clear s0 s1 sA0 sA1 CK
          go_wp2
          exact ⟨⟨6, by omega, by go_num, ⟨HR1.out, HR2.out, HR3.out, HR4.out, HR5.out, HRN.out, HQ3.out.less⟩⟩, by simp [intOf]⟩
        | false =>
          go_wp2_with fail
          clear hWA
          refine CK.out.mono ?_
          rintro e w3 ⟨rfl, HB3⟩
          have HQ3 := Sl.mk (HQA.out.below HB3.out)
          have HX3 := (HQ3.out.K _ (List.mem_cons_self)).1
          have HY3 := (HQ3.out.K _ (List.mem_cons_of_mem _ List.mem_cons_self)).1
          have t0 : w3.cell? ⟨wr.heap.size, 0, none⟩ = some (.int .i64 426) := by rw [cell_of_row _ _ _ _ _ _ HX3]; rfl
          have HY := Sl.mk HY3
          have HBW : Sl (Below w.heap.size w w3) := ⟨HQ3.out.B⟩
          obtain ⟨⟨a0, a1, a2, a3, a4⟩, ⟨f0, f1, f2, f3, f4⟩⟩ := five_zero HY.out
          have HX := Sl.mk HX3
          clear HX3 HY3 s0 s1 sA0 sA1 CK HQA HS HBA
          have HST : Sl (statV h = 426) := ⟨by unfold statV; rw [if_neg (by rw [HR1.out]; decide)]; rw [if_neg (by rw [HR2.out]; decide)]; rw [if_neg (by rw [HR3.out]; decide)]; rw [if_neg (by rw [HR4.out]; decide)]; rw [if_neg (by rw [HR5.out]; decide)]; rw [if_pos HRN.out]⟩
          go_wp2
          obtain ⟨R, hR⟩ : ∃ R, w3.drew = R := ⟨_, rfl⟩
          have HXR : R.heap[wr.heap.size]? = some (.cells #[.int .i64 426, .func (.func 73) #[] #[.pointer (some ⟨w.heap.size + 1 + 1 + 1, 0, none⟩)]] 70 (0, 0)) := by rw [← hR]; exact HX.out
          have HYR : Sl (R.heap[w.heap.size + 1]? = some (.cells #[.string e0, .string e0, .string e0, .string e0, .slice none 0 0] 30 (0, 0))) := ⟨by rw [← hR]; exact HY.out⟩
          have HBR : Sl (Below w.heap.size w R) := ⟨by rw [← hR]; exact HBW.out.drew⟩
          refine wp_region_noPanic ?_
          refine wp_region_held (S := fun V => V.heap[wr.heap.size]? = some (.cells #[.int .i64 426, .func (.func 73) #[] #[.pointer (some ⟨w.heap.size + 1 + 1 + 1, 0, none⟩)]] 70 (0, 0))) (by kernel_rfl) ?_
          change wpAnyH _ _ _ _ _ _ _ _ w3.drew
          rw [hR]
          clear hR a0 a1 a2 a3 a4 f0 f1 f2 f3 f4 t0
          refine heldTake (d := some 22) (op := Go.Op.build 30 #[]) (g := none) 0 ?v0k5 rfl (by kernel_rfl) (by kernel_rfl) (by kernel_rfl) (by kernel_rfl) ?y0k5 HXR ?_
          case y0k5 => intro o ho w _; simp only [execOp, ho]; go_simp; try rfl
          simp only [Act.put, List.setIfInBounds_toArray, List.set_cons_zero, List.set_cons_succ]
          refine heldTake (d := some 23) (op := Go.Op.fieldAddr 70 (Go.Operand.tmp 6) 0) (g := none) 1 ?v1k5 rfl (by kernel_rfl) (by kernel_rfl) (by kernel_rfl) (by kernel_rfl) ?y1k5 HXR ?_
          case y1k5 => intro o ho w _; simp only [execOp, ho]; go_simp; try rfl
          simp only [Act.put, List.setIfInBounds_toArray, List.set_cons_zero, List.set_cons_succ]
          refine heldTake (d := some 24) (op := Go.Op.load 3 (Go.Operand.tmp 23)) (g := none) 2 ?v2k5 rfl (by kernel_rfl) (by kernel_rfl) (by kernel_rfl) (by kernel_rfl) ?y2k5 HXR ?_
          case y2k5 => intro o ho w hS; have t0 : w.cell? ⟨wr.heap.size, 0, none⟩ = some (.int .i64 426) := (cell_of_row _ _ _ _ _ _ hS); simp only [execOp, ho]; go_simp; try rfl
          simp only [Act.put, List.setIfInBounds_toArray, List.set_cons_zero, List.set_cons_succ]
          obtain ⟨⟨a0, a1, a2, a3, a4⟩, ⟨f0, f1, f2, f3, f4⟩⟩ := five_zero HYR.out
          have hne : wr.heap.size ≠ w.heap.size + 1 := fun e => by
            have h1 := HYR.out
            rw [← e, HXR] at h1
            injection h1 with h1
            injection h1 with _ h2
            revert h2; decide
          have HXS : (((((R.setCell ⟨w.heap.size + 1, 0, none⟩ (.string { data := #[] })).setCell ⟨w.heap.size + 1, 1, none⟩ (.string { data := #[] })).setCell ⟨w.heap.size + 1, 2, none⟩ (.string { data := #[] })).setCell ⟨w.heap.size + 1, 3, none⟩ (.string { data := #[] })).setCell ⟨w.heap.size + 1, 4, none⟩ (.slice none 0 0)).heap[wr.heap.size]? = some (.cells #[.int .i64 426, .func (.func 73) #[] #[.pointer (some ⟨w.heap.size + 1 + 1 + 1, 0, none⟩)]] 70 (0, 0)) := by
            rw [(grown_five R (w.heap.size + 1) _ _ _ _ _).block _ (lt_of_block HXR) (fun e => hne (by injection e))]; exact HXR
          refine heldStore (d := none) (op := Go.Op.store 30 (Go.Operand.tmp 2) (Go.Operand.tmp 22)) (g := none) 3 (((((R.setCell ⟨w.heap.size + 1, 0, none⟩ (.string { data := #[] })).setCell ⟨w.heap.size + 1, 1, none⟩ (.string { data := #[] })).setCell ⟨w.heap.size + 1, 2, none⟩ (.string { data := #[] })).setCell ⟨w.heap.size + 1, 3, none⟩ (.string { data := #[] })).setCell ⟨w.heap.size + 1, 4, none⟩ (.slice none 0 0)) rfl (by kernel_rfl) (by kernel_rfl) ?y3k5 HXS ?_
          case y3k5 => intro o ho ht; simp only [execOp, ho]; go_simp; try rfl
          simp only [Act.put]
          refine heldTake (d := some 3) (op := Go.Op.assign (Go.Operand.tmp 24)) (g := none) 4 ?v4k5 rfl (by kernel_rfl) (by kernel_rfl) (by kernel_rfl) (by kernel_rfl) ?y4k5 HXS ?_
          case y4k5 => intro o ho w _; simp only [execOp, ho]; go_simp; try rfl
          simp only [Act.put, List.setIfInBounds_toArray, List.set_cons_zero, List.set_cons_succ]
          refine wpAnyH_done (by kernel_rfl) ?_ _
          refine NoPanic.normal ?_
          clear a0 a1 a2 a3 a4 f0 f1 f2 f3 f4 HXS HXR
          go_wp2
          refine bodyPost_ret (ret_offer rfl _ _ (w.heap.size + 1) 30 _ (0, 0) rfl (five_cells _ _ _ _ _ _ _ _ _ _ _ _ HYR.out) rfl) rfl ?_
          exact ⟨⟨.inl ⟨by rw [HST.out]; decide, by rw [HST.out]; rfl⟩⟩, ⟨HBR.out.grown (grown_five R (w.heap.size + 1) _ _ _ _ _) HBR.out.size (fun g hg => by injection hg with hg; omega)⟩⟩
      · have hs : QL6 w (w.heap.size + 1 + 1 + 1) (w.heap.size + 1 + 1 + 1 + 1) (w.heap.size + 1 + 1) (w.heap.size + 1 + 1 + 1 + 1 + 1) (w.heap.size + 1) h bx wr := HQ.out
        obtain ⟨hr1, hr2, hr3, hr4, hr5, hr6, hs⟩ := hs
        have HR1 := Sl.mk hr1
        have HR2 := Sl.mk hr2
        have HR3 := Sl.mk hr3
        have HR4 := Sl.mk hr4
        have HR5 := Sl.mk hr5
        have HR6 := Sl.mk hr6
        have HS : Sl (QS w (w.heap.size + 1 + 1 + 1) (w.heap.size + 1 + 1 + 1 + 1) (w.heap.size + 1 + 1) (w.heap.size + 1 + 1 + 1 + 1 + 1) [(w.heap.size + 1, .cells #[.string e0, .string e0, .string e0, .string e0, .slice none 0 0] 30 (0, 0))] h bx h.b (oneS (getV h.fs bHost)) e0 e0 (.slice none 0 0) wr) := ⟨hs⟩
        clear hs HQ hr1 hr2 hr3 hr4 hr5 hr6
        have s0 : wr.cell? ⟨w.heap.size + 1 + 1 + 1 + 1 + 1, 12, none⟩ = some (.int .i64 400) := step_cell HS.out.S 12 _ rfl
        have s1 : wr.cell? ⟨w.heap.size + 1 + 1 + 1 + 1 + 1, 13, none⟩ = some (.func (.func 74) #[] #[.pointer (some ⟨w.heap.size + 1 + 1 + 1, 0, none⟩), .pointer (some ⟨w.heap.size + 1 + 1 + 1 + 1, 0, none⟩)]) := step_cell HS.out.S 13 _ rfl
        obtain ⟨WA, hWA⟩ : ∃ V, wr.alloc (.cells #[.int .i64 400, .func (.func 74) #[] #[.pointer (some ⟨w.heap.size + 1 + 1 + 1, 0, none⟩), .pointer (some ⟨w.heap.size + 1 + 1 + 1 + 1, 0, none⟩)]] 70) = V := ⟨_, rfl⟩
        have HBA : Sl (Below wr.heap.size wr WA) := ⟨by rw [← hWA]; exact (Below.refl _ _).alloc (Nat.le_refl _) _⟩
        have HQA : Sl (QS w (w.heap.size + 1 + 1 + 1) (w.heap.size + 1 + 1 + 1 + 1) (w.heap.size + 1 + 1) (w.heap.size + 1 + 1 + 1 + 1 + 1) ((wr.heap.size, .cells #[.int .i64 400, .func (.func 74) #[] #[.pointer (some ⟨w.heap.size + 1 + 1 + 1, 0, none⟩), .pointer (some ⟨w.heap.size + 1 + 1 + 1 + 1, 0, none⟩)]] 70 (0, 0)) :: [(w.heap.size + 1, .cells #[.string e0, .string e0, .string e0, .string e0, .slice none 0 0] 30 (0, 0))]) h bx h.b (oneS (getV h.fs bHost)) e0 e0 (.slice none 0 0) WA) := ⟨(HS.out.below HBA.out).more _ _ (by rw [← hWA]; exact alloc_new _ _ _ rfl) (by have := lt_of_block HS.out.P; omega)⟩
        have sA0 : WA.cell? ⟨wr.heap.size, 0, none⟩ = some (.int .i64 400) := by rw [cell_of_row _ _ _ _ _ _ (HQA.out.K _ (List.mem_cons_self)).1]; rfl
        have sA1 : WA.cell? ⟨wr.heap.size, 1, none⟩ = some (.func (.func 74) #[] #[.pointer (some ⟨w.heap.size + 1 + 1 + 1, 0, none⟩), .pointer (some ⟨w.heap.size + 1 + 1 + 1 + 1, 0, none⟩)]) := by rw [cell_of_row _ _ _ _ _ _ (HQA.out.K _ (List.mem_cons_self)).1]; rfl
        have CK := Sl.mk (step7 w _ _ _ _ _ h bx _ _ _ _ _ WA _ _ rfl rfl HV.out HF.out HQA.out)
        obtain ⟨r, hr⟩ : ∃ r, r7B h = r := ⟨_, rfl⟩
        have HRN := Sl.mk hr
        rw [show (keyB (bytes (oneS (getV h.fs bKey)))) = r from hr] at CK
        clear hr
        cases r with
        | true =>
          go_wp2_with fail
          clear hWA
          refine CK.out.mono ?_
          rintro e w3 ⟨rfl, HQ3⟩
          clear s0 s1 sA0 sA1 CK
          go_wp2
          exact ⟨⟨7, by omega, by go_num, ⟨HR1.out, HR2.out, HR3.out, HR4.out, HR5.out, HR6.out, HRN.out, HQ3.out.less⟩⟩, by simp [intOf]⟩
        | false =>
          go_wp2_with fail
          clear hWA
          refine CK.out.mono ?_
          rintro e w3 ⟨rfl, HQ3⟩
          have HX3 := (HQ3.out.K _ (List.mem_cons_self)).1
          have HY3 := (HQ3.out.K _ (List.mem_cons_of_mem _ List.mem_cons_self)).1
          have t0 : w3.cell? ⟨wr.heap.size, 0, none⟩ = some (.int .i64 400) := by rw [cell_of_row _ _ _ _ _ _ HX3]; rfl
          have HY := Sl.mk HY3
          have HBW : Sl (Below w.heap.size w w3) := ⟨HQ3.out.B⟩
          obtain ⟨⟨a0, a1, a2, a3, a4⟩, ⟨f0, f1, f2, f3, f4⟩⟩ := five_zero HY.out
          have HX := Sl.mk HX3
          clear HX3 HY3 s0 s1 sA0 sA1 CK HQA HS HBA
          have HST : Sl (statV h = 400) := ⟨by unfold statV; rw [if_neg (by rw [HR1.out]; decide)]; rw [if_neg (by rw [HR2.out]; decide)]; rw [if_neg (by rw [HR3.out]; decide)]; rw [if_neg (by rw [HR4.out]; decide)]; rw [if_neg (by rw [HR5.out]; decide)]; rw [if_neg (by rw [HR6.out]; decide)]; rw [if_pos HRN.out]⟩
          go_wp2
          obtain ⟨R, hR⟩ : ∃ R, w3.drew = R := ⟨_, rfl⟩
          have HXR : R.heap[wr.heap.size]? = some (.cells #[.int .i64 400, .func (.func 74) #[] #[.pointer (some ⟨w.heap.size + 1 + 1 + 1, 0, none⟩), .pointer (some ⟨w.heap.size + 1 + 1 + 1 + 1, 0, none⟩)]] 70 (0, 0)) := by rw [← hR]; exact HX.out
          have HYR : Sl (R.heap[w.heap.size + 1]? = some (.cells #[.string e0, .string e0, .string e0, .string e0, .slice none 0 0] 30 (0, 0))) := ⟨by rw [← hR]; exact HY.out⟩
          have HBR : Sl (Below w.heap.size w R) := ⟨by rw [← hR]; exact HBW.out.drew⟩
          refine wp_region_noPanic ?_
          refine wp_region_held (S := fun V => V.heap[wr.heap.size]? = some (.cells #[.int .i64 400, .func (.func 74) #[] #[.pointer (some ⟨w.heap.size + 1 + 1 + 1, 0, none⟩), .pointer (some ⟨w.heap.size + 1 + 1 + 1 + 1, 0, none⟩)]] 70 (0, 0))) (by kernel_rfl) ?_
          change wpAnyH _ _ _ _ _ _ _ _ w3.drew
          rw [hR]
          clear hR a0 a1 a2 a3 a4 f0 f1 f2 f3 f4 t0
          refine heldTake (d := some 22) (op := Go.Op.build 30 #[]) (g := none) 0 ?v0k6 rfl (by kernel_rfl) (by kernel_rfl) (by kernel_rfl) (by kernel_rfl) ?y0k6 HXR ?_
          case y0k6 => intro o ho w _; simp only [execOp, ho]; go_simp; try rfl
          simp only [Act.put, List.setIfInBounds_toArray, List.set_cons_zero, List.set_cons_succ]
          refine heldTake (d := some 23) (op := Go.Op.fieldAddr 70 (Go.Operand.tmp 6) 0) (g := none) 1 ?v1k6 rfl (by kernel_rfl) (by kernel_rfl) (by kernel_rfl) (by kernel_rfl) ?y1k6 HXR ?_
          case y1k6 => intro o ho w _; simp only [execOp, ho]; go_simp; try rfl
          simp only [Act.put, List.setIfInBounds_toArray, List.set_cons_zero, List.set_cons_succ]
          refine heldTake (d := some 24) (op := Go.Op.load 3 (Go.Operand.tmp 23)) (g := none) 2 ?v2k6 rfl (by kernel_rfl) (by kernel_rfl) (by kernel_rfl) (by kernel_rfl) ?y2k6 HXR ?_
          case y2k6 => intro o ho w hS; have t0 : w.cell? ⟨wr.heap.size, 0, none⟩ = some (.int .i64 400) := (cell_of_row _ _ _ _ _ _ hS); simp only [execOp, ho]; go_simp; try rfl
          simp only [Act.put, List.setIfInBounds_toArray, List.set_cons_zero, List.set_cons_succ]
          obtain ⟨⟨a0, a1, a2, a3, a4⟩, ⟨f0, f1, f2, f3, f4⟩⟩ := five_zero HYR.out
          have hne : wr.heap.size ≠ w.heap.size + 1 := fun e => by
            have h1 := HYR.out
            rw [← e, HXR] at h1
            injection h1 with h1
            injection h1 with _ h2
            revert h2; decide
          have HXS : (((((R.setCell ⟨w.heap.size + 1, 0, none⟩ (.string { data := #[] })).setCell ⟨w.heap.size + 1, 1, none⟩ (.string { data := #[] })).setCell ⟨w.heap.size + 1, 2, none⟩ (.string { data := #[] })).setCell ⟨w.heap.size + 1, 3, none⟩ (.string { data := #[] })).setCell ⟨w.heap.size + 1, 4, none⟩ (.slice none 0 0)).heap[wr.heap.size]? = some (.cells #[.int .i64 400, .func (.func 74) #[] #[.pointer (some ⟨w.heap.size + 1 + 1 + 1, 0, none⟩), .pointer (some ⟨w.heap.size + 1 + 1 + 1 + 1, 0, none⟩)]] 70 (0, 0)) := by
            rw [(grown_five R (w.heap.size + 1) _ _ _ _ _).block _ (lt_of_block HXR) (fun e => hne (by injection e))]; exact HXR
          refine heldStore (d := none) (op := Go.Op.store 30 (Go.Operand.tmp 2) (Go.Operand.tmp 22)) (g := none) 3 (((((R.setCell ⟨w.heap.size + 1, 0, none⟩ (.string { data := #[] })).setCell ⟨w.heap.size + 1, 1, none⟩ (.string { data := #[] })).setCell ⟨w.heap.size + 1, 2, none⟩ (.string { data := #[] })).setCell ⟨w.heap.size + 1, 3, none⟩ (.string { data := #[] })).setCell ⟨w.heap.size + 1, 4, none⟩ (.slice none 0 0)) rfl (by kernel_rfl) (by kernel_rfl) ?y3k6 HXS ?_
          case y3k6 => intro o ho ht; simp only [execOp, ho]; go_simp; try rfl
          simp only [Act.put]
          refine heldTake (d := some 3) (op := Go.Op.assign (Go.Operand.tmp 24)) (g := none) 4 ?v4k6 rfl (by kernel_rfl) (by kernel_rfl) (by kernel_rfl) (by kernel_rfl) ?y4k6 HXS ?_
          case y4k6 => intro o ho w _; simp only [execOp, ho]; go_simp; try rfl
          simp only [Act.put, List.setIfInBounds_toArray, List.set_cons_zero, List.set_cons_succ]
          refine wpAnyH_done (by kernel_rfl) ?_ _
          refine NoPanic.normal ?_
          clear a0 a1 a2 a3 a4 f0 f1 f2 f3 f4 HXS HXR
          go_wp2
          refine bodyPost_ret (ret_offer rfl _ _ (w.heap.size + 1) 30 _ (0, 0) rfl (five_cells _ _ _ _ _ _ _ _ _ _ _ _ HYR.out) rfl) rfl ?_
          exact ⟨⟨.inl ⟨by rw [HST.out]; decide, by rw [HST.out]; rfl⟩⟩, ⟨HBR.out.grown (grown_five R (w.heap.size + 1) _ _ _ _ _) HBR.out.size (fun g hg => by injection hg with hg; omega)⟩⟩
      · have hs : QL7 w (w.heap.size + 1 + 1 + 1) (w.heap.size + 1 + 1 + 1 + 1) (w.heap.size + 1 + 1) (w.heap.size + 1 + 1 + 1 + 1 + 1) (w.heap.size + 1) h bx wr := HQ.out
        obtain ⟨hr1, hr2, hr3, hr4, hr5, hr6, hr7, hs⟩ := hs
        have HR1 := Sl.mk hr1
        have HR2 := Sl.mk hr2
        have HR3 := Sl.mk hr3
        have HR4 := Sl.mk hr4
        have HR5 := Sl.mk hr5
        have HR6 := Sl.mk hr6
        have HR7 := Sl.mk hr7
        have HS : Sl (QS w (w.heap.size + 1 + 1 + 1) (w.heap.size + 1 + 1 + 1 + 1) (w.heap.size + 1 + 1) (w.heap.size + 1 + 1 + 1 + 1 + 1) [(w.heap.size + 1, .cells #[.string e0, .string e0, .string e0, .string e0, .slice none 0 0] 30 (0, 0))] h bx h.b (oneS (getV h.fs bHost)) (oneS (getV h.fs bKey)) e0 (.slice none 0 0) wr) := ⟨hs⟩
        clear hs HQ hr1 hr2 hr3 hr4 hr5 hr6 hr7
        have s0 : wr.cell? ⟨w.heap.size + 1 + 1 + 1 + 1 + 1, 14, none⟩ = some (.int .i64 400) := step_cell HS.out.S 14 _ rfl
        have s1 : wr.cell? ⟨w.heap.size + 1 + 1 + 1 + 1 + 1, 15, none⟩ = some (.func (.func 76) #[] #[.pointer (some ⟨w.heap.size + 1 + 1 + 1, 0, none⟩), .pointer (some ⟨w.heap.size + 1 + 1 + 1 + 1, 0, none⟩)]) := step_cell HS.out.S 15 _ rfl
        obtain ⟨WA, hWA⟩ : ∃ V, wr.alloc (.cells #[.int .i64 400, .func (.func 76) #[] #[.pointer (some ⟨w.heap.size + 1 + 1 + 1, 0, none⟩), .pointer (some ⟨w.heap.size + 1 + 1 + 1 + 1, 0, none⟩)]] 70) = V := ⟨_, rfl⟩
        have HBA : Sl (Below wr.heap.size wr WA) := ⟨by rw [← hWA]; exact (Below.refl _ _).alloc (Nat.le_refl _) _⟩
        have HQA : Sl (QS w (w.heap.size + 1 + 1 + 1) (w.heap.size + 1 + 1 + 1 + 1) (w.heap.size + 1 + 1) (w.heap.size + 1 + 1 + 1 + 1 + 1) ((wr.heap.size, .cells #[.int .i64 400, .func (.func 76) #[] #[.pointer (some ⟨w.heap.size + 1 + 1 + 1, 0, none⟩), .pointer (some ⟨w.heap.size + 1 + 1 + 1 + 1, 0, none⟩)]] 70 (0, 0)) :: [(w.heap.size + 1, .cells #[.string e0, .string e0, .string e0, .string e0, .slice none 0 0] 30 (0, 0))]) h bx h.b (oneS (getV h.fs bHost)) (oneS (getV h.fs bKey)) e0 (.slice none 0 0) WA) := ⟨(HS.out.below HBA.out).more _ _ (by rw [← hWA]; exact alloc_new _ _ _ rfl) (by have := lt_of_block HS.out.P; omega)⟩
        have sA0 : WA.cell? ⟨wr.heap.size, 0, none⟩ = some (.int .i64 400) := by rw [cell_of_row _ _ _ _ _ _ (HQA.out.K _ (List.mem_cons_self)).1]; rfl
        have sA1 : WA.cell? ⟨wr.heap.size, 1, none⟩ = some (.func (.func 76) #[] #[.pointer (some ⟨w.heap.size + 1 + 1 + 1, 0, none⟩), .pointer (some ⟨w.heap.size + 1 + 1 + 1 + 1, 0, none⟩)]) := by rw [cell_of_row _ _ _ _ _ _ (HQA.out.K _ (List.mem_cons_self)).1]; rfl
        obtain ⟨r, hr⟩ : ∃ r, (Nam.tell (getV h.fs bProt)).all Nam.tokT = r := ⟨_, rfl⟩
        cases r with
        | false =>
          have HRN : Sl (r8B h = false) := ⟨by unfold r8B; rw [hr]; rfl⟩
          have CK := Sl.mk (step8_no w _ _ _ _ _ h bx _ _ _ _ _ WA _ rfl hr HG.out HV.out HF.out HQA.out)
          clear hr
          go_wp2_with fail
          clear hWA
          refine CK.out.mono ?_
          rintro e w3 ⟨rfl, HQ3⟩
          have HX3 := (HQ3.out.K _ (List.mem_cons_self)).1
          have HY3 := (HQ3.out.K _ (List.mem_cons_of_mem _ List.mem_cons_self)).1
          have t0 : w3.cell? ⟨wr.heap.size, 0, none⟩ = some (.int .i64 400) := by rw [cell_of_row _ _ _ _ _ _ HX3]; rfl
          have HY := Sl.mk HY3
          have HBW : Sl (Below w.heap.size w w3) := ⟨HQ3.out.B⟩
          obtain ⟨⟨a0, a1, a2, a3, a4⟩, ⟨f0, f1, f2, f3, f4⟩⟩ := five_zero HY.out
          have HX := Sl.mk HX3
          clear HX3 HY3 s0 s1 sA0 sA1 CK HQA HS HBA
          have HST : Sl (statV h = 400) := ⟨by unfold statV; rw [if_neg (by rw [HR1.out]; decide)]; rw [if_neg (by rw [HR2.out]; decide)]; rw [if_neg (by rw [HR3.out]; decide)]; rw [if_neg (by rw [HR4.out]; decide)]; rw [if_neg (by rw [HR5.out]; decide)]; rw [if_neg (by rw [HR6.out]; decide)]; rw [if_neg (by rw [HR7.out]; decide)]; rw [if_pos HRN.out]⟩
          go_wp2
          obtain ⟨R, hR⟩ : ∃ R, w3.drew = R := ⟨_, rfl⟩
          have HXR : R.heap[wr.heap.size]? = some (.cells #[.int .i64 400, .func (.func 76) #[] #[.pointer (some ⟨w.heap.size + 1 + 1 + 1, 0, none⟩), .pointer (some ⟨w.heap.size + 1 + 1 + 1 + 1, 0, none⟩)]] 70 (0, 0)) := by rw [← hR]; exact HX.out
          have HYR : Sl (R.heap[w.heap.size + 1]? = some (.cells #[.string e0, .string e0, .string e0, .string e0, .slice none 0 0] 30 (0, 0))) := ⟨by rw [← hR]; exact HY.out⟩
          have HBR : Sl (Below w.heap.size w R) := ⟨by rw [← hR]; exact HBW.out.drew⟩
          refine wp_region_noPanic ?_
          refine wp_region_held (S := fun V => V.heap[wr.heap.size]? = some (.cells #[.int .i64 400, .func (.func 76) #[] #[.pointer (some ⟨w.heap.size + 1 + 1 + 1, 0, none⟩), .pointer (some ⟨w.heap.size + 1 + 1 + 1 + 1, 0, none⟩)]] 70 (0, 0))) (by kernel_rfl) ?_
          change wpAnyH _ _ _ _ _ _ _ _ w3.drew
          rw [hR]
          clear hR a0 a1 a2 a3 a4 f0 f1 f2 f3 f4 t0
          refine heldTake (d := some 22) (op := Go.Op.build 30 #[]) (g := none) 0 ?v0k7 rfl (by kernel_rfl) (by kernel_rfl) (by kernel_rfl) (by kernel_rfl) ?y0k7 HXR ?_
          case y0k7 => intro o ho w _; simp only [execOp, ho]; go_simp; try rfl
          simp only [Act.put, List.setIfInBounds_toArray, List.set_cons_zero, List.set_cons_succ]
          refine heldTake (d := some 23) (op := Go.Op.fieldAddr 70 (Go.Operand.tmp 6) 0) (g := none) 1 ?v1k7 rfl (by kernel_rfl) (by kernel_rfl) (by kernel_rfl) (by kernel_rfl) ?y1k7 HXR ?_
          case y1k7 => intro o ho w _; simp only [execOp, ho]; go_simp; try rfl
          simp only [Act.put, List.setIfInBounds_toArray, List.set_cons_zero, List.set_cons_succ]
          refine heldTake (d := some 24) (op := Go.Op.load 3 (Go.Operand.tmp 23)) (g := none) 2 ?v2k7 rfl (by kernel_rfl) (by kernel_rfl) (by kernel_rfl) (by kernel_rfl) ?y2k7 HXR ?_
          case y2k7 => intro o ho w hS; have t0 : w.cell? ⟨wr.heap.size, 0, none⟩ = some (.int .i64 400) := (cell_of_row _ _ _ _ _ _ hS); simp only [execOp, ho]; go_simp; try rfl
          simp only [Act.put, List.setIfInBounds_toArray, List.set_cons_zero, List.set_cons_succ]
          obtain ⟨⟨a0, a1, a2, a3, a4⟩, ⟨f0, f1, f2, f3, f4⟩⟩ := five_zero HYR.out
          have hne : wr.heap.size ≠ w.heap.size + 1 := fun e => by
            have h1 := HYR.out
            rw [← e, HXR] at h1
            injection h1 with h1
            injection h1 with _ h2
            revert h2; decide
          have HXS : (((((R.setCell ⟨w.heap.size + 1, 0, none⟩ (.string { data := #[] })).setCell ⟨w.heap.size + 1, 1, none⟩ (.string { data := #[] })).setCell ⟨w.heap.size + 1, 2, none⟩ (.string { data := #[] })).setCell ⟨w.heap.size + 1, 3, none⟩ (.string { data := #[] })).setCell ⟨w.heap.size + 1, 4, none⟩ (.slice none 0 0)).heap[wr.heap.size]? = some (.cells #[.int .i64 400, .func (.func 76) #[] #[.pointer (some ⟨w.heap.size + 1 + 1 + 1, 0, none⟩), .pointer (some ⟨w.heap.size + 1 + 1 + 1 + 1, 0, none⟩)]] 70 (0, 0)) := by
            rw [(grown_five R (w.heap.size + 1) _ _ _ _ _).block _ (lt_of_block HXR) (fun e => hne (by injection e))]; exact HXR
          refine heldStore (d := none) (op := Go.Op.store 30 (Go.Operand.tmp 2) (Go.Operand.tmp 22)) (g := none) 3 (((((R.setCell ⟨w.heap.size + 1, 0, none⟩ (.string { data := #[] })).setCell ⟨w.heap.size + 1, 1, none⟩ (.string { data := #[] })).setCell ⟨w.heap.size + 1, 2, none⟩ (.string { data := #[] })).setCell ⟨w.heap.size + 1, 3, none⟩ (.string { data := #[] })).setCell ⟨w.heap.size + 1, 4, none⟩ (.slice none 0 0)) rfl (by kernel_rfl) (by kernel_rfl) ?y3k7 HXS ?_
          case y3k7 => intro o ho ht; simp only [execOp, ho]; go_simp; try rfl
          simp only [Act.put]
          refine heldTake (d := some 3) (op := Go.Op.assign (Go.Operand.tmp 24)) (g := none) 4 ?v4k7 rfl (by kernel_rfl) (by kernel_rfl) (by kernel_rfl) (by kernel_rfl) ?y4k7 HXS ?_
          case y4k7 => intro o ho w _; simp only [execOp, ho]; go_simp; try rfl
          simp only [Act.put, List.setIfInBounds_toArray, List.set_cons_zero, List.set_cons_succ]
          refine wpAnyH_done (by kernel_rfl) ?_ _
          refine NoPanic.normal ?_
          clear a0 a1 a2 a3 a4 f0 f1 f2 f3 f4 HXS HXR
          go_wp2
          refine bodyPost_ret (ret_offer rfl _ _ (w.heap.size + 1) 30 _ (0, 0) rfl (five_cells _ _ _ _ _ _ _ _ _ _ _ _ HYR.out) rfl) rfl ?_
          exact ⟨⟨.inl ⟨by rw [HST.out]; decide, by rw [HST.out]; rfl⟩⟩, ⟨HBR.out.grown (grown_five R (w.heap.size + 1) _ _ _ _ _) HBR.out.size (fun g hg => by injection hg with hg; omega)⟩⟩
        | true =>
          have CK := Sl.mk (step8_yes w _ _ _ _ _ h bx _ _ _ _ _ WA _ rfl hr HG.out HV.out HF.out HQA.out)
          have HR8 : Sl (r8B h = offerB (Nam.tell (getV h.fs bProt))) := ⟨by unfold r8B; rw [hr]; rfl⟩
          clear hr
          obtain ⟨r, hr⟩ : ∃ r, offerB (Nam.tell (getV h.fs bProt)) = r := ⟨_, rfl⟩
          rw [hr] at CK HR8
          have HRN := HR8
          clear hr
          cases r with
          | true =>
            go_wp2_with fail
            clear hWA
            refine CK.out.mono ?_
            rintro e w3 ⟨v8, b8, rfl, HO3, HQ3⟩
            clear s0 s1 sA0 sA1 CK
            go_wp2
            exact ⟨⟨8, by omega, by go_num, ⟨HR1.out, HR2.out, HR3.out, HR4.out, HR5.out, HR6.out, HR7.out, HRN.out, v8, b8, HO3.out, HQ3.out.less⟩⟩, by simp [intOf]⟩
          | false =>
            go_wp2_with fail
            clear hWA
            refine CK.out.mono ?_
            rintro e w3 ⟨v8, b8, rfl, HO3, HQ3⟩
            have HX3 := (HQ3.out.K _ (List.mem_cons_self)).1
            have HY3 := (HQ3.out.K _ (List.mem_cons_of_mem _ List.mem_cons_self)).1
            have t0 : w3.cell? ⟨wr.heap.size, 0, none⟩ = some (.int .i64 400) := by rw [cell_of_row _ _ _ _ _ _ HX3]; rfl
            have HY := Sl.mk HY3
            have HBW : Sl (Below w.heap.size w w3) := ⟨HQ3.out.B⟩
            obtain ⟨⟨a0, a1, a2, a3, a4⟩, ⟨f0, f1, f2, f3, f4⟩⟩ := five_zero HY.out
            have HX := Sl.mk HX3
            clear HX3 HY3 s0 s1 sA0 sA1 CK HQA HS HBA
            have HST : Sl (statV h = 400) := ⟨by unfold statV; rw [if_neg (by rw [HR1.out]; decide)]; rw [if_neg (by rw [HR2.out]; decide)]; rw [if_neg (by rw [HR3.out]; decide)]; rw [if_neg (by rw [HR4.out]; decide)]; rw [if_neg (by rw [HR5.out]; decide)]; rw [if_neg (by rw [HR6.out]; decide)]; rw [if_neg (by rw [HR7.out]; decide)]; rw [if_pos HRN.out]⟩
            go_wp2
            obtain ⟨R, hR⟩ : ∃ R, w3.drew = R := ⟨_, rfl⟩
            have HXR : R.heap[wr.heap.size]? = some (.cells #[.int .i64 400, .func (.func 76) #[] #[.pointer (some ⟨w.heap.size + 1 + 1 + 1, 0, none⟩), .pointer (some ⟨w.heap.size + 1 + 1 + 1 + 1, 0, none⟩)]] 70 (0, 0)) := by rw [← hR]; exact HX.out
            have HYR : Sl (R.heap[w.heap.size + 1]? = some (.cells #[.string e0, .string e0, .string e0, .string e0, .slice none 0 0] 30 (0, 0))) := ⟨by rw [← hR]; exact HY.out⟩
            have HBR : Sl (Below w.heap.size w R) := ⟨by rw [← hR]; exact HBW.out.drew⟩
            refine wp_region_noPanic ?_
            refine wp_region_held (S := fun V => V.heap[wr.heap.size]? = some (.cells #[.int .i64 400, .func (.func 76) #[] #[.pointer (some ⟨w.heap.size + 1 + 1 + 1, 0, none⟩), .pointer (some ⟨w.heap.size + 1 + 1 + 1 + 1, 0, none⟩)]] 70 (0, 0))) (by kernel_rfl) ?_
            change wpAnyH _ _ _ _ _ _ _ _ w3.drew
            rw [hR]
            clear hR a0 a1 a2 a3 a4 f0 f1 f2 f3 f4 t0
            refine heldTake (d := some 22) (op := Go.Op.build 30 #[]) (g := none) 0 ?v0k7 rfl (by kernel_rfl) (by kernel_rfl) (by kernel_rfl) (by kernel_rfl) ?y0k7 HXR ?_
            case y0k7 => intro o ho w _; simp only [execOp, ho]; go_simp; try rfl
            simp only [Act.put, List.setIfInBounds_toArray, List.set_cons_zero, List.set_cons_succ]
            refine heldTake (d := some 23) (op := Go.Op.fieldAddr 70 (Go.Operand.tmp 6) 0) (g := none) 1 ?v1k7 rfl (by kernel_rfl) (by kernel_rfl) (by kernel_rfl) (by kernel_rfl) ?y1k7 HXR ?_
            case y1k7 => intro o ho w _; simp only [execOp, ho]; go_simp; try rfl
            simp only [Act.put, List.setIfInBounds_toArray, List.set_cons_zero, List.set_cons_succ]
            refine heldTake (d := some 24) (op := Go.Op.load 3 (Go.Operand.tmp 23)) (g := none) 2 ?v2k7 rfl (by kernel_rfl) (by kernel_rfl) (by kernel_rfl) (by kernel_rfl) ?y2k7 HXR ?_
            case y2k7 => intro o ho w hS; have t0 : w.cell? ⟨wr.heap.size, 0, none⟩ = some (.int .i64 400) := (cell_of_row _ _ _ _ _ _ hS); simp only [execOp, ho]; go_simp; try rfl
            simp only [Act.put, List.setIfInBounds_toArray, List.set_cons_zero, List.set_cons_succ]
            obtain ⟨⟨a0, a1, a2, a3, a4⟩, ⟨f0, f1, f2, f3, f4⟩⟩ := five_zero HYR.out
            have hne : wr.heap.size ≠ w.heap.size + 1 := fun e => by
              have h1 := HYR.out
              rw [← e, HXR] at h1
              injection h1 with h1
              injection h1 with _ h2
              revert h2; decide
            have HXS : (((((R.setCell ⟨w.heap.size + 1, 0, none⟩ (.string { data := #[] })).setCell ⟨w.heap.size + 1, 1, none⟩ (.string { data := #[] })).setCell ⟨w.heap.size + 1, 2, none⟩ (.string { data := #[] })).setCell ⟨w.heap.size + 1, 3, none⟩ (.string { data := #[] })).setCell ⟨w.heap.size + 1, 4, none⟩ (.slice none 0 0)).heap[wr.heap.size]? = some (.cells #[.int .i64 400, .func (.func 76) #[] #[.pointer (some ⟨w.heap.size + 1 + 1 + 1, 0, none⟩), .pointer (some ⟨w.heap.size + 1 + 1 + 1 + 1, 0, none⟩)]] 70 (0, 0)) := by
              rw [(grown_five R (w.heap.size + 1) _ _ _ _ _).block _ (lt_of_block HXR) (fun e => hne (by injection e))]; exact HXR
            refine heldStore (d := none) (op := Go.Op.store 30 (Go.Operand.tmp 2) (Go.Operand.tmp 22)) (g := none) 3 (((((R.setCell ⟨w.heap.size + 1, 0, none⟩ (.string { data := #[] })).setCell ⟨w.heap.size + 1, 1, none⟩ (.string { data := #[] })).setCell ⟨w.heap.size + 1, 2, none⟩ (.string { data := #[] })).setCell ⟨w.heap.size + 1, 3, none⟩ (.string { data := #[] })).setCell ⟨w.heap.size + 1, 4, none⟩ (.slice none 0 0)) rfl (by kernel_rfl) (by kernel_rfl) ?y3k7 HXS ?_
            case y3k7 => intro o ho ht; simp only [execOp, ho]; go_simp; try rfl
            simp only [Act.put]
            refine heldTake (d := some 3) (op := Go.Op.assign (Go.Operand.tmp 24)) (g := none) 4 ?v4k7 rfl (by kernel_rfl) (by kernel_rfl) (by kernel_rfl) (by kernel_rfl) ?y4k7 HXS ?_
            case y4k7 => intro o ho w _; simp only [execOp, ho]; go_simp; try rfl
            simp only [Act.put, List.setIfInBounds_toArray, List.set_cons_zero, List.set_cons_succ]
            refine wpAnyH_done (by kernel_rfl) ?_ _
            refine NoPanic.normal ?_
            clear a0 a1 a2 a3 a4 f0 f1 f2 f3 f4 HXS HXR
            go_wp2
            refine bodyPost_ret (ret_offer rfl _ _ (w.heap.size + 1) 30 _ (0, 0) rfl (five_cells _ _ _ _ _ _ _ _ _ _ _ _ HYR.out) rfl) rfl ?_
            exact ⟨⟨.inl ⟨by rw [HST.out]; decide, by rw [HST.out]; rfl⟩⟩, ⟨HBR.out.grown (grown_five R (w.heap.size + 1) _ _ _ _ _) HBR.out.size (fun g hg => by injection hg with hg; omega)⟩⟩
      · have hs : QL8 w (w.heap.size + 1 + 1 + 1) (w.heap.size + 1 + 1 + 1 + 1) (w.heap.size + 1 + 1) (w.heap.size + 1 + 1 + 1 + 1 + 1) (w.heap.size + 1) h bx wr := HQ.out
        obtain ⟨hr1, hr2, hr3, hr4, hr5, hr6, hr7, hr8, v8, b8, ho8, hs⟩ := hs
        have HO8 := Sl.mk ho8
        obtain ⟨x8, y8, hv8⟩ := OwnS.slice ho8
        subst hv8
        have HR1 := Sl.mk hr1
        have HR2 := Sl.mk hr2
        have HR3 := Sl.mk hr3
        have HR4 := Sl.mk hr4
        have HR5 := Sl.mk hr5
        have HR6 := Sl.mk hr6
        have HR7 := Sl.mk hr7
        have HR8 := Sl.mk hr8
        have HS : Sl (QS w (w.heap.size + 1 + 1 + 1) (w.heap.size + 1 + 1 + 1 + 1) (w.heap.size + 1 + 1) (w.heap.size + 1 + 1 + 1 + 1 + 1) [(w.heap.size + 1, .cells #[.string e0, .string e0, .string e0, .string e0, .slice none 0 0] 30 (0, 0))] h bx h.b (oneS (getV h.fs bHost)) (oneS (getV h.fs bKey)) e0 (.slice x8 (Nam.tell (getV h.fs bProt)).length y8) wr) := ⟨hs⟩
        clear hs HQ hr1 hr2 hr3 hr4 hr5 hr6 hr7 hr8 ho8
        have s0 : wr.cell? ⟨w.heap.size + 1 + 1 + 1 + 1 + 1, 16, none⟩ = some (.int .i64 400) := step_cell HS.out.S 16 _ rfl
        have s1 : wr.cell? ⟨w.heap.size + 1 + 1 + 1 + 1 + 1, 17, none⟩ = some (.func (.func 78) #[] #[.pointer (some ⟨w.heap.size + 1 + 1 + 1, 0, none⟩), .pointer (some ⟨w.heap.size + 1 + 1 + 1 + 1, 0, none⟩)]) := step_cell HS.out.S 17 _ rfl
        obtain ⟨WA, hWA⟩ : ∃ V, wr.alloc (.cells #[.int .i64 400, .func (.func 78) #[] #[.pointer (some ⟨w.heap.size + 1 + 1 + 1, 0, none⟩), .pointer (some ⟨w.heap.size + 1 + 1 + 1 + 1, 0, none⟩)]] 70) = V := ⟨_, rfl⟩
        have HBA : Sl (Below wr.heap.size wr WA) := ⟨by rw [← hWA]; exact (Below.refl _ _).alloc (Nat.le_refl _) _⟩
        have HQA : Sl (QS w (w.heap.size + 1 + 1 + 1) (w.heap.size + 1 + 1 + 1 + 1) (w.heap.size + 1 + 1) (w.heap.size + 1 + 1 + 1 + 1 + 1) ((wr.heap.size, .cells #[.int .i64 400, .func (.func 78) #[] #[.pointer (some ⟨w.heap.size + 1 + 1 + 1, 0, none⟩), .pointer (some ⟨w.heap.size + 1 + 1 + 1 + 1, 0, none⟩)]] 70 (0, 0)) :: [(w.heap.size + 1, .cells #[.string e0, .string e0, .string e0, .string e0, .slice none 0 0] 30 (0, 0))]) h bx h.b (oneS (getV h.fs bHost)) (oneS (getV h.fs bKey)) e0 (.slice x8 (Nam.tell (getV h.fs bProt)).length y8) WA) := ⟨(HS.out.below HBA.out).more _ _ (by rw [← hWA]; exact alloc_new _ _ _ rfl) (by have := lt_of_block HS.out.P; omega)⟩
        have HO8A := Sl.mk (OwnS.below HO8.out HBA.out)
        have sA0 : WA.cell? ⟨wr.heap.size, 0, none⟩ = some (.int .i64 400) := by rw [cell_of_row _ _ _ _ _ _ (HQA.out.K _ (List.mem_cons_self)).1]; rfl
        have sA1 : WA.cell? ⟨wr.heap.size, 1, none⟩ = some (.func (.func 78) #[] #[.pointer (some ⟨w.heap.size + 1 + 1 + 1, 0, none⟩), .pointer (some ⟨w.heap.size + 1 + 1 + 1 + 1, 0, none⟩)]) := by rw [cell_of_row _ _ _ _ _ _ (HQA.out.K _ (List.mem_cons_self)).1]; rfl
        have CK := Sl.mk (step9 w _ _ _ _ _ h bx _ _ _ _ _ WA _ _ rfl rfl HV.out HF.out b8 _ HO8A.out HQA.out)
        obtain ⟨r, hr⟩ : ∃ r, r9B h = r := ⟨_, rfl⟩
        have HRN := Sl.mk hr
        rw [show (decide ((getV h.fs bOrg).length ≤ 1)) = r from hr] at CK
        clear hr
        cases r with
        | true =>
          go_wp2_with fail
          clear hWA
          refine CK.out.mono ?_
          rintro e w3 ⟨rfl, HQ3, HO3⟩
          clear s0 s1 sA0 sA1 CK
          go_wp2
          exact ⟨⟨9, by omega, by go_num, ⟨HR1.out, HR2.out, HR3.out, HR4.out, HR5.out, HR6.out, HR7.out, HR8.out, HRN.out, _, b8, HO3.out, HQ3.out.less⟩⟩, by simp [intOf]⟩
        | false =>
          go_wp2_with fail
          clear hWA
          refine CK.out.mono ?_
          rintro e w3 ⟨rfl, HQ3, HO3⟩
          have HX3 := (HQ3.out.K _ (List.mem_cons_self)).1
          have HY3 := (HQ3.out.K _ (List.mem_cons_of_mem _ List.mem_cons_self)).1
          have t0 : w3.cell? ⟨wr.heap.size, 0, none⟩ = some (.int .i64 400) := by rw [cell_of_row _ _ _ _ _ _ HX3]; rfl
          have HY := Sl.mk HY3
          have HBW : Sl (Below w.heap.size w w3) := ⟨HQ3.out.B⟩
          obtain ⟨⟨a0, a1, a2, a3, a4⟩, ⟨f0, f1, f2, f3, f4⟩⟩ := five_zero HY.out
          have HX := Sl.mk HX3
          clear HX3 HY3 s0 s1 sA0 sA1 CK HQA HS HBA
          have HST : Sl (statV h = 400) := ⟨by unfold statV; rw [if_neg (by rw [HR1.out]; decide)]; rw [if_neg (by rw [HR2.out]; decide)]; rw [if_neg (by rw [HR3.out]; decide)]; rw [if_neg (by rw [HR4.out]; decide)]; rw [if_neg (by rw [HR5.out]; decide)]; rw [if_neg (by rw [HR6.out]; decide)]; rw [if_neg (by rw [HR7.out]; decide)]; rw [if_neg (by rw [HR8.out]; decide)]; rw [if_pos HRN.out]⟩
          go_wp2
          obtain ⟨R, hR⟩ : ∃ R, w3.drew = R := ⟨_, rfl⟩
          have HXR : R.heap[wr.heap.size]? = some (.cells #[.int .i64 400, .func (.func 78) #[] #[.pointer (some ⟨w.heap.size + 1 + 1 + 1, 0, none⟩), .pointer (some ⟨w.heap.size + 1 + 1 + 1 + 1, 0, none⟩)]] 70 (0, 0)) := by rw [← hR]; exact HX.out
          have HYR : Sl (R.heap[w.heap.size + 1]? = some (.cells #[.string e0, .string e0, .string e0, .string e0, .slice none 0 0] 30 (0, 0))) := ⟨by rw [← hR]; exact HY.out⟩
          have HBR : Sl (Below w.heap.size w R) := ⟨by rw [← hR]; exact HBW.out.drew⟩
          refine wp_region_noPanic ?_
          refine wp_region_held (S := fun V => V.heap[wr.heap.size]? = some (.cells #[.int .i64 400, .func (.func 78) #[] #[.pointer (some ⟨w.heap.size + 1 + 1 + 1, 0, none⟩), .pointer (some ⟨w.heap.size + 1 + 1 + 1 + 1, 0, none⟩)]] 70 (0, 0))) (by kernel_rfl) ?_
          change wpAnyH _ _ _ _ _ _ _ _ w3.drew
          rw [hR]
          clear hR a0 a1 a2 a3 a4 f0 f1 f2 f3 f4 t0
          refine heldTake (d := some 22) (op := Go.Op.build 30 #[]) (g := none) 0 ?v0k8 rfl (by kernel_rfl) (by kernel_rfl) (by kernel_rfl) (by kernel_rfl) ?y0k8 HXR ?_
          case y0k8 => intro o ho w _; simp only [execOp, ho]; go_simp; try rfl
          simp only [Act.put, List.setIfInBounds_toArray, List.set_cons_zero, List.set_cons_succ]
          refine heldTake (d := some 23) (op := Go.Op.fieldAddr 70 (Go.Operand.tmp 6) 0) (g := none) 1 ?v1k8 rfl (by kernel_rfl) (by kernel_rfl) (by kernel_rfl) (by kernel_rfl) ?y1k8 HXR ?_
          case y1k8 => intro o ho w _; simp only [execOp, ho]; go_simp; try rfl
          simp only [Act.put, List.setIfInBounds_toArray, List.set_cons_zero, List.set_cons_succ]
          refine heldTake (d := some 24) (op := Go.Op.load 3 (Go.Operand.tmp 23)) (g := none) 2 ?v2k8 rfl (by kernel_rfl) (by kernel_rfl) (by kernel_rfl) (by kernel_rfl) ?y2k8 HXR ?_
          case y2k8 => intro o ho w hS; have t0 : w.cell? ⟨wr.heap.size, 0, none⟩ = some (.int .i64 400) := (cell_of_row _ _ _ _ _ _ hS); simp only [execOp, ho]; go_simp; try rfl
          simp only [Act.put, List.setIfInBounds_toArray, List.set_cons_zero, List.set_cons_succ]
          obtain ⟨⟨a0, a1, a2, a3, a4⟩, ⟨f0, f1, f2, f3, f4⟩⟩ := five_zero HYR.out
          have hne : wr.heap.size ≠ w.heap.size + 1 := fun e => by
            have h1 := HYR.out
            rw [← e, HXR] at h1
            injection h1 with h1
            injection h1 with _ h2
            revert h2; decide
          have HXS : (((((R.setCell ⟨w.heap.size + 1, 0, none⟩ (.string { data := #[] })).setCell ⟨w.heap.size + 1, 1, none⟩ (.string { data := #[] })).setCell ⟨w.heap.size + 1, 2, none⟩ (.string { data := #[] })).setCell ⟨w.heap.size + 1, 3, none⟩ (.string { data := #[] })).setCell ⟨w.heap.size + 1, 4, none⟩ (.slice none 0 0)).heap[wr.heap.size]? = some (.cells #[.int .i64 400, .func (.func 78) #[] #[.pointer (some ⟨w.heap.size + 1 + 1 + 1, 0, none⟩), .pointer (some ⟨w.heap.size + 1 + 1 + 1 + 1, 0, none⟩)]] 70 (0, 0)) := by
            rw [(grown_five R (w.heap.size + 1) _ _ _ _ _).block _ (lt_of_block HXR) (fun e => hne (by injection e))]; exact HXR
          refine heldStore (d := none) (op := Go.Op.store 30 (Go.Operand.tmp 2) (Go.Operand.tmp 22)) (g := none) 3 (((((R.setCell ⟨w.heap.size + 1, 0, none⟩ (.string { data := #[] })).setCell ⟨w.heap.size + 1, 1, none⟩ (.string { data := #[] })).setCell ⟨w.heap.size + 1, 2, none⟩ (.string { data := #[] })).setCell ⟨w.heap.size + 1, 3, none⟩ (.string { data := #[] })).setCell ⟨w.heap.size + 1, 4, none⟩ (.slice none 0 0)) rfl (by kernel_rfl) (by kernel_rfl) ?y3k8 HXS ?_
          case y3k8 => intro o ho ht; simp only [execOp, ho]; go_simp; try rfl
          simp only [Act.put]
          refine heldTake (d := some 3) (op := Go.Op.assign (Go.Operand.tmp 24)) (g := none) 4 ?v4k8 rfl (by kernel_rfl) (by kernel_rfl) (by kernel_rfl) (by kernel_rfl) ?y4k8 HXS ?_
          case y4k8 => intro o ho w _; simp only [execOp, ho]; go_simp; try rfl
          simp only [Act.put, List.setIfInBounds_toArray, List.set_cons_zero, List.set_cons_succ]
          refine wpAnyH_done (by kernel_rfl) ?_ _
          refine NoPanic.normal ?_
          clear a0 a1 a2 a3 a4 f0 f1 f2 f3 f4 HXS HXR
          go_wp2
          refine bodyPost_ret (ret_offer rfl _ _ (w.heap.size + 1) 30 _ (0, 0) rfl (five_cells _ _ _ _ _ _ _ _ _ _ _ _ HYR.out) rfl) rfl ?_
          exact ⟨⟨.inl ⟨by rw [HST.out]; decide, by rw [HST.out]; rfl⟩⟩, ⟨HBR.out.grown (grown_five R (w.heap.size + 1) _ _ _ _ _) HBR.out.size (fun g hg => by injection hg with hg; omega)⟩⟩
    · obtain rfl : k = 9 := by omega
      clear hlt hk
      have hs : QL9 w (w.heap.size + 1 + 1 + 1) (w.heap.size + 1 + 1 + 1 + 1) (w.heap.size + 1 + 1) (w.heap.size + 1 + 1 + 1 + 1 + 1) (w.heap.size + 1) h bx wr := HQ.out
      obtain ⟨hr1, hr2, hr3, hr4, hr5, hr6, hr7, hr8, hr9, v8, b8, ho8, hs⟩ := hs
      have HO8 := Sl.mk ho8
      obtain ⟨x8, y8, hv8⟩ := OwnS.slice ho8
      subst hv8
      have HST : Sl (statV h = 0) := ⟨by
        unfold statV
        rw [if_neg (by rw [hr1]; decide), if_neg (by rw [hr2]; decide), if_neg (by rw [hr3]; decide), if_neg (by rw [hr4]; decide), if_neg (by rw [hr5]; decide), if_neg (by rw [hr6]; decide), if_neg (by rw [hr7]; decide), if_neg (by rw [hr8]; decide), if_neg (by rw [hr9]; decide)]⟩
      have HS : Sl (QS w (w.heap.size + 1 + 1 + 1) (w.heap.size + 1 + 1 + 1 + 1) (w.heap.size + 1 + 1) (w.heap.size + 1 + 1 + 1 + 1 + 1) [(w.heap.size + 1, .cells #[.string e0, .string e0, .string e0, .string e0, .slice none 0 0] 30 (0, 0))] h bx h.b (oneS (getV h.fs bHost)) (oneS (getV h.fs bKey)) (oneS (getV h.fs bOrg)) (.slice x8 (Nam.tell (getV h.fs bProt)).length y8) wr) := ⟨hs⟩
      clear hr1 hr2 hr3 hr4 hr5 hr6 hr7 hr8 hr9 ho8 hs HQ
      have HY := Sl.mk (HS.out.K _ List.mem_cons_self).1
      obtain ⟨z0, z1, z2, z3, z4⟩ := HS.out.pcells
      obtain ⟨⟨a0, a1, a2, a3, a4⟩, ⟨f0, f1, f2, f3, f4⟩⟩ := five_zero HY.out
      have hn1 : (w.heap.size + 1 + 1 = w.heap.size + 1) = False := eq_false (by omega)
      have hn2 : (w.heap.size + 1 = w.heap.size + 1 + 1) = False := eq_false (by omega)
      go_wp2
      have HGW := grown_five wr (w.heap.size + 1) (.string h.b) (.string (oneS (getV h.fs bHost))) (.string (oneS (getV h.fs bKey))) (.string (oneS (getV h.fs bOrg))) (.slice x8 (Nam.tell (getV h.fs bProt)).length y8)
      refine bodyPost_ret (ret_offer rfl _ _ (w.heap.size + 1) 30 _ (0, 0) rfl (five_cells _ _ _ _ _ _ _ _ _ _ _ _ HY.out) rfl) rfl ?_
      refine ⟨⟨.inr ⟨HST.out, x8, y8, rfl, ?_⟩⟩, ⟨HS.out.B.grown HGW HS.out.B.size (fun g hg => by injection hg with hg; omega)⟩⟩
      exact (ownS_grown HO8.out HGW (ownS_kind HO8.out HY.out (by decide))).strA
end Go.Proofs.YthlagngpllahkaaGreatDoor
