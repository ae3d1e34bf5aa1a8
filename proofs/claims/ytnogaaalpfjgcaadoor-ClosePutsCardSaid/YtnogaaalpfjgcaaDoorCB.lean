/- close: Across, Index, Contains, Code. -/
import Derived.Test.YtnogaaalpfjgcaaDoorCA
set_option maxRecDepth 100000
namespace Go.Proofs.YtnogaaalpfjgcaaDoor
open Go.RowKit UtfPlain ClosePlain Utf

theorem across_any (n : Int) (w : World) : Calls Tryd.prog 16 #[.int .i64 n] w fun e w' => e = .returned (.int .i64 (acrossC n)) ∧ Sl (Below w.heap.size w w') := by
  by_cases h0 : n = 1005
  · subst h0
    go_enter Tryd.func16, Tryd.ntmps16
    go_wp2
    go_ret
    exact ⟨rfl, ⟨Below.refl _ _⟩⟩
  · have e0 : (n == 1005) = false := beq_eq_false_iff_ne.2 h0
    have V := codeValid_any n w
    unfold acrossC
    rw [if_neg h0]
    obtain ⟨r, hr⟩ : ∃ r, valid n = r := ⟨_, rfl⟩
    rw [hr] at V ⊢
    clear hr h0
    cases r with
    | true =>
      go_enter Tryd.func16, Tryd.ntmps16
      go_wp2_with fail
      refine V.mono ?_
      rintro e w1 ⟨rfl, HB⟩
      clear V
      go_wp2
      go_ret
      exact ⟨rfl, HB⟩
    | false =>
      go_enter Tryd.func16, Tryd.ntmps16
      go_wp2_with fail
      refine V.mono ?_
      rintro e w1 ⟨rfl, HB⟩
      clear V
      go_wp2
      go_ret
      exact ⟨rfl, HB⟩

/-- A row of numbers of 64 bits. -/
def IntsAt (W : World) (g : Nat) (l : List Int) : Prop := W.heap[g]? = some (.cells (l.map (Value.int .i64)).toArray 23 (0, 0))
theorem IntsAt.cell {W : World} {g : Nat} {l : List Int} (h : IntsAt W g l) (k : Nat) (hk : k < l.length) : W.cell? ⟨g, k, none⟩ = some (.int .i64 (l.getD k 0)) := by
  rw [cell_of_row _ _ _ _ _ _ h]
  rw [List.getElem?_toArray, List.getElem?_map, List.getElem?_eq_getElem hk, List.getD_eq_getElem?_getD, List.getElem?_eq_getElem hk]
  rfl
theorem index_any (l : List Int) (e : Int) (g : Nat) (w : World) (hg : IntsAt w g l) (n : Nat) (hn : l.length = n) (hm : n ≤ 1000) :
    Calls Tryd.prog 30 #[.slice (some ⟨g, 0, none⟩) n n, .int .i64 e] w fun en w' => (∃ r : Int, en = .returned (.int .i64 r) ∧ decide (r ≥ 0) = decide (e ∈ l)) ∧ w = w' := by
  have HG := Sl.mk hg
  have HN := Sl.mk hn
  clear hg hn
  go_enter Tryd.func30, Tryd.ntmps30
  go_wp2
  go_loopw [8] (fun i wr => ∃ k : Nat, i = .int .i64 (k : Int) ∧ k ≤ n ∧ wr = w ∧ Sl (e ∉ l.take k)) (fun i _ => n - (intOf i).toNat)
  case atStart => exact ⟨0, rfl, Nat.zero_le _, rfl, ⟨by simp⟩⟩
  case round =>
    obtain ⟨k, rfl, hk, rfl, HT⟩ := hrel
    by_cases hkn : k < n
    · have hlt : ((k : Int) < (n : Int)) = True := eq_true (by omega)
      have hc := HG.out.cell k (by rw [HN.out]; exact hkn)
      have hlk : l[k]? = some (l.getD k 0) := by rw [List.getD_eq_getElem?_getD, List.getElem?_eq_getElem (by rw [HN.out]; exact hkn)]; rfl
      have HLK := Sl.mk hlk
      clear hlk
      obtain ⟨x, hx⟩ : ∃ x, l.getD k 0 = x := ⟨_, rfl⟩
      rw [hx] at hc HLK
      clear hx
      by_cases hex : e = x
      · have hq : (e == x) = true := by rw [hex]; exact beq_self_eq_true _
        have HR : Sl (decide ((k : Int) ≥ 0) = decide (e ∈ l)) := ⟨by
          rw [decide_eq_true (by omega), decide_eq_true]
          rw [hex]; exact List.mem_of_getElem? HLK.out⟩
        clear hex
        go_wp2
        go_ret
        exact ⟨⟨_, rfl, HR.out⟩, rfl⟩
      · have hq : (e == x) = false := beq_eq_false_iff_ne.2 hex
        have HT' : Sl (e ∉ l.take (k + 1)) := ⟨by
          rw [List.take_add_one, HLK.out]
          simp only [Option.toList_some, List.mem_append, List.mem_singleton]
          exact fun h => h.elim HT.out hex⟩
        clear hex
        go_wp2
        exact ⟨⟨k + 1, by go_num, by omega, trivial, HT'⟩, by simp [intOf]; omega⟩
    · obtain rfl : k = n := by omega
      have hlt : ((k : Int) < (k : Int)) = False := eq_false (by omega)
      have HR : Sl (decide ((-1 : Int) ≥ 0) = decide (e ∈ l)) := ⟨by
        have h := HT.out
        rw [List.take_of_length_le (by rw [HN.out]; exact Nat.le_refl _)] at h
        rw [decide_eq_false h]; rfl⟩
      go_wp2
      go_ret
      exact ⟨⟨_, rfl, HR.out⟩, rfl⟩
theorem contains_any (l : List Int) (e : Int) (g : Nat) (w : World) (hg : IntsAt w g l) (n : Nat) (hn : l.length = n) (hm : n ≤ 1000) (d : Bool) (hd : decide (e ∈ l) = d) :
    Calls Tryd.prog 26 #[.slice (some ⟨g, 0, none⟩) n n, .int .i64 e] w fun en w' => en = .returned (.bool d) ∧ w = w' := by
  have I := index_any l e g w hg n hn hm
  rw [hd] at I
  clear hg hn hm hd
  go_enter Tryd.func26, Tryd.ntmps26
  go_wp2_with fail
  refine I.mono ?_
  rintro en w1 ⟨⟨r, rfl, hr⟩, rfl⟩
  clear I
  go_wp2
  go_ret
  exact ⟨rfl, rfl⟩
theorem is_any (l : List Int) (e : Int) (g C : Nat) (w : World) (hg : IntsAt w g l) (hC : w.heap[C]? = some (.cells #[.int .i64 e] 23 (0, 0))) (n : Nat) (hn : l.length = n) (hm : n ≤ 1000) (d : Bool) (hd : decide (e ∈ l) = d) :
    Calls Tryd.prog 25 #[.slice (some ⟨g, 0, none⟩) n n, .pointer (some ⟨C, 0, none⟩)] w fun en w' => en = .returned (.bool d) ∧ w = w' := by
  have I := contains_any l e g w hg n hn hm d hd
  have hc := cell_of_one hC
  clear hg hn hm hd hC
  go_enter Tryd.func25, Tryd.ntmps25
  go_wp2_with fail
  refine I.mono ?_
  rintro en w1 ⟨rfl, rfl⟩
  clear I
  go_wp2
  go_ret
  exact ⟨rfl, rfl⟩
theorem codeC_in (e : Int) : codeC e = if decide (e ∈ [0]) = true then 1000 else if decide (e ∈ [91, 100, 110, 120]) = true then 1002 else if decide (e ∈ [111, 122]) = true then 1007 else if decide (e ∈ [92, 121]) = true then 1009 else 1011 := by
  unfold codeC
  simp only [decide_eq_true_eq, List.mem_cons, List.not_mem_nil, or_false]
theorem code_any (e : Int) (w : World) : Calls Tryd.prog 17 #[.int .i64 e] w fun en w' => en = .returned (.int .i64 (codeC e)) ∧ Sl (Below w.heap.size w w') := by
  rw [codeC_in]
  obtain ⟨a, ha⟩ : ∃ x, decide (e ∈ [0]) = x := ⟨_, rfl⟩
  obtain ⟨b, hb⟩ : ∃ x, decide (e ∈ [91, 100, 110, 120]) = x := ⟨_, rfl⟩
  obtain ⟨c, hc⟩ : ∃ x, decide (e ∈ [111, 122]) = x := ⟨_, rfl⟩
  obtain ⟨d, hd⟩ : ∃ x, decide (e ∈ [92, 121]) = x := ⟨_, rfl⟩
  rw [ha, hb, hc, hd]
  obtain ⟨wa, hwa⟩ : ∃ w1, w.alloc (.cells #[.int .i64 e] 23) = w1 := ⟨_, rfl⟩
  obtain ⟨wb, hwb⟩ : ∃ w1, wa.alloc (.cells #[.int .i64 0] 23) = w1 := ⟨_, rfl⟩
  obtain ⟨wc, hwc⟩ : ∃ w1, wb.alloc (.cells #[.int .i64 91, .int .i64 100, .int .i64 110, .int .i64 120] 23) = w1 := ⟨_, rfl⟩
  obtain ⟨wd, hwd⟩ : ∃ w1, wc.alloc (.cells #[.int .i64 111, .int .i64 122] 23) = w1 := ⟨_, rfl⟩
  obtain ⟨we, hwe⟩ : ∃ w1, wd.alloc (.cells #[.int .i64 92, .int .i64 121] 23) = w1 := ⟨_, rfl⟩
  have ba : Below w.heap.size w wa := by rw [← hwa]; exact (Below.refl _ _).alloc (Nat.le_refl _) _
  have ca : wa.heap[w.heap.size]? = some (.cells #[.int .i64 e] 23 (0, 0)) := by rw [← hwa]; exact alloc_new _ _ _ rfl
  have step : ∀ (W : World) (o : Obj) (W2 : World), W.alloc o = W2 → Below w.heap.size w W → W.heap[w.heap.size]? = some (.cells #[.int .i64 e] 23 (0, 0)) → Below w.heap.size w W2 ∧ W2.heap[w.heap.size]? = some (.cells #[.int .i64 e] 23 (0, 0)) := fun W o W2 h h1 h2 => by
    subst h
    exact ⟨h1.alloc h1.size _, by rw [alloc_old _ _ _ (Array.getElem?_eq_some_iff.1 h2).1]; exact h2⟩
  obtain ⟨bb, cb⟩ := step _ _ _ hwb ba ca
  obtain ⟨bc, cc⟩ := step _ _ _ hwc bb cb
  obtain ⟨bd, cd⟩ := step _ _ _ hwd bc cc
  obtain ⟨be, ce⟩ := step _ _ _ hwe bd cd
  have F1 := is_any [0] e wa.heap.size w.heap.size wb (by rw [← hwb]; exact alloc_new _ _ _ rfl) cb 1 rfl (by decide) a ha
  have F2 := is_any [91, 100, 110, 120] e wb.heap.size w.heap.size wc (by rw [← hwc]; exact alloc_new _ _ _ rfl) cc 4 rfl (by decide) b hb
  have F3 := is_any [111, 122] e wc.heap.size w.heap.size wd (by rw [← hwd]; exact alloc_new _ _ _ rfl) cd 2 rfl (by decide) c hc
  have F4 := is_any [92, 121] e wd.heap.size w.heap.size we (by rw [← hwe]; exact alloc_new _ _ _ rfl) ce 2 rfl (by decide) d hd
  have HB := Sl.mk bb
  have HC := Sl.mk bc
  have HD := Sl.mk bd
  have HE := Sl.mk be
  clear ha hb hc hd ba ca step bb cb bc cc bd cd be ce
  go_enter Tryd.func17, Tryd.ntmps17
  go_wp2_with fail
  refine F1.mono ?_
  rintro en w1 ⟨rfl, rfl⟩
  clear F1
  cases a with
  | true =>
    go_wp2
    go_ret
    exact ⟨rfl, HB⟩
  | false =>
    go_wp2_with fail
    refine F2.mono ?_
    rintro en w1 ⟨rfl, rfl⟩
    clear F2
    cases b with
    | true =>
      go_wp2
      go_ret
      exact ⟨rfl, HC⟩
    | false =>
      go_wp2_with fail
      refine F3.mono ?_
      rintro en w1 ⟨rfl, rfl⟩
      clear F3
      cases c with
      | true =>
        go_wp2
        go_ret
        exact ⟨rfl, HD⟩
      | false =>
        go_wp2_with fail
        refine F4.mono ?_
        rintro en w1 ⟨rfl, rfl⟩
        clear F4
        cases d with
        | true =>
          go_wp2
          go_ret
          exact ⟨rfl, HE⟩
        | false =>
          go_wp2
          go_ret
          exact ⟨rfl, HE⟩
end Go.Proofs.YtnogaaalpfjgcaaDoor
