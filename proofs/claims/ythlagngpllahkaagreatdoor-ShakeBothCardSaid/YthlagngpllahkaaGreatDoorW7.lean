/- shake: what is asked is read as a question: the contracts that ShakeBoth's walk calls. -/
import Derived.Test.YthlagngpllahkaaGreatDoorW3
set_option maxRecDepth 100000
namespace Go.Proofs.YthlagngpllahkaaGreatDoor
open Go.RowKit HeadPlain

theorem join_small {ls : List (List Nat)} (h : ∀ l ∈ ls, Small 256 l) : Small 256 (join ls) := by
  induction ls with
  | nil => intro x hx; simp at hx
  | cons l ls ih =>
    rw [join_cons]
    refine (h l (by simp)).append (fun x hx => ?_)
    rcases List.mem_cons.1 hx with rfl | hx
    · omega
    · rcases List.mem_cons.1 hx with rfl | hx
      · omega
      · exact ih (fun m hm => h m (by simp [hm])) x hx
theorem text_small (h : HdV) : Small 256 (text h.hd) := by
  unfold text
  refine (join_small fun l hl => ?_).append (fun x hx => by simp at hx; omega)
  rcases List.mem_cons.1 hl with rfl | hl
  · unfold line1
    refine (bytes_small h.a).append (fun x hx => ?_)
    rcases List.mem_cons.1 hx with rfl | hx
    · omega
    · refine (bytes_small h.b).append (fun x hx => ?_) x hx
      rcases List.mem_cons.1 hx with rfl | hx
      · omega
      · exact bytes_small h.c x hx
  · simp only [HdV.hd, List.map_map, List.mem_map] at hl
    obtain ⟨f, _, rfl⟩ := hl
    show Small 256 (lineF (fN f))
    unfold lineF fN
    refine (bytes_small f.1).append (fun x hx => ?_)
    rcases List.mem_cons.1 hx with rfl | hx
    · omega
    · rcases List.mem_cons.1 hx with rfl | hx
      · omega
      · exact bytes_small f.2 x hx
theorem ask_quest {path host key : ByteArray} {l : List ByteArray} (h : askOkB path host key l = true) :
    quest keyB (askV path host key l).hd = .ok ⟨bytes path, bytes host, bytes key, [], l.map bytes⟩ ∧ chk (askV path host key l) = 0 ∧ l.length ≤ 16 ∧ ∀ x ∈ l, token (bytes x) = true := by
  unfold askOkB askB offerB at h
  simp only [Bool.and_eq_true, decide_eq_true_eq, Bool.not_eq_true'] at h
  obtain ⟨⟨h1, _, h3, _, h5⟩, ⟨h6, h7, h8⟩, h9⟩ := h
  have hp : (bytes path).head? = some 47 := by
    have := hasPrefix_head path
    rw [h1] at this
    exact of_decide_eq_true this.symm
  have hh : bytes host ≠ [] := by
    intro e
    rw [beq_bytes, decide_eq_false_iff_not] at h3
    exact h3 (by rw [e]; rfl)
  have ht : ∀ x ∈ l, token (bytes x) = true := fun x hx => by
    have := (List.any_eq_false.1 h7) x hx
    simpa [Nam.tokT] using this
  refine ⟨?_, h9, h6, ht⟩
  rw [askV_hd]
  exact quest_ask keyB _ _ _ _ hp hh h5 (fun t ht' => by obtain ⟨x, hx, rfl⟩ := List.mem_map.1 ht'; exact ht x hx) h8 (by rw [List.length_map]; exact h6)
theorem chk_of_hd {g r : HdV} (e : g.hd = r.hd) : chk g = chk r := by
  have hl : g.fs.length = r.fs.length := by rw [← hd_fs, ← hd_fs, e]
  unfold chk
  rw [e, hl]
theorem quest_same {w' : World} {g : HdV} {e : Ending} {path host key : ByteArray} {l : List ByteArray} (q : QuestR w' g e) (hq : quest keyB g.hd = .ok ⟨bytes path, bytes host, bytes key, [], l.map bytes⟩) :
    ∃ a c n ls, e = .returned (.tuple #[.agg #[.string path, .string host, .string key, .string { data := #[] }, .slice a n c], .int .i64 0]) ∧ Sl (StrA w' (.slice a n c) ls) ∧ Sl (ls.map bytes = l.map bytes) := by
  obtain ⟨h0, ho⟩ := stat_of hq
  have e1 : g.b = path := bytes_inj (congrArg Off.path ho)
  have e2 : oneS (getV g.fs bHost) = host := bytes_inj (congrArg Off.host ho)
  have e3 : oneS (getV g.fs bKey) = key := bytes_inj (congrArg Off.key ho)
  have e4 : oneS (getV g.fs bOrg) = { data := #[] } := bytes_inj (congrArg Off.origin ho)
  rcases q with ⟨h1, _⟩ | ⟨_, a, c, he, hs⟩
  · exact absurd h0 h1
  · rw [e1, e2, e3, e4] at he
    exact ⟨a, c, _, _, he, ⟨hs⟩, ⟨congrArg Off.prot ho⟩⟩
theorem show_gen (r : HdV) (hc : chk r = 0) (V : World) (v : Value) (hg : GlobA V) (hF : FieldsAt V v r.fs) :
    Calls Tryz.prog 32 #[.agg #[.string r.a, .string r.b, .string r.c, v]] V fun e w' => (∃ x y, e = .returned (.tuple #[.slice x (text r.hd).length y, .int .i64 0]) ∧ Sl (SrcS w' (.slice x (text r.hd).length y) (text r.hd))) ∧ Sl (Below V.heap.size V w') := by
  have f := fw_chk hc
  refine (show_ex V V r v (Below.refl _ _) hg.h hF ⟨by have := f.a; unfold maxLen; omega, by have := f.b; unfold maxLen; omega, by have := f.c; unfold maxLen; omega⟩ (by have := (text_le r hc).2.2; omega)).mono fun e w' ⟨h1, h2, _⟩ => ?_
  obtain ⟨x, y, he, hs⟩ := showR_ok h1.out hc
  exact ⟨⟨x, y, he, ⟨hs⟩⟩, h2⟩
theorem read_gen (r : HdV) (hc : chk r = 0) (V : World) (v : Value) (s more : ByteArray) (hs : s = strOf (text r.hd) ++ more) (hm : more.size ≤ 100) (hg : GlobA V) (hS : SrcS V v (bytes s)) :
    Calls Tryz.prog 33 #[v] V fun e w' => (∃ (g : HdV) (a : Option Addr) (c : Nat), Sl (g.hd = r.hd) ∧ e = .returned (.tuple #[.agg #[.string g.a, .string g.b, .string g.c, .slice a g.fs.length c], .int .i64 ((text r.hd).length : Nat), .int .i64 0]) ∧ Sl (FieldsAt w' (.slice a g.fs.length c) g.fs)) ∧ Sl (Below V.heap.size V w') := by
  have ht := text_le r hc
  have hb : bytes s = text r.hd ++ bytes more := by rw [hs, bytes_append, bytes_strOf _ (text_small r)]
  have hl : (bytes s).length ≤ 100000 := by rw [hb, List.length_append, bytes_length]; omega
  refine (read_ex V V (bytes s) v (Below.refl _ _) hg.h hS (bytes_small s) hl).mono fun e w' ⟨h1, h2, _⟩ => ?_
  obtain ⟨g, a, c, h3, h4, _, h6⟩ := readR_ok h1.out (by rw [hb]; exact rd_text r.hd ((formB_iff _).1 ht.1) (bytes more) (by rw [hd_fs]; exact ht.2.1) ht.2.2)
  exact ⟨⟨g, a, c, ⟨h3⟩, h4, ⟨h6⟩⟩, h2⟩
/-- A head that is all zero. -/
theorem head_zero {W : World} {g : Nat} (h : W.heap[g]? = some (.cells #[.string { data := #[] }, .string { data := #[] }, .string { data := #[] }, .slice none 0 0] 25 (0, 0))) :
    (W.cell? ⟨g, 0, none⟩ = some (.string { data := #[] }) ∧ W.cell? ⟨g, 1, none⟩ = some (.string { data := #[] }) ∧ W.cell? ⟨g, 2, none⟩ = some (.string { data := #[] }) ∧ W.cell? ⟨g, 3, none⟩ = some (.slice none 0 0)) ∧
    (W.frozen? ⟨g, 0, none⟩ = false ∧ W.frozen? ⟨g, 1, none⟩ = false ∧ W.frozen? ⟨g, 2, none⟩ = false ∧ W.frozen? ⟨g, 3, none⟩ = false) ∧
    (W.setCell ⟨g, 0, none⟩ (.string { data := #[] }) = W ∧ W.setCell ⟨g, 1, none⟩ (.string { data := #[] }) = W ∧ W.setCell ⟨g, 2, none⟩ (.string { data := #[] }) = W ∧ W.setCell ⟨g, 3, none⟩ (.slice none 0 0) = W) :=
  ⟨⟨by rw [cell_of_row _ _ _ _ _ _ h]; rfl, by rw [cell_of_row _ _ _ _ _ _ h]; rfl, by rw [cell_of_row _ _ _ _ _ _ h]; rfl, by rw [cell_of_row _ _ _ _ _ _ h]; rfl⟩,
   ⟨frozen_of_row _ _ _ _ _ h, frozen_of_row _ _ _ _ _ h, frozen_of_row _ _ _ _ _ h, frozen_of_row _ _ _ _ _ h⟩,
   ⟨setCell_there h rfl, setCell_there h rfl, setCell_there h rfl, setCell_there h rfl⟩⟩
end Go.Proofs.YthlagngpllahkaaGreatDoor
