/- Whether a text is a token, as the document says it. -/
import Derived.Test.YtcdpkabbmdannaaDoorA
import Derived.Deep.DeepCutAuto
namespace Go.Proofs.YtcdpkabbmdannaaDoor
open Go.RowKit HeadPlain

def spanB (c : Nat) : Bool := (97 ≤ c && c ≤ 122) || (65 ≤ c && c ≤ 90) || (48 ≤ c && c ≤ 57)
theorem tokB_eq (c : Nat) : tokB c = (spanB c || (marks.take 15).contains c) := by
  unfold tokB spanB
  rw [show marks.take 15 = marks from rfl]
theorem take_mark (c k : Nat) (hk : k < 15) : (marks.take (k + 1)).contains c = ((marks.take k).contains c || marks.getD k 0 == c) := by
  have hl : k < marks.length := hk
  rw [List.take_succ_eq_append_getElem hl]
  rw [Bool.eq_iff_iff]
  simp only [List.contains_iff_mem, List.mem_append, List.mem_singleton, Bool.or_eq_true, beq_iff_eq]
  rw [List.getD_eq_getElem?_getD, List.getElem?_eq_getElem hl]
  simp [eq_comm]
theorem index_mark (k : Nat) (hk : k < 15) (W : World) : (Instr.index 9 (.string { data := #[33, 35, 36, 37, 38, 39, 42, 43, 45, 46, 94, 95, 96, 124, 126] }) (.int .i64 (k : Int))).run Tryd.prog W = .ok (.int .u8 ((marks.getD k 0 : Nat) : Int)) W := by
  match k, hk with
  | 0, _ => show _ = _; kernel_rfl
  | 1, _ => show _ = _; kernel_rfl
  | 2, _ => show _ = _; kernel_rfl
  | 3, _ => show _ = _; kernel_rfl
  | 4, _ => show _ = _; kernel_rfl
  | 5, _ => show _ = _; kernel_rfl
  | 6, _ => show _ = _; kernel_rfl
  | 7, _ => show _ = _; kernel_rfl
  | 8, _ => show _ = _; kernel_rfl
  | 9, _ => show _ = _; kernel_rfl
  | 10, _ => show _ = _; kernel_rfl
  | 11, _ => show _ = _; kernel_rfl
  | 12, _ => show _ = _; kernel_rfl
  | 13, _ => show _ = _; kernel_rfl
  | 14, _ => show _ = _; kernel_rfl
theorem token_get (s : ByteArray) : (bytes s).all tokB = true ↔ ∀ j, j < s.size → tokB ((bytes s).getD j 0) = true := by
  rw [List.all_eq_true]
  constructor
  · intro h j hj
    rw [← bytes_length] at hj
    have := h _ (List.getElem_mem hj)
    simpa [List.getD_eq_getElem?_getD, List.getElem?_eq_getElem hj] using this
  · intro h x hx
    obtain ⟨j, hj, rfl⟩ := List.getElem_of_mem hx
    have := h j (by rw [← bytes_length]; exact hj)
    simpa [List.getD_eq_getElem?_getD, List.getElem?_eq_getElem hj] using this
theorem token_no {s : ByteArray} (k : Nat) (hk : k < s.size) (h : tokB ((bytes s).getD k 0) = false) : token (bytes s) = false := by
  rw [Bool.eq_false_iff]
  intro e
  unfold token at e
  rw [Bool.and_eq_true, token_get] at e
  have := e.2 k hk
  rw [h] at this
  cases this
theorem token_yes {s : ByteArray} (h : ∀ j, j < s.size → tokB ((bytes s).getD j 0) = true) : token (bytes s) = decide (0 < s.size) := by
  unfold token
  rw [(token_get s).2 h, Bool.and_true, ← bytes_length]
  cases bytes s <;> simp

set_option maxHeartbeats 1000000 in
set_option maxRecDepth 100000 in
theorem tokenR_any (s : ByteArray) (W : World) (hs : s.size ≤ maxLen) : Calls Tryd.prog 34 #[.string s] W fun e w' => e = .returned (.bool (token (bytes s))) ∧ w' = W := by
  unfold maxLen at hs
  go_enter Tryd.func34, Tryd.ntmps34
  go_wp2
  go_loopw [3] (fun i wr => ∃ k : Nat, k ≤ s.size ∧ i = .int .i64 k ∧ wr = W ∧ Sl (∀ j, j < k → tokB ((bytes s).getD j 0) = true)) (fun i _ => s.size - (intOf i).toNat)
  case atStart => exact ⟨0, by omega, rfl, rfl, ⟨fun j hj => by omega⟩⟩
  case round =>
    rename World => W0
    obtain ⟨k, hk, rfl, rfl, HA⟩ := hrel
    by_cases hlt : k < s.size
    · obtain ⟨c, hc⟩ : ∃ c, (s[k]'hlt).toNat = c := ⟨_, rfl⟩
      have HC : Sl ((bytes s).getD k 0 = c) := ⟨by rw [bytes_getD s k hlt, ← hc]; rfl⟩
      go_upto_region 5 with fail
      go_cut [5] (fun s5 wx => s5 = .bool (spanB c) ∧ W0 = wx)
      case first =>
        by_cases a1 : 97 ≤ c
        · have a1' : (c : Int) ≥ 97 := by omega
          by_cases a2 : c ≤ 122
          · have a2' : (c : Int) ≤ 122 := by omega
            have e : spanB c = true := by unfold spanB; simp [a1, a2]
            go_wp2_with fail; go_meet; exact ⟨by rw [e], rfl⟩
          · have a2' : ((c : Int) ≤ 122) = False := by simp; omega
            have a3' : (c : Int) ≥ 65 := by omega
            have a4' : ((c : Int) ≤ 90) = False := by simp; omega
            have a5' : (c : Int) ≥ 48 := by omega
            have a6' : ((c : Int) ≤ 57) = False := by simp; omega
            have e : spanB c = false := by unfold spanB; simp; omega
            go_wp2_with fail; go_meet; exact ⟨by rw [e], rfl⟩
        · have a1' : ((c : Int) ≥ 97) = False := by simp; omega
          by_cases a3 : 65 ≤ c
          · have a3' : (c : Int) ≥ 65 := by omega
            by_cases a4 : c ≤ 90
            · have a4' : (c : Int) ≤ 90 := by omega
              have e : spanB c = true := by unfold spanB; simp [a3, a4]
              go_wp2_with fail; go_meet; exact ⟨by rw [e], rfl⟩
            · have a4' : ((c : Int) ≤ 90) = False := by simp; omega
              have a5' : (c : Int) ≥ 48 := by omega
              have a6' : ((c : Int) ≤ 57) = False := by simp; omega
              have e : spanB c = false := by unfold spanB; simp; omega
              go_wp2_with fail; go_meet; exact ⟨by rw [e], rfl⟩
          · have a3' : ((c : Int) ≥ 65) = False := by simp; omega
            by_cases a5 : 48 ≤ c
            · have a5' : (c : Int) ≥ 48 := by omega
              by_cases a6 : c ≤ 57
              · have a6' : (c : Int) ≤ 57 := by omega
                have e : spanB c = true := by unfold spanB; simp [a5, a6]
                go_wp2_with fail; go_meet; exact ⟨by rw [e], rfl⟩
              · have a6' : ((c : Int) ≤ 57) = False := by simp; omega
                have e : spanB c = false := by unfold spanB; simp; omega
                go_wp2_with fail; go_meet; exact ⟨by rw [e], rfl⟩
            · have a5' : ((c : Int) ≥ 48) = False := by simp; omega
              have e : spanB c = false := by unfold spanB; simp; omega
              go_wp2_with fail; go_meet; exact ⟨by rw [e], rfl⟩
      case rest =>
        obtain ⟨rfl, rfl⟩ := hcut
        go_wp2
        go_loopw [6, 5] (fun i o wr => ∃ m : Nat, m ≤ 15 ∧ i = .int .i64 m ∧ o = .bool (spanB c || (marks.take m).contains c) ∧ wr = W0) (fun i _ _ => 15 - (intOf i).toNat)
        case atStart => exact ⟨0, by omega, rfl, by simp, rfl⟩
        case round =>
          obtain ⟨m, hm, rfl, rfl, rfl⟩ := hrel
          by_cases hlm : m < 15
          · have hidx := index_mark m hlm
            have ht := take_mark c m hlm
            obtain ⟨x, hx⟩ : ∃ x, marks.getD m 0 = x := ⟨_, rfl⟩
            rw [hx] at hidx ht
            obtain ⟨b, hb⟩ : ∃ b, (spanB c || (marks.take m).contains c) = b := ⟨_, rfl⟩
            have HT : Sl ((spanB c || (marks.take (m + 1)).contains c) = (b || x == c)) := ⟨by rw [ht, ← Bool.or_assoc, hb]⟩
            rw [hb]
            clear ht hx
            cases hbb : b with
            | true =>
              rw [hbb] at HT
              go_wp2
              refine ⟨⟨m + 1, by omega, by go_num, by rw [HT.out]; rfl, trivial⟩, by simp [intOf]; omega⟩
            | false =>
              rw [hbb] at HT
              by_cases hxc : x = c
              · have hxc' : ((x : Int) == (c : Int)) = true := by simp [hxc]
                go_wp2
                refine ⟨⟨m + 1, by omega, by go_num, by rw [HT.out]; simp [hxc], trivial⟩, by simp [intOf]; omega⟩
              · have hxc' : ((x : Int) == (c : Int)) = false := by simp; omega
                go_wp2
                refine ⟨⟨m + 1, by omega, by go_num, by rw [HT.out]; simp [hxc], trivial⟩, by simp [intOf]; omega⟩
          · have hge : ((m : Int) < 15) = False := by simp; omega
            obtain rfl : m = 15 := by omega
            obtain ⟨b, hb⟩ : ∃ b, (spanB c || (marks.take 15).contains c) = b := ⟨_, rfl⟩
            have HT : Sl (tokB c = b) := ⟨by rw [tokB_eq, hb]⟩
            rw [hb]
            cases hbb : b with
            | true =>
              rw [hbb] at HT
              go_wp2
              refine ⟨⟨k + 1, by omega, by go_num, trivial, ⟨fun j hj => ?_⟩⟩, by simp [intOf]; omega⟩
              by_cases e : j = k
              · subst e; rw [HC.out]; exact HT.out
              · exact HA.out j (by omega)
            | false =>
              rw [hbb] at HT
              go_wp2
              go_ret
              exact ⟨ret_bool (token_no k hlt (by rw [HC.out]; exact HT.out)).symm, rfl⟩
    · have hge : ((k : Int) < (s.size : Int)) = False := by simp; omega
      have HT : Sl (token (bytes s) = decide (0 < s.size)) := ⟨token_yes (fun j hj => HA.out j (by omega))⟩
      by_cases h0 : 0 < s.size
      · have h0' : (s.size : Int) > 0 := by omega
        go_wp2
        go_ret
        exact ⟨ret_bool (by rw [HT.out]; simp [h0]), rfl⟩
      · have h0' : ((s.size : Int) > 0) = False := eq_false (by omega)
        go_wp2
        go_ret
        exact ⟨ret_bool (by rw [HT.out]; simp [h0]), rfl⟩
end Go.Proofs.YtcdpkabbmdannaaDoor
