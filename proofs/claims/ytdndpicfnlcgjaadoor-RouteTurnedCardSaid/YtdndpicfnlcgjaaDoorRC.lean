/- route: the document's Below, what stands ahead of a question mark; bytes that may be seen. -/
import Derived.Test.YtdndpicfnlcgjaaDoorRB
set_option maxRecDepth 100000
namespace Go.Proofs.YtdndpicfnlcgjaaDoor.Rou
open Go.RowKit
open RoutePlain (Rt stem stem_cons stem_le stem_take stem_at stem_before below better)

theorem stem_here {s : ByteArray} {k : Nat} (_hk : k < s.size) (hle : k ≤ (stem (bytes s)).length) (h : (bytes s).getD k 0 = 63) : (stem (bytes s)).length = k := by
  by_cases hlt : k < (stem (bytes s)).length
  · exact absurd h (stem_before _ _ hlt)
  · omega
theorem stem_next {s : ByteArray} {k : Nat} (hk : k < s.size) (hle : k ≤ (stem (bytes s)).length) (h : (bytes s).getD k 0 ≠ 63) : k + 1 ≤ (stem (bytes s)).length := by
  by_cases hlt : k < (stem (bytes s)).length
  · exact hlt
  · have he : (stem (bytes s)).length = k := by omega
    exact absurd (by rw [← he]; exact stem_at (bytes s) (by rw [he, bytes_length]; exact hk)) h
theorem stem_end {s : ByteArray} (hle : s.size ≤ (stem (bytes s)).length) : (stem (bytes s)).length = s.size := by
  have := stem_le (bytes s)
  rw [bytes_length] at this
  omega
theorem byte_at {s : ByteArray} {k c : Nat} (hk : k < s.size) (hc : (s[k]'hk).toNat = c) : (bytes s).getD k 0 = c := by rw [bytes_getD s k hk, ← hc]; rfl
theorem byte_lt {s : ByteArray} {k c : Nat} {hk : k < s.size} (hc : (s[k]'hk).toNat = c) : c < 256 := by rw [← hc]; exact UInt8.toNat_lt _
theorem lplain_any (s : ByteArray) (W : World) (hs : s.size ≤ maxLen) : Calls Tryd.prog 21 #[.string s] W fun e w' => e = .returned (.string (plc s)) ∧ W = w' := by
  unfold maxLen at hs
  go_enter Tryd.func21, Tryd.ntmps21
  go_wp2
  go_loopw [3] (fun i wr => ∃ k : Nat, k ≤ s.size ∧ i = .int .i64 k ∧ W = wr ∧ Sl (k ≤ (stem (bytes s)).length)) (fun i _ => s.size - (intOf i).toNat)
  case atStart => exact ⟨0, Nat.zero_le _, rfl, rfl, ⟨Nat.zero_le _⟩⟩
  case round =>
    obtain ⟨k, hk, rfl, rfl, HK⟩ := hrel
    by_cases hlt : k < s.size
    · obtain ⟨c, hc⟩ : ∃ c, (s[k]'hlt).toNat = c := ⟨_, rfl⟩
      have HC := Sl.mk (byte_at hlt hc)
      by_cases h63 : c = 63
      · have HS : Sl (s.extract 0 k = plc s) := ⟨by unfold plc; rw [stem_here hlt HK.out (by rw [HC.out, h63])]⟩
        subst h63
        go_wp2
        go_ret
        exact ⟨by rw [← HS.out]; rfl, rfl⟩
      · have HN : Sl (k + 1 ≤ (stem (bytes s)).length) := ⟨stem_next hlt HK.out (by rw [HC.out]; exact h63)⟩
        have hq : ((c : Int) == 63) = false := beq_eq_false_iff_ne.2 (by omega)
        have hq2 : ((c : Int) = 63) = False := eq_false (by omega)
        go_wp2
        exact ⟨⟨k + 1, by omega, by go_num, trivial, HN⟩, by simp [intOf]; omega⟩
    · have hge : ((k : Int) < (s.size : Int)) = False := eq_false (by omega)
      have HS : Sl (plc s = s) := ⟨plc_all (by have := HK.out; omega)⟩
      go_wp2
      go_ret
      exact ⟨by rw [HS.out]; rfl, rfl⟩
/-- Are all of these bytes such as may be seen? -/
def seenB (l : List Nat) : Bool := l.all fun x => decide (33 ≤ x) && decide (x ≤ 126)
theorem seen_no {l : List Nat} {k : Nat} (hk : k < l.length) (h : ¬ (33 ≤ l.getD k 0 ∧ l.getD k 0 ≤ 126)) : seenB l = false := by
  unfold seenB
  rw [List.all_eq_false]
  refine ⟨l.getD k 0, by rw [List.getD_eq_getElem?_getD, List.getElem?_eq_getElem hk]; exact List.getElem_mem _, ?_⟩
  simpa using h
theorem seen_yes {l : List Nat} (h : ∀ k, k < l.length → 33 ≤ l.getD k 0 ∧ l.getD k 0 ≤ 126) : seenB l = true := by
  unfold seenB
  rw [List.all_eq_true]
  intro x hx
  obtain ⟨k, hk, rfl⟩ := List.getElem_of_mem hx
  have := h k hk
  rw [List.getD_eq_getElem?_getD, List.getElem?_eq_getElem hk] at this
  simpa using this
theorem seen_any (s : ByteArray) (W : World) (hs : s.size ≤ maxLen) (r : Bool) (hr : seenB (bytes s) = r) : Calls Tryd.prog 46 #[.string s] W fun e w' => e = .returned (.bool r) ∧ W = w' := by
  unfold maxLen at hs
  have HR := Sl.mk hr
  clear hr
  go_enter Tryd.func46, Tryd.ntmps46
  go_wp2
  go_loopw [6] (fun i wr => ∃ k : Nat, k ≤ s.size ∧ i = .int .i64 k ∧ W = wr ∧ Sl (∀ j, j < k → 33 ≤ (bytes s).getD j 0 ∧ (bytes s).getD j 0 ≤ 126)) (fun i _ => s.size - (intOf i).toNat)
  case atStart => exact ⟨0, Nat.zero_le _, rfl, rfl, ⟨fun j hj => by omega⟩⟩
  case round =>
    obtain ⟨k, hk, rfl, rfl, HK⟩ := hrel
    by_cases hlt : k < s.size
    · obtain ⟨c, hc⟩ : ∃ c, (s[k]'hlt).toNat = c := ⟨_, rfl⟩
      have HC := Sl.mk (byte_at hlt hc)
      by_cases h1 : c < 33
      · have h1' : ((c : Int) < 33) = True := eq_true (by omega)
        have HF : Sl (r = false) := ⟨by rw [← HR.out]; exact seen_no (k := k) (by rw [bytes_length]; exact hlt) (by rw [HC.out]; omega)⟩
        go_wp2
        go_ret
        exact ⟨ret_bool HF.out.symm, rfl⟩
      · have h1' : ((c : Int) < 33) = False := eq_false (by omega)
        by_cases h2 : c > 126
        · have h2' : ((c : Int) > 126) = True := eq_true (by omega)
          have HF : Sl (r = false) := ⟨by rw [← HR.out]; exact seen_no (k := k) (by rw [bytes_length]; exact hlt) (by rw [HC.out]; omega)⟩
          go_wp2
          go_ret
          exact ⟨ret_bool HF.out.symm, rfl⟩
        · have h2' : ((c : Int) > 126) = False := eq_false (by omega)
          go_wp2
          refine ⟨⟨k + 1, by omega, by go_num, trivial, ⟨fun j hj => ?_⟩⟩, by simp [intOf]; omega⟩
          by_cases e : j = k
          · subst e; rw [HC.out]; omega
          · exact HK.out j (by omega)
    · have hge : ((k : Int) < (s.size : Int)) = False := eq_false (by omega)
      have HT : Sl (r = true) := ⟨by rw [← HR.out]; exact seen_yes (fun j hj => HK.out j (by rw [bytes_length] at hj; omega))⟩
      go_wp2
      go_ret
      exact ⟨ret_bool HT.out.symm, rfl⟩
def plainB (l : List Nat) : Bool := seenB l && decide (0 < l.length)
theorem rplain_any (s : ByteArray) (W : World) (hs : s.size ≤ maxLen) (r : Bool) (hr : plainB (bytes s) = r) : Calls Tryd.prog 23 #[.string s] W fun e w' => e = .returned (.bool r) ∧ W = w' := by
  unfold maxLen at hs
  have HR := Sl.mk hr
  clear hr
  go_enter Tryd.func23, Tryd.ntmps23
  go_wp2
  go_loopw [3] (fun i wr => ∃ k : Nat, k ≤ s.size ∧ i = .int .i64 k ∧ W = wr ∧ Sl (∀ j, j < k → 33 ≤ (bytes s).getD j 0 ∧ (bytes s).getD j 0 ≤ 126)) (fun i _ => s.size - (intOf i).toNat)
  case atStart => exact ⟨0, Nat.zero_le _, rfl, rfl, ⟨fun j hj => by omega⟩⟩
  case round =>
    obtain ⟨k, hk, rfl, rfl, HK⟩ := hrel
    by_cases hlt : k < s.size
    · obtain ⟨c, hc⟩ : ∃ c, (s[k]'hlt).toNat = c := ⟨_, rfl⟩
      have HC := Sl.mk (byte_at hlt hc)
      by_cases h1 : c < 33
      · have h1' : ((c : Int) < 33) = True := eq_true (by omega)
        have HF : Sl (r = false) := ⟨by rw [← HR.out]; unfold plainB; rw [seen_no (k := k) (by rw [bytes_length]; exact hlt) (by rw [HC.out]; omega)]; rfl⟩
        go_wp2
        go_ret
        exact ⟨ret_bool HF.out.symm, rfl⟩
      · have h1' : ((c : Int) < 33) = False := eq_false (by omega)
        by_cases h2 : c > 126
        · have h2' : ((c : Int) > 126) = True := eq_true (by omega)
          have HF : Sl (r = false) := ⟨by rw [← HR.out]; unfold plainB; rw [seen_no (k := k) (by rw [bytes_length]; exact hlt) (by rw [HC.out]; omega)]; rfl⟩
          go_wp2
          go_ret
          exact ⟨ret_bool HF.out.symm, rfl⟩
        · have h2' : ((c : Int) > 126) = False := eq_false (by omega)
          go_wp2
          refine ⟨⟨k + 1, by omega, by go_num, trivial, ⟨fun j hj => ?_⟩⟩, by simp [intOf]; omega⟩
          by_cases e : j = k
          · subst e; rw [HC.out]; omega
          · exact HK.out j (by omega)
    · have hge : ((k : Int) < (s.size : Int)) = False := eq_false (by omega)
      have HT : Sl (r = decide (0 < s.size)) := ⟨by rw [← HR.out]; unfold plainB; rw [seen_yes (fun j hj => HK.out j (by rw [bytes_length] at hj; omega)), bytes_length]; rfl⟩
      by_cases h0 : 0 < s.size
      · have HT2 : Sl (r = true) := ⟨by rw [HT.out]; exact decide_eq_true h0⟩
        have h0' : ((s.size : Int) > 0) = True := eq_true (by omega)
        have h0'' : (0 < s.size) = True := eq_true h0
        go_wp2
        go_ret
        exact ⟨ret_bool HT2.out.symm, rfl⟩
      · have HT2 : Sl (r = false) := ⟨by rw [HT.out]; exact decide_eq_false h0⟩
        have h0' : ((s.size : Int) > 0) = False := eq_false (by omega)
        have h0'' : (0 < s.size) = False := eq_false h0
        go_wp2
        go_ret
        exact ⟨ret_bool HT2.out.symm, rfl⟩
/-- Is a at least as long as f, and does it begin with it? -/
theorem take_not {a f : List Nat} (h : a.length < f.length) : a.take f.length ≠ f := fun e => by
  have := congrArg List.length e
  rw [List.length_take] at this
  omega
set_option maxHeartbeats 1000000 in
theorem rbelow_any (a p : ByteArray) (W : World) (hs : a.size ≤ maxLen) (hp : p.size ≤ maxLen) (r : Bool) (hr : below (bytes a) (bytes p) = r) : Calls Tryd.prog 20 #[.string a, .string p] W fun e w' => e = .returned (.bool r) ∧ W = w' := by
  unfold maxLen at hs hp
  rw [below_under, ← plc_bytes] at hr
  obtain ⟨q, hq⟩ : ∃ q, plc a = q := ⟨_, rfl⟩
  rw [hq] at hr
  have HQ := Sl.mk hq
  have hqs : q.size ≤ 2 ^ 63 - 1 := by rw [← hq]; exact Nat.le_trans (plc_le a) hs
  unfold under at hr
  rw [bytes_length, bytes_length] at hr
  have HR := Sl.mk hr
  clear hr hq
  go_enter Tryd.func20, Tryd.ntmps20
  go_wp2
  go_loopw [5] (fun i wr => ∃ k : Nat, k ≤ a.size ∧ i = .int .i64 k ∧ W = wr ∧ Sl (k ≤ (stem (bytes a)).length)) (fun i _ => a.size - (intOf i).toNat)
  case atStart => exact ⟨0, Nat.zero_le _, rfl, rfl, ⟨Nat.zero_le _⟩⟩
  case round =>
    obtain ⟨k, hk, rfl, rfl, HK⟩ := hrel
    by_cases hgo : k < a.size ∧ (bytes a).getD k 0 ≠ 63
    · obtain ⟨hlt, hn⟩ := hgo
      obtain ⟨c, hc⟩ : ∃ c, (a[k]'hlt).toNat = c := ⟨_, rfl⟩
      have HC := Sl.mk (byte_at hlt hc)
      rw [HC.out] at hn
      have HN : Sl (k + 1 ≤ (stem (bytes a)).length) := ⟨stem_next hlt HK.out (by rw [HC.out]; exact hn)⟩
      have hq1 : ((c : Int) != 63) = true := bne_iff_ne.2 (by omega)
      clear hn
      go_wp2
      exact ⟨⟨k + 1, by omega, by go_num, trivial, HN⟩, by simp [intOf]; omega⟩
    · have HS : Sl (a.extract 0 k = q) := ⟨by
        rw [← HQ.out]
        unfold plc
        by_cases hlt : k < a.size
        · have : (bytes a).getD k 0 = 63 := Classical.byContradiction fun e => hgo ⟨hlt, e⟩
          rw [stem_here hlt HK.out this]
        · rw [stem_end (by have := HK.out; omega)]
          congr 1; omega⟩
      have hk0 : (0 : Int) ≤ (k : Int) := by omega
      have hk1 : (k : Int) ≤ (a.size : Int) := by omega
      by_cases hlt : k < a.size
      · have h63 : (bytes a).getD k 0 = 63 := Classical.byContradiction fun e => hgo ⟨hlt, e⟩
        obtain ⟨c0, hc0⟩ : ∃ c, (a[k]'hlt).toNat = c := ⟨_, rfl⟩
        have hb := byte_at hlt hc0
        rw [h63] at hb
        subst hb
        have hlt' : ((k : Int) < (a.size : Int)) = True := eq_true (by omega)
        clear hgo h63
        go_upto_region 5 with fail
        have hes := HS.out
        (try rw [hes])
        clear hes
        have HE : Sl (a.extract 0 k = q) := HS
        clear HK
        by_cases h1 : q.size < p.size
        · have h1' : ((q.size : Int) < (p.size : Int)) = True := eq_true (by omega)
          have HV : Sl (false = r) := ⟨by rw [← HR.out, decide_eq_false (by rw [← bytes_length p]; exact take_not (by rw [bytes_length, bytes_length]; exact h1))]; rfl⟩
          go_wp2
          go_ret
          exact ⟨ret_bool HV.out, rfl⟩
        · have h1' : ((q.size : Int) < (p.size : Int)) = False := eq_false (by omega)
          have h2 : (p.size : Int) ≤ (q.size : Int) := by omega
          have h3 : (0 : Int) ≤ (p.size : Int) := by omega
          obtain ⟨x, hx⟩ : ∃ x, q.extract 0 p.size = x := ⟨_, rfl⟩
          have HXB : Sl (bytes x = (bytes q).take p.size) := ⟨by rw [← hx, bytes_extract, List.drop_zero]⟩
          by_cases h4 : bytes x = bytes p
          · have h4' : (x.toList != p.toList) = false := by rw [bne_eq_false_iff_eq, ← beq_iff_eq, beq_bytes2]; exact decide_eq_true h4
            have h4'' : (x.toList == p.toList) = true := by rw [beq_bytes2]; exact decide_eq_true h4
            have HR2 : Sl ((decide (q.size = p.size) || decide ((bytes q).getD p.size 0 = 47) || decide ((bytes p).getLast? = some 47)) = r) := ⟨by
              rw [← HR.out, decide_eq_true (show (bytes q).take p.size = bytes p by rw [← HXB.out]; exact h4)]; rfl⟩
            clear h4 HR HXB
            by_cases h5 : q.size = p.size
            · have HV : Sl (true = r) := ⟨by rw [← HR2.out, decide_eq_true h5]; rfl⟩
              have h5' : ((q.size : Int) == (p.size : Int)) = true := by rw [h5]; exact beq_self_eq_true _
              have H5 := Sl.mk h5
              clear h5
              go_wp2
              go_ret
              exact ⟨ret_bool HV.out, rfl⟩
            · have h5' : ((q.size : Int) == (p.size : Int)) = false := beq_eq_false_iff_ne.2 (by omega)
              have h6 : p.size < q.size := by omega
              obtain ⟨c, hc⟩ : ∃ c, (q[p.size]'h6).toNat = c := ⟨_, rfl⟩
              have HC := Sl.mk (byte_at h6 hc)
              have HR3 : Sl ((decide (c = 47) || decide ((bytes p).getLast? = some 47)) = r) := ⟨by rw [← HR2.out, decide_eq_false h5, HC.out]; rfl⟩
              clear HR2 h5
              by_cases h7 : c = 47
              · subst h7
                have HV : Sl (true = r) := ⟨by rw [← HR3.out]; rfl⟩
                clear HR3
                go_wp2
                go_ret
                exact ⟨ret_bool HV.out, rfl⟩
              · have h7' : ((c : Int) == 47) = false := beq_eq_false_iff_ne.2 (by omega)
                have HR4 : Sl (decide ((bytes p).getLast? = some 47) = r) := ⟨by rw [← HR3.out, decide_eq_false h7]; rfl⟩
                clear HR3 h7
                by_cases h8 : 0 < p.size
                · obtain ⟨m, hm⟩ : ∃ m, p.size = m + 1 := ⟨p.size - 1, by omega⟩
                  have hmp : m < p.size := by omega
                  obtain ⟨d, hd⟩ : ∃ d, (p[m]'hmp).toNat = d := ⟨_, rfl⟩
                  have HD := Sl.mk (byte_at hmp hd)
                  have HV : Sl (decide (d = 47) = r) := ⟨by
                    rw [← HR4.out, List.getLast?_eq_getElem?, bytes_length, hm, Nat.add_sub_cancel]
                    have hml : m < (bytes p).length := by rw [bytes_length]; exact hmp
                    have := HD.out
                    rw [List.getD_eq_getElem?_getD, List.getElem?_eq_getElem hml] at this
                    rw [List.getElem?_eq_getElem hml, Bool.eq_iff_iff, decide_eq_true_eq, decide_eq_true_eq]
                    constructor
                    · intro e; rw [← e, ← this]; rfl
                    · intro e; injection e with e; rw [← this]; exact e⟩
                  have h8' : ((p.size : Int) > 0) = True := eq_true (by omega)
                  have h8'' : (0 < p.size) = True := eq_true h8
                  have h9 : IntKind.i64.wrap ((p.size : Int) - 1) = (m : Int) := by rw [IntKind.wrap_i64]; omega
                  have h9' : wrap64 ((p.size : Int) - 1) = (m : Int) := by unfold wrap64; omega
                  have h9'' : (p.size : Int) - 1 = (m : Int) := by omega
                  have hpm : (m : Int) < (p.size : Int) := by omega
                  have HM := Sl.mk hm
                  clear hm HR4 h8
                  by_cases h10 : d = 47
                  · subst h10
                    go_wp2
                    go_ret
                    exact ⟨ret_bool HV.out, rfl⟩
                  · have h10' : ((d : Int) == 47) = false := beq_eq_false_iff_ne.2 (by omega)
                    rw [decide_eq_false h10] at HV
                    clear h10
                    go_wp2
                    go_ret
                    exact ⟨ret_bool HV.out, rfl⟩
                · have h8' : ((p.size : Int) > 0) = False := eq_false (by omega)
                  have h8'' : (0 < p.size) = False := eq_false h8
                  have HV : Sl (false = r) := ⟨by
                    rw [← HR4.out, List.eq_nil_of_length_eq_zero (show (bytes p).length = 0 by rw [bytes_length]; omega)]; rfl⟩
                  clear HR4 h8
                  go_wp2
                  go_ret
                  exact ⟨ret_bool HV.out, rfl⟩
          · have h4' : (x.toList != p.toList) = true := by rw [bne_iff_ne, Ne, ← beq_iff_eq, beq_bytes2]; simpa using h4
            have h4'' : (x.toList == p.toList) = false := by rw [beq_bytes2]; exact decide_eq_false h4
            have HV : Sl (false = r) := ⟨by rw [← HR.out, decide_eq_false (by rw [← HXB.out]; exact h4)]; rfl⟩
            clear h4 HR HXB
            go_wp2
            go_ret
            exact ⟨ret_bool HV.out, rfl⟩
      · have hlt' : ((k : Int) < (a.size : Int)) = False := eq_false (by omega)
        clear hgo
        go_upto_region 5 with fail
        have hes := HS.out
        (try rw [hes])
        clear hes
        have HE : Sl (a.extract 0 k = q) := HS
        clear HK
        by_cases h1 : q.size < p.size
        · have h1' : ((q.size : Int) < (p.size : Int)) = True := eq_true (by omega)
          have HV : Sl (false = r) := ⟨by rw [← HR.out, decide_eq_false (by rw [← bytes_length p]; exact take_not (by rw [bytes_length, bytes_length]; exact h1))]; rfl⟩
          go_wp2
          go_ret
          exact ⟨ret_bool HV.out, rfl⟩
        · have h1' : ((q.size : Int) < (p.size : Int)) = False := eq_false (by omega)
          have h2 : (p.size : Int) ≤ (q.size : Int) := by omega
          have h3 : (0 : Int) ≤ (p.size : Int) := by omega
          obtain ⟨x, hx⟩ : ∃ x, q.extract 0 p.size = x := ⟨_, rfl⟩
          have HXB : Sl (bytes x = (bytes q).take p.size) := ⟨by rw [← hx, bytes_extract, List.drop_zero]⟩
          by_cases h4 : bytes x = bytes p
          · have h4' : (x.toList != p.toList) = false := by rw [bne_eq_false_iff_eq, ← beq_iff_eq, beq_bytes2]; exact decide_eq_true h4
            have h4'' : (x.toList == p.toList) = true := by rw [beq_bytes2]; exact decide_eq_true h4
            have HR2 : Sl ((decide (q.size = p.size) || decide ((bytes q).getD p.size 0 = 47) || decide ((bytes p).getLast? = some 47)) = r) := ⟨by
              rw [← HR.out, decide_eq_true (show (bytes q).take p.size = bytes p by rw [← HXB.out]; exact h4)]; rfl⟩
            clear h4 HR HXB
            by_cases h5 : q.size = p.size
            · have HV : Sl (true = r) := ⟨by rw [← HR2.out, decide_eq_true h5]; rfl⟩
              have h5' : ((q.size : Int) == (p.size : Int)) = true := by rw [h5]; exact beq_self_eq_true _
              have H5 := Sl.mk h5
              clear h5
              go_wp2
              go_ret
              exact ⟨ret_bool HV.out, rfl⟩
            · have h5' : ((q.size : Int) == (p.size : Int)) = false := beq_eq_false_iff_ne.2 (by omega)
              have h6 : p.size < q.size := by omega
              obtain ⟨c, hc⟩ : ∃ c, (q[p.size]'h6).toNat = c := ⟨_, rfl⟩
              have HC := Sl.mk (byte_at h6 hc)
              have HR3 : Sl ((decide (c = 47) || decide ((bytes p).getLast? = some 47)) = r) := ⟨by rw [← HR2.out, decide_eq_false h5, HC.out]; rfl⟩
              clear HR2 h5
              by_cases h7 : c = 47
              · subst h7
                have HV : Sl (true = r) := ⟨by rw [← HR3.out]; rfl⟩
                clear HR3
                go_wp2
                go_ret
                exact ⟨ret_bool HV.out, rfl⟩
              · have h7' : ((c : Int) == 47) = false := beq_eq_false_iff_ne.2 (by omega)
                have HR4 : Sl (decide ((bytes p).getLast? = some 47) = r) := ⟨by rw [← HR3.out, decide_eq_false h7]; rfl⟩
                clear HR3 h7
                by_cases h8 : 0 < p.size
                · obtain ⟨m, hm⟩ : ∃ m, p.size = m + 1 := ⟨p.size - 1, by omega⟩
                  have hmp : m < p.size := by omega
                  obtain ⟨d, hd⟩ : ∃ d, (p[m]'hmp).toNat = d := ⟨_, rfl⟩
                  have HD := Sl.mk (byte_at hmp hd)
                  have HV : Sl (decide (d = 47) = r) := ⟨by
                    rw [← HR4.out, List.getLast?_eq_getElem?, bytes_length, hm, Nat.add_sub_cancel]
                    have hml : m < (bytes p).length := by rw [bytes_length]; exact hmp
                    have := HD.out
                    rw [List.getD_eq_getElem?_getD, List.getElem?_eq_getElem hml] at this
                    rw [List.getElem?_eq_getElem hml, Bool.eq_iff_iff, decide_eq_true_eq, decide_eq_true_eq]
                    constructor
                    · intro e; rw [← e, ← this]; rfl
                    · intro e; injection e with e; rw [← this]; exact e⟩
                  have h8' : ((p.size : Int) > 0) = True := eq_true (by omega)
                  have h8'' : (0 < p.size) = True := eq_true h8
                  have h9 : IntKind.i64.wrap ((p.size : Int) - 1) = (m : Int) := by rw [IntKind.wrap_i64]; omega
                  have h9' : wrap64 ((p.size : Int) - 1) = (m : Int) := by unfold wrap64; omega
                  have h9'' : (p.size : Int) - 1 = (m : Int) := by omega
                  have hpm : (m : Int) < (p.size : Int) := by omega
                  have HM := Sl.mk hm
                  clear hm HR4 h8
                  by_cases h10 : d = 47
                  · subst h10
                    go_wp2
                    go_ret
                    exact ⟨ret_bool HV.out, rfl⟩
                  · have h10' : ((d : Int) == 47) = false := beq_eq_false_iff_ne.2 (by omega)
                    rw [decide_eq_false h10] at HV
                    clear h10
                    go_wp2
                    go_ret
                    exact ⟨ret_bool HV.out, rfl⟩
                · have h8' : ((p.size : Int) > 0) = False := eq_false (by omega)
                  have h8'' : (0 < p.size) = False := eq_false h8
                  have HV : Sl (false = r) := ⟨by
                    rw [← HR4.out, List.eq_nil_of_length_eq_zero (show (bytes p).length = 0 by rw [bytes_length]; omega)]; rfl⟩
                  clear HR4 h8
                  go_wp2
                  go_ret
                  exact ⟨ret_bool HV.out, rfl⟩
          · have h4' : (x.toList != p.toList) = true := by rw [bne_iff_ne, Ne, ← beq_iff_eq, beq_bytes2]; simpa using h4
            have h4'' : (x.toList == p.toList) = false := by rw [beq_bytes2]; exact decide_eq_false h4
            have HV : Sl (false = r) := ⟨by rw [← HR.out, decide_eq_false (by rw [← HXB.out]; exact h4)]; rfl⟩
            clear h4 HR HXB
            go_wp2
            go_ret
            exact ⟨ret_bool HV.out, rfl⟩
end Go.Proofs.YtdndpicfnlcgjaaDoor.Rou
