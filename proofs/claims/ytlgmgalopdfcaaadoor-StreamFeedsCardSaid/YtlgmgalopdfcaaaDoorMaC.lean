/- mask: MaskLonger's walk. -/
import Derived.Test.YtlgmgalopdfcaaaDoorMaB
set_option maxRecDepth 100000
namespace Go.Proofs.YtlgmgalopdfcaaaDoor.Mas
open Go.RowKit MaskPlain

theorem put_cases (n : Nat) : (∃ s, putL n = some s ∧ n ≤ 9223372036854775807) ∨ (putL n = none ∧ 9223372036854775807 < n) := by
  have h := put_some n
  cases hp : putL n with
  | some s => rw [hp] at h; exact .inl ⟨s, rfl, of_decide_eq_true h.symm⟩
  | none => rw [hp] at h; exact .inr ⟨rfl, by have := of_decide_eq_false h.symm; omega⟩

end Go.Proofs.YtlgmgalopdfcaaaDoor.Mas
/- mask: the document's Get. -/
set_option maxRecDepth 100000
namespace Go.Proofs.YtlgmgalopdfcaaaDoor.Mas
open Go.RowKit MaskPlain

theorem bytes_tail (s : ByteArray) (x : Nat) (xs : List Nat) (h : bytes s = x :: xs) (k : Nat) (hk : k + 1 < s.size) : (s[k + 1]'hk).toNat = xs.getD k 0 := by
  have := bytes_getD s (k + 1) hk
  rw [h, List.getD_cons_succ] at this
  rw [this]; rfl
/-- What the document's reader holds to, k bytes on. -/
structure GI (x : Nat) (xs : List Nat) (S k : Nat) : Prop where
  len : k ≤ xs.length
  high : S = 8 → 0 < k → xs.getD 0 0 < 128
  zero : S = 8 → 6 ≤ k → val (xs.take 6) ≠ 0
  two : S = 2 → 2 ≤ k → ¬ val (xs.take 2) < 126
  siz : (S = 2 ∧ x % 128 = 126) ∨ (S = 8 ∧ x % 128 = 127)
theorem GI.fin {x : Nat} {xs : List Nat} {S : Nat} (h : GI x xs S S) : getL (x :: xs) = (val (xs.take S), 1 + S, 0) := by
  rcases h.siz with ⟨rfl, hx⟩ | ⟨rfl, hx⟩
  · have := h.len
    rw [getL, if_neg (by omega), if_pos hx, if_neg (by omega), if_neg (h.two rfl (by omega))]
  · exact get_whole x xs hx h.len (h.high rfl (by omega)) (h.zero rfl (by omega))
theorem GI.more {x : Nat} {xs : List Nat} {S k : Nat} (h : GI x xs S k) (hk : k < S) (hl : xs.length = k) : getL (x :: xs) = (0, 0, 80) := by
  rcases h.siz with ⟨rfl, hx⟩ | ⟨rfl, hx⟩
  · rw [getL, if_neg (by omega), if_pos hx, if_pos (by omega)]
  · exact get_end x xs hx (by omega) (fun h1 => h.high rfl (by omega)) (fun h1 => h.zero rfl (by omega))
theorem GI.above {x : Nat} {xs : List Nat} (h : GI x xs 8 0) (hl : 0 < xs.length) (hc : 128 ≤ xs.getD 0 0) : getL (x :: xs) = (0, 0, 81) := by
  rcases h.siz with ⟨h8, _⟩ | ⟨_, hx⟩
  · omega
  · exact get_high x xs hx hl hc
theorem GI.six {x : Nat} {xs : List Nat} (h : GI x xs 8 5) (hl : 5 < xs.length) (hc : val (xs.take 6) = 0) : getL (x :: xs) = (0, 0, 81) := by
  rcases h.siz with ⟨h8, _⟩ | ⟨_, hx⟩
  · omega
  · exact get_short x xs hx hl hc
theorem GI.one {x : Nat} {xs : List Nat} (h : GI x xs 2 1) (hl : 1 < xs.length) (hc : val (xs.take 2) < 126) : getL (x :: xs) = (0, 0, 81) := by
  rcases h.siz with ⟨_, hx⟩ | ⟨h8, _⟩
  · rw [getL, if_neg (by omega), if_pos hx, if_neg (by omega), if_pos hc]
  · omega

theorem GI.next {x : Nat} {xs : List Nat} {S k : Nat} (h : GI x xs S k) (hl : k < xs.length) (h1 : S = 8 → k = 0 → xs.getD 0 0 < 128) (h2 : S = 8 → k = 5 → val (xs.take 6) ≠ 0) (h3 : S = 2 → k = 1 → ¬ val (xs.take 2) < 126) : GI x xs S (k + 1) :=
  ⟨hl, fun e _ => by
    by_cases hk : k = 0
    · exact h1 e hk
    · exact h.high e (by omega), fun e _ => by
    by_cases hk : k = 5
    · exact h2 e hk
    · exact h.zero e (by omega), fun e _ => by
    by_cases hk : k = 1
    · exact h3 e hk
    · exact h.two e (by omega), h.siz⟩
set_option maxHeartbeats 4000000 in
theorem refget8 (s : ByteArray) (x : Nat) (xs : List Nat) (hb : bytes s = x :: xs) (hfb : x % 128 = 127) (w : World) (hs : s.size ≤ 100000) : Calls Tryd.prog 33 #[.string s] w fun e w' => e = .returned (res3 (getL (x :: xs))) ∧ w = w' := by
  have hsm := bytes_small s
  have hlen := bytes_length s
  rw [hb] at hsm hlen
  obtain ⟨n, hn⟩ : ∃ n, xs.length = n := ⟨_, rfl⟩
  have hsz : s.size = n + 1 := by rw [← hlen, List.length_cons, hn]
  have h0 : 0 < s.size := by omega
  have hx : (s[0]'h0).toNat = x := by
    have := bytes_getD s 0 h0
    rw [hb, List.getD_cons_zero] at this
    rw [this]; rfl
  have hx256 : x < 256 := hsm x (List.mem_cons_self ..)
  have HXS : Sl (Small 256 xs) := ⟨fun y hy => hsm y (List.mem_cons_of_mem _ hy)⟩
  have HB := Sl.mk hb
  have HN := Sl.mk hn
  have HSZ := Sl.mk hsz
  have hmod : (x : Int) % 128 = 127 := by omega
  have HFB := Sl.mk hfb
  clear hb hlen hsm hn hfb hsz
  go_enter Tryd.func33, Tryd.ntmps33
  have HX : Sl (x % 128 = 127) := HFB
  go_wp2
  go_loopw [7, 8, 9] (fun u z i wr => ∃ (k v : Nat) (zb : Bool), k ≤ 8 ∧ u = .int .u64 (v : Int) ∧ z = .bool zb ∧ i = .int .i64 k ∧ w = wr ∧ Sl (val (xs.take k) = v) ∧ Sl (zb = decide (v = 0)) ∧ Sl (GI x xs 8 k)) (fun _ _ i _ => 8 - (intOf i).toNat)
  case atStart => exact ⟨0, 0, true, Nat.zero_le _, rfl, rfl, rfl, rfl, ⟨rfl⟩, ⟨rfl⟩, ⟨⟨Nat.zero_le _, fun _ h => absurd h (by decide), fun _ h => absurd h (by decide), fun _ h => absurd h (by decide), .inr ⟨rfl, HX.out⟩⟩⟩⟩
  case round =>
    obtain ⟨k, v, zb, hk, rfl, rfl, rfl, rfl, HV, HZ, HG⟩ := hrel
    by_cases hlt : k < 8
    · by_cases hmore : k < n
      · have hi : k + 1 < s.size := by have := HSZ.out; omega
        have hcc := bytes_tail s x xs HB.out k hi
        have HCC : Sl (xs.getD k 0 < 256) := ⟨HXS.out.getD (by omega) k⟩
        obtain ⟨c, hc⟩ : ∃ c, xs.getD k 0 = c := ⟨_, rfl⟩
        have HC := Sl.mk hc
        rw [hc] at hcc HCC
        have hc256 := HCC.out
        have hv64 : v < 72057594037927936 := by
          have h1 := val_lt (xs.take k) (HXS.out.take k)
          rw [HV.out, List.length_take, Nat.min_eq_left (by rw [HN.out]; omega)] at h1
          have h2 : 256 ^ k ≤ 256 ^ 7 := Nat.pow_le_pow_right (by omega) (by omega)
          omega
        have HV2 : Sl (val (xs.take (k + 1)) = 256 * v + c) := ⟨by rw [val_take _ _ (by rw [HN.out]; exact hmore), HV.out, HC.out]⟩
        have hge : ((k : Int) + 1 ≥ (s.size : Int)) = False := eq_false (by have := HSZ.out; omega)
        have hi0 : (0 : Int) ≤ (k : Int) + 1 := by omega
        have hi1 : (k : Int) + 1 < (s.size : Int) := by omega
        clear hc
        by_cases hk0 : k = 0
        · subst hk0
          by_cases hhi : 128 ≤ c
          · have HR := Sl.mk (GI.above HG.out (by rw [HN.out]; exact hmore) (by rw [HC.out]; exact hhi))
            have hq : ((c : Int) ≥ 128) = True := eq_true (by omega)
            go_wp2
            go_ret3
            exact ⟨by rw [HR.out]; rfl, rfl⟩
          · have hq : ((c : Int) ≥ 128) = False := eq_false (by omega)
            have HN2 : Sl (GI x xs 8 1) := ⟨HG.out.next (by rw [HN.out]; exact hmore) (fun _ _ => by rw [HC.out]; omega) (fun _ h => absurd h (by decide)) (fun h => absurd h (by decide))⟩
            by_cases hv0 : v = 0
            · have hz : zb = true := by rw [HZ.out, decide_eq_true hv0]
              subst hz
              by_cases hc0 : c = 0
              · have hcb : ((c : Int) == 0) = true := by simp; omega
                go_wp2
                exact ⟨⟨1, 256 * v + c, true, by omega, by go_num, rfl, by go_num, trivial, HV2, ⟨by rw [decide_eq_true (by omega)]⟩, HN2⟩, by simp [intOf] <;> omega⟩
              · have hcb : ((c : Int) == 0) = false := by simp; omega
                go_wp2
                exact ⟨⟨1, 256 * v + c, false, by omega, by go_num, rfl, by go_num, trivial, HV2, ⟨by rw [decide_eq_false (by omega)]⟩, HN2⟩, by simp [intOf] <;> omega⟩
            · have hz : zb = false := by rw [HZ.out, decide_eq_false hv0]
              subst hz
              go_wp2
              exact ⟨⟨1, 256 * v + c, false, by omega, by go_num, rfl, by go_num, trivial, HV2, ⟨by rw [decide_eq_false (by omega)]⟩, HN2⟩, by simp [intOf] <;> omega⟩
        · by_cases hk5 : k = 5
          · subst hk5
            by_cases hz6 : 256 * v + c = 0
            · have HR := Sl.mk (GI.six HG.out (by rw [HN.out]; exact hmore) (by rw [HV2.out]; exact hz6))
              have hc0 : ((c : Int) == 0) = true := by simp; omega
              have hz : zb = true := by rw [HZ.out, decide_eq_true (by omega)]
              subst hz
              go_wp2
              go_ret3
              exact ⟨by rw [HR.out]; rfl, rfl⟩
            · have HN2 : Sl (GI x xs 8 6) := ⟨HG.out.next (by rw [HN.out]; exact hmore) (fun _ h => absurd h (by decide)) (fun _ _ => by rw [HV2.out]; exact hz6) (fun h => absurd h (by decide))⟩
              by_cases hv0 : v = 0
              · have hz : zb = true := by rw [HZ.out, decide_eq_true hv0]
                subst hz
                by_cases hc0 : c = 0
                · omega
                · have hcb : ((c : Int) == 0) = false := by simp; omega
                  go_wp2
                  exact ⟨⟨6, 256 * v + c, false, by omega, by go_num, rfl, by go_num, trivial, HV2, ⟨by rw [decide_eq_false (by omega)]⟩, HN2⟩, by simp [intOf] <;> omega⟩
              · have hz : zb = false := by rw [HZ.out, decide_eq_false hv0]
                subst hz
                go_wp2
                exact ⟨⟨6, 256 * v + c, false, by omega, by go_num, rfl, by go_num, trivial, HV2, ⟨by rw [decide_eq_false (by omega)]⟩, HN2⟩, by simp [intOf] <;> omega⟩
          · have HN2 : Sl (GI x xs 8 (k + 1)) := ⟨HG.out.next (by rw [HN.out]; exact hmore) (fun _ h => absurd h hk0) (fun _ h => absurd h hk5) (fun h => absurd h (by decide))⟩
            have hkb0 : ((k : Int) == 0) = false := by simp; omega
            have hkb5 : ((k : Int) == 5) = false := by simp; omega
            by_cases hv0 : v = 0
            · have hz : zb = true := by rw [HZ.out, decide_eq_true hv0]
              subst hz
              by_cases hc0 : c = 0
              · have hcb : ((c : Int) == 0) = true := by simp; omega
                go_wp2
                exact ⟨⟨k + 1, 256 * v + c, true, by omega, by go_num, rfl, by go_num, trivial, HV2, ⟨by rw [decide_eq_true (by omega)]⟩, HN2⟩, by simp [intOf] <;> omega⟩
              · have hcb : ((c : Int) == 0) = false := by simp; omega
                go_wp2
                exact ⟨⟨k + 1, 256 * v + c, false, by omega, by go_num, rfl, by go_num, trivial, HV2, ⟨by rw [decide_eq_false (by omega)]⟩, HN2⟩, by simp [intOf] <;> omega⟩
            · have hz : zb = false := by rw [HZ.out, decide_eq_false hv0]
              subst hz
              go_wp2
              exact ⟨⟨k + 1, 256 * v + c, false, by omega, by go_num, rfl, by go_num, trivial, HV2, ⟨by rw [decide_eq_false (by omega)]⟩, HN2⟩, by simp [intOf] <;> omega⟩
      · obtain rfl : k = n := by have := HG.out.len; rw [HN.out] at this; omega
        have hge : ((k : Int) + 1 ≥ (s.size : Int)) = True := eq_true (by have := HSZ.out; omega)
        have HR := Sl.mk (HG.out.more hlt HN.out)
        go_wp2
        go_ret3
        exact ⟨by rw [HR.out]; rfl, rfl⟩
    · obtain rfl : k = 8 := by omega
      have HR := Sl.mk HG.out.fin
      rw [HV.out] at HR
      go_wp2
      go_ret3
      exact ⟨by rw [HR.out]; rfl, rfl⟩

set_option maxHeartbeats 4000000 in
theorem refget2 (s : ByteArray) (x : Nat) (xs : List Nat) (hb : bytes s = x :: xs) (hfb : x % 128 = 126) (w : World) (hs : s.size ≤ 100000) : Calls Tryd.prog 33 #[.string s] w fun e w' => e = .returned (res3 (getL (x :: xs))) ∧ w = w' := by
  have hsm := bytes_small s
  have hlen := bytes_length s
  rw [hb] at hsm hlen
  obtain ⟨n, hn⟩ : ∃ n, xs.length = n := ⟨_, rfl⟩
  have hsz : s.size = n + 1 := by rw [← hlen, List.length_cons, hn]
  have h0 : 0 < s.size := by omega
  have hx : (s[0]'h0).toNat = x := by
    have := bytes_getD s 0 h0
    rw [hb, List.getD_cons_zero] at this
    rw [this]; rfl
  have hx256 : x < 256 := hsm x (List.mem_cons_self ..)
  have HXS : Sl (Small 256 xs) := ⟨fun y hy => hsm y (List.mem_cons_of_mem _ hy)⟩
  have HB := Sl.mk hb
  have HN := Sl.mk hn
  have HSZ := Sl.mk hsz
  have hmod : (x : Int) % 128 = 126 := by omega
  have HFB := Sl.mk hfb
  clear hb hlen hsm hn hfb hsz
  go_enter Tryd.func33, Tryd.ntmps33
  have HX : Sl (x % 128 = 126) := HFB
  go_wp2
  go_loopw [7, 8, 9] (fun u z i wr => ∃ (k v : Nat) (zb : Bool), k ≤ 2 ∧ u = .int .u64 (v : Int) ∧ z = .bool zb ∧ i = .int .i64 k ∧ w = wr ∧ Sl (val (xs.take k) = v) ∧ Sl (zb = decide (v = 0)) ∧ Sl (GI x xs 2 k)) (fun _ _ i _ => 2 - (intOf i).toNat)
  case atStart => exact ⟨0, 0, true, Nat.zero_le _, rfl, rfl, rfl, rfl, ⟨rfl⟩, ⟨rfl⟩, ⟨⟨Nat.zero_le _, fun _ h => absurd h (by decide), fun _ h => absurd h (by decide), fun _ h => absurd h (by decide), .inl ⟨rfl, HX.out⟩⟩⟩⟩
  case round =>
    obtain ⟨k, v, zb, hk, rfl, rfl, rfl, rfl, HV, HZ, HG⟩ := hrel
    by_cases hlt : k < 2
    · by_cases hmore : k < n
      · have hi : k + 1 < s.size := by have := HSZ.out; omega
        have hcc := bytes_tail s x xs HB.out k hi
        have HCC : Sl (xs.getD k 0 < 256) := ⟨HXS.out.getD (by omega) k⟩
        obtain ⟨c, hc⟩ : ∃ c, xs.getD k 0 = c := ⟨_, rfl⟩
        have HC := Sl.mk hc
        rw [hc] at hcc HCC
        have hc256 := HCC.out
        have hv64 : v < 72057594037927936 := by
          have h1 := val_lt (xs.take k) (HXS.out.take k)
          rw [HV.out, List.length_take, Nat.min_eq_left (by rw [HN.out]; omega)] at h1
          have h2 : 256 ^ k ≤ 256 ^ 7 := Nat.pow_le_pow_right (by omega) (by omega)
          omega
        have HV2 : Sl (val (xs.take (k + 1)) = 256 * v + c) := ⟨by rw [val_take _ _ (by rw [HN.out]; exact hmore), HV.out, HC.out]⟩
        have hge : ((k : Int) + 1 ≥ (s.size : Int)) = False := eq_false (by have := HSZ.out; omega)
        have hi0 : (0 : Int) ≤ (k : Int) + 1 := by omega
        have hi1 : (k : Int) + 1 < (s.size : Int) := by omega
        clear hc
        by_cases hk0 : k = 0
        · subst hk0
          have HN2 : Sl (GI x xs 2 1) := ⟨HG.out.next (by rw [HN.out]; exact hmore) (fun h => absurd h (by decide)) (fun h => absurd h (by decide)) (fun _ h => absurd h (by decide))⟩
          by_cases hv0 : v = 0
          · have hz : zb = true := by rw [HZ.out, decide_eq_true hv0]
            subst hz
            by_cases hc0 : c = 0
            · have hcb : ((c : Int) == 0) = true := by simp; omega
              go_wp2
              exact ⟨⟨1, 256 * v + c, true, by omega, by go_num, rfl, by go_num, trivial, HV2, ⟨by rw [decide_eq_true (by omega)]⟩, HN2⟩, by simp [intOf] <;> omega⟩
            · have hcb : ((c : Int) == 0) = false := by simp; omega
              go_wp2
              exact ⟨⟨1, 256 * v + c, false, by omega, by go_num, rfl, by go_num, trivial, HV2, ⟨by rw [decide_eq_false (by omega)]⟩, HN2⟩, by simp [intOf] <;> omega⟩
          · have hz : zb = false := by rw [HZ.out, decide_eq_false hv0]
            subst hz
            go_wp2
            exact ⟨⟨1, 256 * v + c, false, by omega, by go_num, rfl, by go_num, trivial, HV2, ⟨by rw [decide_eq_false (by omega)]⟩, HN2⟩, by simp [intOf] <;> omega⟩
        · obtain hk1 : k = 1 := by omega
          subst hk1
          by_cases hlow : 256 * v + c < 126
          · have HR := Sl.mk (GI.one HG.out (by rw [HN.out]; exact hmore) (by rw [HV2.out]; exact hlow))
            have hq : (256 * (v : Int) + (c : Int) < 126) = True := eq_true (by omega)
            have hcz : ((c : Int) == 0) = decide (c = 0) := by rw [Bool.eq_iff_iff]; simp
            go_wp2
            all_goals (go_ret3; exact ⟨by rw [HR.out]; rfl, rfl⟩)
          · have hq : (256 * (v : Int) + (c : Int) < 126) = False := eq_false (by omega)
            have HN2 : Sl (GI x xs 2 2) := ⟨HG.out.next (by rw [HN.out]; exact hmore) (fun h => absurd h (by decide)) (fun h => absurd h (by decide)) (fun _ _ => by rw [HV2.out]; exact hlow)⟩
            by_cases hv0 : v = 0
            · have hz : zb = true := by rw [HZ.out, decide_eq_true hv0]
              subst hz
              by_cases hc0 : c = 0
              · omega
              · have hcb : ((c : Int) == 0) = false := by simp; omega
                go_wp2
                exact ⟨⟨2, 256 * v + c, false, by omega, by go_num, rfl, by go_num, trivial, HV2, ⟨by rw [decide_eq_false (by omega)]⟩, HN2⟩, by simp [intOf] <;> omega⟩
            · have hz : zb = false := by rw [HZ.out, decide_eq_false hv0]
              subst hz
              go_wp2
              exact ⟨⟨2, 256 * v + c, false, by omega, by go_num, rfl, by go_num, trivial, HV2, ⟨by rw [decide_eq_false (by omega)]⟩, HN2⟩, by simp [intOf] <;> omega⟩
      · obtain rfl : k = n := by have := HG.out.len; rw [HN.out] at this; omega
        have hge : ((k : Int) + 1 ≥ (s.size : Int)) = True := eq_true (by have := HSZ.out; omega)
        have HR := Sl.mk (HG.out.more hlt HN.out)
        go_wp2
        go_ret3
        exact ⟨by rw [HR.out]; rfl, rfl⟩
    · obtain rfl : k = 2 := by omega
      have HR := Sl.mk HG.out.fin
      rw [HV.out] at HR
      go_wp2
      go_ret3
      exact ⟨by rw [HR.out]; rfl, rfl⟩

set_option maxHeartbeats 4000000 in
theorem refget_any (s : ByteArray) (w : World) (hs : s.size ≤ 100000) : Calls Tryd.prog 33 #[.string s] w fun e w' => e = .returned (res3 (getL (bytes s))) ∧ w = w' := by
  have hsm := bytes_small s
  have hlen := bytes_length s
  cases hb : bytes s with
  | nil =>
    rw [hb] at hlen
    have h0 : s.size = 0 := by simpa using hlen.symm
    clear hlen hsm
    go_enter Tryd.func33, Tryd.ntmps33
    go_wp2
    go_ret3
    exact ⟨rfl, rfl⟩
  | cons x xs =>
    by_cases h126 : x % 128 < 126
    · rw [hb] at hsm hlen
      have HR := Sl.mk (get_one x xs h126)
      have h0 : 0 < s.size := by rw [← hlen, List.length_cons]; omega
      have hx : (s[0]'h0).toNat = x := by
        have := bytes_getD s 0 h0
        rw [hb, List.getD_cons_zero] at this
        rw [this]; rfl
      have hx256 : x < 256 := hsm x (List.mem_cons_self ..)
      obtain ⟨fb, hfb⟩ : ∃ fb, x % 128 = fb := ⟨_, rfl⟩
      rw [hfb] at h126 HR
      have hmod : (x : Int) % 128 = (fb : Int) := by omega
      clear hb hlen hsm hfb
      go_enter Tryd.func33, Tryd.ntmps33
      go_wp2
      go_ret3
      exact ⟨by rw [HR.out]; rfl, rfl⟩
    · by_cases h127 : x % 128 = 127
      · exact refget8 s x xs hb h127 w hs
      · exact refget2 s x xs hb (by omega) w hs
end Go.Proofs.YtlgmgalopdfcaaaDoor.Mas
