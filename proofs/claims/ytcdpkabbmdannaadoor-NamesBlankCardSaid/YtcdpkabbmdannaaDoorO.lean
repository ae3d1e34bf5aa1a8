/- The document's Has; a text with its letters' case turned. -/
import Derived.Test.YtcdpkabbmdannaaDoorN
namespace Go.Proofs.YtcdpkabbmdannaaDoor
open Go.RowKit HeadPlain

theorem hasT_some {t : List Nat} {ls : List (List Nat)} {m : List ByteArray} (h : toksAll ls = some (m.map bytes)) : hasT t ls = m.any fun x => same (bytes x) t := by
  unfold hasT; rw [h]; simp only [List.any_map]; rfl
theorem map_inj {a b : List ByteArray} (h : a.map bytes = b.map bytes) : a = b := (List.map_inj_right (fun _ _ e => bytes_inj e)).1 h
theorem toks_tell {l m : List ByteArray} (h : toksAll (l.map bytes) = some (m.map bytes)) : m = tell l := by
  rw [tell_toks] at h
  split at h
  · injection h with h; exact (map_inj h).symm
  · cases h
theorem hasT_none {t : List Nat} {ls : List (List Nat)} (h : toksAll ls = none) : hasT t ls = false := by unfold hasT; rw [h]
set_option maxRecDepth 100000 in
set_option maxHeartbeats 1000000 in
theorem hasR_any (token : ByteArray) (l : List ByteArray) (v : Value) (w : World) (hv : StrA w v l) (hl : l.length ≤ 100) (hs : ∀ s ∈ l, s.size ≤ 1000) :
    Calls Tryd.prog 14 #[.string token, v] w fun e w' => e = .returned (.bool (hasB token l)) ∧ Sl (Below w.heap.size w w') := by
  have HL := Sl.mk (listsR_any l v w hv hl hs)
  obtain ⟨r, hr⟩ : ∃ r, hasB token l = r := ⟨_, rfl⟩
  have HR : Sl (hasT (bytes token) (l.map bytes) = r) := ⟨hr⟩
  have HLEN : Sl (∀ m : List ByteArray, toksAll (l.map bytes) = some (m.map bytes) → m.length ≤ 1000000 ∧ ∀ x ∈ m, x.size ≤ maxLen) := ⟨fun m hm => by
    rw [toks_tell hm]
    have h3 := tell_len l 1000 hs
    have h4 := Nat.mul_le_mul_right 1001 hl
    exact ⟨by omega, tell_size l (fun s hx => Nat.le_trans (hs s hx) (by unfold maxLen; omega))⟩⟩
  have HSAME : Sl (∀ (x : ByteArray) (V : World), x.size ≤ maxLen → Calls Tryd.prog 28 #[.string x, .string token] V fun e w' => e = .returned (.bool (same (bytes x) (bytes token))) ∧ Still V w') := ⟨fun x V hx => sameR_any x token V hx⟩
  rw [hr]
  clear hr hv hs hl
  go_enter Tryd.func14, Tryd.ntmps14
  go_wp2_with (go_at_call 12; refine HL.out.mono ?_; rintro e w2 ⟨(⟨m, ml, hm, rfl, hmo⟩ | ⟨hm, rfl⟩), HB2⟩)
  · have HM := Sl.mk hm
    have HMO := Sl.mk hmo.strA
    have HMX := Sl.mk (HLEN.out ml hm).2
    have hml := (HLEN.out ml hm).1
    clear hm hmo
    obtain ⟨ad, ca, sa, oa, hme, hca, haa, hcell⟩ := HMO.out
    subst hme
    have HA := Sl.mk hcell
    have HAA := Sl.mk haa
    clear hcell haa hca
    obtain ⟨n, hn⟩ : ∃ n, ml.length = n := ⟨_, rfl⟩
    have HN := Sl.mk hn
    rw [hn] at hml ⊢
    clear hn
    go_loopw [7] (fun i wr => ∃ k : Nat, k ≤ n ∧ i = .int .i64 k ∧ Sl (Still w2 wr) ∧ Sl (∀ j, j < k → same (bytes (ml.getD j ByteArray.empty)) (bytes token) = false)) (fun i _ => n - (intOf i).toNat)
    case atStart => exact ⟨0, Nat.zero_le _, rfl, ⟨Still.refl _⟩, ⟨fun j hj => by omega⟩⟩
    case round =>
      obtain ⟨k, hk, rfl, HS, HE⟩ := hrel
      by_cases hlt : k < n
      · obtain rfl := HAA.out (by rw [HN.out]; omega)
        obtain ⟨p, hp⟩ : ∃ p, ml.getD k ByteArray.empty = p := ⟨_, rfl⟩
        have HP := Sl.mk hp
        have e0 : wr.cell? ⟨sa, oa + k, none⟩ = some (.string p) := by
          rw [World.cell?_of_block (w := w2) (by rw [HS.out.heap]), HA.out k (by rw [HN.out]; omega), hp]
        have HC : Sl (Calls Tryd.prog 28 #[.string p, .string token] wr fun e w' => e = .returned (.bool (same (bytes p) (bytes token))) ∧ Still wr w') := ⟨HSAME.out p wr (HMX.out p (by rw [← hp]; exact getD_mem (by rw [HN.out]; exact hlt)))⟩
        have hk0 : (0 : Int) ≤ (k : Int) := by omega
        have hk1 : (k : Int) < (n : Int) := by omega
        obtain ⟨q, hq⟩ : ∃ q, same (bytes p) (bytes token) = q := ⟨_, rfl⟩
        have HQ := Sl.mk hq
        rw [hq] at HC
        clear hp hq
        cases q with
        | true =>
          go_wp2_with (go_at_call 28; refine HC.out.mono ?_; rintro e w' ⟨rfl, hs⟩; have H2 := Sl.mk hs; clear hs)
          go_ret
          refine ⟨ret_bool ?_, ⟨HB2.out.trans ((HS.out.trans H2.out).below.mono HB2.out.size)⟩⟩
          rw [← HR.out, hasT_some HM.out, any_hit (k := k) (by rw [HN.out]; exact hlt) (by rw [HP.out]; exact HQ.out)]
        | false =>
          go_wp2_with (go_at_call 28; refine HC.out.mono ?_; rintro e w' ⟨rfl, hs⟩; have H2 := Sl.mk hs; clear hs)
          refine ⟨⟨k + 1, by omega, by go_num, ⟨HS.out.trans H2.out⟩, ⟨fun j hj => ?_⟩⟩, by simp [intOf]; omega⟩
          by_cases e : j = k
          · subst e; rw [HP.out]; exact HQ.out
          · exact HE.out j (by omega)
      · have hge : ((k : Int) < (n : Int)) = False := eq_false (by omega)
        go_wp2
        go_ret
        refine ⟨ret_bool ?_, ⟨HB2.out.trans (HS.out.below.mono HB2.out.size)⟩⟩
        rw [← HR.out, hasT_some HM.out, any_miss (fun j hj => HE.out j (by rw [HN.out] at hj; omega))]
  · have HM := Sl.mk hm
    clear hm
    refine wp_loop_rounds 1 ?_
    rw [rounds_succ]
    go_wp2
    go_ret
    refine ⟨ret_bool ?_, HB2⟩
    rw [← HR.out, hasT_none HM.out]
/-- A text with a to z as A to Z. -/
def upS (s : ByteArray) : ByteArray := strOf ((bytes s).map up)
theorem up_small {l : List Nat} (h : Small 256 l) : Small 256 (l.map up) := fun x hx => by
  obtain ⟨y, hy, rfl⟩ := List.mem_map.1 hx
  exact up_lt (h y hy)
theorem upS_bytes (s : ByteArray) : bytes (upS s) = (bytes s).map up := bytes_strOf _ (up_small (bytes_small s))
theorem upS_size (s : ByteArray) : (upS s).size = s.size := by rw [← bytes_length, upS_bytes, List.length_map, bytes_length]
/-- The first k bytes turned. -/
def upTo (bs : List Nat) (k : Nat) : List Nat := (bs.take k).map up ++ bs.drop k
theorem upTo_get (bs : List Nat) (k i : Nat) : (upTo bs k).getD i 0 = if i < k ∧ i < bs.length then up (bs.getD i 0) else bs.getD i 0 := by
  unfold upTo
  simp only [List.getD_eq_getElem?_getD]
  by_cases h : i < ((bs.take k).map up).length
  · have h2 : i < k ∧ i < bs.length := by rw [List.length_map, List.length_take] at h; omega
    rw [List.getElem?_append_left h, if_pos h2, List.getElem?_map, List.getElem?_take_of_lt h2.1, List.getElem?_eq_getElem h2.2]
    rfl
  · have h2 : ¬ (i < k ∧ i < bs.length) := by rw [List.length_map, List.length_take] at h; omega
    rw [List.getElem?_append_right (by omega), if_neg h2, List.getElem?_drop]
    by_cases hb : i < bs.length
    · rw [List.length_map, List.length_take]
      congr 2; omega
    · rw [List.getElem?_eq_none (by rw [List.length_map, List.length_take]; omega), List.getElem?_eq_none (by omega)]
theorem upTo_all (bs : List Nat) : upTo bs bs.length = bs.map up := by unfold upTo; simp
set_option maxHeartbeats 1000000 in
theorem upperL_any (s : ByteArray) (w : World) (hs : s.size ≤ 100000) : Calls Tryd.prog 21 #[.string s] w fun e w' => e = .returned (.string (upS s)) ∧ Sl (Below w.heap.size w w') := by
  obtain ⟨cap, w1, hconv, HSRC, HRW, HB⟩ := conv_rw s w
  obtain ⟨n, hn⟩ : ∃ n, s.size = n := ⟨_, rfl⟩
  have HN := Sl.mk hn
  rw [hn] at hconv HSRC HRW hs
  obtain ⟨bs, hbs⟩ : ∃ bs, bytes s = bs := ⟨_, rfl⟩
  have HBS := Sl.mk hbs
  have HLEN : Sl (bs.length = n) := ⟨by rw [← hbs, bytes_length, hn]⟩
  have HSM : Sl (Small 256 bs) := ⟨by rw [← hbs]; exact bytes_small s⟩
  obtain ⟨g, hg⟩ : ∃ g, w.heap.size = g := ⟨_, rfl⟩
  rw [hg] at hconv HSRC HRW HB ⊢
  have HC0 : Sl (∀ i, i < n → w1.cell? ⟨g, i, none⟩ = some (.int .u8 ((bs.getD i 0 : Nat) : Int))) := ⟨fun i hi => by
    obtain ⟨a, c, sb, so, he, _, ha, hc⟩ := HSRC.out
    rw [hbs] at he ha hc
    injection he with h1 h2 h3
    have h4 := ha (by rw [HLEN.out]; omega)
    rw [h4] at h1
    injection h1 with h1
    injection h1 with h5 h6
    subst h5
    have := hc i (by rw [HLEN.out]; exact hi)
    rw [← h6, Nat.zero_add] at this
    exact this⟩
  clear hbs hn HSRC
  go_enter Tryd.func21, Tryd.ntmps21
  go_wp2
  go_loopw [4] (fun i wr => ∃ k : Nat, k ≤ n ∧ i = .int .i64 k ∧ Sl (RowW wr g n) ∧ Sl (Below g w wr) ∧ Sl (∀ j, j < n → wr.cell? ⟨g, j, none⟩ = some (.int .u8 (((upTo bs k).getD j 0 : Nat) : Int)))) (fun i _ => n - (intOf i).toNat)
  case atStart => exact ⟨0, Nat.zero_le _, rfl, HRW, HB, ⟨fun j hj => by rw [upTo_get, if_neg (by omega)]; exact HC0.out j hj⟩⟩
  case round =>
    obtain ⟨k, hk, rfl, HR, HBL, HC⟩ := hrel
    by_cases hlt : k < n
    · obtain ⟨c, hc⟩ : ∃ c, bs.getD k 0 = c := ⟨_, rfl⟩
      have HCC := Sl.mk hc
      have hc256 : c < 256 := by rw [← hc]; exact HSM.out.getD (by omega) k
      have e0 : wr.cell? ⟨g, k, none⟩ = some (.int .u8 (c : Int)) := by
        rw [HC.out k hlt, upTo_get, if_neg (by omega), hc]
      have f0 := (HR.out k hlt).2
      have hk0 : (0 : Int) ≤ (k : Int) := by omega
      have hk1 : (k : Int) < (n : Int) := by omega
      clear hc
      by_cases h97 : 97 ≤ c
      · have t1 : decide ((97 : Int) ≤ (c : Int)) = true := decide_eq_true (by omega)
        by_cases h122 : c ≤ 122
        · have t2 : decide ((c : Int) ≤ 122) = true := decide_eq_true (by omega)
          go_wp2
          have hcc : ((c : Int) - 32) = ((c - 32 : Nat) : Int) := by omega
          rw [hcc]
          refine ⟨⟨k + 1, by omega, by go_num, ⟨HR.out.set hlt⟩, ⟨HBL.out.setCell (p := ⟨g, k, none⟩) (Nat.le_refl _) _⟩, ⟨fun j hj => ?_⟩⟩, by simp [intOf]; omega⟩
          by_cases e : j = k
          · subst e
            rw [World.cell?_setCell_same' _ _ _ (by rw [e0]; rfl), upTo_get, if_pos ⟨by omega, by rw [HLEN.out]; exact hj⟩, HCC.out]
            unfold up
            rw [if_pos ⟨h97, h122⟩]
          · have hna : (⟨g, k, none⟩ : Addr) ≠ ⟨g, j, none⟩ := fun e2 => e (by injection e2 with _ e3; exact e3.symm)
            rw [World.cell?_setCell_other (h := hna), HC.out j hj, upTo_get, upTo_get]
            congr 3
            by_cases h : j < k
            · rw [if_pos ⟨h, by rw [HLEN.out]; exact hj⟩, if_pos ⟨by omega, by rw [HLEN.out]; exact hj⟩]
            · rw [if_neg (fun h2 => h h2.1), if_neg (fun h2 => by omega)]
        · have t2 : decide ((c : Int) ≤ 122) = false := decide_eq_false (by omega)
          go_wp2
          refine ⟨⟨k + 1, by omega, by go_num, HR, HBL, ⟨fun j hj => ?_⟩⟩, by simp [intOf]; omega⟩
          rw [HC.out j hj, upTo_get, upTo_get]
          congr 3
          by_cases h : j < k
          · rw [if_pos ⟨h, by rw [HLEN.out]; exact hj⟩, if_pos ⟨by omega, by rw [HLEN.out]; exact hj⟩]
          · by_cases h2 : j = k
            · subst h2
              rw [if_neg (fun h3 => h h3.1), if_pos ⟨by omega, by rw [HLEN.out]; exact hj⟩, HCC.out]
              unfold up
              rw [if_neg (by omega)]
            · rw [if_neg (fun h3 => h h3.1), if_neg (fun h3 => by omega)]
      · have t1 : decide ((97 : Int) ≤ (c : Int)) = false := decide_eq_false (by omega)
        go_wp2
        refine ⟨⟨k + 1, by omega, by go_num, HR, HBL, ⟨fun j hj => ?_⟩⟩, by simp [intOf]; omega⟩
        rw [HC.out j hj, upTo_get, upTo_get]
        congr 3
        by_cases h : j < k
        · rw [if_pos ⟨h, by rw [HLEN.out]; exact hj⟩, if_pos ⟨by omega, by rw [HLEN.out]; exact hj⟩]
        · by_cases h2 : j = k
          · subst h2
            rw [if_neg (fun h3 => h h3.1), if_pos ⟨by omega, by rw [HLEN.out]; exact hj⟩, HCC.out]
            unfold up
            rw [if_neg (by omega)]
          · rw [if_neg (fun h3 => h h3.1), if_neg (fun h3 => by omega)]
    · have hge : ((k : Int) < (n : Int)) = False := eq_false (by omega)
      obtain rfl : k = n := by omega
      have hstr : (convert 49 9 (.slice (some ⟨g, 0, none⟩) k cap)).run Tryd.prog wr = .ok (.string (upS s)) wr := by
        have h := run_convert_bytes_arg wr 49 5 Tryd.underlying49 Tryd.underlying5 g 0 k cap ((bs.map up).map fun (n : Nat) => (n : Int)) (by rw [List.length_map, List.length_map, HLEN.out]) (fun i hi => by
          have h1 := HC.out i hi
          rw [Nat.zero_add, h1, ← HLEN.out, upTo_all]
          have hb : i < bs.length := by rw [HLEN.out]; exact hi
          simp [List.getD_eq_getElem?_getD, List.getElem?_eq_getElem hb]) 9 Tryd.underlying9
        rw [h]
        unfold upS strOf
        rw [HBS.out]
      go_wp2
      go_ret
      exact ⟨rfl, HBL⟩
end Go.Proofs.YtcdpkabbmdannaaDoor
