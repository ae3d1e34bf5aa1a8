/- shake: a text with its letters' case turned. -/
import Derived.Test.YthlagngpllahkaaGreatDoorNmD
set_option maxRecDepth 100000
namespace Go.Proofs.YthlagngpllahkaaGreatDoor
open Go.RowKit HeadPlain

/-- A letter in the other case. -/
def tn (c : Nat) : Nat := if 97 ≤ c ∧ c ≤ 122 then c - 32 else if 65 ≤ c ∧ c ≤ 90 then c + 32 else c
theorem tn_lt {c : Nat} (h : c < 256) : tn c < 256 := by unfold tn; split; omega; split <;> omega
theorem up_tn (c : Nat) : up (tn c) = up c := by
  unfold tn
  by_cases h1 : 97 ≤ c ∧ c ≤ 122
  · rw [if_pos h1]; unfold up; rw [if_pos h1, if_neg (by omega)]
  · rw [if_neg h1]
    by_cases h2 : 65 ≤ c ∧ c ≤ 90
    · rw [if_pos h2]; unfold up; rw [if_neg h1, if_pos (by omega)]; omega
    · rw [if_neg h2]
theorem xor_low (c : Nat) (h : c < 256) (h1 : 97 ≤ c ∧ c ≤ 122 ∨ 65 ≤ c ∧ c ≤ 90) : bits BinOp.xor IntKind.u8 (c : Int) 32 = (tn c : Nat) := by
  have : ∀ c : Fin 256, (97 ≤ c.val ∧ c.val ≤ 122 ∨ 65 ≤ c.val ∧ c.val ≤ 90) → bits BinOp.xor IntKind.u8 (c.val : Int) 32 = (tn c.val : Nat) := by decide +kernel
  exact this ⟨c, h⟩ h1
def tnS (s : ByteArray) : ByteArray := strOf ((bytes s).map tn)
theorem tn_small {l : List Nat} (h : Small 256 l) : Small 256 (l.map tn) := fun x hx => by
  obtain ⟨y, hy, rfl⟩ := List.mem_map.1 hx
  exact tn_lt (h y hy)
theorem tnS_bytes (s : ByteArray) : bytes (tnS s) = (bytes s).map tn := bytes_strOf _ (tn_small (bytes_small s))
theorem tnS_size (s : ByteArray) : (tnS s).size = s.size := by rw [← bytes_length, tnS_bytes, List.length_map, bytes_length]
theorem tnS_up (s : ByteArray) : (bytes (tnS s)).map up = (bytes s).map up := by
  rw [tnS_bytes, List.map_map]
  exact List.map_congr_left fun c _ => up_tn c
/-- The first k bytes turned. -/
def tnTo (bs : List Nat) (k : Nat) : List Nat := (bs.take k).map tn ++ bs.drop k
theorem tnTo_get (bs : List Nat) (k i : Nat) : (tnTo bs k).getD i 0 = if i < k ∧ i < bs.length then tn (bs.getD i 0) else bs.getD i 0 := by
  unfold tnTo
  simp only [List.getD_eq_getElem?_getD]
  by_cases h : i < ((bs.take k).map tn).length
  · have h2 : i < k ∧ i < bs.length := by rw [List.length_map, List.length_take] at h; omega
    rw [List.getElem?_append_left h, if_pos h2, List.getElem?_map, List.getElem?_take_of_lt h2.1, List.getElem?_eq_getElem h2.2]
    rfl
  · have h2 : ¬ (i < k ∧ i < bs.length) := by rw [List.length_map, List.length_take] at h; omega
    rw [List.getElem?_append_right (by omega), if_neg h2, List.getElem?_drop]
    by_cases hb : i < bs.length
    · rw [List.length_map, List.length_take]
      congr 2; omega
    · rw [List.getElem?_eq_none (by rw [List.length_map, List.length_take]; omega), List.getElem?_eq_none (by omega)]
theorem tnTo_all (bs : List Nat) : tnTo bs bs.length = bs.map tn := by unfold tnTo; simp
set_option maxHeartbeats 2000000 in
theorem turned_any (s : ByteArray) (w : World) (hs : s.size ≤ 100000) : Calls Tryz.prog 34 #[.string s] w fun e w' => e = .returned (.string (tnS s)) ∧ Sl (Below w.heap.size w w') := by
  obtain ⟨cap, w1, hconv, HSRC, HRW, HB⟩ := conv_rw s w
  obtain ⟨n, hn⟩ : ∃ n, s.size = n := ⟨_, rfl⟩
  have HN := Sl.mk hn
  rw [hn] at hconv HSRC HRW hs
  obtain ⟨bs, hbs⟩ : ∃ bs, bytes s = bs := ⟨_, rfl⟩
  have HBS := Sl.mk hbs
  have HLEN : Sl (bs.length = n) := ⟨by rw [← hbs, bytes_length, hn]⟩
  have HSM : Sl (Small 256 bs) := ⟨by rw [← hbs]; exact bytes_small s⟩
  obtain ⟨g, hg⟩ : ∃ g, w.heap.size = g := ⟨_, rfl⟩
  rw [hg] at hconv HSRC HRW HB ⊢
  have HC0 : Sl (∀ i, i < n → w1.cell? ⟨g, i, none⟩ = some (.int .u8 ((bs.getD i 0 : Nat) : Int))) := ⟨fun i hi => by
    obtain ⟨a, c, sb, so, he, _, ha, hc⟩ := HSRC.out
    rw [hbs] at he ha hc
    injection he with h1 h2 h3
    have h4 := ha (by rw [HLEN.out]; omega)
    rw [h4] at h1
    injection h1 with h1
    injection h1 with h5 h6
    subst h5
    have := hc i (by rw [HLEN.out]; exact hi)
    rw [← h6, Nat.zero_add] at this
    exact this⟩
  clear hbs hn HSRC
  go_enter Tryz.func34, Tryz.ntmps34
  go_wp2
  go_loopw [4] (fun i wr => ∃ k : Nat, k ≤ n ∧ i = .int .i64 k ∧ Sl (RowW wr g n) ∧ Sl (Below g w wr) ∧ Sl (∀ j, j < n → wr.cell? ⟨g, j, none⟩ = some (.int .u8 (((tnTo bs k).getD j 0 : Nat) : Int)))) (fun i _ => n - (intOf i).toNat)
  case atStart => exact ⟨0, Nat.zero_le _, rfl, HRW, HB, ⟨fun j hj => by rw [tnTo_get, if_neg (by omega)]; exact HC0.out j hj⟩⟩
  case round =>
    obtain ⟨k, hk, rfl, HR, HBL, HC⟩ := hrel
    by_cases hlt : k < n
    · obtain ⟨c, hc⟩ : ∃ c, bs.getD k 0 = c := ⟨_, rfl⟩
      have HCC := Sl.mk hc
      have hc256 : c < 256 := by rw [← hc]; exact HSM.out.getD (by omega) k
      have e0 : wr.cell? ⟨g, k, none⟩ = some (.int .u8 (c : Int)) := by
        rw [HC.out k hlt, tnTo_get, if_neg (by omega), hc]
      have f0 := (HR.out k hlt).2
      have hk0 : (0 : Int) ≤ (k : Int) := by omega
      have hk1 : (k : Int) < (n : Int) := by omega
      have HSTAY : Sl (tn c = c → ∀ j, j < n → wr.cell? ⟨g, j, none⟩ = some (.int .u8 (((tnTo bs (k + 1)).getD j 0 : Nat) : Int))) := ⟨fun htn j hj => by
        rw [HC.out j hj, tnTo_get, tnTo_get]
        congr 3
        by_cases h : j < k
        · rw [if_pos ⟨h, by rw [HLEN.out]; exact hj⟩, if_pos ⟨by omega, by rw [HLEN.out]; exact hj⟩]
        · by_cases h2 : j = k
          · subst h2
            rw [if_neg (fun h3 => h h3.1), if_pos ⟨by omega, by rw [HLEN.out]; exact hj⟩, HCC.out, htn]
          · rw [if_neg (fun h3 => h h3.1), if_neg (fun h3 => by omega)]⟩
      have HTURN : Sl (∀ j, j < n → (wr.setCell ⟨g, k, none⟩ (.int .u8 ((tn c : Nat) : Int))).cell? ⟨g, j, none⟩ = some (.int .u8 (((tnTo bs (k + 1)).getD j 0 : Nat) : Int))) := ⟨fun j hj => by
        by_cases e : j = k
        · subst e
          rw [World.cell?_setCell_same' _ _ _ (by rw [e0]; rfl), tnTo_get, if_pos ⟨by omega, by rw [HLEN.out]; exact hj⟩, HCC.out]
        · have hna : (⟨g, k, none⟩ : Addr) ≠ ⟨g, j, none⟩ := fun e2 => e (by injection e2 with _ e3; exact e3.symm)
          rw [World.cell?_setCell_other (h := hna), HC.out j hj, tnTo_get, tnTo_get]
          congr 3
          by_cases h : j < k
          · rw [if_pos ⟨h, by rw [HLEN.out]; exact hj⟩, if_pos ⟨by omega, by rw [HLEN.out]; exact hj⟩]
          · rw [if_neg (fun h2 => h h2.1), if_neg (fun h2 => by omega)]⟩
      clear hc
      by_cases h97 : 97 ≤ c
      · have t1 : decide ((97 : Int) ≤ (c : Int)) = true := decide_eq_true (by omega)
        by_cases h122 : c ≤ 122
        · have t2 : decide ((c : Int) ≤ 122) = true := decide_eq_true (by omega)
          go_wp2
          refine ⟨⟨k + 1, by omega, by go_num, ⟨HR.out.set hlt⟩, ⟨HBL.out.setCell (p := ⟨g, k, none⟩) (Nat.le_refl _) _⟩, ⟨fun j hj => ?_⟩⟩, by simp [intOf]; omega⟩
          rw [xor_low c hc256 (by omega)]
          exact HTURN.out j hj
        · have t2 : decide ((c : Int) ≤ 122) = false := decide_eq_false (by omega)
          have t3 : decide ((65 : Int) ≤ (c : Int)) = true := decide_eq_true (by omega)
          have t4 : decide ((c : Int) ≤ 90) = false := decide_eq_false (by omega)
          have HST := Sl.mk (HSTAY.out (by unfold tn; rw [if_neg (by omega), if_neg (by omega)]))
          go_wp2
          exact ⟨⟨k + 1, by omega, by go_num, HR, HBL, HST⟩, by simp [intOf]; omega⟩
      · have t1 : decide ((97 : Int) ≤ (c : Int)) = false := decide_eq_false (by omega)
        by_cases h65 : 65 ≤ c
        · have t3 : decide ((65 : Int) ≤ (c : Int)) = true := decide_eq_true (by omega)
          by_cases h90 : c ≤ 90
          · have t4 : decide ((c : Int) ≤ 90) = true := decide_eq_true (by omega)
            go_wp2
            refine ⟨⟨k + 1, by omega, by go_num, ⟨HR.out.set hlt⟩, ⟨HBL.out.setCell (p := ⟨g, k, none⟩) (Nat.le_refl _) _⟩, ⟨fun j hj => ?_⟩⟩, by simp [intOf]; omega⟩
            rw [xor_low c hc256 (by omega)]
            exact HTURN.out j hj
          · have t4 : decide ((c : Int) ≤ 90) = false := decide_eq_false (by omega)
            have HST := Sl.mk (HSTAY.out (by unfold tn; rw [if_neg (by omega), if_neg (by omega)]))
            go_wp2
            exact ⟨⟨k + 1, by omega, by go_num, HR, HBL, HST⟩, by simp [intOf]; omega⟩
        · have t3 : decide ((65 : Int) ≤ (c : Int)) = false := decide_eq_false (by omega)
          have HST := Sl.mk (HSTAY.out (by unfold tn; rw [if_neg (by omega), if_neg (by omega)]))
          go_wp2
          exact ⟨⟨k + 1, by omega, by go_num, HR, HBL, HST⟩, by simp [intOf]; omega⟩
    · have hge : ((k : Int) < (n : Int)) = False := eq_false (by omega)
      obtain rfl : k = n := by omega
      have hstr : (convert 53 9 (.slice (some ⟨g, 0, none⟩) k cap)).run Tryz.prog wr = .ok (.string (tnS s)) wr := by
        have h := run_convert_bytes_arg wr 53 5 Tryz.underlying53 Tryz.underlying5 g 0 k cap ((bs.map tn).map fun (n : Nat) => (n : Int)) (by rw [List.length_map, List.length_map, HLEN.out]) (fun i hi => by
          have h1 := HC.out i hi
          rw [Nat.zero_add, h1, ← HLEN.out, tnTo_all]
          have hb : i < bs.length := by rw [HLEN.out]; exact hi
          simp [List.getD_eq_getElem?_getD, List.getElem?_eq_getElem hb]) 9 Tryz.underlying9
        rw [h]
        unfold tnS strOf
        rw [HBS.out]
      go_wp2
      go_ret
      exact ⟨rfl, HBL⟩
end Go.Proofs.YthlagngpllahkaaGreatDoor
