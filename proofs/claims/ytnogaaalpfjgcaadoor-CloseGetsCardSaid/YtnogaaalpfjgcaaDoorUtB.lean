/- The contract of the document's Put: a letter's bytes; nothing that was in memory changes. -/
import Derived.Test.YtnogaaalpfjgcaaDoorUtA
namespace Go.Proofs.YtnogaaalpfjgcaaDoor.Utf
open Go.RowKit UtfPlain

/-- The string of a new row of bytes. -/
theorem conv_new (W : World) (l : List Nat) (vs : Array Value) (hv : vs = (u8s l).toArray) (n : Nat) (hn : l.length = n) :
    (convert 36 9 (.slice (some ⟨W.heap.size, 0, none⟩) n n)).run Tryd.prog (W.alloc (.cells vs 5)) = .ok (.string (strOf l)) (W.alloc (.cells vs 5)) := by
  subst hn
  refine run_convert_bytes_arg _ 36 5 Tryd.underlying36 Tryd.underlying5 W.heap.size 0 l.length l.length (l.map fun (n : Nat) => (n : Int)) (by simp) (fun i hi => ?_) 9 Tryd.underlying9
  have hi' : i < l.length := by simpa using hi
  rw [Nat.zero_add, cell_of_row _ _ _ _ _ _ (alloc_new _ _ _ rfl), hv, List.getElem?_toArray, u8s_get l i hi']
  simp [List.getD, List.getElem?_eq_getElem hi']

theorem put_no (n : Int) (w : World) (h : putL n = none) :
    Calls Tryd.prog 39 #[.int .i64 n] w fun e w' => e = .returned (.tuple #[.string ByteArray.empty, .bool false]) ∧ Below w.heap.size w w' := by
  have hn : n < 0 ∨ n > 1114111 ∨ (55296 ≤ n ∧ n ≤ 57343) := by
    by_cases q : n < 0 ∨ n > 1114111 ∨ (55296 ≤ n ∧ n ≤ 57343)
    · exact q
    · unfold putL at h
      rw [if_neg q] at h
      repeat' split at h
      all_goals cases h
  clear h
  rcases hn with h | h | h
  · go_enter Tryd.func39, Tryd.ntmps39
    go_wp2
    go_ret2
    exact ⟨rfl, Below.refl _ _⟩
  · have h0 : ¬ n < 0 := by omega
    go_enter Tryd.func39, Tryd.ntmps39
    go_wp2
    go_ret2
    exact ⟨rfl, Below.refl _ _⟩
  · have h0 : ¬ n < 0 := by omega
    have h1 : ¬ 1114111 < n := by omega
    obtain ⟨h2, h3⟩ := h
    go_enter Tryd.func39, Tryd.ntmps39
    go_wp2
    go_ret2
    exact ⟨rfl, Below.refl _ _⟩
set_option maxHeartbeats 400000 in
set_option maxRecDepth 1000000 in
theorem put_1 (m : Nat) (w : World) (h : m < 128) :
    Calls Tryd.prog 39 #[.int .i64 (m : Int)] w fun e w' => e = .returned (.tuple #[.string (strOf [m]), .bool true]) ∧ Below w.heap.size w w' := by
  have hcv := fun W => conv_new W [m] #[.int .u8 m] rfl 1 rfl
  go_enter Tryd.func39, Tryd.ntmps39
  go_wp2
  go_ret2
  exact ⟨rfl, (Below.refl _ _).alloc (Nat.le_refl _) _⟩
set_option maxHeartbeats 1000000 in
set_option maxRecDepth 1000000 in
theorem put_2 (m q r : Nat) (w : World) (h1 : 128 ≤ m) (h2 : m < 2048) (hq : (m : Int) / 64 = q) (hr : (m : Int) % 64 = r) (bq : q < 32) (_br : r < 64) :
    Calls Tryd.prog 39 #[.int .i64 (m : Int)] w fun e w' => e = .returned (.tuple #[.string (strOf [192 + q, 128 + r]), .bool true]) ∧ Below w.heap.size w w' := by
  have hcv := fun W => conv_new W [192 + q, 128 + r] #[.int .u8 (192 + (q : Int)), .int .u8 (128 + (r : Int))] (by simp [u8s, v8]) 2 rfl
  go_enter Tryd.func39, Tryd.ntmps39
  go_wp2
  go_ret2
  exact ⟨rfl, (Below.refl _ _).alloc (Nat.le_refl _) _⟩
set_option maxHeartbeats 1000000 in
set_option maxRecDepth 1000000 in
theorem put_3 (m p q q2 r : Nat) (w : World) (h1 : 2048 ≤ m) (h2 : m < 65536) (h3 : m < 55296 ∨ 57343 < m) (hp : (m : Int) / 4096 = p) (hq : (m : Int) / 64 = q) (hq2 : (q : Int) % 64 = q2) (hr : (m : Int) % 64 = r) (bp : p < 16) (_bq : q2 < 64) (_br : r < 64) :
    Calls Tryd.prog 39 #[.int .i64 (m : Int)] w fun e w' => e = .returned (.tuple #[.string (strOf [224 + p, 128 + q2, 128 + r]), .bool true]) ∧ Below w.heap.size w w' := by
  have hcv := fun W => conv_new W [224 + p, 128 + q2, 128 + r] #[.int .u8 (224 + (p : Int)), .int .u8 (128 + (q2 : Int)), .int .u8 (128 + (r : Int))] (by simp [u8s, v8]) 3 rfl
  rcases h3 with h3 | h3
  · go_enter Tryd.func39, Tryd.ntmps39
    go_wp2
    go_ret2
    exact ⟨rfl, (Below.refl _ _).alloc (Nat.le_refl _) _⟩
  · go_enter Tryd.func39, Tryd.ntmps39
    go_wp2
    go_ret2
    exact ⟨rfl, (Below.refl _ _).alloc (Nat.le_refl _) _⟩
set_option maxHeartbeats 1000000 in
set_option maxRecDepth 1000000 in
theorem put_4 (m o p p2 q q2 r : Nat) (w : World) (h1 : 65536 ≤ m) (h2 : m ≤ 1114111) (ho : (m : Int) / 262144 = o) (hp : (m : Int) / 4096 = p) (hp2 : (p : Int) % 64 = p2) (hq : (m : Int) / 64 = q) (hq2 : (q : Int) % 64 = q2) (hr : (m : Int) % 64 = r) (bo : o < 8) (_bp : p2 < 64) (_bq : q2 < 64) (_br : r < 64) :
    Calls Tryd.prog 39 #[.int .i64 (m : Int)] w fun e w' => e = .returned (.tuple #[.string (strOf [240 + o, 128 + p2, 128 + q2, 128 + r]), .bool true]) ∧ Below w.heap.size w w' := by
  have hcv := fun W => conv_new W [240 + o, 128 + p2, 128 + q2, 128 + r] #[.int .u8 (240 + (o : Int)), .int .u8 (128 + (p2 : Int)), .int .u8 (128 + (q2 : Int)), .int .u8 (128 + (r : Int))] (by simp [u8s, v8]) 4 rfl
  go_enter Tryd.func39, Tryd.ntmps39
  go_wp2
  go_ret2
  exact ⟨rfl, (Below.refl _ _).alloc (Nat.le_refl _) _⟩
theorem put_yes (n : Int) (l : List Nat) (w : World) (h : putL n = some l) :
    Calls Tryd.prog 39 #[.int .i64 n] w fun e w' => e = .returned (.tuple #[.string (strOf l), .bool true]) ∧ Below w.heap.size w w' := by
  by_cases hn : n < 0
  · unfold putL at h; rw [if_pos (.inl hn)] at h; cases h
  · obtain ⟨m, rfl⟩ := Int.eq_ofNat_of_zero_le (show 0 ≤ n by omega)
    by_cases k0 : 1114111 < m ∨ (55296 ≤ m ∧ m ≤ 57343)
    · rw [put_none m k0] at h; cases h
    · by_cases k1 : m < 128
      · rw [put1 m k1] at h; injection h with h; subst h
        exact put_1 m w k1
      · by_cases k2 : m < 2048
        · rw [put2 m (by omega) k2] at h; injection h with h; subst h
          exact put_2 m (m / 64) (m % 64) w (by omega) k2 (by omega) (by omega) (by omega) (by omega)
        · by_cases k3 : m < 65536
          · rw [put3 m (by omega) k3 (by omega)] at h; injection h with h; subst h
            exact put_3 m (m / 4096) (m / 64) (m / 64 % 64) (m % 64) w (by omega) k3 (by omega) (by omega) (by omega) (by omega) (by omega) (by omega) (by omega) (by omega)
          · rw [put4 m (by omega) (by omega)] at h; injection h with h; subst h
            exact put_4 m (m / 262144) (m / 4096) (m / 4096 % 64) (m / 64) (m / 64 % 64) (m % 64) w (by omega) (by omega) (by omega) (by omega) (by omega) (by omega) (by omega) (by omega) (by omega) (by omega) (by omega) (by omega)
end Go.Proofs.YtnogaaalpfjgcaaDoor.Utf
/- utf: letters put, pieces of bytes. -/
namespace Go.Proofs.YtnogaaalpfjgcaaDoor.Utf
open Go.RowKit UtfPlain

theorem put_vb {n : Int} {l : List Nat} (h : putL n = some l) : vb l = true := decide_eq_true (put_run n l h).1
theorem put_cb {n : Int} {l : List Nat} (h : putL n = some l) : cb l = 1 := by unfold cb; rw [if_pos (put_vb h)]; exact (put_run n l h).2.1
theorem put_size {n : Int} {l : List Nat} (h : putL n = some l) : l.length ≤ 4 := by
  unfold putL at h
  repeat' split at h
  all_goals first | (injection h with h; subst h; simp) | cases h
theorem put_small {n : Int} {l : List Nat} (h : putL n = some l) : Small 256 l := by
  by_cases hn : n < 0
  · unfold putL at h; rw [if_pos (.inl hn)] at h; cases h
  · obtain ⟨m, rfl⟩ := Int.eq_ofNat_of_zero_le (show 0 ≤ n by omega)
    by_cases k0 : 1114111 < m ∨ (55296 ≤ m ∧ m ≤ 57343)
    · rw [put_none m k0] at h; cases h
    · by_cases k1 : m < 128
      · rw [put1 m k1] at h; injection h with h; subst h
        intro x hx; simp at hx; omega
      · by_cases k2 : m < 2048
        · rw [put2 m (by omega) k2] at h; injection h with h; subst h
          intro x hx; simp at hx; omega
        · by_cases k3 : m < 65536
          · rw [put3 m (by omega) k3 (by omega)] at h; injection h with h; subst h
            intro x hx; simp at hx; omega
          · rw [put4 m (by omega) (by omega)] at h; injection h with h; subst h
            intro x hx; simp at hx; omega
/-- Put, in a call that began in w0. -/
theorem put_ex (w0 W : World) (n : Int) (l : List Nat) (hB : Below w0.heap.size w0 W) (h : putL n = some l) :
    Calls Tryd.prog 39 #[.int .i64 n] W fun e w' => e = .returned (.tuple #[.string (strOf l), .bool true]) ∧ Sl (Below w0.heap.size w0 w') :=
  (put_yes n l W h).mono fun _ _ ⟨he, hb⟩ => ⟨he, ⟨hB.trans (hb.mono hB.size)⟩⟩
theorem putNo_ex (w0 W : World) (n : Int) (hB : Below w0.heap.size w0 W) (h : putL n = none) :
    Calls Tryd.prog 39 #[.int .i64 n] W fun e w' => e = .returned (.tuple #[.string ByteArray.empty, .bool false]) ∧ Sl (Below w0.heap.size w0 w') :=
  (put_no n W h).mono fun _ _ ⟨he, hb⟩ => ⟨he, ⟨hB.trans (hb.mono hB.size)⟩⟩

theorem take_more {l : List Nat} {k : Nat} (h : k < l.length) : l.take (k + 1) = l.take k ++ [l.getD k 0] := by
  rw [List.take_succ_eq_append_getElem h]; simp [List.getD, List.getElem?_eq_getElem h]
theorem extract_one {x : ByteArray} {l : List Nat} {k : Nat} (hx : bytes x = l) (h : k < l.length) : bytes (x.extract k (k + 1)) = [l.getD k 0] := by
  rw [bytes_extract, hx, take_more h, List.drop_append_of_le_length (by rw [List.length_take]; omega), List.drop_of_length_le (by rw [List.length_take]; omega)]
  rfl
end Go.Proofs.YtnogaaalpfjgcaaDoor.Utf
/- The contracts of the document's long, pow and whole; nothing that was in memory changes. -/
namespace Go.Proofs.YtnogaaalpfjgcaaDoor.Utf
open Go.RowKit UtfPlain

set_option maxRecDepth 1000000 in
set_option maxHeartbeats 2000000 in
theorem long_any (b : Nat) (w : World) : Calls Tryd.prog 37 #[.int .u8 b] w fun e w' => e = .returned (.int .i64 (long b : Nat)) ∧ w = w' := by
  by_cases a1 : b < 128
  · have e : long b = 1 := by unfold long; rw [if_pos a1]
    rw [e]; clear e
    go_enter Tryd.func37, Tryd.ntmps37
    go_wp2
    go_ret
    exact ⟨rfl, rfl⟩
  · by_cases a2 : b < 192
    · have e : long b = 0 := by unfold long; rw [if_neg a1, if_neg (by omega), if_neg (by omega), if_neg (by omega)]
      rw [e]; clear e
      have c1 : ¬ (b : Int) < 128 := by omega
      have c2 : ¬ (192 : Int) ≤ (b : Int) := by omega
      have c3 : ¬ (224 : Int) ≤ (b : Int) := by omega
      have c4 : ¬ (240 : Int) ≤ (b : Int) := by omega
      go_enter Tryd.func37, Tryd.ntmps37
      go_wp2
      go_ret
      exact ⟨rfl, rfl⟩
    · by_cases a3 : b < 224
      · rw [long2 (by omega) a3]
        go_enter Tryd.func37, Tryd.ntmps37
        go_wp2
        go_ret
        exact ⟨rfl, rfl⟩
      · by_cases a4 : b < 240
        · rw [long3 (by omega) a4]
          go_enter Tryd.func37, Tryd.ntmps37
          go_wp2
          go_ret
          exact ⟨rfl, rfl⟩
        · by_cases a5 : b < 248
          · rw [long4 (by omega) a5]
            go_enter Tryd.func37, Tryd.ntmps37
            go_wp2
            go_ret
            exact ⟨rfl, rfl⟩
          · have e : long b = 0 := by unfold long; rw [if_neg a1, if_neg (by omega), if_neg (by omega), if_neg (by omega)]
            rw [e]; clear e
            go_enter Tryd.func37, Tryd.ntmps37
            go_wp2
            go_ret
            exact ⟨rfl, rfl⟩
/-- By how much a first byte is less than 256. -/
def powOf (n : Nat) : Nat := [0, 1, 8, 16, 32].getD n 0
theorem pow_any (n : Nat) (w : World) (h : n < 5) : Calls Tryd.prog 38 #[.int .i64 n] w fun e w' => e = .returned (.int .i64 (powOf n : Nat)) ∧ Below w.heap.size w w' := by
  match n, h with
  | 0, _ =>
    go_enter Tryd.func38, Tryd.ntmps38
    go_wp2
    go_ret
    exact ⟨rfl, (Below.refl _ _).alloc (Nat.le_refl _) _⟩
  | 1, _ =>
    go_enter Tryd.func38, Tryd.ntmps38
    go_wp2
    go_ret
    exact ⟨rfl, (Below.refl _ _).alloc (Nat.le_refl _) _⟩
  | 2, _ =>
    go_enter Tryd.func38, Tryd.ntmps38
    go_wp2
    go_ret
    exact ⟨rfl, (Below.refl _ _).alloc (Nat.le_refl _) _⟩
  | 3, _ =>
    go_enter Tryd.func38, Tryd.ntmps38
    go_wp2
    go_ret
    exact ⟨rfl, (Below.refl _ _).alloc (Nat.le_refl _) _⟩
  | 4, _ =>
    go_enter Tryd.func38, Tryd.ntmps38
    go_wp2
    go_ret
    exact ⟨rfl, (Below.refl _ _).alloc (Nat.le_refl _) _⟩
theorem long_le (b : Nat) : long b < 5 := by unfold long; repeat' split
                                             all_goals decide
theorem modOf_eq (n : Nat) (h0 : 1 ≤ n) (h : n < 5) : 256 / powOf n = modOf n := by
  match n, h0, h with
  | 1, _, _ => rfl
  | 2, _, _ => rfl
  | 3, _, _ => rfl
  | 4, _, _ => rfl
end Go.Proofs.YtnogaaalpfjgcaaDoor.Utf
/- The contract of the document's whole: does a text begin with a letter, and of how many bytes; nothing that was in memory changes. Condition: the text isn't empty. -/
namespace Go.Proofs.YtnogaaalpfjgcaaDoor.Utf
open Go.RowKit UtfPlain

theorem pow_ex (w0 W : World) (n p : Nat) (hp : powOf n = p) (hn : n < 5) (hB : Below w0.heap.size w0 W) : Calls Tryd.prog 38 #[.int .i64 n] W fun e w' => e = .returned (.int .i64 p) ∧ Sl (Below w0.heap.size w0 w') :=
  (pow_any n W hn).mono fun _ _ ⟨he, hb⟩ => ⟨by rw [he, hp], ⟨hB.trans (hb.mono hB.size)⟩⟩
theorem headD_bytes (s : ByteArray) (h : 0 < s.size) : (bytes s).headD 0 = (s[0]'h).toNat := by
  have h1 := bytes_getD s 0 h
  have h2 : (bytes s).headD 0 = (bytes s).getD 0 0 := by cases bytes s <;> rfl
  rw [h2, h1]; rfl
theorem numb_more (m : Nat) (l : List Nat) (k : Nat) (h1 : 1 ≤ k) (h : k < l.length) : numb m (l.take (k + 1)) = 64 * numb m (l.take k) + l.getD k 0 % 64 := by
  rw [take_more h]
  cases l with
  | nil => simp at h
  | cons b r =>
    obtain ⟨j, rfl⟩ : ∃ j, k = j + 1 := ⟨k - 1, by omega⟩
    rw [List.take_succ_cons, List.cons_append]
    simp only [numb, List.foldl_append, List.foldl_cons, List.foldl_nil]
theorem numb_one (m : Nat) (l : List Nat) (h : 0 < l.length) : numb m (l.take 1) = l.headD 0 % m := by
  cases l with
  | nil => simp at h
  | cons b r => rfl

theorem whole_zero (s : ByteArray) (w : World) (hs : 0 < s.size) (_hL : s.size ≤ 100000) (h : long ((bytes s).headD 0) = 0 ∨ s.size < long ((bytes s).headD 0)) :
    Calls Tryd.prog 34 #[.string s] w fun e w' => e = .returned (.int .i64 0) ∧ Below w.heap.size w w' := by
  obtain ⟨b, hb⟩ : ∃ b, (s[0]'hs).toNat = b := ⟨_, rfl⟩
  have hh := headD_bytes s hs
  rw [hb] at hh
  rw [hh] at h
  obtain ⟨n, hn⟩ : ∃ n, long b = n := ⟨_, rfl⟩
  have HN := Sl.mk hn
  rw [hn] at h
  have hn5 : n < 5 := by rw [← hn]; exact long_le b
  have HLG : Sl (∀ W, Calls Tryd.prog 37 #[.int .u8 b] W fun e w' => e = .returned (.int .i64 n) ∧ W = w') := ⟨fun W => by rw [← hn]; exact long_any b W⟩
  clear hn hh
  by_cases h0 : n = 0
  · subst h0
    clear h
    go_enter Tryd.func34, Tryd.ntmps34
    go_wp2_with fail
    refine (HLG.out _).mono ?_
    rintro e w' ⟨rfl, rfl⟩
    go_wp2
    go_ret
    exact ⟨rfl, Below.refl _ _⟩
  · have h1 : (s.size : Int) < (n : Int) := by omega
    have h2 : ((n : Int) == 0) = false := by simp; omega
    clear h h0
    go_enter Tryd.func34, Tryd.ntmps34
    go_wp2_with fail
    refine (HLG.out _).mono ?_
    rintro e w' ⟨rfl, rfl⟩
    go_wp2
    go_ret
    exact ⟨rfl, Below.refl _ _⟩

/-- What the loop of whole holds to. -/
def WH (w : World) (m n : Nat) (l : List Nat) (v i : Value) (wr : World) : Prop :=
  ∃ k x : Nat, 1 ≤ k ∧ k ≤ n ∧ i = .int .i64 k ∧ v = .int .i64 x ∧ Sl (x = numb m (l.take k)) ∧ Sl (x < 256 * 64 ^ (k - 1)) ∧ Below w.heap.size w wr
theorem bound3 {x k : Nat} (h1 : 1 ≤ k) (h : k ≤ 3) (hx : x < 256 * 64 ^ (k - 1)) : x < 2000000 := by
  match k, h1, h with
  | 1, _, _ => simp at hx; omega
  | 2, _, _ => simp at hx; omega
  | 3, _, _ => simp at hx; omega
theorem bound4 {x k : Nat} (h1 : 1 ≤ k) (h : k ≤ 4) (hx : x < 256 * 64 ^ (k - 1)) : x < 100000000 := by
  match k, h1, h with
  | 1, _, _ => simp at hx; omega
  | 2, _, _ => simp at hx; omega
  | 3, _, _ => simp at hx; omega
  | 4, _, _ => simp at hx; omega
theorem bound_more {x k d : Nat} (h1 : 1 ≤ k) (hd : d < 64) (hx : x < 256 * 64 ^ (k - 1)) : 64 * x + d < 256 * 64 ^ (k + 1 - 1) := by
  obtain ⟨j, rfl⟩ : ∃ j, k = j + 1 := ⟨k - 1, by omega⟩
  simp only [Nat.add_sub_cancel] at hx ⊢
  rw [Nat.pow_succ]
  omega
theorem strOf_inj_beq {t : List Nat} (ht : Small 256 t) (s : ByteArray) (n : Nat) : ((strOf t).toList == (s.extract 0 n).toList) = decide (t = (bytes s).take n) := by
  rw [beq_bytes2, bytes_strOf _ ht, bytes_extract, List.drop_zero]

set_option maxHeartbeats 1000000 in
set_option maxRecDepth 100000 in
theorem whole_1 (s : ByteArray) (w : World) (hs : 0 < s.size) (hL : s.size ≤ 100000) (hlg : long ((bytes s).headD 0) = 1) (_h : 1 ≤ s.size) :
    Calls Tryd.prog 34 #[.string s] w fun e w' => e = .returned (.int .i64 (whole (bytes s) : Nat)) ∧ Below w.heap.size w w' := by
  obtain ⟨b, hb⟩ : ∃ b, (s[0]'hs).toNat = b := ⟨_, rfl⟩
  have hh := headD_bytes s hs
  rw [hb] at hh
  have HLG : Sl (∀ W, Calls Tryd.prog 37 #[.int .u8 b] W fun e w' => e = .returned (.int .i64 1) ∧ W = w') := ⟨fun W => by
    have e := hlg; rw [hh] at e; have := long_any b W; rw [e] at this; exact this⟩
  have LB : Sl ((bytes s).length = s.size) := ⟨bytes_length s⟩
  have HW : Sl (whole (bytes s) = if putL (numb 256 ((bytes s).take 1)) = some ((bytes s).take 1) then 1 else 0) := ⟨by
    unfold whole
    simp only [hlg, bytes_length]
    rw [if_neg (by omega)]⟩
  obtain ⟨r, hr⟩ : ∃ r, b % 256 = r := ⟨_, rfl⟩
  have hb256 : b < 256 := by rw [← hb]; exact UInt8.toNat_lt _
  have hr2 : r < 256 := by omega
  have HR1 : Sl (r = numb 256 ((bytes s).take 1)) := ⟨by rw [numb_one _ _ (by rw [bytes_length]; exact hs), hh, hr]⟩
  have hr' : (b : Int) % 256 = (r : Int) := by omega
  have ht2 : Int.tmod (b : Int) 256 = (r : Int) := by rw [← hr', Int.tmod_eq_emod_of_nonneg (by omega)]
  have hns : ¬ (s.size : Int) < 1 := by omega
  clear hh hlg hr
  go_enter Tryd.func34, Tryd.ntmps34
  go_wp2_with fail
  refine (HLG.out _).mono ?_
  rintro e w' ⟨rfl, rfl⟩
  go_wp2_with fail
  have hb0 : Below w.heap.size w w.drew := (Below.refl _ _).drew
  have z1 : IntKind.i64.wrap (b : Int) = (b : Int) := IntWalk.i64_in _ (by omega)
  have z2 : IntKind.i64.wrap (r : Int) = (r : Int) := IntWalk.i64_in _ (by omega)
  have z3 : IntKind.i64.wrap 256 = 256 := IntWalk.i64_in _ (by omega)
  have z4 : Int.tdiv 256 1 = 256 := rfl
  go_region_held3 (fun W => Below w.heap.size w W) (first | exact hb0 | assumption) (first | (go_at_call 38; refine (pow_ex w _ 1 1 rfl (by decide) (by assumption)).mono ?_; rintro e w4 ⟨rfl, HB4⟩; have hb4 := HB4.out))
  all_goals
    clear hb0 hb4 ht2 z1 z2 z3 z4
    rename Sl (Below w.heap.size w w4) => HB4
    go_wp2
    go_loopw [4, 5] (fun v i wr => WH w 256 1 (bytes s) v i wr) (fun _ i _ => 1 - (intOf i).toNat)
    case atStart => exact ⟨1, r, Nat.le_refl _, by omega, rfl, rfl, HR1, ⟨by simpa using hr2⟩, HB4.out⟩
    case round =>
      obtain ⟨k, x, hk1, hk, rfl, rfl, HX, HBX, hrel⟩ := hrel
      have HR := Sl.mk hrel
      clear hrel
      by_cases hlt : k < 1
      · exfalso; omega
      · have hge : ¬ (k : Int) < 1 := by omega
        have hkn : k = 1 := by omega
        subst hkn
        have hx4 := bound4 hk1 (by decide) HBX.out
        cases hp : putL (x : Int) with
        | none =>
          have HPN := Sl.mk hp
          have HZ : Sl (whole (bytes s) = 0) := ⟨by rw [HW.out, ← HX.out, hp, if_neg (by simp)]⟩
          clear hp
          go_wp2_with fail
          refine (putNo_ex w _ (x : Int) HR.out HPN.out).mono ?_
          rintro e w5 ⟨rfl, HB5⟩
          go_wp2
          go_ret
          exact ⟨by rw [HZ.out]; rfl, HB5.out⟩
        | some t =>
          have HPY := Sl.mk hp
          have hq := strOf_inj_beq (put_small hp) s 1
          by_cases ht : t = (bytes s).take 1
          · have HZ : Sl (whole (bytes s) = 1) := ⟨by rw [HW.out, ← HX.out, hp, if_pos (by rw [ht])]⟩
            rw [decide_eq_true ht] at hq
            clear hp ht
            go_wp2_with fail
            refine (put_ex w _ (x : Int) t HR.out HPY.out).mono ?_
            rintro e w5 ⟨rfl, HB5⟩
            go_wp2
            go_ret
            exact ⟨by rw [HZ.out]; rfl, HB5.out⟩
          · have HZ : Sl (whole (bytes s) = 0) := ⟨by rw [HW.out, ← HX.out, hp, if_neg (fun e => ht (by injection e))]⟩
            rw [decide_eq_false ht] at hq
            clear hp ht
            go_wp2_with fail
            refine (put_ex w _ (x : Int) t HR.out HPY.out).mono ?_
            rintro e w5 ⟨rfl, HB5⟩
            go_wp2
            go_ret
            exact ⟨by rw [HZ.out]; rfl, HB5.out⟩
set_option maxHeartbeats 1000000 in
set_option maxRecDepth 100000 in
theorem whole_2 (s : ByteArray) (w : World) (hs : 0 < s.size) (hL : s.size ≤ 100000) (hlg : long ((bytes s).headD 0) = 2) (h : 2 ≤ s.size) :
    Calls Tryd.prog 34 #[.string s] w fun e w' => e = .returned (.int .i64 (whole (bytes s) : Nat)) ∧ Below w.heap.size w w' := by
  obtain ⟨b, hb⟩ : ∃ b, (s[0]'hs).toNat = b := ⟨_, rfl⟩
  have hh := headD_bytes s hs
  rw [hb] at hh
  have HLG : Sl (∀ W, Calls Tryd.prog 37 #[.int .u8 b] W fun e w' => e = .returned (.int .i64 2) ∧ W = w') := ⟨fun W => by
    have e := hlg; rw [hh] at e; have := long_any b W; rw [e] at this; exact this⟩
  have LB : Sl ((bytes s).length = s.size) := ⟨bytes_length s⟩
  have HW : Sl (whole (bytes s) = if putL (numb 32 ((bytes s).take 2)) = some ((bytes s).take 2) then 2 else 0) := ⟨by
    unfold whole
    simp only [hlg, bytes_length]
    rw [if_neg (by omega)]⟩
  obtain ⟨r, hr⟩ : ∃ r, b % 32 = r := ⟨_, rfl⟩
  have hb256 : b < 256 := by rw [← hb]; exact UInt8.toNat_lt _
  have hr2 : r < 256 := by omega
  have HR1 : Sl (r = numb 32 ((bytes s).take 1)) := ⟨by rw [numb_one _ _ (by rw [bytes_length]; exact hs), hh, hr]⟩
  have hr' : (b : Int) % 32 = (r : Int) := by omega
  have ht2 : Int.tmod (b : Int) 32 = (r : Int) := by rw [← hr', Int.tmod_eq_emod_of_nonneg (by omega)]
  have hns : ¬ (s.size : Int) < 2 := by omega
  clear hh hlg hr
  go_enter Tryd.func34, Tryd.ntmps34
  go_wp2_with fail
  refine (HLG.out _).mono ?_
  rintro e w' ⟨rfl, rfl⟩
  go_wp2_with fail
  have hb0 : Below w.heap.size w w.drew := (Below.refl _ _).drew
  have z1 : IntKind.i64.wrap (b : Int) = (b : Int) := IntWalk.i64_in _ (by omega)
  have z2 : IntKind.i64.wrap (r : Int) = (r : Int) := IntWalk.i64_in _ (by omega)
  have z3 : IntKind.i64.wrap 32 = 32 := IntWalk.i64_in _ (by omega)
  have z4 : Int.tdiv 256 8 = 32 := rfl
  go_region_held3 (fun W => Below w.heap.size w W) (first | exact hb0 | assumption) (first | (go_at_call 38; refine (pow_ex w _ 2 8 rfl (by decide) (by assumption)).mono ?_; rintro e w4 ⟨rfl, HB4⟩; have hb4 := HB4.out))
  all_goals
    clear hb0 hb4 ht2 z1 z2 z3 z4
    rename Sl (Below w.heap.size w w4) => HB4
    go_wp2
    go_loopw [4, 5] (fun v i wr => WH w 32 2 (bytes s) v i wr) (fun _ i _ => 2 - (intOf i).toNat)
    case atStart => exact ⟨1, r, Nat.le_refl _, by omega, rfl, rfl, HR1, ⟨by simpa using hr2⟩, HB4.out⟩
    case round =>
      obtain ⟨k, x, hk1, hk, rfl, rfl, HX, HBX, hrel⟩ := hrel
      have HR := Sl.mk hrel
      clear hrel
      by_cases hlt : k < 2
      · have hks : k < s.size := by omega
        obtain ⟨c, hc⟩ : ∃ c, (s[k]'hks).toNat = c := ⟨_, rfl⟩
        obtain ⟨d, hd⟩ : ∃ d, c % 64 = d := ⟨_, rfl⟩
        have hd' : (c : Int) % 64 = (d : Int) := by omega
        have hd64 : d < 64 := by omega
        have hc256 : c < 256 := by rw [← hc]; exact UInt8.toNat_lt _
        have hxb := bound3 hk1 (by omega) HBX.out
        have HXN : Sl (64 * x + d = numb 32 ((bytes s).take (k + 1))) := ⟨by
          rw [numb_more 32 (bytes s) k hk1 (by rw [LB.out]; exact hks), ← HX.out, bytes_getD s k hks, ← hd, ← hc]; rfl⟩
        have HBN : Sl (64 * x + d < 256 * 64 ^ (k + 1 - 1)) := ⟨bound_more hk1 hd64 HBX.out⟩
        clear hd
        go_wp2
        go_roundw
        case rel => exact ⟨k + 1, 64 * x + d, by omega, by omega, by go_num, by go_num, HXN, HBN, HR.out⟩
        case measure => simp [intOf]; omega
      · have hge : ¬ (k : Int) < 2 := by omega
        have hkn : k = 2 := by omega
        subst hkn
        have hx4 := bound4 hk1 (by decide) HBX.out
        cases hp : putL (x : Int) with
        | none =>
          have HPN := Sl.mk hp
          have HZ : Sl (whole (bytes s) = 0) := ⟨by rw [HW.out, ← HX.out, hp, if_neg (by simp)]⟩
          clear hp
          go_wp2_with fail
          refine (putNo_ex w _ (x : Int) HR.out HPN.out).mono ?_
          rintro e w5 ⟨rfl, HB5⟩
          go_wp2
          go_ret
          exact ⟨by rw [HZ.out]; rfl, HB5.out⟩
        | some t =>
          have HPY := Sl.mk hp
          have hq := strOf_inj_beq (put_small hp) s 2
          by_cases ht : t = (bytes s).take 2
          · have HZ : Sl (whole (bytes s) = 2) := ⟨by rw [HW.out, ← HX.out, hp, if_pos (by rw [ht])]⟩
            rw [decide_eq_true ht] at hq
            clear hp ht
            go_wp2_with fail
            refine (put_ex w _ (x : Int) t HR.out HPY.out).mono ?_
            rintro e w5 ⟨rfl, HB5⟩
            go_wp2
            go_ret
            exact ⟨by rw [HZ.out]; rfl, HB5.out⟩
          · have HZ : Sl (whole (bytes s) = 0) := ⟨by rw [HW.out, ← HX.out, hp, if_neg (fun e => ht (by injection e))]⟩
            rw [decide_eq_false ht] at hq
            clear hp ht
            go_wp2_with fail
            refine (put_ex w _ (x : Int) t HR.out HPY.out).mono ?_
            rintro e w5 ⟨rfl, HB5⟩
            go_wp2
            go_ret
            exact ⟨by rw [HZ.out]; rfl, HB5.out⟩
set_option maxHeartbeats 1000000 in
set_option maxRecDepth 100000 in
theorem whole_3 (s : ByteArray) (w : World) (hs : 0 < s.size) (hL : s.size ≤ 100000) (hlg : long ((bytes s).headD 0) = 3) (h : 3 ≤ s.size) :
    Calls Tryd.prog 34 #[.string s] w fun e w' => e = .returned (.int .i64 (whole (bytes s) : Nat)) ∧ Below w.heap.size w w' := by
  obtain ⟨b, hb⟩ : ∃ b, (s[0]'hs).toNat = b := ⟨_, rfl⟩
  have hh := headD_bytes s hs
  rw [hb] at hh
  have HLG : Sl (∀ W, Calls Tryd.prog 37 #[.int .u8 b] W fun e w' => e = .returned (.int .i64 3) ∧ W = w') := ⟨fun W => by
    have e := hlg; rw [hh] at e; have := long_any b W; rw [e] at this; exact this⟩
  have LB : Sl ((bytes s).length = s.size) := ⟨bytes_length s⟩
  have HW : Sl (whole (bytes s) = if putL (numb 16 ((bytes s).take 3)) = some ((bytes s).take 3) then 3 else 0) := ⟨by
    unfold whole
    simp only [hlg, bytes_length]
    rw [if_neg (by omega)]⟩
  obtain ⟨r, hr⟩ : ∃ r, b % 16 = r := ⟨_, rfl⟩
  have hb256 : b < 256 := by rw [← hb]; exact UInt8.toNat_lt _
  have hr2 : r < 256 := by omega
  have HR1 : Sl (r = numb 16 ((bytes s).take 1)) := ⟨by rw [numb_one _ _ (by rw [bytes_length]; exact hs), hh, hr]⟩
  have hr' : (b : Int) % 16 = (r : Int) := by omega
  have ht2 : Int.tmod (b : Int) 16 = (r : Int) := by rw [← hr', Int.tmod_eq_emod_of_nonneg (by omega)]
  have hns : ¬ (s.size : Int) < 3 := by omega
  clear hh hlg hr
  go_enter Tryd.func34, Tryd.ntmps34
  go_wp2_with fail
  refine (HLG.out _).mono ?_
  rintro e w' ⟨rfl, rfl⟩
  go_wp2_with fail
  have hb0 : Below w.heap.size w w.drew := (Below.refl _ _).drew
  have z1 : IntKind.i64.wrap (b : Int) = (b : Int) := IntWalk.i64_in _ (by omega)
  have z2 : IntKind.i64.wrap (r : Int) = (r : Int) := IntWalk.i64_in _ (by omega)
  have z3 : IntKind.i64.wrap 16 = 16 := IntWalk.i64_in _ (by omega)
  have z4 : Int.tdiv 256 16 = 16 := rfl
  go_region_held3 (fun W => Below w.heap.size w W) (first | exact hb0 | assumption) (first | (go_at_call 38; refine (pow_ex w _ 3 16 rfl (by decide) (by assumption)).mono ?_; rintro e w4 ⟨rfl, HB4⟩; have hb4 := HB4.out))
  all_goals
    clear hb0 hb4 ht2 z1 z2 z3 z4
    rename Sl (Below w.heap.size w w4) => HB4
    go_wp2
    go_loopw [4, 5] (fun v i wr => WH w 16 3 (bytes s) v i wr) (fun _ i _ => 3 - (intOf i).toNat)
    case atStart => exact ⟨1, r, Nat.le_refl _, by omega, rfl, rfl, HR1, ⟨by simpa using hr2⟩, HB4.out⟩
    case round =>
      obtain ⟨k, x, hk1, hk, rfl, rfl, HX, HBX, hrel⟩ := hrel
      have HR := Sl.mk hrel
      clear hrel
      by_cases hlt : k < 3
      · have hks : k < s.size := by omega
        obtain ⟨c, hc⟩ : ∃ c, (s[k]'hks).toNat = c := ⟨_, rfl⟩
        obtain ⟨d, hd⟩ : ∃ d, c % 64 = d := ⟨_, rfl⟩
        have hd' : (c : Int) % 64 = (d : Int) := by omega
        have hd64 : d < 64 := by omega
        have hc256 : c < 256 := by rw [← hc]; exact UInt8.toNat_lt _
        have hxb := bound3 hk1 (by omega) HBX.out
        have HXN : Sl (64 * x + d = numb 16 ((bytes s).take (k + 1))) := ⟨by
          rw [numb_more 16 (bytes s) k hk1 (by rw [LB.out]; exact hks), ← HX.out, bytes_getD s k hks, ← hd, ← hc]; rfl⟩
        have HBN : Sl (64 * x + d < 256 * 64 ^ (k + 1 - 1)) := ⟨bound_more hk1 hd64 HBX.out⟩
        clear hd
        go_wp2
        go_roundw
        case rel => exact ⟨k + 1, 64 * x + d, by omega, by omega, by go_num, by go_num, HXN, HBN, HR.out⟩
        case measure => simp [intOf]; omega
      · have hge : ¬ (k : Int) < 3 := by omega
        have hkn : k = 3 := by omega
        subst hkn
        have hx4 := bound4 hk1 (by decide) HBX.out
        cases hp : putL (x : Int) with
        | none =>
          have HPN := Sl.mk hp
          have HZ : Sl (whole (bytes s) = 0) := ⟨by rw [HW.out, ← HX.out, hp, if_neg (by simp)]⟩
          clear hp
          go_wp2_with fail
          refine (putNo_ex w _ (x : Int) HR.out HPN.out).mono ?_
          rintro e w5 ⟨rfl, HB5⟩
          go_wp2
          go_ret
          exact ⟨by rw [HZ.out]; rfl, HB5.out⟩
        | some t =>
          have HPY := Sl.mk hp
          have hq := strOf_inj_beq (put_small hp) s 3
          by_cases ht : t = (bytes s).take 3
          · have HZ : Sl (whole (bytes s) = 3) := ⟨by rw [HW.out, ← HX.out, hp, if_pos (by rw [ht])]⟩
            rw [decide_eq_true ht] at hq
            clear hp ht
            go_wp2_with fail
            refine (put_ex w _ (x : Int) t HR.out HPY.out).mono ?_
            rintro e w5 ⟨rfl, HB5⟩
            go_wp2
            go_ret
            exact ⟨by rw [HZ.out]; rfl, HB5.out⟩
          · have HZ : Sl (whole (bytes s) = 0) := ⟨by rw [HW.out, ← HX.out, hp, if_neg (fun e => ht (by injection e))]⟩
            rw [decide_eq_false ht] at hq
            clear hp ht
            go_wp2_with fail
            refine (put_ex w _ (x : Int) t HR.out HPY.out).mono ?_
            rintro e w5 ⟨rfl, HB5⟩
            go_wp2
            go_ret
            exact ⟨by rw [HZ.out]; rfl, HB5.out⟩
set_option maxHeartbeats 1000000 in
set_option maxRecDepth 100000 in
theorem whole_4 (s : ByteArray) (w : World) (hs : 0 < s.size) (hL : s.size ≤ 100000) (hlg : long ((bytes s).headD 0) = 4) (h : 4 ≤ s.size) :
    Calls Tryd.prog 34 #[.string s] w fun e w' => e = .returned (.int .i64 (whole (bytes s) : Nat)) ∧ Below w.heap.size w w' := by
  obtain ⟨b, hb⟩ : ∃ b, (s[0]'hs).toNat = b := ⟨_, rfl⟩
  have hh := headD_bytes s hs
  rw [hb] at hh
  have HLG : Sl (∀ W, Calls Tryd.prog 37 #[.int .u8 b] W fun e w' => e = .returned (.int .i64 4) ∧ W = w') := ⟨fun W => by
    have e := hlg; rw [hh] at e; have := long_any b W; rw [e] at this; exact this⟩
  have LB : Sl ((bytes s).length = s.size) := ⟨bytes_length s⟩
  have HW : Sl (whole (bytes s) = if putL (numb 8 ((bytes s).take 4)) = some ((bytes s).take 4) then 4 else 0) := ⟨by
    unfold whole
    simp only [hlg, bytes_length]
    rw [if_neg (by omega)]⟩
  obtain ⟨r, hr⟩ : ∃ r, b % 8 = r := ⟨_, rfl⟩
  have hb256 : b < 256 := by rw [← hb]; exact UInt8.toNat_lt _
  have hr2 : r < 256 := by omega
  have HR1 : Sl (r = numb 8 ((bytes s).take 1)) := ⟨by rw [numb_one _ _ (by rw [bytes_length]; exact hs), hh, hr]⟩
  have hr' : (b : Int) % 8 = (r : Int) := by omega
  have ht2 : Int.tmod (b : Int) 8 = (r : Int) := by rw [← hr', Int.tmod_eq_emod_of_nonneg (by omega)]
  have hns : ¬ (s.size : Int) < 4 := by omega
  clear hh hlg hr
  go_enter Tryd.func34, Tryd.ntmps34
  go_wp2_with fail
  refine (HLG.out _).mono ?_
  rintro e w' ⟨rfl, rfl⟩
  go_wp2_with fail
  have hb0 : Below w.heap.size w w.drew := (Below.refl _ _).drew
  have z1 : IntKind.i64.wrap (b : Int) = (b : Int) := IntWalk.i64_in _ (by omega)
  have z2 : IntKind.i64.wrap (r : Int) = (r : Int) := IntWalk.i64_in _ (by omega)
  have z3 : IntKind.i64.wrap 8 = 8 := IntWalk.i64_in _ (by omega)
  have z4 : Int.tdiv 256 32 = 8 := rfl
  go_region_held3 (fun W => Below w.heap.size w W) (first | exact hb0 | assumption) (first | (go_at_call 38; refine (pow_ex w _ 4 32 rfl (by decide) (by assumption)).mono ?_; rintro e w4 ⟨rfl, HB4⟩; have hb4 := HB4.out))
  all_goals
    clear hb0 hb4 ht2 z1 z2 z3 z4
    rename Sl (Below w.heap.size w w4) => HB4
    go_wp2
    go_loopw [4, 5] (fun v i wr => WH w 8 4 (bytes s) v i wr) (fun _ i _ => 4 - (intOf i).toNat)
    case atStart => exact ⟨1, r, Nat.le_refl _, by omega, rfl, rfl, HR1, ⟨by simpa using hr2⟩, HB4.out⟩
    case round =>
      obtain ⟨k, x, hk1, hk, rfl, rfl, HX, HBX, hrel⟩ := hrel
      have HR := Sl.mk hrel
      clear hrel
      by_cases hlt : k < 4
      · have hks : k < s.size := by omega
        obtain ⟨c, hc⟩ : ∃ c, (s[k]'hks).toNat = c := ⟨_, rfl⟩
        obtain ⟨d, hd⟩ : ∃ d, c % 64 = d := ⟨_, rfl⟩
        have hd' : (c : Int) % 64 = (d : Int) := by omega
        have hd64 : d < 64 := by omega
        have hc256 : c < 256 := by rw [← hc]; exact UInt8.toNat_lt _
        have hxb := bound3 hk1 (by omega) HBX.out
        have HXN : Sl (64 * x + d = numb 8 ((bytes s).take (k + 1))) := ⟨by
          rw [numb_more 8 (bytes s) k hk1 (by rw [LB.out]; exact hks), ← HX.out, bytes_getD s k hks, ← hd, ← hc]; rfl⟩
        have HBN : Sl (64 * x + d < 256 * 64 ^ (k + 1 - 1)) := ⟨bound_more hk1 hd64 HBX.out⟩
        clear hd
        go_wp2
        go_roundw
        case rel => exact ⟨k + 1, 64 * x + d, by omega, by omega, by go_num, by go_num, HXN, HBN, HR.out⟩
        case measure => simp [intOf]; omega
      · have hge : ¬ (k : Int) < 4 := by omega
        have hkn : k = 4 := by omega
        subst hkn
        have hx4 := bound4 hk1 (by decide) HBX.out
        cases hp : putL (x : Int) with
        | none =>
          have HPN := Sl.mk hp
          have HZ : Sl (whole (bytes s) = 0) := ⟨by rw [HW.out, ← HX.out, hp, if_neg (by simp)]⟩
          clear hp
          go_wp2_with fail
          refine (putNo_ex w _ (x : Int) HR.out HPN.out).mono ?_
          rintro e w5 ⟨rfl, HB5⟩
          go_wp2
          go_ret
          exact ⟨by rw [HZ.out]; rfl, HB5.out⟩
        | some t =>
          have HPY := Sl.mk hp
          have hq := strOf_inj_beq (put_small hp) s 4
          by_cases ht : t = (bytes s).take 4
          · have HZ : Sl (whole (bytes s) = 4) := ⟨by rw [HW.out, ← HX.out, hp, if_pos (by rw [ht])]⟩
            rw [decide_eq_true ht] at hq
            clear hp ht
            go_wp2_with fail
            refine (put_ex w _ (x : Int) t HR.out HPY.out).mono ?_
            rintro e w5 ⟨rfl, HB5⟩
            go_wp2
            go_ret
            exact ⟨by rw [HZ.out]; rfl, HB5.out⟩
          · have HZ : Sl (whole (bytes s) = 0) := ⟨by rw [HW.out, ← HX.out, hp, if_neg (fun e => ht (by injection e))]⟩
            rw [decide_eq_false ht] at hq
            clear hp ht
            go_wp2_with fail
            refine (put_ex w _ (x : Int) t HR.out HPY.out).mono ?_
            rintro e w5 ⟨rfl, HB5⟩
            go_wp2
            go_ret
            exact ⟨by rw [HZ.out]; rfl, HB5.out⟩
/-- What whole answers. -/
theorem refWhole_any (s : ByteArray) (w : World) (hs : 0 < s.size) (hL : s.size ≤ 100000) :
    Calls Tryd.prog 34 #[.string s] w fun e w' => e = .returned (.int .i64 (whole' (bytes s) : Nat)) ∧ Below w.heap.size w w' := by
  rw [← whole_eq]
  by_cases h : long ((bytes s).headD 0) = 0 ∨ s.size < long ((bytes s).headD 0)
  · have e : whole (bytes s) = 0 := by
      unfold whole
      simp only [bytes_length]
      rw [if_pos h]
    rw [e]
    exact whole_zero s w hs hL h
  · have h5 := long_le ((bytes s).headD 0)
    obtain ⟨n, hn⟩ : ∃ n, long ((bytes s).headD 0) = n := ⟨_, rfl⟩
    rw [hn] at h h5
    match n, h5 with
    | 0, _ => exact absurd (.inl rfl) h
    | 1, _ => exact whole_1 s w hs hL hn (by omega)
    | 2, _ => exact whole_2 s w hs hL hn (by omega)
    | 3, _ => exact whole_3 s w hs hL hn (by omega)
    | 4, _ => exact whole_4 s w hs hL hn (by omega)
end Go.Proofs.YtnogaaalpfjgcaaDoor.Utf
