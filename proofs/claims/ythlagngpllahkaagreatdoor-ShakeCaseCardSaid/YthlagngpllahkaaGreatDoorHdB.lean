/- Parts of a line, and whether a text may be one: word, text; a token. -/
import Derived.Test.YthlagngpllahkaaGreatDoorHdA
import Derived.Test.YthlagngpllahkaaGreatDoorShelf
import Derived.WalkMore
import Derived.Lib.AppendStr
import Derived.WalkSmall
set_option maxRecDepth 100000
namespace Go.Proofs.YthlagngpllahkaaGreatDoor
open Go.RowKit HeadPlain

theorem bytes_mk (l : List UInt8) : bytes ⟨l.toArray⟩ = toN l := rfl
theorem bytes_toN (s : ByteArray) : bytes s = toN s.data.toList := rfl
def wordB (l : List Nat) : Bool := !l.isEmpty && plainB 33 l
theorem empty_iff (s : ByteArray) : (bytes s).isEmpty = decide (s.size = 0) := by
  rw [← bytes_length]
  cases bytes s <;> simp

theorem word_any (s : ByteArray) (W : World) (hs : s.size ≤ maxLen) : Calls Tryz.prog 132 #[.string s] W fun e w' => e = .returned (.bool (wordB (bytes s))) ∧ w' = W := by
  have HW := Sl.mk (within_any s 33 W hs)
  by_cases h0 : s.size = 0
  · obtain rfl : s = ByteArray.empty := ByteArray.size_eq_zero_iff.1 h0
    have HR : Sl (wordB (bytes ByteArray.empty) = false) := ⟨rfl⟩
    clear HW h0 hs
    go_enter Tryz.func132, Tryz.ntmps132
    go_wp2
    go_ret
    exact ⟨ret_bool HR.out.symm, rfl⟩
  · have hq : (s.toList == []) = false := by
      rw [beq_bytes]
      refine decide_eq_false (fun e => h0 ?_)
      rw [← bytes_length, e]; rfl
    obtain ⟨b, hb⟩ : ∃ b, plainB 33 (bytes s) = b := ⟨_, rfl⟩
    have HR : Sl (wordB (bytes s) = b) := ⟨by unfold wordB; rw [empty_iff, decide_eq_false h0, hb]; rfl⟩
    rw [hb] at HW
    clear hb
    go_enter Tryz.func132, Tryz.ntmps132
    go_wp2_with fail
    refine HW.out.mono ?_
    rintro e w' ⟨rfl, rfl⟩
    go_wp2
    go_ret
    exact ⟨ret_bool HR.out.symm, rfl⟩
theorem text_any (s : ByteArray) (W : World) (hs : s.size ≤ maxLen) : Calls Tryz.prog 131 #[.string s] W fun e w' => e = .returned (.bool (valueB (bytes s))) ∧ Still W w' := by
  have HW := Sl.mk (within_any s 32 W hs)
  obtain ⟨b, hb⟩ : ∃ b, plainB 32 (bytes s) = b := ⟨_, rfl⟩
  rw [hb] at HW
  cases b with
  | false =>
    have HR : Sl (valueB (bytes s) = false) := ⟨by unfold valueB; rw [hb]; rfl⟩
    clear hb
    go_enter Tryz.func131, Tryz.ntmps131
    go_wp2_with fail
    refine HW.out.mono ?_
    rintro e w' ⟨rfl, rfl⟩
    go_wp2
    go_ret
    exact ⟨ret_bool HR.out.symm, Still.refl _⟩
  | true =>
    have HT : Sl (∀ V : World, Calls Tryz.prog 115 #[.string s, .string { data := #[32] }] V fun e w' => e = .returned (.string ⟨(Lib.trimB s.data.toList 32).toArray⟩) ∧ (w' = V ∨ w' = V.drew)) := ⟨fun V => Tryz.strings_Trim_one s 32 (by decide) V (by unfold maxLen at hs; omega)⟩
    obtain ⟨x, hx⟩ : ∃ x : ByteArray, ⟨(Lib.trimB s.data.toList 32).toArray⟩ = x := ⟨_, rfl⟩
    obtain ⟨r, hr⟩ : ∃ r, (x.toList == s.toList) = r := ⟨_, rfl⟩
    have HR : Sl (valueB (bytes s) = r) := ⟨by
      unfold valueB
      rw [hb, Bool.true_and, ← hr, beq_bytes2, ← hx, bytes_mk, bytes_toN, ← libtrim1, toN_beq, Bool.eq_iff_iff, beq_iff_eq, decide_eq_true_eq]⟩
    rw [hx] at HT
    clear hb hx
    go_enter Tryz.func131, Tryz.ntmps131
    go_wp2_with fail
    refine HW.out.mono ?_
    rintro e w' ⟨rfl, rfl⟩
    go_wp2_with fail
    refine (HT.out _).mono ?_
    rintro e w2 ⟨rfl, hw⟩
    have HS : Sl (Still w' w2) := ⟨by rcases hw with rfl | rfl; exact Still.refl _; exact ⟨1, rfl⟩⟩
    clear hw
    go_wp2
    go_ret
    exact ⟨ret_bool HR.out.symm, HS.out⟩

theorem tokB_span (c : Nat) : tokB c = (spanB c || marks.contains c) := rfl
theorem index_span (k : Nat) (hk : k < 3) (W : World) : (Instr.index 150 (.agg spans.toArray) (.int .i64 (k : Int))).run Tryz.prog W = .ok (.agg #[.int .u8 ((([97, 65, 48] : List Nat).getD k 0 : Nat) : Int), .int .u8 ((([122, 90, 57] : List Nat).getD k 0 : Nat) : Int)]) W := by
  match k, hk with
  | 0, _ => show _ = _; kernel_rfl
  | 1, _ => show _ = _; kernel_rfl
  | 2, _ => show _ = _; kernel_rfl
def spanTo (c k : Nat) : Prop := ∀ j, j < k → ¬ (([97, 65, 48] : List Nat).getD j 0 ≤ c ∧ c ≤ ([122, 90, 57] : List Nat).getD j 0)
theorem spanTo_three {c : Nat} (h : spanTo c 3) : spanB c = false := by
  have h0 := h 0 (by decide)
  have h1 := h 1 (by decide)
  have h2 := h 2 (by decide)
  simp only [List.getD_cons_zero, List.getD_cons_succ] at h0 h1 h2
  unfold spanB
  simp only [Bool.or_eq_false_iff, Bool.and_eq_false_iff, decide_eq_false_iff_not]
  omega
theorem span_hit {c k : Nat} (hk : k < 3) (h : ([97, 65, 48] : List Nat).getD k 0 ≤ c ∧ c ≤ ([122, 90, 57] : List Nat).getD k 0) : spanB c = true := by
  unfold spanB
  simp only [Bool.or_eq_true, Bool.and_eq_true, decide_eq_true_eq]
  match k, hk with
  | 0, _ => simp at h; omega
  | 1, _ => simp at h; omega
  | 2, _ => simp at h; omega

set_option maxHeartbeats 1000000 in
set_option maxRecDepth 100000 in
/-- Whether a text is a token. -/
theorem token_any (s : ByteArray) (W : World) (hg : Globs W) (hs : s.size ≤ maxLen) : Calls Tryz.prog 98 #[.string s] W fun e w' => e = .returned (.bool (token (bytes s))) ∧ Sl (Below W.heap.size W w') := by
  unfold maxLen at hs
  have HG := Sl.mk hg
  clear hg
  have HI62 : Sl ((Tryz.prog.info? 150).map (·.size) = some spans.length) := ⟨by kernel_rfl⟩
  go_enter Tryz.func98, Tryz.ntmps98
  go_wp2
  go_step3
  go_wp2
  go_step3
  go_wp2
  go_loopw [8] (fun i wr => ∃ k : Nat, k ≤ s.size ∧ i = .int .i64 k ∧ Sl (Below W.heap.size W wr) ∧ Sl (∀ j, j < k → tokB ((bytes s).getD j 0) = true)) (fun i _ => s.size - (intOf i).toNat)
  case atStart => exact ⟨0, by omega, rfl, ⟨Below.refl _ _⟩, ⟨fun j hj => by omega⟩⟩
  case round =>
    rename World => W0
    obtain ⟨k, hk, rfl, HB, HA⟩ := hrel
    by_cases hlt : k < s.size
    · obtain ⟨c, hc⟩ : ∃ c, (s[k]'hlt).toNat = c := ⟨_, rfl⟩
      have HC : Sl ((bytes s).getD k 0 = c) := ⟨by rw [bytes_getD s k hlt, ← hc]; rfl⟩
      have HG2 : Sl (Globs W0) := ⟨HG.out.of HB.out⟩
      go_wp2_with (first | (refine wpList_load_mid rfl 150 (.global 2) rfl 2 0 rfl spans (.array 3 149) HG2.out.t Tryz.underlying150 rfl HI62.out ?_))
      have HIB : Sl (∀ V : World, Calls Tryz.prog 126 #[.string { data := #[33, 35, 36, 37, 38, 39, 42, 43, 45, 46, 94, 95, 96, 124, 126] }, .int .u8 (c : Int)] V fun e w' => e = .returned (.int .i64 (Lib.indexByte [33, 35, 36, 37, 38, 39, 42, 43, 45, 46, 94, 95, 96, 124, 126] (c : Int).toNat.toUInt8)) ∧ w' = V) := ⟨fun V => Tryz.strings_IndexByte _ _ V⟩
      obtain ⟨z, hz⟩ : ∃ z, Lib.indexByte [33, 35, 36, 37, 38, 39, 42, 43, 45, 46, 94, 95, 96, 124, 126] (c : Int).toNat.toUInt8 = z := ⟨_, rfl⟩
      have hc256 : c < 256 := by rw [← hc]; exact UInt8.toNat_lt _
      have HZ : Sl (decide (z < 0) = !marks.contains c) := ⟨by
        rw [← hz, indexByte_mem]
        rw [show ((c : Int).toNat.toUInt8).toNat = c from by rw [Int.toNat_natCast]; exact UInt8.toNat_ofNat_of_lt' hc256]
        rfl⟩
      rw [hz] at HIB
      clear hz
      go_loopw [12] (fun i wr => ∃ m : Nat, m ≤ 3 ∧ i = .int .i64 m ∧ Sl (Below W.heap.size W wr) ∧ Sl (spanTo c m)) (fun i _ => 3 - (intOf i).toNat)
      case atStart => exact ⟨0, by omega, rfl, HB, ⟨fun j hj => by omega⟩⟩
      case round =>
        obtain ⟨m, hm, rfl, HB2, HS⟩ := hrel
        by_cases hlm : m < 3
        · have hidx := index_span m hlm
          obtain ⟨x, hx⟩ : ∃ x, ([97, 65, 48] : List Nat).getD m 0 = x := ⟨_, rfl⟩
          obtain ⟨y, hy⟩ : ∃ y, ([122, 90, 57] : List Nat).getD m 0 = y := ⟨_, rfl⟩
          have HXY : Sl (([97, 65, 48] : List Nat).getD m 0 = x ∧ ([122, 90, 57] : List Nat).getD m 0 = y) := ⟨hx, hy⟩
          rw [hx, hy] at hidx
          clear hx hy
          by_cases h1 : x ≤ c
          · have h1' : decide ((x : Int) ≤ (c : Int)) = true := decide_eq_true (by omega)
            by_cases h2 : c ≤ y
            · have h2' : decide ((c : Int) ≤ (y : Int)) = true := decide_eq_true (by omega)
              have HSP : Sl (spanB c = true) := ⟨span_hit hlm (by rw [HXY.out.1, HXY.out.2]; exact ⟨h1, h2⟩)⟩
              have HTK : Sl (tokB c = true) := ⟨by rw [tokB_span, HSP.out]; rfl⟩
              go_wp2
              go_quiet (fail)
              go_wp2
              refine ⟨⟨k + 1, by omega, by go_num, ⟨?_⟩, ⟨fun j hj => ?_⟩⟩, by simp [intOf]; omega⟩
              · exact ((HB2.out.alloc HB2.out.size _).trans ((Still.below ⟨_, rfl⟩).mono (by rw [alloc_size]; have := HB2.out.size; omega)))
              · by_cases e : j = k
                · subst e; rw [HC.out]; exact HTK.out
                · exact HA.out j (by omega)
            · have h2' : decide ((c : Int) ≤ (y : Int)) = false := decide_eq_false (by omega)
              go_wp2
              go_quiet (fail)
              go_wp2
              refine ⟨⟨m + 1, by omega, by go_num, ⟨?_⟩, ⟨fun j hj => ?_⟩⟩, by simp [intOf]; omega⟩
              · exact ((HB2.out.alloc HB2.out.size _).trans ((Still.below ⟨_, rfl⟩).mono (by rw [alloc_size]; have := HB2.out.size; omega)))
              · by_cases e : j = m
                · subst e; rw [HXY.out.1, HXY.out.2]; omega
                · exact HS.out j (by omega)
          · have h1' : decide ((x : Int) ≤ (c : Int)) = false := decide_eq_false (by omega)
            go_wp2
            go_quiet (fail)
            go_wp2
            refine ⟨⟨m + 1, by omega, by go_num, ⟨?_⟩, ⟨fun j hj => ?_⟩⟩, by simp [intOf]; omega⟩
            · exact ((HB2.out.alloc HB2.out.size _).trans ((Still.below ⟨_, rfl⟩).mono (by rw [alloc_size]; have := HB2.out.size; omega)))
            · by_cases e : j = m
              · subst e; rw [HXY.out.1, HXY.out.2]; omega
              · exact HS.out j (by omega)
        · have hge : ((m : Int) < 3) = False := eq_false (by omega)
          have HSP : Sl (spanB c = false) := ⟨by
            obtain rfl : m = 3 := by omega
            exact spanTo_three HS.out⟩
          have HTK : Sl (tokB c = marks.contains c) := ⟨by rw [tokB_span, HSP.out]; rfl⟩
          by_cases hz0 : z < 0
          · have HTF : Sl (tokB c = false) := ⟨by
              have := HZ.out
              rw [decide_eq_true hz0] at this
              rw [HTK.out]
              cases h : marks.contains c with
              | false => rfl
              | true => rw [h] at this; cases this⟩
            go_wp2_with fail
            refine (HIB.out _).mono ?_
            rintro e w2 ⟨rfl, rfl⟩
            go_wp2
            rw [Exit.noGoto_ret]
            go_ret
            exact ⟨ret_bool (token_no k hlt (by rw [HC.out]; exact HTF.out)).symm, HB2⟩
          · have HTF : Sl (tokB c = true) := ⟨by
              have := HZ.out
              rw [decide_eq_false hz0] at this
              rw [HTK.out]
              cases h : marks.contains c with
              | false => rw [h] at this; cases this
              | true => rfl⟩
            go_wp2_with fail
            refine (HIB.out _).mono ?_
            rintro e w2 ⟨rfl, rfl⟩
            go_wp2
            refine ⟨⟨k + 1, by omega, by go_num, HB2, ⟨fun j hj => ?_⟩⟩, by simp [intOf]; omega⟩
            by_cases e : j = k
            · subst e; rw [HC.out]; exact HTF.out
            · exact HA.out j (by omega)
    · have hge : ((k : Int) < (s.size : Int)) = False := eq_false (by omega)
      have HT : Sl (token (bytes s) = decide (0 < s.size)) := ⟨token_yes (fun j hj => HA.out j (by omega))⟩
      have hq : (s.toList == []) = !decide (0 < s.size) := by
        rw [beq_bytes, ← bytes_length]
        cases h : bytes s <;> simp
      by_cases h0 : 0 < s.size
      · rw [decide_eq_true h0] at hq HT
        go_wp2
        rw [Exit.noGoto_ret]
        go_ret
        exact ⟨ret_bool (by rw [HT.out]), HB⟩
      · rw [decide_eq_false h0] at hq HT
        go_wp2
        rw [Exit.noGoto_ret]
        go_ret
        exact ⟨ret_bool (by rw [HT.out]), HB⟩
end Go.Proofs.YthlagngpllahkaaGreatDoor
/- A first line's three parts, and a field, whether they may be; slices of fields in memory. -/
namespace Go.Proofs.YthlagngpllahkaaGreatDoor
open Go.RowKit HeadPlain

def fieldB (n v : ByteArray) : Bool := token (bytes n) && valueB (bytes v)
def firstB (a b c : ByteArray) : Bool := wordB (bytes a) && (wordB (bytes b) && valueB (bytes c))

theorem below_trans {u v w : World} (h : Below u.heap.size u v) (k : Below v.heap.size v w) : Below u.heap.size u w := h.trans (k.mono h.size)

theorem field_any (n v : ByteArray) (W : World) (hg : Globs W) (hn : n.size ≤ maxLen) (hv : v.size ≤ maxLen) :
    Calls Tryz.prog 105 #[.agg #[.string n, .string v]] W fun e w' => e = .returned (.bool (fieldB n v)) ∧ Sl (Below W.heap.size W w') := by
  have HT : Sl (∀ V : World, Below W.heap.size W V → Calls Tryz.prog 98 #[.string n] V fun e w' => e = .returned (.bool (token (bytes n))) ∧ Sl (Below V.heap.size V w')) := ⟨fun V h => token_any n V (hg.of h) hn⟩
  have HV : Sl (∀ V : World, Calls Tryz.prog 131 #[.string v] V fun e w' => e = .returned (.bool (valueB (bytes v))) ∧ Still V w') := ⟨fun V => text_any v V hv⟩
  have HR : Sl (fieldB n v = (token (bytes n) && valueB (bytes v))) := ⟨rfl⟩
  obtain ⟨p, hp⟩ : ∃ p, token (bytes n) = p := ⟨_, rfl⟩
  obtain ⟨q, hq⟩ : ∃ q, valueB (bytes v) = q := ⟨_, rfl⟩
  rw [hp] at HT HR
  rw [hq] at HV HR
  clear hp hq hn hv hg
  go_enter Tryz.func105, Tryz.ntmps105
  go_wp2_with fail
  refine (HT.out _ ((Below.refl _ _).alloc (Nat.le_refl _) _)).mono ?_
  rintro e w2 ⟨rfl, HB2⟩
  have HB3 : Sl (Below W.heap.size W w2) := ⟨below_trans ((Below.refl _ _).alloc (Nat.le_refl _) _) HB2.out⟩
  cases p with
  | false =>
    go_wp2
    go_ret
    exact ⟨ret_bool HR.out.symm, HB3⟩
  | true =>
    have HC2 : Sl (w2.heap[W.heap.size]? = some (.cells #[.string n, .string v] 60 (0, 0))) := ⟨by
      rw [HB2.out.block _ (by rw [alloc_size]; omega)]; exact alloc_new _ _ _ rfl⟩
    have c1 : w2.cell? ⟨W.heap.size, 1, none⟩ = some (.string v) := by rw [cell_of_row _ _ _ _ _ _ HC2.out]; rfl
    clear HB2
    go_wp2_with fail
    refine (HV.out _).mono ?_
    rintro e w3 ⟨rfl, hs⟩
    have HB4 : Sl (Below W.heap.size W w3) := ⟨below_trans HB3.out hs.below⟩
    clear hs
    go_wp2
    go_ret
    exact ⟨ret_bool HR.out.symm, HB4⟩
theorem first_any (a b c : ByteArray) (W : World) (ha : a.size ≤ maxLen) (hb : b.size ≤ maxLen) (hc : c.size ≤ maxLen) :
    Calls Tryz.prog 106 #[.agg #[.string a, .string b, .string c]] W fun e w' => e = .returned (.bool (firstB a b c)) ∧ Sl (Below W.heap.size W w') := by
  have HA : Sl (∀ V : World, Calls Tryz.prog 132 #[.string a] V fun e w' => e = .returned (.bool (wordB (bytes a))) ∧ w' = V) := ⟨fun V => word_any a V ha⟩
  have HB : Sl (∀ V : World, Calls Tryz.prog 132 #[.string b] V fun e w' => e = .returned (.bool (wordB (bytes b))) ∧ w' = V) := ⟨fun V => word_any b V hb⟩
  have HV : Sl (∀ V : World, Calls Tryz.prog 131 #[.string c] V fun e w' => e = .returned (.bool (valueB (bytes c))) ∧ Still V w') := ⟨fun V => text_any c V hc⟩
  have HR : Sl (firstB a b c = (wordB (bytes a) && (wordB (bytes b) && valueB (bytes c)))) := ⟨rfl⟩
  obtain ⟨p, hp⟩ : ∃ p, wordB (bytes a) = p := ⟨_, rfl⟩
  obtain ⟨q, hq⟩ : ∃ q, wordB (bytes b) = q := ⟨_, rfl⟩
  obtain ⟨r, hr⟩ : ∃ r, valueB (bytes c) = r := ⟨_, rfl⟩
  rw [hp] at HA HR
  rw [hq] at HB HR
  rw [hr] at HV HR
  clear hp hq hr ha hb hc
  have HB3 : ∀ o, Sl (Below W.heap.size W (W.alloc o)) := fun o => ⟨(Below.refl _ _).alloc (Nat.le_refl _) _⟩
  go_enter Tryz.func106, Tryz.ntmps106
  go_wp2_with fail
  refine (HA.out _).mono ?_
  rintro e w2 ⟨rfl, rfl⟩
  cases p with
  | false =>
    go_wp2
    go_ret
    exact ⟨ret_bool HR.out.symm, HB3 _⟩
  | true =>
    go_wp2_with fail
    refine (HB.out _).mono ?_
    rintro e w2 ⟨rfl, rfl⟩
    cases q with
    | false =>
      go_wp2
      go_ret
      exact ⟨ret_bool HR.out.symm, HB3 _⟩
    | true =>
      go_wp2_with fail
      refine (HV.out _).mono ?_
      rintro e w2 ⟨rfl, hs⟩
      have HB4 : Sl (Below W.heap.size W w2) := ⟨below_trans (HB3 _).out hs.below⟩
      clear hs
      go_wp2
      go_ret
      exact ⟨ret_bool HR.out.symm, HB4⟩
end Go.Proofs.YthlagngpllahkaaGreatDoor
/- Heads as values: their fields in memory; what is told of a head, piece by piece, over whatever the closure keeps. -/
namespace Go.Proofs.YthlagngpllahkaaGreatDoor
open Go.RowKit HeadPlain

/-- A field: its name, its value. -/
abbrev FV := ByteArray × ByteArray
def f0 : FV := (ByteArray.empty, ByteArray.empty)
/-- The two cells of a field lie at the place. -/
def FAt (W : World) (b o : Nat) (x : FV) : Prop :=
  W.cell? ⟨b, o, none⟩ = some (.string x.1) ∧ W.cell? ⟨b, o + 1, none⟩ = some (.string x.2) ∧ x.1.size ≤ maxLen ∧ x.2.size ≤ maxLen
/-- The fields l are the elements of the slice v. -/
def FieldsAt (W : World) (v : Value) (l : List FV) : Prop :=
  ∃ (a : Option Addr) (cap sb so : Nat), v = .slice a l.length cap ∧ l.length ≤ cap ∧ l.length ≤ maxLen ∧ (0 < l.length → a = some ⟨sb, so, none⟩) ∧ ∀ i, i < l.length → FAt W sb (so + i * 2) (l.getD i f0)
theorem FieldsAt.below {w w' : World} {v : Value} {l : List FV} (h : FieldsAt w v l) (hb : Below w.heap.size w w') : FieldsAt w' v l := by
  obtain ⟨a, cap, sb, so, h1, hc, h2, h3, h4⟩ := h
  refine ⟨a, cap, sb, so, h1, hc, h2, h3, fun i hi => ?_⟩
  obtain ⟨g1, g2, g3, g4⟩ := h4 i hi
  have k0 := block_lt_of_cell g1
  exact ⟨by rw [hb.cell (p := ⟨sb, so + i * 2, none⟩) k0]; exact g1, by rw [hb.cell (p := ⟨sb, so + i * 2 + 1, none⟩) k0]; exact g2, g3, g4⟩
/-- A head: its first line's parts, its fields. -/
structure HdV where
  a : ByteArray
  b : ByteArray
  c : ByteArray
  fs : List FV
def fN (f : FV) : List Nat × List Nat := (bytes f.1, bytes f.2)
def HdV.hd (h : HdV) : Hd := ⟨bytes h.a, bytes h.b, bytes h.c, h.fs.map fN⟩
/-- Its value, the fields behind the slice v. -/
def HdV.val (h : HdV) (v : Value) : Value := .agg #[.string h.a, .string h.b, .string h.c, v]
structure HdV.Fit (h : HdV) : Prop where
  a : h.a.size ≤ maxLen
  b : h.b.size ≤ maxLen
  c : h.c.size ≤ maxLen

/-- What the closure that is told pieces keeps. -/
def Keep (W w' : World) : Prop := ∀ (k : Nat) (cs : Array Value) (t : TypeId), (t = 25 ∨ t = 60) → W.heap[k]? = some (.cells cs t (0, 0)) → w'.heap[k]? = some (.cells cs t (0, 0))
theorem Keep.trans {u v w : World} (h : Keep u v) (k : Keep v w) : Keep u w := fun i cs t ht hi => k i cs t ht (h i cs t ht hi)
theorem Keep.alloc {u v : World} (h : Keep u v) (o : Obj) : Keep u (v.alloc o) := fun i cs t ht hi => by
  have := h i cs t ht hi
  rw [alloc_old _ _ _ (Array.getElem?_eq_some_iff.1 this).1]; exact this
theorem Keep.refl (w : World) : Keep w w := fun _ _ _ _ h => h
structure Tells (fid C : Nat) (wB : World) (I : List Nat → World → Prop) : Prop where
  call : ∀ (acc : List Nat) (s : ByteArray) (W : World), I acc W → acc.length + s.size ≤ 10000000 → Calls Tryz.prog fid #[.string s, .pointer (some ⟨C, 0, none⟩)] W fun e (w' : World) => e = .returned (.tuple #[]) ∧ I (acc ++ bytes s) w' ∧ Keep W w'
  alloc : ∀ (acc : List Nat) (W : World) (o : Obj), I acc W → I acc (W.alloc o)
  base : ∀ (acc : List Nat) (W : World), I acc W → Below wB.heap.size wB W
  enter : ∀ (args : Array Value) (W : World), (callFunc fid args).run Tryz.prog W = .ok (.enter fid args) W
theorem Tells.callX {fid C : Nat} {wB : World} {I : List Nat → World → Prop} (h : Tells fid C wB I) (acc acc' : List Nat) (s : ByteArray) (W : World) (hI : I acc W) (hl : acc.length + s.size ≤ 10000000) (he : acc ++ bytes s = acc') :
    Calls Tryz.prog fid #[.string s, .pointer (some ⟨C, 0, none⟩)] W fun e w' => e = .returned (.tuple #[]) ∧ Sl (I acc' w') ∧ Sl (Keep W w') :=
  (h.call acc s W hI hl).mono fun _ _ ⟨he', h1, h2⟩ => ⟨he', ⟨he ▸ h1⟩, ⟨h2⟩⟩

/-- What is told by the k-th field. -/
def told (h : HdV) (k : Nat) : List Nat := join (line1 h.hd :: ((h.fs.take k).map fN).map lineF)
theorem told_zero (h : HdV) : told h 0 = bytes h.a ++ 32 :: (bytes h.b ++ 32 :: (bytes h.c ++ [13, 10])) := by
  simp [told, line1, HdV.hd]
theorem told_succ (h : HdV) (k : Nat) (hk : k < h.fs.length) : told h (k + 1) = told h k ++ (bytes (h.fs.getD k f0).1 ++ 58 :: 32 :: (bytes (h.fs.getD k f0).2 ++ [13, 10])) := by
  unfold told
  rw [List.take_succ_eq_append_getElem hk, List.map_append, List.map_append, ← List.cons_append, join_append]
  have e : h.fs.getD k f0 = h.fs[k] := by simp [List.getD_eq_getElem?_getD, List.getElem?_eq_getElem hk]
  rw [e]
  simp [lineF, fN]
theorem told_all (h : HdV) : told h h.fs.length ++ [13, 10] = text h.hd := by
  unfold told text HdV.hd
  rw [List.take_of_length_le (Nat.le_refl _)]
theorem told_mono (h : HdV) (k : Nat) (hk : k ≤ h.fs.length) : (told h k).length ≤ (text h.hd).length := by
  have key : ∀ d, d ≤ h.fs.length → (told h (h.fs.length - d)).length ≤ (told h h.fs.length).length := by
    intro d
    induction d with
    | zero => intro _; exact Nat.le_refl _
    | succ d ih =>
      intro hd
      have := ih (by omega)
      have e : h.fs.length - d = (h.fs.length - (d + 1)) + 1 := by omega
      rw [e, told_succ h _ (by omega), List.length_append] at this
      omega
  have := key (h.fs.length - k) (by omega)
  rw [show h.fs.length - (h.fs.length - k) = k from by omega] at this
  rw [← told_all, List.length_append]
  omega
/-- What the loop of tell holds to. -/
structure TL (w : World) (I : List Nat → World → Prop) (h : HdV) (v : Value) (B k : Nat) (wr : World) : Prop where
  q : Keep w wr
  i : I (told h k) wr
  x : wr.heap[B]? = some (.cells #[.string h.a, .string h.b, .string h.c, v] 25 (0, 0))
def s32 : ByteArray := { data := #[32] }
def s1310 : ByteArray := { data := #[13, 10] }
def s58 : ByteArray := { data := #[58, 32] }

set_option maxHeartbeats 2000000 in
theorem tell_any (fid C : Nat) (wB : World) (I : List Nat → World → Prop) (hT : Tells fid C wB I) (h : HdV) (v : Value) (w : World) (hI : I [] w) (hv : FieldsAt wB v h.fs) (hL : (text h.hd).length ≤ 1000000) :
    Calls Tryz.prog 61 #[.agg #[.string h.a, .string h.b, .string h.c, v], .func (.func fid) #[] #[.pointer (some ⟨C, 0, none⟩)]] w fun e w' => e = .returned (.tuple #[]) ∧ Sl (I (text h.hd) w') ∧ Sl (Keep w w') := by
  obtain ⟨ad, cap, sb, so, rfl, hcap, hm, had, hcell⟩ := hv
  have HT := Sl.mk hT
  have HCE := Sl.mk hcell
  have HAD := Sl.mk had
  have HL : Sl (∀ k, k ≤ h.fs.length → (told h k).length ≤ 1000000) := ⟨fun k hk => Nat.le_trans (told_mono h k hk) hL⟩
  have L0 : bytes h.a = bytes h.a := rfl
  have HLa : Sl (h.a.size + h.b.size + h.c.size ≤ 1000000) := ⟨by
    have := HL.out 0 (Nat.zero_le _)
    rw [told_zero] at this
    simp only [List.length_append, List.length_cons, bytes_length] at this
    omega⟩
  have HAL : Sl (told h h.fs.length ++ [13, 10] = text h.hd) := ⟨told_all h⟩
  have HI0 : Sl (I [] (w.alloc (.cells #[.string h.a, .string h.b, .string h.c, .slice ad h.fs.length cap] 25))) := ⟨HT.out.alloc _ _ _ hI⟩
  have HX0 : Sl ((w.alloc (.cells #[.string h.a, .string h.b, .string h.c, .slice ad h.fs.length cap] 25)).heap[w.heap.size]? = some (.cells #[.string h.a, .string h.b, .string h.c, .slice ad h.fs.length cap] 25 (0, 0))) := ⟨alloc_new _ _ _ rfl⟩
  have HQ0 : Sl (Keep w (w.alloc (.cells #[.string h.a, .string h.b, .string h.c, .slice ad h.fs.length cap] 25))) := ⟨(Keep.refl _).alloc _⟩
  have hcf := HT.out.enter
  have b32 : Sl (bytes s32 = [32]) := ⟨rfl⟩
  unfold maxLen at hm
  clear hT hcell had hL hI L0
  go_enter Tryz.func61, Tryz.ntmps61
  go_wp2_with fail
  refine (HT.out.callX [] (bytes h.a) h.a _ HI0.out (by simp only [List.length_nil]; have := HLa.out; first | omega | (show _ + 1 ≤ _; omega) | (show _ + 2 ≤ _; omega)) (rfl)).mono ?_
  rintro e w1 ⟨rfl, HI1, HK1⟩
  have HX1 : Sl (w1.heap[w.heap.size]? = some (.cells #[.string h.a, .string h.b, .string h.c, .slice ad h.fs.length cap] 25 (0, 0))) := ⟨HK1.out _ _ _ (Or.inl rfl) HX0.out⟩
  have HQ1 : Sl (Keep w w1) := ⟨HQ0.out.trans HK1.out⟩
  clear HI0 HK1 HX0 HQ0
  go_wp2_with fail
  refine (HT.out.callX (bytes h.a) (bytes h.a ++ [32]) { data := #[32] } _ HI1.out (by simp only [bytes_length]; have := HLa.out; first | omega | (show _ + 1 ≤ _; omega) | (show _ + 2 ≤ _; omega)) (rfl)).mono ?_
  rintro e w2 ⟨rfl, HI2, HK2⟩
  have HX2 : Sl (w2.heap[w.heap.size]? = some (.cells #[.string h.a, .string h.b, .string h.c, .slice ad h.fs.length cap] 25 (0, 0))) := ⟨HK2.out _ _ _ (Or.inl rfl) HX1.out⟩
  have HQ2 : Sl (Keep w w2) := ⟨HQ1.out.trans HK2.out⟩
  clear HI1 HK2 HX1 HQ1
  have d3 : w2.cell? ⟨w.heap.size, 1, none⟩ = some (.string h.b) := by rw [cell_of_row _ _ _ _ _ _ HX2.out]; rfl
  go_wp2_with fail
  refine (HT.out.callX (bytes h.a ++ [32]) (bytes h.a ++ [32] ++ bytes h.b) h.b _ HI2.out (by simp only [List.length_append, List.length_cons, List.length_nil, bytes_length]; have := HLa.out; first | omega | (show _ + 1 ≤ _; omega) | (show _ + 2 ≤ _; omega)) (rfl)).mono ?_
  rintro e w3 ⟨rfl, HI3, HK3⟩
  have HX3 : Sl (w3.heap[w.heap.size]? = some (.cells #[.string h.a, .string h.b, .string h.c, .slice ad h.fs.length cap] 25 (0, 0))) := ⟨HK3.out _ _ _ (Or.inl rfl) HX2.out⟩
  have HQ3 : Sl (Keep w w3) := ⟨HQ2.out.trans HK3.out⟩
  clear HI2 HK3 HX2 HQ2
  clear d3
  go_wp2_with fail
  refine (HT.out.callX (bytes h.a ++ [32] ++ bytes h.b) (bytes h.a ++ [32] ++ bytes h.b ++ [32]) { data := #[32] } _ HI3.out (by simp only [List.length_append, List.length_cons, List.length_nil, bytes_length]; have := HLa.out; first | omega | (show _ + 1 ≤ _; omega) | (show _ + 2 ≤ _; omega)) (rfl)).mono ?_
  rintro e w4 ⟨rfl, HI4, HK4⟩
  have HX4 : Sl (w4.heap[w.heap.size]? = some (.cells #[.string h.a, .string h.b, .string h.c, .slice ad h.fs.length cap] 25 (0, 0))) := ⟨HK4.out _ _ _ (Or.inl rfl) HX3.out⟩
  have HQ4 : Sl (Keep w w4) := ⟨HQ3.out.trans HK4.out⟩
  clear HI3 HK4 HX3 HQ3
  have d5 : w4.cell? ⟨w.heap.size, 2, none⟩ = some (.string h.c) := by rw [cell_of_row _ _ _ _ _ _ HX4.out]; rfl
  go_wp2_with fail
  refine (HT.out.callX (bytes h.a ++ [32] ++ bytes h.b ++ [32]) (bytes h.a ++ [32] ++ bytes h.b ++ [32] ++ bytes h.c) h.c _ HI4.out (by simp only [List.length_append, List.length_cons, List.length_nil, bytes_length]; have := HLa.out; first | omega | (show _ + 1 ≤ _; omega) | (show _ + 2 ≤ _; omega)) (rfl)).mono ?_
  rintro e w5 ⟨rfl, HI5, HK5⟩
  have HX5 : Sl (w5.heap[w.heap.size]? = some (.cells #[.string h.a, .string h.b, .string h.c, .slice ad h.fs.length cap] 25 (0, 0))) := ⟨HK5.out _ _ _ (Or.inl rfl) HX4.out⟩
  have HQ5 : Sl (Keep w w5) := ⟨HQ4.out.trans HK5.out⟩
  clear HI4 HK5 HX4 HQ4
  clear d5
  go_wp2_with fail
  refine (HT.out.callX (bytes h.a ++ [32] ++ bytes h.b ++ [32] ++ bytes h.c) (told h 0) { data := #[13, 10] } _ HI5.out (by simp only [List.length_append, List.length_cons, List.length_nil, bytes_length]; have := HLa.out; first | omega | (show _ + 1 ≤ _; omega) | (show _ + 2 ≤ _; omega)) (by rw [told_zero]; simp only [List.append_assoc]; rfl)).mono ?_
  rintro e w6 ⟨rfl, HI6, HK6⟩
  have HX6 : Sl (w6.heap[w.heap.size]? = some (.cells #[.string h.a, .string h.b, .string h.c, .slice ad h.fs.length cap] 25 (0, 0))) := ⟨HK6.out _ _ _ (Or.inl rfl) HX5.out⟩
  have HQ6 : Sl (Keep w w6) := ⟨HQ5.out.trans HK6.out⟩
  clear HI5 HK6 HX5 HQ5
  have d7 : w6.cell? ⟨w.heap.size, 3, none⟩ = some (.slice ad h.fs.length cap) := by rw [cell_of_row _ _ _ _ _ _ HX6.out]; rfl
  have HTL : Sl (TL w I h (.slice ad h.fs.length cap) w.heap.size 0 w6) := ⟨HQ6.out, HI6.out, HX6.out⟩
  clear HI6 HX6 HQ6
  go_wp2
  go_loopw [30] (fun i wr => ∃ k : Nat, k ≤ h.fs.length ∧ i = .int .i64 k ∧ TL w I h (.slice ad h.fs.length cap) w.heap.size k wr) (fun i _ => h.fs.length - (intOf i).toNat)
  case atStart => exact ⟨0, Nat.zero_le _, rfl, HTL.out⟩
  case round =>
    obtain ⟨k, hk, rfl, hrel⟩ := hrel
    have HR := Sl.mk hrel
    clear hrel HTL
    by_cases hlt : k < h.fs.length
    · obtain rfl := HAD.out (by omega)
      have HB := Sl.mk (HT.out.base _ _ HR.out.i)
      obtain ⟨g1, g2, g3, g4⟩ := HCE.out k hlt
      have HS : Sl (told h (k + 1) = told h k ++ (bytes (h.fs.getD k f0).1 ++ 58 :: 32 :: (bytes (h.fs.getD k f0).2 ++ [13, 10]))) := ⟨told_succ h k hlt⟩
      obtain ⟨f, hf⟩ : ∃ f, h.fs.getD k f0 = f := ⟨_, rfl⟩
      rw [hf] at g1 g2 g3 g4 HS
      clear hf
      obtain ⟨n, x⟩ := f
      simp only at g1 g2 g3 g4 HS
      have HLk : Sl ((told h k).length + n.size + x.size + 4 ≤ 1000000) := ⟨by
        have := HL.out (k + 1) (by omega)
        rw [HS.out] at this
        simp only [List.length_append, List.length_cons, List.length_nil, bytes_length] at this
        omega⟩
      have k0 := block_lt_of_cell g1
      have e0 : wr.cell? ⟨sb, so + k * 2, none⟩ = some (.string n) := by rw [HB.out.cell (p := ⟨sb, so + k * 2, none⟩) k0]; exact g1
      have e1 : wr.cell? ⟨sb, so + k * 2 + 1, none⟩ = some (.string x) := by rw [HB.out.cell (p := ⟨sb, so + k * 2 + 1, none⟩) k0]; exact g2
      have hk0 : (0 : Int) ≤ (k : Int) := by omega
      have hk1 : (k : Int) < (h.fs.length : Int) := by omega
      clear g1 g2 g3 g4 k0
      have HR0 : Sl (Keep w (wr.alloc (.cells #[.string n, .string x] 60))) := ⟨HR.out.q.alloc _⟩
      have HJ0 : Sl (I (told h k) (wr.alloc (.cells #[.string n, .string x] 60))) := ⟨HT.out.alloc _ _ _ HR.out.i⟩
      have HX0 : Sl ((wr.alloc (.cells #[.string n, .string x] 60)).heap[w.heap.size]? = some (.cells #[.string h.a, .string h.b, .string h.c, .slice (some ⟨sb, so, none⟩) h.fs.length cap] 25 (0, 0))) := ⟨by rw [alloc_old _ _ _ (Array.getElem?_eq_some_iff.1 HR.out.x).1]; exact HR.out.x⟩
      have HY0 : Sl ((wr.alloc (.cells #[.string n, .string x] 60)).heap[wr.heap.size]? = some (.cells #[.string n, .string x] 60 (0, 0))) := ⟨alloc_new _ _ _ rfl⟩
      go_wp2_with fail
      refine (HT.out.callX (told h k) (told h k ++ bytes n) n _ HJ0.out (by have := HLk.out; first | omega | (show _ + 2 ≤ _; omega)) (rfl)).mono ?_
      rintro e v1 ⟨rfl, HJ1, HK1⟩
      have HX1 : Sl (v1.heap[w.heap.size]? = some (.cells #[.string h.a, .string h.b, .string h.c, .slice (some ⟨sb, so, none⟩) h.fs.length cap] 25 (0, 0))) := ⟨HK1.out _ _ _ (Or.inl rfl) HX0.out⟩
      have HR1 : Sl (Keep w v1) := ⟨HR0.out.trans HK1.out⟩
      have HY1 : Sl (v1.heap[wr.heap.size]? = some (.cells #[.string n, .string x] 60 (0, 0))) := ⟨HK1.out _ _ _ (Or.inr rfl) HY0.out⟩
      clear HJ0 HK1 HX0 HY0 HR0
      clear e0 e1
      go_wp2_with fail
      refine (HT.out.callX ((told h k ++ bytes n)) (told h k ++ bytes n ++ [58, 32]) { data := #[58, 32] } _ HJ1.out (by simp only [List.length_append, bytes_length]; have := HLk.out; first | omega | (show _ + 2 ≤ _; omega)) (rfl)).mono ?_
      rintro e v2 ⟨rfl, HJ2, HK2⟩
      have HX2 : Sl (v2.heap[w.heap.size]? = some (.cells #[.string h.a, .string h.b, .string h.c, .slice (some ⟨sb, so, none⟩) h.fs.length cap] 25 (0, 0))) := ⟨HK2.out _ _ _ (Or.inl rfl) HX1.out⟩
      have HR2 : Sl (Keep w v2) := ⟨HR1.out.trans HK2.out⟩
      have HY2 : Sl (v2.heap[wr.heap.size]? = some (.cells #[.string n, .string x] 60 (0, 0))) := ⟨HK2.out _ _ _ (Or.inr rfl) HY1.out⟩
      clear HJ1 HK2 HX1 HY1 HR1
      have r3 : v2.cell? ⟨wr.heap.size, 1, none⟩ = some (.string x) := by rw [cell_of_row _ _ _ _ _ _ HY2.out]; rfl
      go_wp2_with fail
      refine (HT.out.callX ((told h k ++ bytes n ++ [58, 32])) (told h k ++ bytes n ++ [58, 32] ++ bytes x) x _ HJ2.out (by simp only [List.length_append, List.length_cons, List.length_nil, bytes_length]; have := HLk.out; first | omega | (show _ + 2 ≤ _; omega)) (rfl)).mono ?_
      rintro e v3 ⟨rfl, HJ3, HK3⟩
      have HX3 : Sl (v3.heap[w.heap.size]? = some (.cells #[.string h.a, .string h.b, .string h.c, .slice (some ⟨sb, so, none⟩) h.fs.length cap] 25 (0, 0))) := ⟨HK3.out _ _ _ (Or.inl rfl) HX2.out⟩
      have HR3 : Sl (Keep w v3) := ⟨HR2.out.trans HK3.out⟩
      have HY3 : Sl (v3.heap[wr.heap.size]? = some (.cells #[.string n, .string x] 60 (0, 0))) := ⟨HK3.out _ _ _ (Or.inr rfl) HY2.out⟩
      clear HJ2 HK3 HX2 HY2 HR2
      clear r3
      go_wp2_with fail
      refine (HT.out.callX ((told h k ++ bytes n ++ [58, 32] ++ bytes x)) (told h (k + 1)) { data := #[13, 10] } _ HJ3.out (by simp only [List.length_append, List.length_cons, List.length_nil, bytes_length]; have := HLk.out; first | omega | (show _ + 2 ≤ _; omega)) (by rw [HS.out]; simp only [List.append_assoc]; rfl)).mono ?_
      rintro e v4 ⟨rfl, HJ4, HK4⟩
      have HX4 : Sl (v4.heap[w.heap.size]? = some (.cells #[.string h.a, .string h.b, .string h.c, .slice (some ⟨sb, so, none⟩) h.fs.length cap] 25 (0, 0))) := ⟨HK4.out _ _ _ (Or.inl rfl) HX3.out⟩
      have HR4 : Sl (Keep w v4) := ⟨HR3.out.trans HK4.out⟩
      have HY4 : Sl (v4.heap[wr.heap.size]? = some (.cells #[.string n, .string x] 60 (0, 0))) := ⟨HK4.out _ _ _ (Or.inr rfl) HY3.out⟩
      clear HJ3 HK4 HX3 HY3 HR3
      go_wp2
      refine ⟨⟨k + 1, by omega, by go_num, HR4.out, HJ4.out, HX4.out⟩, by simp [intOf]; omega⟩
    · have hge : ((k : Int) < (h.fs.length : Int)) = False := eq_false (by omega)
      obtain rfl : k = h.fs.length := by omega
      go_wp2_with fail
      refine (HT.out.callX (told h h.fs.length) (text h.hd) { data := #[13, 10] } _ HR.out.i (by have := HL.out _ (Nat.le_refl _); show _ + 2 ≤ _; omega) (by rw [← HAL.out]; rfl)).mono ?_
      rintro e v1 ⟨rfl, HI1, HK1⟩
      go_wp2
      go_end0
      exact ⟨rfl, HI1, ⟨HR.out.q.trans HK1.out⟩⟩
end Go.Proofs.YthlagngpllahkaaGreatDoor
/- What Check's and Show's closures keep of the pieces that they are told. -/
namespace Go.Proofs.YthlagngpllahkaaGreatDoor
open Go.RowKit HeadPlain

/-- What Check's closure keeps: how many bytes so far. -/
structure CntI (w0 : World) (C : Nat) (acc : List Nat) (W : World) : Prop where
  c : W.heap[C]? = some (.cells #[.int .i64 (acc.length : Int)] 3 (0, 0))
  b : Below w0.heap.size w0 W
/-- What Show's closure keeps: the bytes so far. -/
structure ShowI (w0 : World) (C : Nat) (acc : List Nat) (W : World) : Prop where
  ex : ∃ v, W.heap[C]? = some (.cells #[v] 53 (0, 0)) ∧ W.ownsRow w0.heap.size 5 1 v acc.length (u8s acc)
  b : Below w0.heap.size w0 W

theorem cnt1 (w0 : World) (C : Nat) (acc : List Nat) (s : ByteArray) (W : World) (h : CntI w0 C acc W) (hl : acc.length + s.size ≤ 10000000) :
    Calls Tryz.prog 108 #[.string s, .pointer (some ⟨C, 0, none⟩)] W fun e w' => e = .returned (.tuple #[]) ∧ w' = W.setCell ⟨C, 0, none⟩ (.int .i64 ((acc.length : Int) + (s.size : Int))) := by
  have hc := cell_of_one h.c
  have hf := free_of_one h.c
  clear h
  go_enter Tryz.func108, Tryz.ntmps108
  go_wp2
  go_end0
  exact ⟨rfl, rfl⟩
theorem keep_setCell {W : World} {C : Nat} {x : Value} {t : TypeId} (v : Value) (hC : W.heap[C]? = some (.cells #[x] t (0, 0))) (ht : t ≠ 25 ∧ t ≠ 60) : Keep W (W.setCell ⟨C, 0, none⟩ v) := fun k cs u hu h => by
  rw [heap_setCell_other _ _ _ _ (fun e => by
    simp only at e
    rw [e, hC] at h
    injection h with h
    injection h with _ h2
    rcases hu with rfl | rfl
    · exact ht.1 h2
    · exact ht.2 h2)]
  exact h
theorem cntTells (w0 : World) (C : Nat) (hC : w0.heap.size ≤ C) : Tells 108 C w0 (CntI w0 C) where
  call := fun acc s W h hl => (cnt1 w0 C acc s W h hl).mono fun _ w' ⟨he, hw⟩ => by
    subst hw
    refine ⟨he, ⟨?_, h.b.setCell hC _⟩, keep_setCell _ h.c ⟨by decide, by decide⟩⟩
    rw [one_setCell h.c]; simp [bytes_length]
  alloc := fun acc W o h => ⟨by rw [alloc_old _ _ _ (lt_of_block h.c)]; exact h.c, h.b.alloc h.b.size _⟩
  base := fun acc W h => h.b
  enter := fun args W => by kernel_rfl

theorem strCells_bytes (s : ByteArray) : Lib.strCells s = u8s (bytes s) := by
  unfold Lib.strCells u8s bytes
  rw [List.map_map]
  rfl
theorem infoU8 : ∃ i, Tryz.prog.info? 5 = some i ∧ i.zero = some (.int .u8 0) ∧ i.size = 1 ∧ i.bytes = 1 := by
  have h5 := info5
  cases hi : Tryz.prog.info? 5 with
  | none => rw [hi] at h5; cases h5
  | some i =>
    rw [hi] at h5
    simp only [Option.map_some, Option.some.injEq, Prod.mk.injEq] at h5
    exact ⟨i, rfl, h5.1, h5.2.1, h5.2.2⟩

set_option maxHeartbeats 400000 in
theorem show1 (w0 : World) (C : Nat) (hC : w0.heap.size ≤ C) (acc : List Nat) (s : ByteArray) (W : World) (h : ShowI w0 C acc W) (hl : acc.length + s.size ≤ 10000000) :
    Calls Tryz.prog 62 #[.string s, .pointer (some ⟨C, 0, none⟩)] W fun e w' => e = .returned (.tuple #[]) ∧ ShowI w0 C (acc ++ bytes s) w' ∧ Keep W w' := by
  obtain ⟨i0, hi, hz0, hz1, hz2⟩ := infoU8
  obtain ⟨v, hc, ho⟩ := h.ex
  have HI := Sl.mk hi
  have HZ0 := Sl.mk hz0
  have HZ1 := Sl.mk hz1
  have HZ2 := Sl.mk hz2
  have HC := Sl.mk hc
  have HO := Sl.mk ho
  have HB := Sl.mk h.b
  have cc := cell_of_one hc
  clear h hi hz0 hz1 hz2 hc ho
  go_enter Tryz.func62, Tryz.ntmps62
  go_wp2_with (at_builtin; refine Lib.wpList_append_own_string _ rfl (.tmp 3) (.tmp 4) 53 9 rfl w0.heap.size 5 i0 Tryz.underlying53 Tryz.underlying9 HI.out HZ0.out HZ1.out HZ2.out v acc.length (u8s acc) rfl HO.out s rfl ?c1 ?c2 ?c3 ?_)
  case c1 => unfold maxLen; omega
  case c2 => omega
  case c3 => exact HB.out.size
  intro v' w1 hown' hgrow _
  have hne : v.ownBlock ≠ some C := fun e => by
    obtain ⟨_, h2⟩ := HO.out
    rcases h2 with ⟨rfl, _⟩ | ⟨g, cap, cur, rfl, hg, hh, _⟩
    · cases e
    · have e2 : g = C := by simpa [Value.ownBlock] using e
      rw [e2, HC.out] at hh; cases hh
  have hlt := lt_of_block HC.out
  have hc1 : w1.heap[C]? = some (.cells #[v] 53 (0, 0)) := by
    rw [hgrow.block C hlt (fun e => hne e.symm)]; exact HC.out
  have HK1 : Sl (Keep W w1) := ⟨fun k cs t ht hk => by
    rw [hgrow.block k (lt_of_block hk) (fun e => by
      obtain ⟨_, h2⟩ := HO.out
      rcases h2 with ⟨rfl, _⟩ | ⟨g, cap, cur, rfl, hg, hh, _⟩
      · cases e
      · have e2 : k = g := by simpa [Value.ownBlock] using e
        rw [← e2, hk] at hh
        injection hh with hh
        injection hh with _ h3
        rcases ht with rfl | rfl
        · exact absurd h3 (by decide)
        · exact absurd h3 (by decide))]
    exact hk⟩
  have HB1 : Sl (Below w0.heap.size w0 w1) := ⟨below_grown HB.out HO.out hgrow HB.out.size⟩
  have HO1 := Sl.mk hown'
  have HC1 := Sl.mk hc1
  have cf1 := cell_of_one hc1
  have ff1 := free_of_one hc1
  obtain ⟨av, nv, cv, rfl⟩ : ∃ a n c, v' = .slice a n c := by
    obtain ⟨_, h2⟩ := hown'
    rcases h2 with ⟨rfl, _⟩ | ⟨g, cap, cur, rfl, _⟩
    · exact ⟨_, _, _, rfl⟩
    · exact ⟨_, _, _, rfl⟩
  clear hown' hgrow hne hc1 cc
  go_wp2
  go_end0
  have hne' : (Value.slice av nv cv).ownBlock ≠ some (⟨C, 0, none⟩ : Addr).block := fun e => by
    obtain ⟨_, h2⟩ := HO1.out
    rcases h2 with ⟨h3, _⟩ | ⟨g, cap, cur, h3, hg, hh, _⟩
    · rw [h3] at e; cases e
    · rw [h3] at e
      have e2 : g = C := by simpa [Value.ownBlock] using e
      rw [e2, HC1.out] at hh; cases hh
  refine ⟨rfl, ⟨⟨_, one_setCell HC1.out, ?_⟩, HB1.out.setCell hC _⟩, fun k cs t ht hk => keep_setCell _ HC1.out ⟨by decide, by decide⟩ k cs t ht (HK1.out k cs t ht hk)⟩
  rw [List.length_append, u8s_append, bytes_length, ← strCells_bytes]
  exact ownsRow_setCell_other HO1.out hne' _
theorem showTells (w0 : World) (C : Nat) (hC : w0.heap.size ≤ C) : Tells 62 C w0 (ShowI w0 C) where
  call := fun acc s W h hl => show1 w0 C hC acc s W h hl
  alloc := fun acc W o h => by
    obtain ⟨v, hc, ho⟩ := h.ex
    exact ⟨⟨v, by rw [alloc_old _ _ _ (lt_of_block hc)]; exact hc, ho.alloc _⟩, h.b.alloc h.b.size _⟩
  base := fun acc W h => h.b
  enter := fun args W => by kernel_rfl
end Go.Proofs.YthlagngpllahkaaGreatDoor
/- Check: whether a head may be. -/
namespace Go.Proofs.YthlagngpllahkaaGreatDoor
open Go.RowKit HeadPlain

theorem formB_eq (h : HdV) : formB h.hd = (firstB h.a h.b h.c && h.fs.all fun f => fieldB f.1 f.2) := by
  unfold formB firstB wordB HdV.hd fieldB
  simp only [List.all_map, Bool.and_assoc]
  rfl
/-- Check's answer. -/
def chk (h : HdV) : Nat := if formB h.hd = true then (if 32 < h.fs.length ∨ 2048 < (text h.hd).length then 51 else 0) else 52

theorem wrong_any (n v : ByteArray) (W : World) (hg : Globs W) (hn : n.size ≤ maxLen) (hv : v.size ≤ maxLen) :
    Calls Tryz.prog 104 #[.agg #[.string n, .string v]] W fun e w' => e = .returned (.bool (!fieldB n v)) ∧ Sl (Below W.heap.size W w') := by
  have HF : Sl (∀ V : World, Below W.heap.size W V → Calls Tryz.prog 105 #[.agg #[.string n, .string v]] V fun e w' => e = .returned (.bool (fieldB n v)) ∧ Sl (Below V.heap.size V w')) := ⟨fun V h => field_any n v V (hg.of h) hn hv⟩
  obtain ⟨p, hp⟩ : ∃ p, fieldB n v = p := ⟨_, rfl⟩
  rw [hp] at HF
  rw [hp]
  clear hp hn hv hg
  go_enter Tryz.func104, Tryz.ntmps104
  go_wp2_with fail
  refine (HF.out _ ((Below.refl _ _).alloc (Nat.le_refl _) _)).mono ?_
  rintro e w2 ⟨rfl, HB2⟩
  have HB3 : Sl (Below W.heap.size W w2) := ⟨below_trans ((Below.refl _ _).alloc (Nat.le_refl _) _) HB2.out⟩
  go_wp2
  go_ret
  exact ⟨rfl, HB3⟩

set_option maxHeartbeats 400000 in
theorem index_any (l : List FV) (v : Value) (W : World) (hg : Globs W) (hv : FieldsAt W v l) :
    Calls Tryz.prog 133 #[v, .func (.func 104) #[] #[]] W fun e w' => (∃ z : Int, e = .returned (.int .i64 z) ∧ Sl (decide (0 ≤ z) = !l.all fun f => fieldB f.1 f.2)) ∧ Sl (Below W.heap.size W w') := by
  obtain ⟨ad, cap, sb, so, rfl, hcap, hm, had, hcell⟩ := hv
  have HG := Sl.mk hg
  have HCE := Sl.mk hcell
  have HAD := Sl.mk had
  unfold maxLen at hm
  clear hg hcell had
  go_enter Tryz.func133, Tryz.ntmps133
  go_wp2
  go_loopw [8] (fun i wr => ∃ k : Nat, k ≤ l.length ∧ i = .int .i64 k ∧ Sl (Below W.heap.size W wr) ∧ Sl (∀ j, j < k → fieldB (l.getD j f0).1 (l.getD j f0).2 = true)) (fun i _ => l.length - (intOf i).toNat)
  case atStart => exact ⟨0, Nat.zero_le _, rfl, ⟨Below.refl _ _⟩, ⟨fun j hj => by omega⟩⟩
  case round =>
    obtain ⟨k, hk, rfl, HB, HA⟩ := hrel
    by_cases hlt : k < l.length
    · obtain rfl := HAD.out (by omega)
      obtain ⟨g1, g2, g3, g4⟩ := HCE.out k hlt
      obtain ⟨f, hf⟩ : ∃ f, l.getD k f0 = f := ⟨_, rfl⟩
      have HF := Sl.mk hf
      rw [hf] at g1 g2 g3 g4
      clear hf
      obtain ⟨n, x⟩ := f
      simp only at g1 g2 g3 g4
      have k0 := block_lt_of_cell g1
      have e0 : wr.cell? ⟨sb, so + k * 2, none⟩ = some (.string n) := by rw [HB.out.cell (p := ⟨sb, so + k * 2, none⟩) k0]; exact g1
      have e1 : wr.cell? ⟨sb, so + k * 2 + 1, none⟩ = some (.string x) := by rw [HB.out.cell (p := ⟨sb, so + k * 2 + 1, none⟩) k0]; exact g2
      have HW := Sl.mk (wrong_any n x wr (HG.out.of HB.out) g3 g4)
      have hk0 : (0 : Int) ≤ (k : Int) := by omega
      have hk1 : (k : Int) < (l.length : Int) := by omega
      clear g1 g2 g3 g4 k0
      obtain ⟨p, hp⟩ : ∃ p, fieldB n x = p := ⟨_, rfl⟩
      have HP := Sl.mk hp
      rw [hp] at HW
      clear hp
      go_wp2_with fail
      refine HW.out.mono ?_
      rintro e w2 ⟨rfl, HB2⟩
      have HB3 : Sl (Below W.heap.size W w2) := ⟨below_trans HB.out HB2.out⟩
      clear HW
      cases p with
      | true =>
        go_wp2
        refine ⟨⟨k + 1, by omega, by go_num, HB3, ⟨fun j hj => ?_⟩⟩, by simp [intOf]; omega⟩
        by_cases e : j = k
        · subst e; rw [HF.out]; exact HP.out
        · exact HA.out j (by omega)
      | false =>
        have HN : Sl ((l.all fun f => fieldB f.1 f.2) = false) := ⟨by
          rw [Bool.eq_false_iff]
          intro h
          rw [List.all_eq_true] at h
          have h2 := h (l.getD k f0) (by simp [List.getD_eq_getElem?_getD, List.getElem?_eq_getElem hlt])
          rw [HF.out] at h2
          simp only at h2
          rw [HP.out] at h2
          cases h2⟩
        go_wp2
        go_ret
        exact ⟨⟨_, rfl, ⟨by rw [HN.out, decide_eq_true hk0]; rfl⟩⟩, HB3⟩
    · have hge : ((k : Int) < (l.length : Int)) = False := eq_false (by omega)
      have HY : Sl ((l.all fun f => fieldB f.1 f.2) = true) := ⟨by
        rw [List.all_eq_true]
        intro f hf
        obtain ⟨j, hj, rfl⟩ := List.getElem_of_mem hf
        have := HA.out j (by omega)
        simpa [List.getD_eq_getElem?_getD, List.getElem?_eq_getElem hj] using this⟩
      go_wp2
      go_ret
      exact ⟨⟨_, rfl, ⟨by rw [HY.out]; rfl⟩⟩, HB⟩
theorem contains_any (l : List FV) (v : Value) (W : World) (hg : Globs W) (hv : FieldsAt W v l) :
    Calls Tryz.prog 107 #[v, .func (.func 104) #[] #[]] W fun e w' => e = .returned (.bool (!l.all fun f => fieldB f.1 f.2)) ∧ Sl (Below W.heap.size W w') := by
  have HX := Sl.mk (index_any l v W hg hv)
  clear hg hv
  go_enter Tryz.func107, Tryz.ntmps107
  go_wp2_with fail
  refine HX.out.mono ?_
  rintro e w2 ⟨⟨z, rfl, HZ⟩, HB2⟩
  by_cases hz : 0 ≤ z
  · have HR : Sl ((!l.all fun f => fieldB f.1 f.2) = true) := ⟨by rw [← HZ.out]; exact decide_eq_true hz⟩
    go_wp2
    go_ret
    exact ⟨ret_bool HR.out.symm, HB2⟩
  · go_wp2
    go_ret
    exact ⟨ret_bool HZ.out, HB2⟩

set_option maxHeartbeats 1000000 in
theorem check_any (h : HdV) (v : Value) (W : World) (hg : Globs W) (hv : FieldsAt W v h.fs) (hf : h.Fit) (hL : (text h.hd).length ≤ 1000000) :
    Calls Tryz.prog 55 #[.agg #[.string h.a, .string h.b, .string h.c, v]] W fun e w' => e = .returned (.int .i64 (chk h : Nat)) ∧ Sl (Below W.heap.size W w') := by
  have HG := Sl.mk hg
  have HV := Sl.mk hv
  have HLL := Sl.mk hL
  obtain ⟨vad, vn, vc, hvv, hvn⟩ : ∃ a n c, v = .slice a n c ∧ n = h.fs.length := by obtain ⟨a, cap, _, _, h1, _⟩ := hv; exact ⟨_, _, _, h1, rfl⟩
  subst hvv
  subst hvn
  have HM : Sl (h.fs.length ≤ 9223372036854775807) := ⟨by
    obtain ⟨a, cap, sb, so, h1, hc, h2, h3, h4⟩ := hv
    unfold maxLen at h2; omega⟩
  have hm := HM.out
  have HF1 : Sl (∀ V : World, Calls Tryz.prog 106 #[.agg #[.string h.a, .string h.b, .string h.c]] V fun e w' => e = .returned (.bool (firstB h.a h.b h.c)) ∧ Sl (Below V.heap.size V w')) := ⟨fun V => first_any _ _ _ V hf.a hf.b hf.c⟩
  have HFB := Sl.mk (formB_eq h)
  have HCK : Sl (chk h = if formB h.hd = true then (if 32 < h.fs.length ∨ 2048 < (text h.hd).length then 51 else 0) else 52) := ⟨rfl⟩
  obtain ⟨p, hp⟩ : ∃ p, firstB h.a h.b h.c = p := ⟨_, rfl⟩
  obtain ⟨q, hq⟩ : ∃ q, (h.fs.all fun f => fieldB f.1 f.2) = q := ⟨_, rfl⟩
  obtain ⟨L, hl⟩ : ∃ L, (text h.hd).length = L := ⟨_, rfl⟩
  have HLE := Sl.mk hl
  have HQ := Sl.mk hq
  rw [hp] at HF1 HFB
  rw [hq] at HFB
  rw [hl] at HCK
  rw [HFB.out] at HCK
  clear hp hq hl hg hv hf hL
  go_enter Tryz.func55, Tryz.ntmps55
  go_wp2_with fail
  refine (HF1.out _).mono ?_
  rintro e w2 ⟨rfl, HB2⟩
  have HB3 : Sl (Below W.heap.size W w2) := ⟨below_trans ((Below.refl _ _).alloc (Nat.le_refl _) _) HB2.out⟩
  have HX2 : Sl (w2.heap[W.heap.size]? = some (.cells #[.string h.a, .string h.b, .string h.c, .slice vad h.fs.length vc] 25 (0, 0))) := ⟨by
    rw [HB2.out.block _ (by rw [alloc_size]; omega)]; exact alloc_new _ _ _ rfl⟩
  clear HB2 HF1
  cases p with
  | false =>
    have HR : Sl (chk h = 52) := ⟨by rw [HCK.out]; rfl⟩
    go_wp2
    go_ret
    exact ⟨ret_int (by rw [HR.out]; rfl), HB3⟩
  | true =>
    have c3 : w2.cell? ⟨W.heap.size, 3, none⟩ = some (.slice vad h.fs.length vc) := by rw [cell_of_row _ _ _ _ _ _ HX2.out]; rfl
    go_wp2_with fail
    refine (contains_any h.fs _ _ (HG.out.of HB3.out) (HV.out.below HB3.out)).mono ?_
    rw [HQ.out]
    rintro e w4 ⟨rfl, HB4⟩
    have HX4 : Sl (w4.heap[W.heap.size]? = some (.cells #[.string h.a, .string h.b, .string h.c, .slice vad h.fs.length vc] 25 (0, 0))) := ⟨by
      rw [HB4.out.block _ (lt_of_block HX2.out)]; exact HX2.out⟩
    have HB5 : Sl (Below W.heap.size W w4) := ⟨below_trans HB3.out HB4.out⟩
    clear HB4 HX2 c3 HB3
    cases q with
    | false =>
      have HR : Sl (chk h = 52) := ⟨by rw [HCK.out]; rfl⟩
      go_wp2
      go_ret
      exact ⟨ret_int (by rw [HR.out]; rfl), HB5⟩
    | true =>
      have HX5 : Sl ((w4.alloc (.cells #[.int .i64 0] 3)).heap[W.heap.size]? = some (.cells #[.string h.a, .string h.b, .string h.c, .slice vad h.fs.length vc] 25 (0, 0))) := ⟨by
        rw [alloc_old _ _ _ (lt_of_block HX4.out)]; exact HX4.out⟩
      have d0 : (w4.alloc (.cells #[.int .i64 0] 3)).cell? ⟨W.heap.size, 0, none⟩ = some (.string h.a) := by rw [cell_of_row _ _ _ _ _ _ HX5.out]; rfl
      have d1 : (w4.alloc (.cells #[.int .i64 0] 3)).cell? ⟨W.heap.size, 1, none⟩ = some (.string h.b) := by rw [cell_of_row _ _ _ _ _ _ HX5.out]; rfl
      have d2 : (w4.alloc (.cells #[.int .i64 0] 3)).cell? ⟨W.heap.size, 2, none⟩ = some (.string h.c) := by rw [cell_of_row _ _ _ _ _ _ HX5.out]; rfl
      have d3 : (w4.alloc (.cells #[.int .i64 0] 3)).cell? ⟨W.heap.size, 3, none⟩ = some (.slice vad h.fs.length vc) := by rw [cell_of_row _ _ _ _ _ _ HX5.out]; rfl
      have HI0 : Sl (CntI W w4.heap.size [] (w4.alloc (.cells #[.int .i64 0] 3))) := ⟨⟨alloc_new _ _ _ rfl, HB5.out.alloc HB5.out.size _⟩⟩
      go_wp2_with fail
      refine (tell_any 108 w4.heap.size W (CntI W w4.heap.size) (cntTells W _ HB5.out.size) h _ _ HI0.out HV.out HLL.out).mono ?_
      rintro e w6 ⟨rfl, HI6, HK6⟩
      have HX6 : Sl (w6.heap[W.heap.size]? = some (.cells #[.string h.a, .string h.b, .string h.c, .slice vad h.fs.length vc] 25 (0, 0))) := ⟨HK6.out _ _ _ (Or.inl rfl) HX5.out⟩
      have e3 : w6.cell? ⟨W.heap.size, 3, none⟩ = some (.slice vad h.fs.length vc) := by rw [cell_of_row _ _ _ _ _ _ HX6.out]; rfl
      have e4 : w6.cell? ⟨w4.heap.size, 0, none⟩ = some (.int .i64 (L : Int)) := by rw [cell_of_one HI6.out.c, HLE.out]
      have HB6 : Sl (Below W.heap.size W w6) := ⟨HI6.out.b⟩
      clear d0 d1 d2 d3 HK6 HX6 HX5 HX4 HI0 HI6
      by_cases h1 : 32 < h.fs.length
      · have h1' : (h.fs.length : Int) > 32 := by omega
        have HR : Sl (chk h = 51) := ⟨by rw [HCK.out, if_pos (show (true && true) = true from rfl), if_pos (Or.inl h1)]⟩
        go_wp2
        go_ret
        exact ⟨ret_int (by rw [HR.out]; rfl), HB6⟩
      · have h1' : ((h.fs.length : Int) > 32) = False := eq_false (by omega)
        by_cases h2 : 2048 < L
        · have h2' : (L : Int) > 2048 := by omega
          have HR : Sl (chk h = 51) := ⟨by rw [HCK.out, if_pos (show (true && true) = true from rfl), if_pos (Or.inr h2)]⟩
          go_wp2
          go_ret
          exact ⟨ret_int (by rw [HR.out]; rfl), HB6⟩
        · have h2' : ((L : Int) > 2048) = False := eq_false (by omega)
          have HR : Sl (chk h = 0) := ⟨by rw [HCK.out, if_pos (show (true && true) = true from rfl), if_neg (by omega)]⟩
          go_wp2
          go_ret
          exact ⟨ret_int (by rw [HR.out]; rfl), HB6⟩
end Go.Proofs.YthlagngpllahkaaGreatDoor
/- Show: a head as bytes. -/
namespace Go.Proofs.YthlagngpllahkaaGreatDoor
open Go.RowKit HeadPlain

theorem text_le (h : HdV) (hc : chk h = 0) : formB h.hd = true ∧ h.fs.length ≤ 32 ∧ (text h.hd).length ≤ 2048 := by
  unfold chk at hc
  by_cases h1 : formB h.hd = true
  · rw [if_pos h1] at hc
    by_cases h2 : 32 < h.fs.length ∨ 2048 < (text h.hd).length
    · rw [if_pos h2] at hc; cases hc
    · exact ⟨h1, by omega, by omega⟩
  · rw [if_neg h1] at hc; cases hc

/-- What Show answers: nothing and the error, or a row of its own that holds the bytes. -/
def ShowR (w0 w' : World) (h : HdV) (e : Ending) : Prop :=
  (chk h ≠ 0 ∧ e = .returned (.tuple #[.slice none 0 0, .int .i64 (chk h : Nat)])) ∨
  (chk h = 0 ∧ ∃ v, e = .returned (.tuple #[v, .int .i64 0]) ∧ w'.ownsRow w0.heap.size 5 1 v (text h.hd).length (u8s (text h.hd)))

set_option maxHeartbeats 1000000 in
theorem show_any (h : HdV) (v : Value) (W : World) (hg : Globs W) (hv : FieldsAt W v h.fs) (hf : h.Fit) (hL : (text h.hd).length ≤ 1000000) :
    Calls Tryz.prog 32 #[.agg #[.string h.a, .string h.b, .string h.c, v]] W fun e w' => Sl (ShowR W w' h e) ∧ Sl (Below W.heap.size W w') := by
  have HG := Sl.mk hg
  have HV := Sl.mk hv
  have HLL := Sl.mk hL
  obtain ⟨vad, vn, vc, hvv, hvn⟩ : ∃ a n c, v = .slice a n c ∧ n = h.fs.length := by obtain ⟨a, cap, _, _, h1, _⟩ := hv; exact ⟨_, _, _, h1, rfl⟩
  subst hvv
  subst hvn
  have HC : Sl (∀ V : World, Below W.heap.size W V → Calls Tryz.prog 55 #[.agg #[.string h.a, .string h.b, .string h.c, .slice vad h.fs.length vc]] V fun e w' => e = .returned (.int .i64 (chk h : Nat)) ∧ Sl (Below V.heap.size V w')) := ⟨fun V hb => check_any h _ V (hg.of hb) (hv.below hb) hf hL⟩
  obtain ⟨c, hc⟩ : ∃ c, chk h = c := ⟨_, rfl⟩
  have HCK := Sl.mk hc
  rw [hc] at HC
  clear hg hv hf hL hc
  go_enter Tryz.func32, Tryz.ntmps32
  go_wp2_with fail
  refine (HC.out _ ((Below.refl _ _).alloc (Nat.le_refl _) _)).mono ?_
  rintro e w2 ⟨rfl, HB2⟩
  have HB3 : Sl (Below W.heap.size W w2) := ⟨below_trans ((Below.refl _ _).alloc (Nat.le_refl _) _) HB2.out⟩
  have HX2 : Sl (w2.heap[W.heap.size]? = some (.cells #[.string h.a, .string h.b, .string h.c, .slice vad h.fs.length vc] 25 (0, 0))) := ⟨by
    rw [HB2.out.block _ (by rw [alloc_size]; omega)]; exact alloc_new _ _ _ rfl⟩
  clear HB2 HC
  by_cases h0 : c = 0
  · subst h0
    have HX5 : Sl ((w2.alloc (.cells #[.slice none 0 0] 53)).heap[W.heap.size]? = some (.cells #[.string h.a, .string h.b, .string h.c, .slice vad h.fs.length vc] 25 (0, 0))) := ⟨by
      rw [alloc_old _ _ _ (lt_of_block HX2.out)]; exact HX2.out⟩
    have d0 : (w2.alloc (.cells #[.slice none 0 0] 53)).cell? ⟨W.heap.size, 0, none⟩ = some (.string h.a) := by rw [cell_of_row _ _ _ _ _ _ HX5.out]; rfl
    have d1 : (w2.alloc (.cells #[.slice none 0 0] 53)).cell? ⟨W.heap.size, 1, none⟩ = some (.string h.b) := by rw [cell_of_row _ _ _ _ _ _ HX5.out]; rfl
    have d2 : (w2.alloc (.cells #[.slice none 0 0] 53)).cell? ⟨W.heap.size, 2, none⟩ = some (.string h.c) := by rw [cell_of_row _ _ _ _ _ _ HX5.out]; rfl
    have d3 : (w2.alloc (.cells #[.slice none 0 0] 53)).cell? ⟨W.heap.size, 3, none⟩ = some (.slice vad h.fs.length vc) := by rw [cell_of_row _ _ _ _ _ _ HX5.out]; rfl
    have HI0 : Sl (ShowI W w2.heap.size [] (w2.alloc (.cells #[.slice none 0 0] 53))) := ⟨⟨⟨_, alloc_new _ _ _ rfl, World.ownsRow_nil _ _ _ _⟩, HB3.out.alloc HB3.out.size _⟩⟩
    go_wp2_with fail
    refine (tell_any 62 w2.heap.size W (ShowI W w2.heap.size) (showTells W _ HB3.out.size) h _ _ HI0.out HV.out HLL.out).mono ?_
    rintro e w6 ⟨rfl, HI6, HK6⟩
    have HB6 : Sl (Below W.heap.size W w6) := ⟨HI6.out.b⟩
    obtain ⟨x, hx, hxo⟩ := HI6.out.ex
    have HO := Sl.mk hxo
    have e4 := cell_of_one hx
    clear hx hxo HI6 HK6 d0 d1 d2 d3 HX5 HI0
    go_wp2
    go_ret2
    exact ⟨⟨Or.inr ⟨HCK.out, _, rfl, HO.out⟩⟩, HB6⟩
  · have h0' : ((c : Int) == 0) = false := by simp; omega
    go_wp2
    go_ret2
    exact ⟨⟨Or.inl ⟨by rw [HCK.out]; exact h0, by rw [HCK.out]; rfl⟩⟩, HB3⟩
end Go.Proofs.YthlagngpllahkaaGreatDoor
