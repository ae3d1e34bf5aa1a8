/- A first line's three parts, and a field, whether they may be; slices of fields in memory. -/
import Derived.Test.YtcohecghibndhaaDoorC
namespace Go.Proofs.YtcohecghibndhaaDoor
open Go.RowKit HeadPlain

def fieldB (n v : ByteArray) : Bool := token (bytes n) && valueB (bytes v)
def firstB (a b c : ByteArray) : Bool := wordB (bytes a) && (wordB (bytes b) && valueB (bytes c))

theorem below_trans {u v w : World} (h : Below u.heap.size u v) (k : Below v.heap.size v w) : Below u.heap.size u w := h.trans (k.mono h.size)

theorem field_any (n v : ByteArray) (W : World) (hg : Globs W) (hn : n.size ≤ maxLen) (hv : v.size ≤ maxLen) :
    Calls Tryd.prog 31 #[.agg #[.string n, .string v]] W fun e w' => e = .returned (.bool (fieldB n v)) ∧ Sl (Below W.heap.size W w') := by
  have HT : Sl (∀ V : World, Below W.heap.size W V → Calls Tryd.prog 23 #[.string n] V fun e w' => e = .returned (.bool (token (bytes n))) ∧ Sl (Below V.heap.size V w')) := ⟨fun V h => token_any n V (hg.of h) hn⟩
  have HV : Sl (∀ V : World, Calls Tryd.prog 44 #[.string v] V fun e w' => e = .returned (.bool (valueB (bytes v))) ∧ Still V w') := ⟨fun V => text_any v V hv⟩
  have HR : Sl (fieldB n v = (token (bytes n) && valueB (bytes v))) := ⟨rfl⟩
  obtain ⟨p, hp⟩ : ∃ p, token (bytes n) = p := ⟨_, rfl⟩
  obtain ⟨q, hq⟩ : ∃ q, valueB (bytes v) = q := ⟨_, rfl⟩
  rw [hp] at HT HR
  rw [hq] at HV HR
  clear hp hq hn hv hg
  go_enter Tryd.func31, Tryd.ntmps31
  go_wp2_with fail
  refine (HT.out _ ((Below.refl _ _).alloc (Nat.le_refl _) _)).mono ?_
  rintro e w2 ⟨rfl, HB2⟩
  have HB3 : Sl (Below W.heap.size W w2) := ⟨below_trans ((Below.refl _ _).alloc (Nat.le_refl _) _) HB2.out⟩
  cases p with
  | false =>
    go_wp2
    go_ret
    exact ⟨ret_bool HR.out.symm, HB3⟩
  | true =>
    have HC2 : Sl (w2.heap[W.heap.size]? = some (.cells #[.string n, .string v] 48 (0, 0))) := ⟨by
      rw [HB2.out.block _ (by rw [alloc_size]; omega)]; exact alloc_new _ _ _ rfl⟩
    have c1 : w2.cell? ⟨W.heap.size, 1, none⟩ = some (.string v) := by rw [cell_of_row _ _ _ _ _ _ HC2.out]; rfl
    clear HB2
    go_wp2_with fail
    refine (HV.out _).mono ?_
    rintro e w3 ⟨rfl, hs⟩
    have HB4 : Sl (Below W.heap.size W w3) := ⟨below_trans HB3.out hs.below⟩
    clear hs
    go_wp2
    go_ret
    exact ⟨ret_bool HR.out.symm, HB4⟩
theorem first_any (a b c : ByteArray) (W : World) (ha : a.size ≤ maxLen) (hb : b.size ≤ maxLen) (hc : c.size ≤ maxLen) :
    Calls Tryd.prog 32 #[.agg #[.string a, .string b, .string c]] W fun e w' => e = .returned (.bool (firstB a b c)) ∧ Sl (Below W.heap.size W w') := by
  have HA : Sl (∀ V : World, Calls Tryd.prog 45 #[.string a] V fun e w' => e = .returned (.bool (wordB (bytes a))) ∧ w' = V) := ⟨fun V => word_any a V ha⟩
  have HB : Sl (∀ V : World, Calls Tryd.prog 45 #[.string b] V fun e w' => e = .returned (.bool (wordB (bytes b))) ∧ w' = V) := ⟨fun V => word_any b V hb⟩
  have HV : Sl (∀ V : World, Calls Tryd.prog 44 #[.string c] V fun e w' => e = .returned (.bool (valueB (bytes c))) ∧ Still V w') := ⟨fun V => text_any c V hc⟩
  have HR : Sl (firstB a b c = (wordB (bytes a) && (wordB (bytes b) && valueB (bytes c)))) := ⟨rfl⟩
  obtain ⟨p, hp⟩ : ∃ p, wordB (bytes a) = p := ⟨_, rfl⟩
  obtain ⟨q, hq⟩ : ∃ q, wordB (bytes b) = q := ⟨_, rfl⟩
  obtain ⟨r, hr⟩ : ∃ r, valueB (bytes c) = r := ⟨_, rfl⟩
  rw [hp] at HA HR
  rw [hq] at HB HR
  rw [hr] at HV HR
  clear hp hq hr ha hb hc
  have HB3 : ∀ o, Sl (Below W.heap.size W (W.alloc o)) := fun o => ⟨(Below.refl _ _).alloc (Nat.le_refl _) _⟩
  go_enter Tryd.func32, Tryd.ntmps32
  go_wp2_with fail
  refine (HA.out _).mono ?_
  rintro e w2 ⟨rfl, rfl⟩
  cases p with
  | false =>
    go_wp2
    go_ret
    exact ⟨ret_bool HR.out.symm, HB3 _⟩
  | true =>
    go_wp2_with fail
    refine (HB.out _).mono ?_
    rintro e w2 ⟨rfl, rfl⟩
    cases q with
    | false =>
      go_wp2
      go_ret
      exact ⟨ret_bool HR.out.symm, HB3 _⟩
    | true =>
      go_wp2_with fail
      refine (HV.out _).mono ?_
      rintro e w2 ⟨rfl, hs⟩
      have HB4 : Sl (Below W.heap.size W w2) := ⟨below_trans (HB3 _).out hs.below⟩
      clear hs
      go_wp2
      go_ret
      exact ⟨ret_bool HR.out.symm, HB4⟩
end Go.Proofs.YtcohecghibndhaaDoor
