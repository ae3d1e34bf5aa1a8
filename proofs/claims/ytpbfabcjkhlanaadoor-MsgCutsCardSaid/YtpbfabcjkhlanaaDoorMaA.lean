/- mask: numberBytes and number. -/
import Derived.Test.YtpbfabcjkhlanaaDoorMore
import Derived.Test.YtpbfabcjkhlanaaDoorMaskPlain
set_option maxRecDepth 100000
namespace Go.Proofs.YtpbfabcjkhlanaaDoor.Mas
open Go.RowKit MaskPlain

/-- Bits that lie apart. -/
theorem or_join (x y i : Nat) (hx : x % 2 ^ i = 0) (hy : y < 2 ^ i) (hb : x + y < 18446744073709551616) : bits .or .u64 (x : Int) (y : Int) = ((x + y : Nat) : Int) := by
  rw [u64_or_nat x y (by omega) (by omega), nat_join i x y hx hy]

end Go.Proofs.YtpbfabcjkhlanaaDoor.Mas
/- mask: the table; a wide length read; Get. -/
set_option maxRecDepth 100000
namespace Go.Proofs.YtpbfabcjkhlanaaDoor.Mas
open Go.RowKit MaskPlain

/-- A row of the table: the first byte, how many follow, the bounds. -/
structure Row where
  first : Nat
  behind : Nat
  least : Nat
  most : Nat
def row0 : Row := ⟨126, 2, 126, 65535⟩
def row1 : Row := ⟨127, 8, 65536, 9223372036854775807⟩
def Row.cells (r : Row) : List Value := [.int .u8 r.first, .int .i64 r.behind, .int .u64 r.least, .int .u64 r.most]
def table : List Value := row0.cells ++ row1.cells
/-- What is answered, as values. -/
def res3 (r : Nat × Nat × Nat) : Value := .tuple #[.int .u64 ((r.1 : Nat) : Int), .int .i64 ((r.2.1 : Nat) : Int), .int .i64 ((r.2.2 : Nat) : Int)]

theorem pow_wrap (M : Nat) (h : M ≤ 64) : IntKind.u64.wrap (IntKind.u64.wrap (2 ^ M) - 1) = ((2 ^ M - 1 : Nat) : Int) := by
  have hp : 0 < 2 ^ M := Nat.two_pow_pos M
  have e : ((2 : Int) ^ M) = ((2 ^ M : Nat) : Int) := by simp
  rw [IntKind.wrap_u64, IntKind.wrap_u64, e]
  by_cases h64 : M = 64
  · subst h64; decide
  · have : 2 ^ M ≤ 2 ^ 63 := Nat.pow_le_pow_right (by omega) (by omega)
    omega
/-- What the shifts give. -/
theorem shifts (B : Nat) (t : List Nat) (hB : B ≤ 8) (hl : t.length ≤ B) (hs : Small 256 t) : ∃ L H : Nat, L = val t * 2 ^ (8 * (B - t.length)) ∧ H = L + 2 ^ (8 * (B - t.length)) - 1 ∧
    IntKind.u64.wrap ((val t : Int) * 2 ^ (8 * (B - t.length))) = (L : Int) ∧ bits .or .u64 (L : Int) (IntKind.u64.wrap (IntKind.u64.wrap (2 ^ (8 * (B - t.length))) - 1)) = (H : Int) ∧ H < 18446744073709551616 := by
  have h1 := getW_small hB hl hs
  obtain ⟨M, hM⟩ : ∃ M, 8 * (B - t.length) = M := ⟨_, rfl⟩
  rw [hM] at h1 ⊢
  have hp : 0 < 2 ^ M := Nat.two_pow_pos M
  refine ⟨_, _, rfl, rfl, ?_, ?_, by omega⟩
  · rw [IntKind.wrap_u64, show (val t : Int) * 2 ^ M = ((val t * 2 ^ M : Nat) : Int) by simp]
    omega
  · rw [pow_wrap M (by omega), or_join _ _ M (by rw [Nat.mul_mod_left]) (by omega) (by omega)]
    congr 1; omega
theorem andNot_128 (c : Nat) (h : c < 256) : bits .andNot .u8 (c : Int) 128 = ((c % 128 : Nat) : Int) := by
  have : ∀ c : Fin 256, bits BinOp.andNot IntKind.u8 (c.val : Int) 128 = ((c.val % 128 : Nat) : Int) := by decide +kernel
  exact this ⟨c, h⟩
def row (k : Nat) : Row := if k = 0 then row0 else row1
theorem row_get (k : Nat) (hk : k < 2) (x : Nat) (xs : List Nat) (hs : Small 256 xs) (h : x % 128 = (row k).first) : getL (x :: xs) = getW (row k).behind (row k).least (row k).most (xs.take (row k).behind) := by
  match k, hk with
  | 0, _ => exact get_narrow x xs h hs
  | 1, _ => exact get_wide x xs h hs
theorem row_ok (k : Nat) : (row k).behind ≤ 8 ∧ 0 < (row k).behind ∧ (row k).first < 256 := by
  unfold row; split <;> exact ⟨by decide, by decide, by decide⟩
/-- No row ahead of the k-th has this first byte. -/
def Past (f k : Nat) : Prop := ∀ j, j < k → f ≠ (row j).first
theorem past_none {f : Nat} (h : Past f 2) (hf : f < 128) : f < 126 := by
  have h0 := h 0 (by decide)
  have h1 := h 1 (by decide)
  simp [row, row0, row1] at h0 h1
  omega
theorem len_nil {w : World} {v : Value} (h : SrcAt w v []) : ∃ a cap, v = .slice a 0 cap := by
  obtain ⟨a, cap, _, _, rfl, _⟩ := h
  exact ⟨a, cap, rfl⟩

end Go.Proofs.YtpbfabcjkhlanaaDoor.Mas
/- mask: Apply. -/
set_option maxRecDepth 100000
namespace Go.Proofs.YtpbfabcjkhlanaaDoor.Mas
open Go.RowKit MaskPlain

theorem i64_and3 (n : Int) : bits .and .i64 n 3 = n % 4 := by
  have h3 : (BitVec.ofInt 64 3).toNat = 2 ^ 2 - 1 := by decide
  have key : (BitVec.ofInt 64 n &&& BitVec.ofInt 64 3).toNat = (n % ((2 ^ 64 : Nat) : Int)).toNat % 2 ^ 2 := by
    rw [BitVec.toNat_and, BitVec.toNat_ofInt, h3, Nat.and_two_pow_sub_one_eq_mod]
  show IntKind.i64.wrap ((BitVec.ofInt 64 n &&& BitVec.ofInt 64 3).toNat : Nat) = n % 4
  rw [key, IntKind.wrap_i64]
  omega
/-- The place's rest. -/
def rest4 (at' : Int) : Nat := (at' % 4).toNat
theorem rest4_lt (at' : Int) : rest4 at' < 4 := by unfold rest4; omega

end Go.Proofs.YtpbfabcjkhlanaaDoor.Mas
