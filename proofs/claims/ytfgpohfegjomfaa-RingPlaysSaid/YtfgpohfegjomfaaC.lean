/- copy as a law of its own (the block that is written to is known, all others stay), rows made new; the contract of Peek of package ring. -/
import Derived.Test.YtfgpohfegjomfaaB
namespace Go.Proofs.Ytfgpohfegjomfaa
open Go.RowKit

theorem u8s_splice (l c : List Nat) (i : Nat) : Go.splice (u8s l) i (u8s c) = u8s (splice l i c) := by
  simp [Go.splice, splice, u8s]
theorem grown_setRow (w : World) (g : Nat) (cs : Array Value) : w.grownBy (w.setRow g cs) (some g) :=
  ⟨rfl, rfl, rfl, by simp [World.setRow], fun k _ hr => setRow_other w g k cs (fun e => hr (by rw [e]))⟩
section
variable {P : Program} {w : World} {ops : Array Oper} {rest : List Oper} {o : Oper} {a : Act} {Q : Exit → Act → World → Prop}
/-- Bytes are copied into a row of bytes: k of them, cs, to the place off. -/
theorem copy_into (hgd : o.guard = none) (d s : Operand) (dT sT : TypeId)
    (ho : o.op = .call { callee := .builtin .copy, args := #[d, s], argTypes := #[dT, sT] }) (elem : TypeId) (hu : P.underlying dT = some (.slice elem)) (hsz : (P.info? elem).map (·.size) = some 1)
    (dp sp : Option Addr) (dLen dCap sLen sCap : Nat) (hd : a.eval d = .slice dp dLen dCap) (hs : a.eval s = .slice sp sLen sCap)
    (g off k : Nat) (cur cs : List Nat) (t : TypeId) (hg : w.heap[g]? = some (.cells (u8s cur).toArray t (0, 0))) (hk : k = cs.length) (hn : cs.length = min sLen dLen)
    (hpos : 0 < cs.length → dp = some ⟨g, off, none⟩ ∧ ∃ sb so, sp = some ⟨sb, so, none⟩ ∧ ∀ j, j < cs.length → w.cell? ⟨sb, so + j, none⟩ = some (.int .u8 ((cs.getD j 0 : Nat) : Int)))
    (hfit : off + cs.length ≤ cur.length)
    (h : ∀ w', Sl (w'.heap[g]? = some (.cells (u8s (splice cur off cs)).toArray t (0, 0))) → Sl (w.grownBy w' (some g)) → wpList P ops Q rest (a.put o.dst (goInt k)) w') :
    wpList P ops Q (o :: rest) a w := by
  subst hk
  by_cases h0 : cs.length = 0
  · obtain rfl : cs = [] := List.eq_nil_of_length_eq_zero h0
    refine wpList_copy_nothing hgd d s dT sT ho elem hu hsz dp sp dLen dCap sLen sCap hd hs (by simpa using hn.symm) ?_
    exact h w ⟨by simpa [splice] using hg⟩ ⟨grown_refl _ _⟩
  · obtain ⟨rfl, sb, so, rfl, hsrc⟩ := hpos (by omega)
    have hl : (u8s cs).length = cs.length := u8s_length _
    refine wpList_copy_own hgd d s dT sT ho elem hu hsz g off dLen dCap _ sLen sCap hd hs (u8s cur).toArray t hg (u8s cs) (by rw [hl, hn]) (fun j v hv => ?_) (by simpa using hfit) (u8s_one cs) ?_
    · have hj : j < cs.length := by have := (List.getElem?_eq_some_iff.1 hv).1; rwa [hl] at this
      rw [u8s_get _ _ hj] at hv
      injection hv with hv
      subst hv
      rw [Addr.add_mid]
      exact hsrc j hj
    · rw [hl]
      refine h _ ⟨?_⟩ ⟨grown_setRow _ _ _⟩
      have e := u8s_splice cur cs off
      unfold Go.splice at e
      rw [hl] at e
      have e2 := setRow_heap w g (u8s cur).toArray ((u8s cur).toArray.toList.take off ++ (u8s cs ++ (u8s cur).toArray.toList.drop (off + cs.length))).toArray t _ hg
      rw [e2]
      simp only [e]
end
def zs (n : Nat) : List Nat := List.replicate n 0
@[simp] theorem zs_length (n : Nat) : (zs n).length = n := by simp [zs]
theorem zs_small (n : Nat) : Small 256 (zs n) := fun x hx => by simp only [zs, List.mem_replicate] at hx; omega
theorem info5 : (Try.prog.info? 5).map (fun i => (i.zero, i.size, i.bytes)) = some (some (.int .u8 0), 1, 1) := by kernel_rfl
theorem size5 : (Try.prog.info? 5).map (·.size) = some 1 := by kernel_rfl
theorem made_u8 (n : Nat) : madeCells (Value.int .u8 0).cells (n * 1) = (u8s (zs n)).toArray := by
  apply Array.ext_getElem?
  intro i
  by_cases h : i < n <;> simp [madeCells, Value.cells, u8s, v8, zs, Nat.mod_one, h]
theorem make_u8 (X : Int) (n : Nat) (hX : X = (n : Int)) (hn : n ≤ 1000000) (w : World) :
    (Instr.makeSlice 33 (.int .i64 X) (.int .i64 X)).run Try.prog w = .ok (.slice (some ⟨w.heap.size, 0, none⟩) n n) (w.alloc (.cells (u8s (zs n)).toArray 5)) := by
  subst hX
  have h5 := info5
  cases hi : Try.prog.info? 5 with
  | none => rw [hi] at h5; cases h5
  | some i =>
    rw [hi] at h5
    simp only [Option.map_some, Option.some.injEq, Prod.mk.injEq] at h5
    obtain ⟨hz, h1, h2⟩ := h5
    have := run_make (P := Try.prog) w 33 5 i (.int .u8 0) Try.underlying33 hi hz .i64 .i64 (n : Int) (n : Int) (by omega) (by omega) (by rw [h2]; omega) (by omega)
    rw [h1] at this
    rw [show ((n : Int).toNat) = n from by omega, made_u8] at this
    exact this
end Go.Proofs.Ytfgpohfegjomfaa
