/- What the library's SplitSeq hands back: a function that tells the pieces of a text between commas, one by one; the text that is left lies in a block of its own, that it writes. -/
import Derived.Test.YtcdpkabbmdannaaDoorG
namespace Go.Proofs.YtcdpkabbmdannaaDoor
open Go.RowKit Go.Shelf HeadPlain Flow

attribute [local go_sem] Oper.semAt_some

def comma : ByteArray := ⟨#[44]⟩
/-- The size of the text that a block holds. -/
def leftIn (W : World) (b : Nat) : Nat := match W.cell? ⟨b, 0, none⟩ with
  | some (.string r) => r.size
  | _ => 0
theorem leftIn_eq {W : World} {b : Nat} {r : ByteArray} (h : W.cell? ⟨b, 0, none⟩ = some (.string r)) : leftIn W b = r.size := by unfold leftIn; rw [h]
/-- A variable's block, of the call's own. -/
def Box (W : World) (b : Nat) (t : TypeId) (v : Value) : Prop := W.heap[b]? = some (.cells #[v] t (0, 0))
theorem Box.cell {W : World} {b : Nat} {t : TypeId} {v : Value} (h : Box W b t v) : W.cell? ⟨b, 0, none⟩ = some v := by simp [World.cell?, show W.heap[b]? = _ from h]
theorem Box.frozen {W : World} {b : Nat} {t : TypeId} {v : Value} (h : Box W b t v) : W.frozen? ⟨b, 0, none⟩ = false := by simp [World.frozen?, show W.heap[b]? = _ from h]
theorem Box.lt {W : World} {b : Nat} {t : TypeId} {v : Value} (h : Box W b t v) : b < W.heap.size := lt_of_some h
theorem Box.set {W : World} {b : Nat} {t : TypeId} {v : Value} (u : Value) (h : Box W b t v) : Box (W.setCell ⟨b, 0, none⟩ u) b t u := Boxed.set u h
theorem Box.other {W : World} {b c : Nat} {t : TypeId} {v : Value} (h : Box W b t v) (hne : b ≠ c) (u : Value) : Box (W.setCell ⟨c, 0, none⟩ u) b t v := Boxed.other h hne u
theorem Box.stay {n₀ : Nat} {X : Nat → Prop} {W W' : World} {b : Nat} {t : TypeId} {v : Value} (h : Box W b t v) (hs : Stay n₀ X W W') (hx : X b) : Box W' b t v := (hs.block b h.lt (.inl hx)).trans h
theorem Box.below {W W' : World} {b : Nat} {t : TypeId} {v : Value} (h : Box W b t v) (hb : Below W.heap.size W W') : Box W' b t v := (hb.block b h.lt).trans h
theorem turn_set {n₀ : Nat} {X : Nat → Prop} {W : World} {b : Nat} (u : Value) (hx : X b) (hn : n₀ ≤ b) : Turn n₀ X W (W.setCell ⟨b, 0, none⟩ u) := Turn.of_grown (grownBy_setCell' W b u) hx hn

theorem ext_size (r : ByteArray) (i : Nat) : (r.extract i r.size).size = r.size - i := by
  rw [ByteArray.size_extract]; omega
def own3 (b : Nat) (r : Nat) : Prop := r = b ∨ r = b + 1 ∨ r = b + 2
set_option maxRecDepth 100000 in
set_option maxHeartbeats 2000000 in
theorem split1_seq (n : Nat) (hn : 4 ≤ n) (n₀ b : Nat) (s : ByteArray) (w : World) (hs : s.size ≤ maxLen) (hb : n₀ ≤ b)
    (h0 : Box w b 9 (.string s)) (h1 : Box w (b + 1) 9 (.string comma)) (h2 : Box w (b + 2) 3 (.int .i64 0)) :
    SeqX Fence.wide n Tryd.prog 47 #[.pointer (some ⟨b + 1, 0, none⟩), .pointer (some ⟨b, 0, none⟩), .pointer (some ⟨b + 2, 0, none⟩)] (fun x : ByteArray => #[Value.string x]) n₀ (own3 b) (cuts s) w := by
  intro l J Jx W hW fJ fJx hY hJ
  replace h0 := Box.below h0 hW
  replace h1 := Box.below h1 hW
  replace h2 := Box.below h2 hW
  clear hW
  unfold maxLen at hs
  have HFJ := Sl.mk fJ
  have HFX := Sl.mk fJx
  have HYY := Sl.mk hY
  clear fJ fJx hY
  have hF49 : Fence.wide.fn 49 := trivial
  have hn1 : 1 ≤ n := by omega
  have hcs : (comma.size : Int) = 1 := rfl
  have b1 := h1.cell
  refine callsIn_of_wp Tryd.func47 rfl trivial ?_ rfl
  simp only [Tryd.ntmps47, List.size_toArray, List.length_cons, List.length_nil, Nat.reduceAdd, Nat.reduceSub, Array.replicate_succ, Array.replicate_zero, List.push_toArray, List.append_toArray, List.nil_append, List.cons_append]
  gi_wp2
  gi_loopw [7, 8] (fun _ _ wr => ∃ (pre : List ByteArray) (r : ByteArray), Sl (cuts s = pre ++ cuts r) ∧ Sl (r.size ≤ s.size) ∧ Sl (J (own3 b) pre wr) ∧ Sl (Box wr b 9 (.string r)) ∧ Sl (Box wr (b + 1) 9 (.string comma)) ∧ Sl (Box wr (b + 2) 3 (.int .i64 0)))
    (fun _ _ wr => leftIn wr b)
  case atStart =>
    exact ⟨[], s, ⟨rfl⟩, ⟨Nat.le_refl _⟩, ⟨hJ⟩, ⟨h0⟩, ⟨h1⟩, ⟨h2⟩⟩
  case round =>
    obtain ⟨pre, r, HC, HL, HJ, B0, B1, B2⟩ := hrel
    have c0 := B0.out.cell
    have f0 := B0.out.frozen
    have c1 := B1.out.cell
    have c2 := B2.out.cell
    have hls : ∀ r', own3 b r' → r' < wr.heap.size := by
      rintro r' (rfl | rfl | rfl)
      · exact B0.out.lt
      · exact B1.out.lt
      · exact B2.out.lt
    have HLS := Sl.mk hls
    clear hls
    have hr0 : (r.size : Int) ≤ 9223372036854775807 := by have := HL.out; omega
    obtain ⟨z, hz⟩ : ∃ z, Lib.indexByte r.data.toList 44 = z := ⟨_, rfl⟩
    have HZ : Sl (z = pos (HeadPlain.fst 44 (bytes r))) := ⟨by rw [← hz, indexByte_pos]; rfl⟩
    have HI : Sl (∀ V : World, Calls Tryd.prog 49 #[.string r, .string comma] V fun e w' => e = .returned (.int .i64 z) ∧ V = w') := ⟨fun V => by rw [← hz]; exact (Tryd.strings_Index_one r 44 V).mono fun _ _ ⟨h1, h2⟩ => ⟨h1, h2.symm⟩⟩
    clear hz
    cases hf : HeadPlain.fst 44 (bytes r) with
    | none =>
      have HCU := Sl.mk (cuts_none hf)
      obtain rfl : z = -1 := by rw [HZ.out, hf]; rfl
      clear hf HZ
      obtain ⟨fn, tmps, assign, body, hy, hR⟩ := HYY.out (own3 b) pre r wr (fun _ h => h) HJ.out HLS.out (by rw [HC.out, HCU.out]; exact List.prefix_rfl)
      have HR := Sl.mk hR
      clear hR
      gi_wp2_with (gi_at_call 49; refine (callsIn_wide.2 (HI.out _)).mono ?_; rintro e w' ⟨rfl, rfl⟩)
      refine HR.out.mono ?_
      have HE : Sl (cuts s = pre ++ [r]) := ⟨by rw [HC.out, HCU.out]⟩
      rintro e W3 (⟨rfl, hJ3, _⟩ | ⟨rfl, hJ3, _⟩)
      · have HJ3 := Sl.mk hJ3
        clear hJ3
        gi_wp2
        go_end0
        exact ⟨⟨_, rfl⟩, .inl (by rw [HE.out]; exact HJ3.out)⟩
      · have HJ3 := Sl.mk hJ3
        clear hJ3
        gi_wp2
        go_end0
        exact ⟨⟨_, rfl⟩, .inr ⟨_, by rw [HE.out]; exact List.prefix_rfl, HJ3.out⟩⟩
    | some i =>
      have HCU := Sl.mk (cuts_some hf)
      have hi := fst_lt hf
      rw [bytes_length] at hi
      obtain rfl : z = (i : Int) := by rw [HZ.out, hf]; rfl
      clear hf HZ
      have hi0 : (0 : Int) ≤ (i : Int) := by omega
      have hi1 : (i : Int) < (r.size : Int) := by omega
      have HE : Sl (cuts s = (pre ++ [r.extract 0 i]) ++ cuts (r.extract (i + 1) r.size)) := ⟨by rw [HC.out, HCU.out, List.append_assoc]; rfl⟩
      obtain ⟨fn, tmps, assign, body, hy, hR⟩ := HYY.out (own3 b) pre (r.extract 0 i) wr (fun _ h => h) HJ.out HLS.out (by rw [HE.out]; exact List.prefix_append _ _)
      have HR := Sl.mk hR
      clear hR
      gi_wp2_with (gi_at_call 49; refine (callsIn_wide.2 (HI.out _)).mono ?_; rintro e w' ⟨rfl, rfl⟩)
      refine HR.out.mono ?_
      rintro e W3 (⟨rfl, hJ3, hS3⟩ | ⟨rfl, hJ3, _⟩)
      · have HJ3 := Sl.mk hJ3
        have D0 := Sl.mk (B0.out.stay hS3 (.inl rfl))
        have D1 := Sl.mk (B1.out.stay hS3 (.inr (.inl rfl)))
        have D2 := Sl.mk (B2.out.stay hS3 (.inr (.inr rfl)))
        clear hJ3 hS3 c0 f0 c1 c2
        have c0 := D0.out.cell
        have f0 := D0.out.frozen
        have c1 := D1.out.cell
        have c2 := D2.out.cell
        gi_wp2
        have D0' := D0.out.set (.string (r.extract (i + 1) r.size))
        refine ⟨⟨_, r.extract (i + 1) r.size, HE, ⟨?_⟩, ⟨HFJ.out.kept HJ3.out (turn_set _ (.inl rfl) hb)⟩, ⟨D0'⟩, ⟨D1.out.other (by omega) _⟩, ⟨D2.out.other (by omega) _⟩⟩, ?_⟩
        · rw [ext_size]; have := HL.out; omega
        · rw [leftIn_eq D0'.cell, leftIn_eq B0.out.cell, ext_size]; omega
      · have HJ3 := Sl.mk hJ3
        clear hJ3
        gi_wp2
        refine bodyPost_ret (results_none rfl _ _ _) rfl ?_
        exact ⟨⟨_, rfl⟩, .inr ⟨_, by rw [HE.out]; exact List.prefix_append _ _, HJ3.out⟩⟩
end Go.Proofs.YtcdpkabbmdannaaDoor
