/- A ring as it is used: RingH: block b, places in block p, room for L bytes, the bytes hs that wait; the contracts over it; that of awake. -/
import Derived.Test.YtfgpohfegjomfaaF
namespace Go.Proofs.Ytfgpohfegjomfaa
open Go.RowKit

def RingH (w : World) (b p L : Nat) (hs : List Nat) : Prop := ∃ l a, RingAt w b p l a hs.length ∧ l.length = L ∧ held l a hs.length = hs
/-- A row of bytes of its own: block g is just these bytes. -/
def RowB (w : World) (g : Nat) (bs : List Nat) : Prop := w.heap[g]? = some (.cells (u8s bs).toArray 5 (0, 0))

theorem RingH.le {w : World} {b p L : Nat} {hs : List Nat} (h : RingH w b p L hs) : hs.length ≤ L := by
  obtain ⟨l, a, h, rfl, _⟩ := h; exact h.le
theorem RingH.top {w : World} {b p L : Nat} {hs : List Nat} (h : RingH w b p L hs) : L ≤ 65536 := by
  obtain ⟨l, a, h, rfl, _⟩ := h; exact h.top
theorem RingH.blt {w : World} {b p L : Nat} {hs : List Nat} (h : RingH w b p L hs) : b < w.heap.size := by
  obtain ⟨l, a, h, _⟩ := h; exact h.blt
theorem RingH.plt {w : World} {b p L : Nat} {hs : List Nat} (h : RingH w b p L hs) : p < w.heap.size := by
  obtain ⟨l, a, h, _⟩ := h; exact h.plt
theorem RingH.below {w w' : World} {b p L : Nat} {hs : List Nat} (h : RingH w b p L hs) (k : Below w.heap.size w w') : RingH w' b p L hs := by
  obtain ⟨l, a, h, h2, h3⟩ := h; exact ⟨l, a, h.below k, h2, h3⟩
theorem RingAt.two {w w' : World} {b p a n c q : Nat} {l : List Nat} (h : RingAt w b p l a n) (k : Two w w' c q) (h1 : b ≠ c) (h2 : b ≠ q) (h3 : p ≠ c) (h4 : p ≠ q) : RingAt w' b p l a n :=
  ⟨by rw [k.block _ h.blt h1 h2]; exact h.hb, by rw [k.block _ h.plt h3 h4]; exact h.hp, h.ne, h.lt, h.le, h.top, h.small⟩
theorem RingH.two {w w' : World} {b p L c q : Nat} {hs : List Nat} (h : RingH w b p L hs) (k : Two w w' c q) (h1 : b ≠ c) (h2 : b ≠ q) (h3 : p ≠ c) (h4 : p ≠ q) : RingH w' b p L hs := by
  obtain ⟨l, a, h, h5, h6⟩ := h; exact ⟨l, a, h.two k h1 h2 h3 h4, h5, h6⟩
theorem RingH.small {w : World} {b p L : Nat} {hs : List Nat} (h : RingH w b p L hs) : Small 256 hs := by
  obtain ⟨l, a, h, _, h3⟩ := h
  rw [← h3]
  intro x hx
  simp only [held, List.mem_map] at hx
  obtain ⟨i, _, rfl⟩ := hx
  exact h.small.getD (by decide) _
theorem RowB.below {w w' : World} {g : Nat} {bs : List Nat} (h : RowB w g bs) (k : Below w.heap.size w w') : RowB w' g bs := by
  unfold RowB at *; rw [k.block _ (Array.getElem?_eq_some_iff.1 h).1]; exact h
theorem RowB.two {w w' : World} {g b p : Nat} {bs : List Nat} (h : RowB w g bs) (k : Two w w' b p) (h1 : g ≠ b) (h2 : g ≠ p) : RowB w' g bs := by
  unfold RowB at *; rw [k.block _ (Array.getElem?_eq_some_iff.1 h).1 h1 h2]; exact h
theorem RowB.lt {w : World} {g : Nat} {bs : List Nat} (h : RowB w g bs) : g < w.heap.size := (Array.getElem?_eq_some_iff.1 h).1
theorem RowB.src {w : World} {g : Nat} {bs : List Nat} (h : RowB w g bs) : SrcAt w (.slice (some ⟨g, 0, none⟩) bs.length bs.length) bs :=
  ⟨_, _, g, 0, rfl, Nat.le_refl _, fun _ => rfl, fun i hi => by rw [Nat.zero_add, cell_of_row _ _ _ _ _ _ h, List.getElem?_toArray]; exact u8s_get bs i hi⟩
theorem RowB.str {w : World} {g k : Nat} {bs : List Nat} (h : RowB w g bs) (hk : bs.length = k) : (convert 33 9 (.slice (some ⟨g, 0, none⟩) k k)).run Try.prog w = .ok (.string (strOf bs)) w := by
  subst hk
  refine run_convert_bytes_arg _ 33 5 Try.underlying33 Try.underlying5 g 0 bs.length bs.length (bs.map fun (n : Nat) => (n : Int)) (by simp) (fun i hi => ?_) 9 Try.underlying9
  have hi' : i < bs.length := by simpa using hi
  rw [Nat.zero_add, cell_of_row _ _ _ _ _ _ h, List.getElem?_toArray, u8s_get bs i hi']
  simp [List.getD, List.getElem?_eq_getElem hi']
theorem SrcAt.off {w : World} {v : Value} {bs : List Nat} (h : SrcAt w v bs) {b : Nat} (hb : w.heap.size ≤ b) : SrcN w b v bs := by
  obtain ⟨a, cap, sb, so, h0, h1, h3, h5⟩ := h
  refine ⟨a, cap, sb, so, h0, h1, h3, fun hp => ?_, h5⟩
  have := block_lt_of_cell (h5 0 hp)
  intro e; simp only at this; omega
theorem SrcAt.offs {w : World} {g n c : Nat} {bs : List Nat} (h : SrcAt w (.slice (some ⟨g, 0, none⟩) n c) bs) {b : Nat} (hb : b < g) : SrcN w b (.slice (some ⟨g, 0, none⟩) n c) bs := by
  obtain ⟨a, cap, sb, so, h0, h1, h3, h5⟩ := h
  refine ⟨a, cap, sb, so, h0, h1, h3, fun hp => ?_, h5⟩
  have e := h3 hp
  injection h0 with h0
  rw [e] at h0
  injection h0 with h0
  injection h0 with h0
  omega

theorem new_ex (w0 W : World) (L : Nat) (h1 : 1 ≤ L) (h2 : L ≤ 65536) (hB : Below w0.heap.size w0 W) :
    Calls Try.prog 9 #[.int .i64 L] W fun e w' => e = .returned (.tuple #[.pointer (some ⟨W.heap.size + 1, 0, none⟩), .int .i64 0]) ∧ Sl (RingH w' (W.heap.size + 1) W.heap.size L []) ∧ Sl (Below W.heap.size W w') ∧ Sl (Below w0.heap.size w0 w') :=
  (new_any L W h1 h2).mono fun _ _ ⟨he, hr, hb, _⟩ => ⟨he, ⟨zs L, 0, hr.out, zs_length L, rfl⟩, hb, ⟨hB.trans (hb.out.mono hB.size)⟩⟩
theorem len_ex (W : World) (b p L n : Nat) (hs : List Nat) (h : RingH W b p L hs) (hn : hs.length = n) :
    Calls Try.prog 17 #[.pointer (some ⟨b, 0, none⟩)] W fun e w' => e = .returned (.int .i64 n) ∧ W = w' := by
  obtain ⟨l, a, h, _, _⟩ := h
  rw [hn] at h
  exact len_any b p a n l W h
theorem room_ex (w0 W : World) (b p L r : Nat) (hs : List Nat) (hB : Below w0.heap.size w0 W) (h : RingH W b p L hs) (hr : L - hs.length = r) :
    Calls Try.prog 18 #[.pointer (some ⟨b, 0, none⟩)] W fun e w' => e = .returned (.int .i64 r) ∧ Sl (RingH w' b p L hs) ∧ Sl (Still W w') ∧ Sl (Below w0.heap.size w0 w') := by
  have h0 := h
  obtain ⟨l, a, h, rfl, _⟩ := h
  exact (room_any b p a hs.length l W h).mono fun _ _ ⟨he, hk⟩ => ⟨by rw [he, hr], ⟨h0.below hk.below⟩, ⟨hk⟩, ⟨hB.trans (hk.below.mono hB.size)⟩⟩
theorem put_ex (w0 W : World) (b p L m : Nat) (hs bs : List Nat) (v : Value) (hB : Below w0.heap.size w0 W) (h1 : w0.heap.size ≤ b) (h2 : w0.heap.size ≤ p) (h : RingH W b p L hs) (hv : SrcN W p v bs) (sm : Small 256 bs) (hL : bs.length ≤ 100000) (hm : min bs.length (L - hs.length) = m) :
    Calls Try.prog 12 #[.pointer (some ⟨b, 0, none⟩), v] W fun e w' => e = .returned (.int .i64 m) ∧ Sl (RingH w' b p L (hs ++ bs.take m)) ∧ Sl (Two W w' b p) ∧ Sl (Below w0.heap.size w0 w') := by
  obtain ⟨l, a, h, hl, hh⟩ := h
  have fin : ∀ (e : Ending) (w' : World), (e = .returned (.int .i64 m) ∧ Sl (∃ l', RingAt w' b p l' a (hs.length + m) ∧ l'.length = l.length ∧ held l' a (hs.length + m) = held l a hs.length ++ bs.take m) ∧ Sl (Two W w' b p)) →
      e = .returned (.int .i64 m) ∧ Sl (RingH w' b p L (hs ++ bs.take m)) ∧ Sl (Two W w' b p) ∧ Sl (Below w0.heap.size w0 w') := by
    rintro e w' ⟨rfl, ⟨l', q1, q2, q3⟩, q4⟩
    have hlen : (hs ++ bs.take m).length = hs.length + m := by rw [List.length_append, List.length_take]; omega
    exact ⟨rfl, ⟨l', a, by rw [hlen]; exact q1, by rw [q2]; exact hl, by rw [hlen, q3, hh]⟩, q4, ⟨q4.out.below hB h1 h2⟩⟩
  by_cases hc : L - hs.length < bs.length
  · exact (put_some b p a hs.length m _ _ _ (L - hs.length) bs.length l bs v W h hv sm hL rfl (by rw [hl]) (by omega) (by omega) rfl rfl rfl).mono fin
  · exact (put_all b p a hs.length m _ _ _ (L - hs.length) bs.length l bs v W h hv sm hL rfl (by rw [hl]) (by omega) (by omega) rfl rfl rfl).mono fin
theorem got_take (hs : List Nat) (z : Int) : hs.take (got hs.length z) = hs.take z.toNat := by
  unfold got
  by_cases h : hs.length ≤ z.toNat
  · rw [Nat.min_eq_left h, List.take_of_length_le (Nat.le_refl _), List.take_of_length_le h]
  · rw [Nat.min_eq_right (by omega)]
theorem got_drop (hs : List Nat) (z : Int) : hs.drop (got hs.length z) = hs.drop z.toNat := by
  unfold got
  by_cases h : hs.length ≤ z.toNat
  · rw [Nat.min_eq_left h, List.drop_eq_nil_of_le (Nat.le_refl _), List.drop_eq_nil_of_le h]
  · rw [Nat.min_eq_right (by omega)]
theorem peek_ex (w0 W : World) (b p L k : Nat) (hs out : List Nat) (z : Int) (hB : Below w0.heap.size w0 W) (h : RingH W b p L hs) (ho : hs.take z.toNat = out) (hk : out.length = k) :
    Calls Try.prog 13 #[.pointer (some ⟨b, 0, none⟩), .int .i64 z] W fun e w' => e = .returned (.slice (some ⟨W.heap.size, 0, none⟩) k k) ∧ Sl (RowB w' W.heap.size out) ∧ Sl (RingH w' b p L hs) ∧ Sl (Below W.heap.size W w') ∧ Sl (Below w0.heap.size w0 w') := by
  have h0 := h
  obtain ⟨l, a, h, hl, hh⟩ := h
  have e1 : got hs.length z = k := by rw [← hk, ← ho, ← got_take, List.length_take]; have := got_le hs.length z; omega
  refine (peek_any b p a hs.length z l W h).mono fun _ _ ⟨he, hr, hb⟩ => ⟨by rw [he, e1], ⟨?_⟩, ⟨h0.below hb.out⟩, hb, ⟨hB.trans (hb.out.mono hB.size)⟩⟩
  have e2 : held l a (got hs.length z) = out := by rw [← held_take l a hs.length _ (got_le _ _), hh, got_take, ho]
  rw [← e2]; exact hr.out
theorem take_ex (w0 W : World) (b p L k : Nat) (hs out rest : List Nat) (z : Int) (hB : Below w0.heap.size w0 W) (h1 : w0.heap.size ≤ b) (h2 : w0.heap.size ≤ p) (h : RingH W b p L hs) (ho : hs.take z.toNat = out) (hk : out.length = k) (hr : hs.drop z.toNat = rest) :
    Calls Try.prog 16 #[.pointer (some ⟨b, 0, none⟩), .int .i64 z] W fun e w' => e = .returned (.slice (some ⟨W.heap.size, 0, none⟩) k k) ∧ Sl (RowB w' W.heap.size out) ∧ Sl (RingH w' b p L rest) ∧ Sl (Two W w' b p) ∧ Sl (Below w0.heap.size w0 w') := by
  obtain ⟨l, a, h, hl, hh⟩ := h
  have hg := got_le hs.length z
  have e1 : got hs.length z = k := by rw [← hk, ← ho, ← got_take, List.length_take]; omega
  refine (take_cells b p a hs.length _ z l W h rfl).mono fun _ w' ⟨he, hx, hq, ht⟩ => ⟨by rw [he, e1], ⟨?_⟩, ⟨?_⟩, ht, ⟨ht.out.below hB h1 h2⟩⟩
  · have e2 : held l a (got hs.length z) = out := by rw [← held_take l a hs.length _ hg, hh, got_take, ho]
    rw [← e2]; exact hx.out
  · have hle := h.le
    have hlt := h.lt
    have e3 : rest.length = hs.length - got hs.length z := by rw [← hr, ← got_drop, List.length_drop]
    refine ⟨l, _, by rw [e3]; exact hq.out, hl, ?_⟩
    rw [e3, held_drop l a hs.length _ hlt hg hle _ (Or.inl rfl) (pos_lt hlt (by omega)), hh, got_drop, hr]
theorem beq_str (bs : List Nat) (h : Small 256 bs) (l : List UInt8) (r : Bool) (hr : decide (bs = l.map (·.toNat)) = r) : ((strOf bs).toList == l) = r := by
  rw [beq_bytes, bytes_strOf bs h, hr]
end Go.Proofs.Ytfgpohfegjomfaa
