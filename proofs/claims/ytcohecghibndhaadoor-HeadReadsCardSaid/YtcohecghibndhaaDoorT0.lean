/- The document's Text, Check; whether two heads are the same. -/
import Derived.Test.YtcohecghibndhaaDoorS0
namespace Go.Proofs.YtcohecghibndhaaDoor
open Go.RowKit HeadPlain

theorem eq48 (a b x y : ByteArray) (W : World) : (Op.equalIn 10000 48 (.agg #[.string a, .string b]) (.agg #[.string x, .string y])).run Tryd.prog W = .ok ((a.toList == x.toList) && (b.toList == y.toList)) W := by
  have ht : Tryd.prog.underlying 48 = some (.struct (Tryd.prog.fieldsOf 48)) := by kernel_rfl
  have hp : Tryd.prog.stoodInHeld 48 = false := by kernel_rfl
  have hf : (Tryd.prog.fieldsOf 48).toList.map (fun f => (f.name, f.type, f.offset)) = [("Name", 9, 0), ("Value", 9, 1)] := by kernel_rfl
  have ha : ∀ w, (isAgg 9).run Tryd.prog w = .ok false w := run_isAgg_plain Tryd.underlying9 rfl
  have e9 : ∀ (p q : ByteArray) (w : World), (Op.equalIn 9999 9 (.string p) (.string q)).run Tryd.prog w = .ok (p.toList == q.toList) w := fun p q w => run_equalIn_string w 9998 9 p q Tryd.underlying9
  have hpt : ∀ (xs : Array Value) (k : Nat) (v : Value) (w : World), xs[k]? = some v → (part 9 xs k).run Tryd.prog w = .ok v w := fun xs k v w h => by
    simp [part, ha, h, Result.andThen]
  rw [run_equalIn_struct W 9999 48 _ _ ht hp]
  generalize (Tryd.prog.fieldsOf 48).toList = fl at *
  have hlen : fl.length = 2 := by simpa using congrArg List.length hf
  match fl, hlen, hf with
  | [f, g], _, hf =>
    simp only [List.map_cons, List.map_nil, List.cons.injEq, Prod.mk.injEq, and_true] at hf
    obtain ⟨⟨n1, t1, o1⟩, ⟨n2, t2, o2⟩⟩ := hf
    have q0 := fun w => hpt #[.string a, .string b] 0 (.string a) w rfl
    have q1 := fun w => hpt #[.string a, .string b] 1 (.string b) w rfl
    have q3 := fun w => hpt #[.string x, .string y] 0 (.string x) w rfl
    have q4 := fun w => hpt #[.string x, .string y] 1 (.string y) w rfl
    cases h1 : (a.toList == x.toList) <;> cases h2 : (b.toList == y.toList) <;>
      simp [Op.eqFields, n1, t1, o1, n2, t2, o2, q0, q1, q3, q4, e9, h1, h2, Result.andThen]

set_option maxHeartbeats 2000000 in
set_option maxRecDepth 100000 in
theorem textR_any (h : HdV) (bx : Value) (W : World) (hv : FieldsAt W bx h.fs) (hL : (text h.hd).length ≤ 1000000) :
    Calls Tryd.prog 17 #[.agg #[.string h.a, .string h.b, .string h.c, bx]] W fun e w' => ∃ t : ByteArray, e = .returned (.string t) ∧ Sl (bytes t = text h.hd) ∧ Sl (Below W.heap.size W w') := by
  obtain ⟨ad, cap, sb, so, rfl, hcap, hm, had, hcell⟩ := hv
  have HCE := Sl.mk hcell
  have HAD := Sl.mk had
  have HLk : Sl (∀ k, k ≤ h.fs.length → (told h k).length ≤ 1000000) := ⟨fun k hk => Nat.le_trans (told_mono h k hk) hL⟩
  have HAL : Sl (told h h.fs.length ++ [13, 10] = text h.hd) := ⟨told_all h⟩
  have HLa : h.a.size + h.b.size + h.c.size ≤ 1000000 := by
    have := HLk.out 0 (Nat.zero_le _)
    rw [told_zero] at this
    simp only [List.length_append, List.length_cons, bytes_length] at this
    omega
  have la : h.a.size ≤ 1000000 := by omega
  have lb : h.b.size ≤ 1000000 := by omega
  have lc : h.c.size ≤ 1000000 := by omega
  unfold maxLen at hm
  clear hcell had hL HLa
  obtain ⟨w1, hw1⟩ : ∃ w1, W.alloc (.cells #[.string h.a, .string h.b, .string h.c, .slice ad h.fs.length cap] 25) = w1 := ⟨_, rfl⟩
  have HB1 : Sl (Below W.heap.size W w1) := ⟨by rw [← hw1]; exact (Below.refl _ _).alloc (Nat.le_refl _) _⟩
  have HX1 : Sl (w1.heap[W.heap.size]? = some (.cells #[.string h.a, .string h.b, .string h.c, .slice ad h.fs.length cap] 25 (0, 0))) := ⟨by rw [← hw1]; exact alloc_new _ _ _ rfl⟩
  obtain ⟨p0, p1, p2, p3⟩ := head_cells HX1.out
  obtain ⟨t0, ht0⟩ : ∃ t0, h.a ++ { data := #[32] } ++ h.b ++ { data := #[32] } ++ h.c ++ { data := #[13, 10] } = t0 := ⟨_, rfl⟩
  have HT0 : Sl (bytes t0 = told h 0) := ⟨by
    rw [← ht0, told_zero]
    simp only [bytes_append, List.append_assoc]
    rfl⟩
  go_enter Tryd.func17, Tryd.ntmps17
  go_wp2
  clear hw1 la lb lc ht0 p0 p1 p2
  go_loopw [3, 4] (fun s i wr => ∃ (k : Nat) (x : ByteArray), k ≤ h.fs.length ∧ s = .string x ∧ i = .int .i64 k ∧ Sl (bytes x = told h k) ∧ Sl (Still w1 wr)) (fun _ i _ => h.fs.length - (intOf i).toNat)
  case atStart => exact ⟨0, _, Nat.zero_le _, rfl, rfl, HT0, ⟨Still.refl _⟩⟩
  case round =>
    obtain ⟨k, x, hk, rfl, rfl, HXT, HST⟩ := hrel
    have b3 : wr.cell? ⟨W.heap.size, 3, none⟩ = some (.slice ad h.fs.length cap) := by rw [World.cell?_of_block (w := w1) (by rw [HST.out.heap])]; exact p3
    have hx : x.size ≤ 1000000 := by
      have := HLk.out k hk
      rw [← HXT.out, bytes_length] at this
      exact this
    by_cases hlt : k < h.fs.length
    · obtain rfl := HAD.out (by omega)
      obtain ⟨g1, g2, g3, g4⟩ := HCE.out k hlt
      have HS : Sl (told h (k + 1) = told h k ++ (bytes (h.fs.getD k f0).1 ++ 58 :: 32 :: (bytes (h.fs.getD k f0).2 ++ [13, 10]))) := ⟨told_succ h k hlt⟩
      obtain ⟨f, hf⟩ : ∃ f, h.fs.getD k f0 = f := ⟨_, rfl⟩
      rw [hf] at g1 g2 g3 g4 HS
      clear hf
      obtain ⟨n, y⟩ := f
      simp only at g1 g2 g3 g4 HS
      have HLL : (told h k).length + n.size + y.size + 4 ≤ 1000000 := by
        have := HLk.out (k + 1) (by omega)
        rw [HS.out] at this
        simp only [List.length_append, List.length_cons, List.length_nil, bytes_length] at this
        omega
      have ln : n.size ≤ 1000000 := by omega
      have ly : y.size ≤ 1000000 := by omega
      have k0 := block_lt_of_cell g1
      have e0 : wr.cell? ⟨sb, so + k * 2, none⟩ = some (.string n) := by rw [World.cell?_of_block (w := w1) (by rw [HST.out.heap]), HB1.out.cell (p := ⟨sb, so + k * 2, none⟩) k0]; exact g1
      have e1 : wr.cell? ⟨sb, so + k * 2 + 1, none⟩ = some (.string y) := by rw [World.cell?_of_block (w := w1) (by rw [HST.out.heap]), HB1.out.cell (p := ⟨sb, so + k * 2 + 1, none⟩) k0]; exact g2
      have hk0 : (0 : Int) ≤ (k : Int) := by omega
      have hk1 : (k : Int) < (h.fs.length : Int) := by omega
      obtain ⟨z, hz⟩ : ∃ z, x ++ (n ++ { data := #[58, 32] } ++ y ++ { data := #[13, 10] }) = z := ⟨_, rfl⟩
      have HZ : Sl (bytes z = told h (k + 1)) := ⟨by
        rw [← hz, HS.out]
        simp only [bytes_append, HXT.out, List.append_assoc]
        rfl⟩
      clear g1 g2 g3 g4 k0 HLL
      go_wp2
      go_quiet (fail)
      go_wp2
      refine ⟨⟨k + 1, _, by omega, rfl, by go_num, ?_, ⟨HST.out.drewN _⟩⟩, by simp [intOf]; omega⟩
      first | exact HZ | (rw [hz]; exact HZ)
    · have hge : ((k : Int) < (h.fs.length : Int)) = False := eq_false (by omega)
      obtain rfl : k = h.fs.length := by omega
      have HB2 : Sl (Below W.heap.size W wr) := ⟨below_trans HB1.out HST.out.below⟩
      go_wp2
      go_ret
      refine ⟨_, rfl, ⟨?_⟩, HB2⟩
      rw [bytes_append, HXT.out, ← HAL.out]
      rfl

set_option maxHeartbeats 400000 in
theorem checkR_any (h : HdV) (bx : Value) (W : World) (hv : FieldsAt W bx h.fs) (hf : h.Fit) (hL : (text h.hd).length ≤ 1000000) :
    Calls Tryd.prog 14 #[.agg #[.string h.a, .string h.b, .string h.c, bx]] W fun e w' => e = .returned (.int .i64 (chk h : Nat)) ∧ Sl (Below W.heap.size W w') := by
  obtain ⟨vad, vn, vc, hvv, hvn⟩ : ∃ a n c, bx = .slice a n c ∧ n = h.fs.length := by obtain ⟨a, cap, _, _, h1, _⟩ := hv; exact ⟨_, _, _, h1, rfl⟩
  subst hvv
  subst hvn
  have hm : h.fs.length ≤ 9223372036854775807 := by
    obtain ⟨a, cap, sb, so, h1, hc, h2, h3, h4⟩ := hv
    unfold maxLen at h2; omega
  have HFO : Sl (∀ V : World, Below W.heap.size W V → Calls Tryd.prog 29 #[.agg #[.string h.a, .string h.b, .string h.c, .slice vad h.fs.length vc]] V fun e w' => e = .returned (.bool (formB h.hd)) ∧ Sl (Below V.heap.size V w')) := ⟨fun V hb => formR_any h _ V (hv.below hb) hf⟩
  have HTX : Sl (∀ V : World, Below W.heap.size W V → Calls Tryd.prog 17 #[.agg #[.string h.a, .string h.b, .string h.c, .slice vad h.fs.length vc]] V fun e w' => ∃ t : ByteArray, e = .returned (.string t) ∧ Sl (bytes t = text h.hd) ∧ Sl (Below V.heap.size V w')) := ⟨fun V hb => textR_any h _ V (hv.below hb) hL⟩
  have HCK : Sl (chk h = if formB h.hd = true then (if 32 < h.fs.length ∨ 2048 < (text h.hd).length then 51 else 0) else 52) := ⟨rfl⟩
  obtain ⟨fo, hfo⟩ : ∃ z, formB h.hd = z := ⟨_, rfl⟩
  rw [hfo] at HFO HCK
  have HLL := Sl.mk hL
  clear hfo hv hf hL
  go_enter Tryd.func14, Tryd.ntmps14
  go_wp2_with fail
  refine (HFO.out _ ((Below.refl _ _).alloc (Nat.le_refl _) _)).mono ?_
  rintro e w2 ⟨rfl, HB2⟩
  have HB3 : Sl (Below W.heap.size W w2) := ⟨below_trans ((Below.refl _ _).alloc (Nat.le_refl _) _) HB2.out⟩
  have HX2 : Sl (w2.heap[W.heap.size]? = some (.cells #[.string h.a, .string h.b, .string h.c, .slice vad h.fs.length vc] 25 (0, 0))) := ⟨by
    rw [HB2.out.block _ (by rw [alloc_size]; omega)]; exact alloc_new _ _ _ rfl⟩
  clear HB2 HFO
  cases fo with
  | false =>
    have HR : Sl (chk h = 52) := ⟨by rw [HCK.out]; rfl⟩
    go_wp2
    go_ret
    exact ⟨ret_int (by rw [HR.out]; rfl), HB3⟩
  | true =>
    have HCQ : Sl (chk h = if 32 < h.fs.length ∨ 2048 < (text h.hd).length then 51 else 0) := ⟨by rw [HCK.out, if_pos rfl]⟩
    clear HCK
    obtain ⟨p0, p1, p2, p3⟩ := head_cells HX2.out
    by_cases h1 : 32 < h.fs.length
    · have h1' : (h.fs.length : Int) > 32 := by omega
      have HR : Sl (chk h = 51) := ⟨by rw [HCQ.out, if_pos (Or.inl h1)]⟩
      go_wp2
      go_ret
      exact ⟨ret_int (by rw [HR.out]; rfl), HB3⟩
    · have h1' : ((h.fs.length : Int) > 32) = False := eq_false (by omega)
      go_wp2_with fail
      refine (HTX.out _ HB3.out).mono ?_
      rintro e w4 ⟨t, rfl, HBT, HB4⟩
      have HB5 : Sl (Below W.heap.size W w4) := ⟨below_trans HB3.out HB4.out⟩
      have HTS : Sl (t.size = (text h.hd).length) := ⟨by rw [← HBT.out, bytes_length]⟩
      have hts : t.size ≤ 1000000 := by rw [HTS.out]; exact HLL.out
      by_cases h2 : 2048 < t.size
      · have h2' : (t.size : Int) > 2048 := by omega
        have HR : Sl (chk h = 51) := ⟨by rw [HCQ.out, if_pos (Or.inr (by rw [← HTS.out]; exact h2))]⟩
        go_wp2
        go_ret
        exact ⟨ret_int (by rw [HR.out]; rfl), HB5⟩
      · have h2' : ((t.size : Int) > 2048) = False := eq_false (by omega)
        have HR : Sl (chk h = 0) := ⟨by rw [HCQ.out, if_neg (by rw [← HTS.out]; omega)]⟩
        go_wp2
        go_ret
        exact ⟨ret_int (by rw [HR.out]; rfl), HB5⟩
theorem hd_eq {g h : HdV} (ha : bytes g.a = bytes h.a) (hb : bytes g.b = bytes h.b) (hc : bytes g.c = bytes h.c) (hl : g.fs.length = h.fs.length) (hf : ∀ j, j < g.fs.length → fN (g.fs.getD j f0) = fN (h.fs.getD j f0)) : g.hd = h.hd := by
  unfold HdV.hd
  have e : g.fs.map fN = h.fs.map fN := by
    apply List.ext_getElem (by simpa using hl)
    intro i h1 h2
    have hi : i < g.fs.length := by simpa using h1
    have := hf i hi
    simpa [List.getD_eq_getElem?_getD, List.getElem?_eq_getElem hi, List.getElem?_eq_getElem (hl ▸ hi : i < h.fs.length)] using this
  rw [ha, hb, hc, e]
theorem hd_ne {g h : HdV} (e : g.hd = h.hd) : bytes g.a = bytes h.a ∧ bytes g.b = bytes h.b ∧ bytes g.c = bytes h.c ∧ g.fs.length = h.fs.length ∧ ∀ j, j < g.fs.length → fN (g.fs.getD j f0) = fN (h.fs.getD j f0) := by
  unfold HdV.hd at e
  injection e with e1 e2 e3 e4
  have hl : g.fs.length = h.fs.length := by simpa using congrArg List.length e4
  refine ⟨e1, e2, e3, hl, fun j hj => ?_⟩
  have := congrArg (fun l => l[j]?) e4
  simpa [List.getD_eq_getElem?_getD, List.getElem?_eq_getElem hj, List.getElem?_eq_getElem (hl ▸ hj : j < h.fs.length)] using this
end Go.Proofs.YtcohecghibndhaaDoor
