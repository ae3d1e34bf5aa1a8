/- shake: the document's Question: what a head asks for, or the status. -/
import Derived.Test.YthlagngpllahkaaGreatDoorW4
set_option maxRecDepth 100000
namespace Go.Proofs.YthlagngpllahkaaGreatDoor
open Go.RowKit HeadPlain Nam

/-- Where the document's Question stands: the head, the empty offer. -/
structure RS (w : World) (h : HdV) (bx : Value) (V : World) : Prop where
  B : Below w.heap.size w V
  H : V.heap[w.heap.size]? = some (.cells #[.string h.a, .string h.b, .string h.c, bx] 25 (0, 0))
  O : V.heap[w.heap.size + 1]? = some (.cells #[.string { data := #[] }, .string { data := #[] }, .string { data := #[] }, .string { data := #[] }, .slice none 0 0] 30 (0, 0))
theorem RS.below {w V V' : World} {h : HdV} {bx : Value} (q : RS w h bx V) (k : Below V.heap.size V V') : RS w h bx V' := ⟨below_trans q.B k, box_below q.H k, box_below q.O k⟩
theorem len_zero {s : ByteArray} (h : s.size = 0) : Lib.hasPrefix s.data.toList [47] = false := by
  rw [hasPrefix_head]
  rw [decide_eq_false_iff_not, (bytes_nil_iff s).2 h]
  simp
theorem len_some {s : ByteArray} (h : 0 < s.size) : Lib.hasPrefix s.data.toList [47] = decide ((s[0]'h).toNat = 47) := by
  rw [hasPrefix_head, head_get s h, bytes_getD s 0 h]
  simp
  exact Iff.rfl
theorem oneS_one (x : ByteArray) : oneS [x] = x := rfl
theorem oneS_ne {l : List ByteArray} (h : l.length ≠ 1) : oneS l = { data := #[] } := by unfold oneS; rw [if_neg h]; rfl
theorem list_one {l : List ByteArray} (h : l.length = 1) : ∃ x, l = [x] := match l, h with | [x], _ => ⟨x, rfl⟩
theorem strA_one {V : World} {a : Option Addr} {c : Nat} {x : ByteArray} (h : StrA V (.slice a 1 c) [x]) : ∃ sa oa, a = some ⟨sa, oa, none⟩ ∧ V.cell? ⟨sa, oa, none⟩ = some (.string x) := by
  obtain ⟨ad, ca, sa, oa, heq, _, haa, hcell⟩ := h
  injection heq with h1 _ _
  exact ⟨sa, oa, by rw [h1]; exact haa (by simp), hcell 0 (by simp)⟩
theorem lists_own {l : List ByteArray} {v : Value} {W : World} (h : (tell l).all tokT = true) (hv : StrA W v l) (hl : l.length ≤ 100) (hs : ∀ s ∈ l, s.size ≤ 3000) :
    Calls Tryz.prog 41 #[v] W fun e w' => (∃ v, e = .returned (.tuple #[v, .bool true]) ∧ Sl (OwnS w' W.heap.size v (tell l))) ∧ Sl (Below W.heap.size W w') :=
  (listsR_any l v W hv hl hs).mono fun _ _ ⟨h1, h2⟩ => by
    rcases h1 with ⟨v, m, hm, he, ho⟩ | ⟨h0, _⟩
    · rw [toks_tell hm] at ho
      exact ⟨⟨v, he, ⟨ho⟩⟩, h2⟩
    · rw [tell_toks, if_pos h] at h0; cases h0
theorem own_other {W W' : World} {base g : Nat} {v : Value} {l : List ByteArray} (h : OwnS W base v l) (hgr : W.grownBy W' (some g)) (hg : g < base) : OwnS W' base v l := by
  obtain ⟨h1, h2⟩ := h
  refine ⟨h1, ?_⟩
  rcases h2 with h | ⟨k, cap, cur, e, hb, hh, hr⟩
  · exact .inl h
  · exact .inr ⟨k, cap, cur, e, hb, by rw [hgr.block k (lt_of_block hh) (fun e => by injection e with e; omega)]; exact hh, hr⟩
theorem offer_val {l : List ByteArray} (h : l.all tokT = true) : offerB l = (decide (l.length ≤ 16) && decide (l.map bytes).Nodup) := by
  have ha : (l.any fun x => !(tokT x)) = false := by
    rw [List.any_eq_false]
    intro x hx
    have := List.all_eq_true.1 h x hx
    simp [this]
  unfold offerB
  rw [ha]
  rfl
set_option maxHeartbeats 8000000 in
theorem questionR_any (h : HdV) (bx : Value) (w : World) (hv : FieldsAt w bx h.fs) (hf : Fw h) :
    Calls Tryz.prog 15 #[.agg #[.string h.a, .string h.b, .string h.c, bx]] w fun e w' => Sl (QuestR w' h e) ∧ Sl (Below w.heap.size w w') := by
  have hfl : h.fs.length ≤ 100000 := by have := hf.n; omega
  have Ch : Sl (∀ V, Below w.heap.size w V → Calls Tryz.prog 38 #[.agg #[.string h.a, .string h.b, .string h.c, bx], .string { data := #[72, 111, 115, 116] }] V fun e w' => (∃ a c, e = .returned (.slice a (getV h.fs bHost).length c) ∧ Sl (StrA w' (.slice a (getV h.fs bHost).length c) (getV h.fs bHost))) ∧ Sl (Below V.heap.size V w')) := ⟨fun V hB => (getR_any h _ bHost V (hv.below hB) hfl).mono fun e w' ⟨v, h1, h2, h3⟩ => by
    obtain ⟨a, c, rfl⟩ := h2.out.slice
    exact ⟨⟨a, c, h1, ⟨h2.out.strA⟩⟩, h3⟩⟩
  have Cu : Sl (∀ V, Below w.heap.size w V → Calls Tryz.prog 38 #[.agg #[.string h.a, .string h.b, .string h.c, bx], .string { data := #[85, 112, 103, 114, 97, 100, 101] }] V fun e w' => (∃ a c, e = .returned (.slice a (getV h.fs bUp).length c) ∧ Sl (StrA w' (.slice a (getV h.fs bUp).length c) (getV h.fs bUp))) ∧ Sl (Below V.heap.size V w')) := ⟨fun V hB => (getR_any h _ bUp V (hv.below hB) hfl).mono fun e w' ⟨v, h1, h2, h3⟩ => by
    obtain ⟨a, c, rfl⟩ := h2.out.slice
    exact ⟨⟨a, c, h1, ⟨h2.out.strA⟩⟩, h3⟩⟩
  have Cc : Sl (∀ V, Below w.heap.size w V → Calls Tryz.prog 38 #[.agg #[.string h.a, .string h.b, .string h.c, bx], .string { data := #[67, 111, 110, 110, 101, 99, 116, 105, 111, 110] }] V fun e w' => (∃ a c, e = .returned (.slice a (getV h.fs bConn).length c) ∧ Sl (StrA w' (.slice a (getV h.fs bConn).length c) (getV h.fs bConn))) ∧ Sl (Below V.heap.size V w')) := ⟨fun V hB => (getR_any h _ bConn V (hv.below hB) hfl).mono fun e w' ⟨v, h1, h2, h3⟩ => by
    obtain ⟨a, c, rfl⟩ := h2.out.slice
    exact ⟨⟨a, c, h1, ⟨h2.out.strA⟩⟩, h3⟩⟩
  have Cv : Sl (∀ V, Below w.heap.size w V → Calls Tryz.prog 38 #[.agg #[.string h.a, .string h.b, .string h.c, bx], .string { data := #[83, 101, 99, 45, 87, 101, 98, 83, 111, 99, 107, 101, 116, 45, 86, 101, 114, 115, 105, 111, 110] }] V fun e w' => (∃ a c, e = .returned (.slice a (getV h.fs bVer).length c) ∧ Sl (StrA w' (.slice a (getV h.fs bVer).length c) (getV h.fs bVer))) ∧ Sl (Below V.heap.size V w')) := ⟨fun V hB => (getR_any h _ bVer V (hv.below hB) hfl).mono fun e w' ⟨v, h1, h2, h3⟩ => by
    obtain ⟨a, c, rfl⟩ := h2.out.slice
    exact ⟨⟨a, c, h1, ⟨h2.out.strA⟩⟩, h3⟩⟩
  have Ck : Sl (∀ V, Below w.heap.size w V → Calls Tryz.prog 38 #[.agg #[.string h.a, .string h.b, .string h.c, bx], .string { data := #[83, 101, 99, 45, 87, 101, 98, 83, 111, 99, 107, 101, 116, 45, 75, 101, 121] }] V fun e w' => (∃ a c, e = .returned (.slice a (getV h.fs bKey).length c) ∧ Sl (StrA w' (.slice a (getV h.fs bKey).length c) (getV h.fs bKey))) ∧ Sl (Below V.heap.size V w')) := ⟨fun V hB => (getR_any h _ bKey V (hv.below hB) hfl).mono fun e w' ⟨v, h1, h2, h3⟩ => by
    obtain ⟨a, c, rfl⟩ := h2.out.slice
    exact ⟨⟨a, c, h1, ⟨h2.out.strA⟩⟩, h3⟩⟩
  have Cp : Sl (∀ V, Below w.heap.size w V → Calls Tryz.prog 38 #[.agg #[.string h.a, .string h.b, .string h.c, bx], .string { data := #[83, 101, 99, 45, 87, 101, 98, 83, 111, 99, 107, 101, 116, 45, 80, 114, 111, 116, 111, 99, 111, 108] }] V fun e w' => (∃ a c, e = .returned (.slice a (getV h.fs bProt).length c) ∧ Sl (StrA w' (.slice a (getV h.fs bProt).length c) (getV h.fs bProt))) ∧ Sl (Below V.heap.size V w')) := ⟨fun V hB => (getR_any h _ bProt V (hv.below hB) hfl).mono fun e w' ⟨v, h1, h2, h3⟩ => by
    obtain ⟨a, c, rfl⟩ := h2.out.slice
    exact ⟨⟨a, c, h1, ⟨h2.out.strA⟩⟩, h3⟩⟩
  have Co : Sl (∀ V, Below w.heap.size w V → Calls Tryz.prog 38 #[.agg #[.string h.a, .string h.b, .string h.c, bx], .string { data := #[79, 114, 105, 103, 105, 110] }] V fun e w' => (∃ a c, e = .returned (.slice a (getV h.fs bOrg).length c) ∧ Sl (StrA w' (.slice a (getV h.fs bOrg).length c) (getV h.fs bOrg))) ∧ Sl (Below V.heap.size V w')) := ⟨fun V hB => (getR_any h _ bOrg V (hv.below hB) hfl).mono fun e w' ⟨v, h1, h2, h3⟩ => by
    obtain ⟨a, c, rfl⟩ := h2.out.slice
    exact ⟨⟨a, c, h1, ⟨h2.out.strA⟩⟩, h3⟩⟩
  have Hu : Sl (∀ V v, StrA V v (getV h.fs bUp) → Calls Tryz.prog 39 #[.string { data := #[119, 101, 98, 115, 111, 99, 107, 101, 116] }, v] V fun e w' => e = .returned (.bool (hasB { data := #[119, 101, 98, 115, 111, 99, 107, 101, 116] } (getV h.fs bUp))) ∧ Sl (Below V.heap.size V w')) := ⟨fun V v hS => (hasR_ex rfl (Below.refl _ _) hS (by have := (hf.get bUp).1; omega) (hf.get bUp).2).mono fun e w' ⟨h1, h2, _⟩ => ⟨h1, h2⟩⟩
  have Hc : Sl (∀ V v, StrA V v (getV h.fs bConn) → Calls Tryz.prog 39 #[.string { data := #[85, 112, 103, 114, 97, 100, 101] }, v] V fun e w' => e = .returned (.bool (hasB { data := #[85, 112, 103, 114, 97, 100, 101] } (getV h.fs bConn))) ∧ Sl (Below V.heap.size V w')) := ⟨fun V v hS => (hasR_ex rfl (Below.refl _ _) hS (by have := (hf.get bConn).1; omega) (hf.get bConn).2).mono fun e w' ⟨h1, h2, _⟩ => ⟨h1, h2⟩⟩
  have CK : Sl (∀ x ∈ getV h.fs bKey, ∀ V, Calls Tryz.prog 40 #[.string x] V fun e w' => e = .returned (.bool (keyB (bytes x))) ∧ Sl (Below V.heap.size V w')) := ⟨fun x hx V => keyR_any x V (by have := (hf.get bKey).2 x hx; omega)⟩
  have HFP := Sl.mk (hf.get bProt)
  have HTL := Sl.mk (tell_len_fw hf)
  have R1 : Sl (r1B h = (h.a.toList == [71, 69, 84])) := ⟨by unfold r1B; rw [show bGET.toList = [71, 69, 84] from toList_mk _]⟩
  have R2 : Sl (r2B h = ((h.c.toList == [72, 84, 84, 80, 47, 49, 46, 49]) && Lib.hasPrefix h.b.data.toList [47])) := ⟨by unfold r2B; rw [show bH11.toList = [72, 84, 84, 80, 47, 49, 46, 49] from toList_mk _]⟩
  have R3 : Sl (r3B h = !((oneS (getV h.fs bHost)).toList == [])) := ⟨rfl⟩
  have R4 : Sl (r4B h = hasB { data := #[119, 101, 98, 115, 111, 99, 107, 101, 116] } (getV h.fs bUp)) := ⟨rfl⟩
  have R5 : Sl (r5B h = hasB { data := #[85, 112, 103, 114, 97, 100, 101] } (getV h.fs bConn)) := ⟨rfl⟩
  have R6 : Sl (r6B h = ((oneS (getV h.fs bVer)).toList == [49, 51])) := ⟨by unfold r6B; rw [show b13.toList = [49, 51] from toList_mk _]⟩
  have R7 : Sl (r7B h = keyB (bytes (oneS (getV h.fs bKey)))) := ⟨rfl⟩
  have R8 : Sl (r8B h = ((tell (getV h.fs bProt)).all tokT && offerB (tell (getV h.fs bProt)))) := ⟨rfl⟩
  have R9 : Sl (r9B h = decide ((getV h.fs bOrg).length ≤ 1)) := ⟨rfl⟩
  have QN : Sl (∀ (n : Nat) (V : World), statV h = n → n ≠ 0 → QuestR V h (.returned (.tuple #[.agg #[.string { data := #[] }, .string { data := #[] }, .string { data := #[] }, .string { data := #[] }, .slice none 0 0], .int .i64 n]))) := ⟨fun n V e0 e1 => .inl ⟨by rw [e0]; exact e1, by rw [e0]; rfl⟩⟩
  have QY : Sl (∀ (V : World) a c n, statV h = 0 → (tell (getV h.fs bProt)).length = n → StrA V (.slice a n c) (tell (getV h.fs bProt)) → QuestR V h (.returned (.tuple #[.agg #[.string h.b, .string (oneS (getV h.fs bHost)), .string (oneS (getV h.fs bKey)), .string (oneS (getV h.fs bOrg)), .slice a n c], .int .i64 0]))) := ⟨fun V a c n e0 e1 hS => by
    subst e1
    exact .inr ⟨e0, a, c, rfl, hS⟩⟩
  obtain ⟨lh, hlh⟩ : ∃ l, getV h.fs bHost = l := ⟨_, rfl⟩
  obtain ⟨lu, hlu⟩ : ∃ l, getV h.fs bUp = l := ⟨_, rfl⟩
  obtain ⟨lc, hlc⟩ : ∃ l, getV h.fs bConn = l := ⟨_, rfl⟩
  obtain ⟨lv, hlv⟩ : ∃ l, getV h.fs bVer = l := ⟨_, rfl⟩
  obtain ⟨lk, hlk⟩ : ∃ l, getV h.fs bKey = l := ⟨_, rfl⟩
  obtain ⟨lp, hlp⟩ : ∃ l, getV h.fs bProt = l := ⟨_, rfl⟩
  obtain ⟨lo, hlo⟩ : ∃ l, getV h.fs bOrg = l := ⟨_, rfl⟩
  rw [hlh] at Ch R3 QY
  rw [hlu] at Cu Hu R4
  rw [hlc] at Cc Hc R5
  rw [hlv] at Cv R6
  rw [hlk] at Ck CK R7 QY
  rw [hlp] at Cp HFP HTL R8 QY
  rw [hlo] at Co R9 QY
  clear hlh hlu hlc hlv hlk hlp hlo hfl
  obtain ⟨mh, hmh⟩ : ∃ m, lh.length = m := ⟨_, rfl⟩
  rw [hmh] at Ch
  have Mh := Sl.mk hmh
  obtain ⟨mv, hmv⟩ : ∃ m, lv.length = m := ⟨_, rfl⟩
  rw [hmv] at Cv
  have Mv := Sl.mk hmv
  obtain ⟨mk, hmk⟩ : ∃ m, lk.length = m := ⟨_, rfl⟩
  rw [hmk] at Ck
  have Mk := Sl.mk hmk
  obtain ⟨mo, hmo⟩ : ∃ m, lo.length = m := ⟨_, rfl⟩
  rw [hmo] at Co R9
  have Mo := Sl.mk hmo
  clear hmh hmv hmk hmo
  obtain ⟨bd, bc, sb, so, rfl, _⟩ := hv
  obtain ⟨nf, hnf⟩ : ∃ n, h.fs.length = n := ⟨_, rfl⟩
  rw [hnf] at Ch Cu Cc Cv Ck Cp Co ⊢
  clear hnf hf
  obtain ⟨w0, hw0⟩ : ∃ V, (w.alloc (.cells #[.string h.a, .string h.b, .string h.c, .slice bd nf bc] 25)).alloc (.cells #[.string { data := #[] }, .string { data := #[] }, .string { data := #[] }, .string { data := #[] }, .slice none 0 0] 30) = V := ⟨_, rfl⟩
  have HS0 : Sl (RS w h (.slice bd nf bc) w0) := ⟨⟨by rw [← hw0]; exact ((Below.refl _ _).alloc (Nat.le_refl _) _).alloc (by rw [alloc_size]; omega) _, by rw [← hw0, alloc_old _ _ _ (by rw [alloc_size]; omega)]; exact alloc_new _ _ _ rfl, by rw [← hw0]; exact alloc_new _ _ _ (by rw [alloc_size])⟩⟩
  obtain ⟨p0, p1, p2, p3⟩ := head_cells HS0.out.H
  go_enter Tryz.func15, Tryz.ntmps15
  cases e1 : (h.a.toList == [71, 69, 84]) with
  | false =>
    have KF : r1B h = false := by rw [R1.out]; exact e1
    have ST : Sl (statV h = 405) := ⟨by unfold statV; rw [if_pos KF]⟩
    clear KF
    obtain ⟨⟨z0, z1, z2, z3, z4⟩, ⟨f0, f1, f2, f3, f4⟩, ⟨s0, s1, s2, s3, s4⟩⟩ := offer_zero HS0.out.O
    go_wp2
    refine bodyPost_ret (ret_offer rfl _ _ (w.heap.size + 1) 30 _ (0, 0) rfl HS0.out.O rfl) rfl ?_
    exact ⟨⟨QN.out 405 _ ST.out (by decide)⟩, ⟨HS0.out.B⟩⟩
  | true =>
  have K1 : Sl (r1B h = true) := ⟨by rw [R1.out]; exact e1⟩
  cases e2 : (h.c.toList == [72, 84, 84, 80, 47, 49, 46, 49]) with
  | false =>
    have KF : r2B h = false := by rw [R2.out, e2]; rfl
    have ST : Sl (statV h = 400) := ⟨by unfold statV; rw [if_neg (by rw [K1.out]; decide), if_pos KF]⟩
    clear KF
    obtain ⟨⟨z0, z1, z2, z3, z4⟩, ⟨f0, f1, f2, f3, f4⟩, ⟨s0, s1, s2, s3, s4⟩⟩ := offer_zero HS0.out.O
    go_wp2
    refine bodyPost_ret (ret_offer rfl _ _ (w.heap.size + 1) 30 _ (0, 0) rfl HS0.out.O rfl) rfl ?_
    exact ⟨⟨QN.out 400 _ ST.out (by decide)⟩, ⟨HS0.out.B⟩⟩
  | true =>
  by_cases hz : h.b.size = 0
  · have hz1 : ((h.b.size : Int) == 0) = true := by simp [hz]
    have KF : r2B h = false := by rw [R2.out, e2, len_zero hz]; rfl
    have ST : Sl (statV h = 400) := ⟨by unfold statV; rw [if_neg (by rw [K1.out]; decide), if_pos KF]⟩
    clear KF
    obtain ⟨⟨z0, z1, z2, z3, z4⟩, ⟨f0, f1, f2, f3, f4⟩, ⟨s0, s1, s2, s3, s4⟩⟩ := offer_zero HS0.out.O
    go_wp2
    refine bodyPost_ret (ret_offer rfl _ _ (w.heap.size + 1) 30 _ (0, 0) rfl HS0.out.O rfl) rfl ?_
    exact ⟨⟨QN.out 400 _ ST.out (by decide)⟩, ⟨HS0.out.B⟩⟩
  have hz1 : ((h.b.size : Int) == 0) = false := by simp [hz]
  have hz2 : 0 < h.b.size := by omega
  obtain ⟨x, hx⟩ : ∃ x, (h.b[0]'hz2).toNat = x := ⟨_, rfl⟩
  have hp2 := len_some hz2
  rw [hx] at hp2
  by_cases h47 : x = 47
  rotate_left
  · have h47' : ((x : Int) != 47) = true := by simp; omega
    have KF : r2B h = false := by rw [R2.out, e2, hp2, decide_eq_false h47]; rfl
    have ST : Sl (statV h = 400) := ⟨by unfold statV; rw [if_neg (by rw [K1.out]; decide), if_pos KF]⟩
    clear KF
    obtain ⟨⟨z0, z1, z2, z3, z4⟩, ⟨f0, f1, f2, f3, f4⟩, ⟨s0, s1, s2, s3, s4⟩⟩ := offer_zero HS0.out.O
    go_wp2
    refine bodyPost_ret (ret_offer rfl _ _ (w.heap.size + 1) 30 _ (0, 0) rfl HS0.out.O rfl) rfl ?_
    exact ⟨⟨QN.out 400 _ ST.out (by decide)⟩, ⟨HS0.out.B⟩⟩
  have h47' : ((x : Int) != 47) = false := by simp [h47]
  have K2 : Sl (r2B h = true) := ⟨by rw [R2.out, e2, hp2, decide_eq_true h47]; rfl⟩
  clear hp2
  go_wp2_with fail
  clear hw0 p0 p1 p2 p3 hx h47 h47' hz hz1 hz2 e1 e2
  refine (Ch.out _ HS0.out.B).mono ?_
  rintro e w1 ⟨⟨ah, ch, rfl, HSh⟩, HE⟩
  have HS1 := Sl.mk (HS0.out.below HE.out)
  clear HE HS0
  by_cases hm : mh = 1
  rotate_left
  · have hm1 : ((mh : Int) != 1) = true := by simp; omega
    have KF : r3B h = false := by rw [R3.out, oneS_ne (by rw [Mh.out]; exact hm), show (ByteArray.mk #[]).toList = [] from toList_mk []]; rfl
    have ST : Sl (statV h = 400) := ⟨by unfold statV; rw [if_neg (by rw [K1.out]; decide), if_neg (by rw [K2.out]; decide), if_pos KF]⟩
    clear KF
    obtain ⟨⟨z0, z1, z2, z3, z4⟩, ⟨f0, f1, f2, f3, f4⟩, ⟨s0, s1, s2, s3, s4⟩⟩ := offer_zero HS1.out.O
    go_wp2
    refine bodyPost_ret (ret_offer rfl _ _ (w.heap.size + 1) 30 _ (0, 0) rfl HS1.out.O rfl) rfl ?_
    exact ⟨⟨QN.out 400 _ ST.out (by decide)⟩, ⟨HS1.out.B⟩⟩
  subst hm
  obtain ⟨xh, rfl⟩ := list_one Mh.out
  obtain ⟨sh, oh, rfl, ch0⟩ := strA_one HSh.out
  cases e3 : (xh.toList == []) with
  | true =>
    have KF : r3B h = false := by rw [R3.out, oneS_one, e3]; rfl
    have ST : Sl (statV h = 400) := ⟨by unfold statV; rw [if_neg (by rw [K1.out]; decide), if_neg (by rw [K2.out]; decide), if_pos KF]⟩
    clear KF
    obtain ⟨⟨z0, z1, z2, z3, z4⟩, ⟨f0, f1, f2, f3, f4⟩, ⟨s0, s1, s2, s3, s4⟩⟩ := offer_zero HS1.out.O
    go_wp2
    refine bodyPost_ret (ret_offer rfl _ _ (w.heap.size + 1) 30 _ (0, 0) rfl HS1.out.O rfl) rfl ?_
    exact ⟨⟨QN.out 400 _ ST.out (by decide)⟩, ⟨HS1.out.B⟩⟩
  | false =>
  have K3 : Sl (r3B h = true) := ⟨by rw [R3.out, oneS_one, e3]; rfl⟩
  obtain ⟨p0, p1, p2, p3⟩ := head_cells HS1.out.H
  go_wp2_with fail
  clear p0 p1 p2 p3 e3 ch0
  refine (Cu.out _ HS1.out.B).mono ?_
  rintro e w2 ⟨⟨au, cu, rfl, HSu⟩, HE⟩
  have HS2 := Sl.mk (HS1.out.below HE.out)
  have HSh2 := Sl.mk (HSh.out.below HE.out)
  clear HE HS1 HSh
  go_wp2_with fail
  refine (Hu.out _ _ HSu.out).mono ?_
  rintro e w3 ⟨rfl, HE⟩
  have HS3 := Sl.mk (HS2.out.below HE.out)
  have HSh3 := Sl.mk (HSh2.out.below HE.out)
  clear HE HS2 HSh2 HSu
  cases e4 : hasB { data := #[119, 101, 98, 115, 111, 99, 107, 101, 116] } lu with
  | false =>
    have KF : r4B h = false := by rw [R4.out]; exact e4
    have ST : Sl (statV h = 426) := ⟨by unfold statV; rw [if_neg (by rw [K1.out]; decide), if_neg (by rw [K2.out]; decide), if_neg (by rw [K3.out]; decide), if_pos KF]⟩
    clear KF
    obtain ⟨⟨z0, z1, z2, z3, z4⟩, ⟨f0, f1, f2, f3, f4⟩, ⟨s0, s1, s2, s3, s4⟩⟩ := offer_zero HS3.out.O
    go_wp2
    refine bodyPost_ret (ret_offer rfl _ _ (w.heap.size + 1) 30 _ (0, 0) rfl HS3.out.O rfl) rfl ?_
    exact ⟨⟨QN.out 426 _ ST.out (by decide)⟩, ⟨HS3.out.B⟩⟩
  | true =>
  have K4 : Sl (r4B h = true) := ⟨by rw [R4.out]; exact e4⟩
  obtain ⟨p0, p1, p2, p3⟩ := head_cells HS3.out.H
  go_wp2_with fail
  clear p0 p1 p2 p3 e4
  refine (Cc.out _ HS3.out.B).mono ?_
  rintro e w4 ⟨⟨ac, cc, rfl, HSc⟩, HE⟩
  have HS4 := Sl.mk (HS3.out.below HE.out)
  have HSh4 := Sl.mk (HSh3.out.below HE.out)
  clear HE HS3 HSh3
  go_wp2_with fail
  refine (Hc.out _ _ HSc.out).mono ?_
  rintro e w5 ⟨rfl, HE⟩
  have HS5 := Sl.mk (HS4.out.below HE.out)
  have HSh5 := Sl.mk (HSh4.out.below HE.out)
  clear HE HS4 HSh4 HSc
  cases e5 : hasB { data := #[85, 112, 103, 114, 97, 100, 101] } lc with
  | false =>
    have KF : r5B h = false := by rw [R5.out]; exact e5
    have ST : Sl (statV h = 400) := ⟨by unfold statV; rw [if_neg (by rw [K1.out]; decide), if_neg (by rw [K2.out]; decide), if_neg (by rw [K3.out]; decide), if_neg (by rw [K4.out]; decide), if_pos KF]⟩
    clear KF
    obtain ⟨⟨z0, z1, z2, z3, z4⟩, ⟨f0, f1, f2, f3, f4⟩, ⟨s0, s1, s2, s3, s4⟩⟩ := offer_zero HS5.out.O
    go_wp2
    refine bodyPost_ret (ret_offer rfl _ _ (w.heap.size + 1) 30 _ (0, 0) rfl HS5.out.O rfl) rfl ?_
    exact ⟨⟨QN.out 400 _ ST.out (by decide)⟩, ⟨HS5.out.B⟩⟩
  | true =>
  have K5 : Sl (r5B h = true) := ⟨by rw [R5.out]; exact e5⟩
  obtain ⟨p0, p1, p2, p3⟩ := head_cells HS5.out.H
  go_wp2_with fail
  clear p0 p1 p2 p3 e5
  refine (Cv.out _ HS5.out.B).mono ?_
  rintro e w6 ⟨⟨av, cv, rfl, HSv⟩, HE⟩
  have HS6 := Sl.mk (HS5.out.below HE.out)
  have HSh6 := Sl.mk (HSh5.out.below HE.out)
  clear HE HS5 HSh5
  by_cases hm : mv = 1
  rotate_left
  · have hm1 : ((mv : Int) != 1) = true := by simp; omega
    have KF : r6B h = false := by rw [R6.out, oneS_ne (by rw [Mv.out]; exact hm), show (ByteArray.mk #[]).toList = [] from toList_mk []]; rfl
    have ST : Sl (statV h = 426) := ⟨by unfold statV; rw [if_neg (by rw [K1.out]; decide), if_neg (by rw [K2.out]; decide), if_neg (by rw [K3.out]; decide), if_neg (by rw [K4.out]; decide), if_neg (by rw [K5.out]; decide), if_pos KF]⟩
    clear KF
    obtain ⟨⟨z0, z1, z2, z3, z4⟩, ⟨f0, f1, f2, f3, f4⟩, ⟨s0, s1, s2, s3, s4⟩⟩ := offer_zero HS6.out.O
    go_wp2
    refine bodyPost_ret (ret_offer rfl _ _ (w.heap.size + 1) 30 _ (0, 0) rfl HS6.out.O rfl) rfl ?_
    exact ⟨⟨QN.out 426 _ ST.out (by decide)⟩, ⟨HS6.out.B⟩⟩
  subst hm
  obtain ⟨xv, rfl⟩ := list_one Mv.out
  obtain ⟨sv, ov, rfl, cv0⟩ := strA_one HSv.out
  cases e6 : (xv.toList == [49, 51]) with
  | false =>
    have KF : r6B h = false := by rw [R6.out, oneS_one]; exact e6
    have ST : Sl (statV h = 426) := ⟨by unfold statV; rw [if_neg (by rw [K1.out]; decide), if_neg (by rw [K2.out]; decide), if_neg (by rw [K3.out]; decide), if_neg (by rw [K4.out]; decide), if_neg (by rw [K5.out]; decide), if_pos KF]⟩
    clear KF
    obtain ⟨⟨z0, z1, z2, z3, z4⟩, ⟨f0, f1, f2, f3, f4⟩, ⟨s0, s1, s2, s3, s4⟩⟩ := offer_zero HS6.out.O
    go_wp2
    refine bodyPost_ret (ret_offer rfl _ _ (w.heap.size + 1) 30 _ (0, 0) rfl HS6.out.O rfl) rfl ?_
    exact ⟨⟨QN.out 426 _ ST.out (by decide)⟩, ⟨HS6.out.B⟩⟩
  | true =>
  have K6 : Sl (r6B h = true) := ⟨by rw [R6.out, oneS_one]; exact e6⟩
  obtain ⟨p0, p1, p2, p3⟩ := head_cells HS6.out.H
  go_wp2_with fail
  clear p0 p1 p2 p3 e6 cv0
  refine (Ck.out _ HS6.out.B).mono ?_
  rintro e w7 ⟨⟨ak, ck, rfl, HSk⟩, HE⟩
  have HS7 := Sl.mk (HS6.out.below HE.out)
  have HSh7 := Sl.mk (HSh6.out.below HE.out)
  clear HE HS6 HSh6 HSv
  by_cases hm : mk = 1
  rotate_left
  · have hm1 : ((mk : Int) != 1) = true := by simp; omega
    have KF : r7B h = false := by rw [R7.out, oneS_ne (by rw [Mk.out]; exact hm)]; exact keyB_nil
    have ST : Sl (statV h = 400) := ⟨by unfold statV; rw [if_neg (by rw [K1.out]; decide), if_neg (by rw [K2.out]; decide), if_neg (by rw [K3.out]; decide), if_neg (by rw [K4.out]; decide), if_neg (by rw [K5.out]; decide), if_neg (by rw [K6.out]; decide), if_pos KF]⟩
    clear KF
    obtain ⟨⟨z0, z1, z2, z3, z4⟩, ⟨f0, f1, f2, f3, f4⟩, ⟨s0, s1, s2, s3, s4⟩⟩ := offer_zero HS7.out.O
    go_wp2
    refine bodyPost_ret (ret_offer rfl _ _ (w.heap.size + 1) 30 _ (0, 0) rfl HS7.out.O rfl) rfl ?_
    exact ⟨⟨QN.out 400 _ ST.out (by decide)⟩, ⟨HS7.out.B⟩⟩
  subst hm
  obtain ⟨xk, rfl⟩ := list_one Mk.out
  obtain ⟨sk, ok, rfl, ck0⟩ := strA_one HSk.out
  go_wp2_with fail
  clear ck0
  refine (CK.out xk (List.mem_singleton.2 rfl) _).mono ?_
  rintro e w8 ⟨rfl, HE⟩
  have HS8 := Sl.mk (HS7.out.below HE.out)
  have HSh8 := Sl.mk (HSh7.out.below HE.out)
  have HSk8 := Sl.mk (HSk.out.below HE.out)
  clear HE HS7 HSh7 HSk
  cases e7 : keyB (bytes xk) with
  | false =>
    have KF : r7B h = false := by rw [R7.out, oneS_one]; exact e7
    have ST : Sl (statV h = 400) := ⟨by unfold statV; rw [if_neg (by rw [K1.out]; decide), if_neg (by rw [K2.out]; decide), if_neg (by rw [K3.out]; decide), if_neg (by rw [K4.out]; decide), if_neg (by rw [K5.out]; decide), if_neg (by rw [K6.out]; decide), if_pos KF]⟩
    clear KF
    obtain ⟨⟨z0, z1, z2, z3, z4⟩, ⟨f0, f1, f2, f3, f4⟩, ⟨s0, s1, s2, s3, s4⟩⟩ := offer_zero HS8.out.O
    go_wp2
    refine bodyPost_ret (ret_offer rfl _ _ (w.heap.size + 1) 30 _ (0, 0) rfl HS8.out.O rfl) rfl ?_
    exact ⟨⟨QN.out 400 _ ST.out (by decide)⟩, ⟨HS8.out.B⟩⟩
  | true =>
  have K7 : Sl (r7B h = true) := ⟨by rw [R7.out, oneS_one]; exact e7⟩
  obtain ⟨p0, p1, p2, p3⟩ := head_cells HS8.out.H
  go_wp2_with fail
  clear p0 p1 p2 p3 e7
  refine (Cp.out _ HS8.out.B).mono ?_
  rintro e w9 ⟨⟨ap, cp, rfl, HSp⟩, HE⟩
  have HS9 := Sl.mk (HS8.out.below HE.out)
  have HSh9 := Sl.mk (HSh8.out.below HE.out)
  have HSk9 := Sl.mk (HSk8.out.below HE.out)
  clear HE HS8 HSh8 HSk8
  cases e8 : (tell lp).all tokT with
  | false =>
    go_wp2_with fail
    refine (lists_no e8 (Below.refl _ _) HSp.out (by have := HFP.out.1; omega) HFP.out.2).mono ?_
    rintro e wa ⟨rfl, HE, _⟩
    have HSa := Sl.mk (HS9.out.below HE.out)
    clear HE
    obtain ⟨p0, p1, p2, p3⟩ := head_cells HSa.out.H
    go_wp2_with fail
    clear p0 p1 p2 p3
    refine (Co.out _ HSa.out.B).mono ?_
    rintro e wb ⟨⟨ao, co, rfl, HSo⟩, HE⟩
    have HSb := Sl.mk (HSa.out.below HE.out)
    clear HE HSa 
    have KF : r8B h = false := by rw [R8.out, e8]; rfl
    have ST : Sl (statV h = 400) := ⟨by unfold statV; rw [if_neg (by rw [K1.out]; decide), if_neg (by rw [K2.out]; decide), if_neg (by rw [K3.out]; decide), if_neg (by rw [K4.out]; decide), if_neg (by rw [K5.out]; decide), if_neg (by rw [K6.out]; decide), if_neg (by rw [K7.out]; decide), if_pos KF]⟩
    clear KF
    obtain ⟨⟨z0, z1, z2, z3, z4⟩, ⟨f0, f1, f2, f3, f4⟩, ⟨s0, s1, s2, s3, s4⟩⟩ := offer_zero HSb.out.O
    go_wp2
    refine bodyPost_ret (ret_offer rfl _ _ (w.heap.size + 1) 30 _ (0, 0) rfl HSb.out.O rfl) rfl ?_
    exact ⟨⟨QN.out 400 _ ST.out (by decide)⟩, ⟨HSb.out.B⟩⟩
  | true =>
  have R8b : Sl (r8B h = (decide ((tell lp).length ≤ 16) && decide ((tell lp).map bytes).Nodup)) := ⟨by rw [R8.out, e8, offer_val e8]; rfl⟩
  go_wp2_with fail
  have HZB : Sl (w.heap.size + 1 < w9.heap.size) := ⟨lt_of_block HS9.out.O⟩
  refine (lists_own e8 HSp.out (by have := HFP.out.1; omega) HFP.out.2).mono ?_
  rintro e wa ⟨⟨vt, rfl, HSt⟩, HE⟩
  have HSa := Sl.mk (HS9.out.below HE.out)
  have HSha := Sl.mk (HSh9.out.below HE.out)
  have HSka := Sl.mk (HSk9.out.below HE.out)
  clear HE HS9 HSh9 HSk9 HSp R8 HFP Cp e8
  obtain ⟨lt, hlt⟩ : ∃ l, tell lp = l := ⟨_, rfl⟩
  rw [hlt] at R8b HSt HTL QY
  clear hlt
  obtain ⟨mt, hmt⟩ : ∃ m, lt.length = m := ⟨_, rfl⟩
  obtain ⟨at_, ct, hvt⟩ := HSt.out.slice
  subst hvt
  rw [hmt] at R8b HSt HTL ⊢
  have Mt := Sl.mk hmt
  clear hmt
  obtain ⟨p0, p1, p2, p3⟩ := head_cells HSa.out.H
  go_wp2_with fail
  clear p0 p1 p2 p3
  refine (Co.out _ HSa.out.B).mono ?_
  rintro e wb ⟨⟨ao, co, rfl, HSo⟩, HE⟩
  have HSb := Sl.mk (HSa.out.below HE.out)
  have HShb := Sl.mk (HSha.out.below HE.out)
  have HSkb := Sl.mk (HSka.out.below HE.out)
  have HStb := Sl.mk (HSt.out.below HE.out)
  clear HE HSa HSha HSka HSt
  have CO : Sl (∀ r, decide (lt.map bytes).Nodup = r → Calls Tryz.prog 42 #[.slice at_ mt ct] wb fun e w' => e = .returned (.bool r) ∧ Sl (Below wb.heap.size wb w')) := ⟨fun r hr => (onceR_any lt _ wb HStb.out.strA (by rw [Mt.out]; exact HTL.out)).mono fun e w' ⟨h1, h2⟩ => ⟨by rw [h1, hr], ⟨h2.below⟩⟩⟩
  cases e9 : decide (lt.map bytes).Nodup with
  | false =>
    go_wp2_with fail
    refine (CO.out _ e9).mono ?_
    rintro e wc ⟨rfl, HE⟩
    have HSc := Sl.mk (HSb.out.below HE.out)
    have KF : r8B h = false := by rw [R8b.out, e9, Bool.and_false]
    have ST : Sl (statV h = 400) := ⟨by unfold statV; rw [if_neg (by rw [K1.out]; decide), if_neg (by rw [K2.out]; decide), if_neg (by rw [K3.out]; decide), if_neg (by rw [K4.out]; decide), if_neg (by rw [K5.out]; decide), if_neg (by rw [K6.out]; decide), if_neg (by rw [K7.out]; decide), if_pos KF]⟩
    clear KF
    obtain ⟨⟨z0, z1, z2, z3, z4⟩, ⟨f0, f1, f2, f3, f4⟩, ⟨s0, s1, s2, s3, s4⟩⟩ := offer_zero HSc.out.O
    go_wp2
    refine bodyPost_ret (ret_offer rfl _ _ (w.heap.size + 1) 30 _ (0, 0) rfl HSc.out.O rfl) rfl ?_
    exact ⟨⟨QN.out 400 _ ST.out (by decide)⟩, ⟨HSc.out.B⟩⟩
  | true =>
  go_wp2_with fail
  refine (CO.out _ e9).mono ?_
  rintro e wc ⟨rfl, HE⟩
  have HSc := Sl.mk (HSb.out.below HE.out)
  have HShc := Sl.mk (HShb.out.below HE.out)
  have HSkc := Sl.mk (HSkb.out.below HE.out)
  have HStc := Sl.mk (HStb.out.below HE.out)
  have HSoc := Sl.mk (HSo.out.below HE.out)
  clear HE HSb HShb HSkb HStb HSo CO
  by_cases h16 : mt ≤ 16
  rotate_left
  · have h16' : ((mt : Int) > 16) = True := eq_true (by omega)
    have KF : r8B h = false := by rw [R8b.out, decide_eq_false h16]; rfl
    have ST : Sl (statV h = 400) := ⟨by unfold statV; rw [if_neg (by rw [K1.out]; decide), if_neg (by rw [K2.out]; decide), if_neg (by rw [K3.out]; decide), if_neg (by rw [K4.out]; decide), if_neg (by rw [K5.out]; decide), if_neg (by rw [K6.out]; decide), if_neg (by rw [K7.out]; decide), if_pos KF]⟩
    clear KF
    obtain ⟨⟨z0, z1, z2, z3, z4⟩, ⟨f0, f1, f2, f3, f4⟩, ⟨s0, s1, s2, s3, s4⟩⟩ := offer_zero HSc.out.O
    go_wp2
    refine bodyPost_ret (ret_offer rfl _ _ (w.heap.size + 1) 30 _ (0, 0) rfl HSc.out.O rfl) rfl ?_
    exact ⟨⟨QN.out 400 _ ST.out (by decide)⟩, ⟨HSc.out.B⟩⟩
  have h16' : ((mt : Int) > 16) = False := eq_false (by omega)
  have K8 : Sl (r8B h = true) := ⟨by rw [R8b.out, e9, decide_eq_true h16]; rfl⟩
  clear e9 R8b
  by_cases ho1 : mo ≤ 1
  rotate_left
  · have ho1' : ((mo : Int) > 1) = True := eq_true (by omega)
    have KF : r9B h = false := by rw [R9.out, decide_eq_false ho1]
    have ST : Sl (statV h = 400) := ⟨by unfold statV; rw [if_neg (by rw [K1.out]; decide), if_neg (by rw [K2.out]; decide), if_neg (by rw [K3.out]; decide), if_neg (by rw [K4.out]; decide), if_neg (by rw [K5.out]; decide), if_neg (by rw [K6.out]; decide), if_neg (by rw [K7.out]; decide), if_neg (by rw [K8.out]; decide), if_pos KF]⟩
    clear KF
    obtain ⟨⟨z0, z1, z2, z3, z4⟩, ⟨f0, f1, f2, f3, f4⟩, ⟨s0, s1, s2, s3, s4⟩⟩ := offer_zero HSc.out.O
    go_wp2
    refine bodyPost_ret (ret_offer rfl _ _ (w.heap.size + 1) 30 _ (0, 0) rfl HSc.out.O rfl) rfl ?_
    exact ⟨⟨QN.out 400 _ ST.out (by decide)⟩, ⟨HSc.out.B⟩⟩
  have ho1' : ((mo : Int) > 1) = False := eq_false (by omega)
  have K9 : Sl (r9B h = true) := ⟨by rw [R9.out, decide_eq_true ho1]⟩
  have ST : Sl (statV h = 0) := ⟨by unfold statV; rw [if_neg (by rw [K1.out]; decide), if_neg (by rw [K2.out]; decide), if_neg (by rw [K3.out]; decide), if_neg (by rw [K4.out]; decide), if_neg (by rw [K5.out]; decide), if_neg (by rw [K6.out]; decide), if_neg (by rw [K7.out]; decide), if_neg (by rw [K8.out]; decide), if_neg (by rw [K9.out]; decide)]⟩
  clear R1 R2 R3 R4 R5 R6 R7 R9 K1 K2 K3 K4 K5 K6 K7 K8 K9 QN HTL Cu Hu Cc Hc Cv Ch Ck CK Co
  go_wp2
  obtain ⟨R, hR⟩ : ∃ R, wc.drew = R := ⟨_, rfl⟩
  have HER : Sl (Below wc.heap.size wc R) := ⟨by rw [← hR]; exact (Below.refl _ _).drew⟩
  have HSR := Sl.mk (HSc.out.below HER.out)
  have HSoR := Sl.mk (HSoc.out.below HER.out)
  have HStR := Sl.mk (HStc.out.below HER.out)
  obtain ⟨_, _, eh, ch0⟩ := strA_one (HShc.out.below HER.out)
  injection eh with eh
  injection eh with eh1 eh2 eh3
  subst eh1 eh2
  clear eh3
  obtain ⟨_, _, ek, ck0⟩ := strA_one (HSkc.out.below HER.out)
  injection ek with ek
  injection ek with ek1 ek2 ek3
  subst ek1 ek2
  clear ek3 HER HSc HShc HSkc HStc HSoc
  have HXR : Below w.heap.size w R ∧ R.heap[w.heap.size]? = some (.cells #[.string h.a, .string h.b, .string h.c, .slice bd nf bc] 25 (0, 0)) ∧ R.cell? ⟨sh, oh, none⟩ = some (.string xh) ∧ R.cell? ⟨sk, ok, none⟩ = some (.string xk) := ⟨HSR.out.B, HSR.out.H, ch0, ck0⟩
  have HEA : Sl (Below R.heap.size R (R.alloc (.cells #[.string { data := #[] }, .string { data := #[] }, .string { data := #[] }, .string { data := #[] }, .slice none 0 0] 30))) := ⟨(Below.refl _ _).alloc (Nat.le_refl _) _⟩
  have HXA : Below w.heap.size w (R.alloc (.cells #[.string { data := #[] }, .string { data := #[] }, .string { data := #[] }, .string { data := #[] }, .slice none 0 0] 30)) ∧ (R.alloc (.cells #[.string { data := #[] }, .string { data := #[] }, .string { data := #[] }, .string { data := #[] }, .slice none 0 0] 30)).heap[w.heap.size]? = some (.cells #[.string h.a, .string h.b, .string h.c, .slice bd nf bc] 25 (0, 0)) ∧ (R.alloc (.cells #[.string { data := #[] }, .string { data := #[] }, .string { data := #[] }, .string { data := #[] }, .slice none 0 0] 30)).cell? ⟨sh, oh, none⟩ = some (.string xh) ∧ (R.alloc (.cells #[.string { data := #[] }, .string { data := #[] }, .string { data := #[] }, .string { data := #[] }, .slice none 0 0] 30)).cell? ⟨sk, ok, none⟩ = some (.string xk) := ⟨(HSR.out.below HEA.out).B, (HSR.out.below HEA.out).H, by rw [HEA.out.cell (p := ⟨sh, oh, none⟩) (block_lt_of_cell ch0)]; exact ch0, by rw [HEA.out.cell (p := ⟨sk, ok, none⟩) (block_lt_of_cell ck0)]; exact ck0⟩
  have HQA : Sl ((R.alloc (.cells #[.string { data := #[] }, .string { data := #[] }, .string { data := #[] }, .string { data := #[] }, .slice none 0 0] 30)).heap[R.heap.size]? = some (.cells #[.string { data := #[] }, .string { data := #[] }, .string { data := #[] }, .string { data := #[] }, .slice none 0 0] 30 (0, 0))) := ⟨alloc_new _ _ _ rfl⟩
  refine wp_region_noPanic ?_
  refine wp_region_held (S := fun V => Below w.heap.size w V ∧ V.heap[w.heap.size]? = some (.cells #[.string h.a, .string h.b, .string h.c, .slice bd nf bc] 25 (0, 0)) ∧ V.cell? ⟨sh, oh, none⟩ = some (.string xh) ∧ V.cell? ⟨sk, ok, none⟩ = some (.string xk)) (by kernel_rfl) ?_
  change wpAnyH _ _ _ _ _ _ _ _ wc.drew
  rw [hR]
  clear hR ch0 ck0
  refine heldTake (d := some 108) (op := Go.Op.fieldAddr 25 (Go.Operand.tmp 1) 0) (g := none) 0 ?v0 rfl (by kernel_rfl) (by kernel_rfl) (by kernel_rfl) (by kernel_rfl) ?y0 HXR ?_
  case y0 => intro o ho w hS; simp only [execOp, ho]; go_simp; try rfl
  simp only [Act.put, List.setIfInBounds_toArray, List.set_cons_zero, List.set_cons_succ]
  refine heldTake (d := some 109) (op := Go.Op.indexAddr 22 (Go.Operand.tmp 108) (Go.Operand.const (Go.Value.int Go.IntKind.i64 1))) (g := none) 1 ?v1 rfl (by kernel_rfl) (by kernel_rfl) (by kernel_rfl) (by kernel_rfl) ?y1 HXR ?_
  case y1 => intro o ho w hS; simp only [execOp, ho]; go_simp; try rfl
  simp only [Act.put, List.setIfInBounds_toArray, List.set_cons_zero, List.set_cons_succ]
  refine heldTake (d := some 110) (op := Go.Op.load 9 (Go.Operand.tmp 109)) (g := none) 2 ?v2 rfl (by kernel_rfl) (by kernel_rfl) (by kernel_rfl) (by kernel_rfl) ?y2 HXR ?_
  case y2 => intro o ho w hS; obtain ⟨p0, p1, p2, p3⟩ := head_cells hS.2.1; simp only [execOp, ho]; go_simp; try rfl
  simp only [Act.put, List.setIfInBounds_toArray, List.set_cons_zero, List.set_cons_succ]
  refine heldTake (d := some 111) (op := Go.Op.move (Go.Operand.tmp 4)) (g := none) 3 ?v3 rfl (by kernel_rfl) (by kernel_rfl) (by kernel_rfl) (by kernel_rfl) ?y3 HXR ?_
  case y3 => intro o ho w hS; simp only [execOp, ho]; go_simp; try rfl
  simp only [Act.put, List.setIfInBounds_toArray, List.set_cons_zero, List.set_cons_succ]
  refine heldTake (d := some 112) (op := Go.Op.indexAddr 28 (Go.Operand.tmp 111) (Go.Operand.const (Go.Value.int Go.IntKind.i64 0))) (g := none) 4 ?v4 rfl (by kernel_rfl) (by kernel_rfl) (by kernel_rfl) (by kernel_rfl) ?y4 HXR ?_
  case y4 => intro o ho w hS; simp only [execOp, ho]; go_simp; try rfl
  simp only [Act.put, List.setIfInBounds_toArray, List.set_cons_zero, List.set_cons_succ]
  refine heldTake (d := some 113) (op := Go.Op.load 9 (Go.Operand.tmp 112)) (g := none) 5 ?v5 rfl (by kernel_rfl) (by kernel_rfl) (by kernel_rfl) (by kernel_rfl) ?y5 HXR ?_
  case y5 => intro o ho w hS; have c0 := hS.2.2.1; simp only [execOp, ho]; go_simp; try rfl
  simp only [Act.put, List.setIfInBounds_toArray, List.set_cons_zero, List.set_cons_succ]
  refine heldTake (d := some 114) (op := Go.Op.move (Go.Operand.tmp 6)) (g := none) 6 ?v6 rfl (by kernel_rfl) (by kernel_rfl) (by kernel_rfl) (by kernel_rfl) ?y6 HXR ?_
  case y6 => intro o ho w hS; simp only [execOp, ho]; go_simp; try rfl
  simp only [Act.put, List.setIfInBounds_toArray, List.set_cons_zero, List.set_cons_succ]
  refine heldTake (d := some 115) (op := Go.Op.indexAddr 28 (Go.Operand.tmp 114) (Go.Operand.const (Go.Value.int Go.IntKind.i64 0))) (g := none) 7 ?v7 rfl (by kernel_rfl) (by kernel_rfl) (by kernel_rfl) (by kernel_rfl) ?y7 HXR ?_
  case y7 => intro o ho w hS; simp only [execOp, ho]; go_simp; try rfl
  simp only [Act.put, List.setIfInBounds_toArray, List.set_cons_zero, List.set_cons_succ]
  refine heldTake (d := some 116) (op := Go.Op.load 9 (Go.Operand.tmp 115)) (g := none) 8 ?v8 rfl (by kernel_rfl) (by kernel_rfl) (by kernel_rfl) (by kernel_rfl) ?y8 HXR ?_
  case y8 => intro o ho w hS; have c0 := hS.2.2.2; simp only [execOp, ho]; go_simp; try rfl
  simp only [Act.put, List.setIfInBounds_toArray, List.set_cons_zero, List.set_cons_succ]
  refine heldTake (d := some 117) (op := Go.Op.move (Go.Operand.tmp 7)) (g := none) 9 ?v9 rfl (by kernel_rfl) (by kernel_rfl) (by kernel_rfl) (by kernel_rfl) ?y9 HXR ?_
  case y9 => intro o ho w hS; simp only [execOp, ho]; go_simp; try rfl
  simp only [Act.put, List.setIfInBounds_toArray, List.set_cons_zero, List.set_cons_succ]
  refine heldTake (d := some 118) (op := Go.Op.build 30 #[(0, Go.Operand.tmp 110), (1, Go.Operand.tmp 113), (2, Go.Operand.tmp 116), (4, Go.Operand.tmp 117)]) (g := none) 10 ?v10 rfl (by kernel_rfl) (by kernel_rfl) (by kernel_rfl) (by kernel_rfl) ?y10 HXR ?_
  case y10 => intro o ho w hS; simp only [execOp, ho]; go_simp; try rfl
  simp only [Act.put, List.setIfInBounds_toArray, List.set_cons_zero, List.set_cons_succ]
  refine heldRunT (d := some 10) (op := Go.Op.alloc 30) (g := none) (t := 0) 11 (.pointer (some ⟨R.heap.size, 0, none⟩)) (R.alloc (.cells #[.string { data := #[] }, .string { data := #[] }, .string { data := #[] }, .string { data := #[] }, .slice none 0 0] 30)) rfl (by kernel_rfl) (by kernel_rfl) ?y11 HXA ?_
  case y11 => intro o ho ht; simp only [execOp, ho]; go_simp; try rfl
  simp only [Act.put, List.setIfInBounds_toArray, List.set_cons_zero, List.set_cons_succ]
  have HE6 : Sl (Below R.heap.size R ((((((R.alloc (.cells #[.string { data := #[] }, .string { data := #[] }, .string { data := #[] }, .string { data := #[] }, .slice none 0 0] 30)).setCell ⟨R.heap.size, 0, none⟩ (.string h.b)).setCell ⟨R.heap.size, 1, none⟩ (.string xh)).setCell ⟨R.heap.size, 2, none⟩ (.string xk)).setCell ⟨R.heap.size, 3, none⟩ (.string { data := #[] })).setCell ⟨R.heap.size, 4, none⟩ (.slice at_ mt ct))) := ⟨HEA.out.grown (grown_five _ R.heap.size _ _ _ _ _) HEA.out.size (fun k hk => by injection hk with hk; omega)⟩
  have HQ6 : Sl (((((((R.alloc (.cells #[.string { data := #[] }, .string { data := #[] }, .string { data := #[] }, .string { data := #[] }, .slice none 0 0] 30)).setCell ⟨R.heap.size, 0, none⟩ (.string h.b)).setCell ⟨R.heap.size, 1, none⟩ (.string xh)).setCell ⟨R.heap.size, 2, none⟩ (.string xk)).setCell ⟨R.heap.size, 3, none⟩ (.string { data := #[] })).setCell ⟨R.heap.size, 4, none⟩ (.slice at_ mt ct)).heap[R.heap.size]? = some (.cells #[.string h.b, .string xh, .string xk, .string { data := #[] }, .slice at_ mt ct] 30 (0, 0))) := ⟨five_cells _ _ _ _ _ _ _ _ _ _ _ _ HQA.out⟩
  have HX6 : Below w.heap.size w ((((((R.alloc (.cells #[.string { data := #[] }, .string { data := #[] }, .string { data := #[] }, .string { data := #[] }, .slice none 0 0] 30)).setCell ⟨R.heap.size, 0, none⟩ (.string h.b)).setCell ⟨R.heap.size, 1, none⟩ (.string xh)).setCell ⟨R.heap.size, 2, none⟩ (.string xk)).setCell ⟨R.heap.size, 3, none⟩ (.string { data := #[] })).setCell ⟨R.heap.size, 4, none⟩ (.slice at_ mt ct)) ∧ ((((((R.alloc (.cells #[.string { data := #[] }, .string { data := #[] }, .string { data := #[] }, .string { data := #[] }, .slice none 0 0] 30)).setCell ⟨R.heap.size, 0, none⟩ (.string h.b)).setCell ⟨R.heap.size, 1, none⟩ (.string xh)).setCell ⟨R.heap.size, 2, none⟩ (.string xk)).setCell ⟨R.heap.size, 3, none⟩ (.string { data := #[] })).setCell ⟨R.heap.size, 4, none⟩ (.slice at_ mt ct)).heap[w.heap.size]? = some (.cells #[.string h.a, .string h.b, .string h.c, .slice bd nf bc] 25 (0, 0)) ∧ ((((((R.alloc (.cells #[.string { data := #[] }, .string { data := #[] }, .string { data := #[] }, .string { data := #[] }, .slice none 0 0] 30)).setCell ⟨R.heap.size, 0, none⟩ (.string h.b)).setCell ⟨R.heap.size, 1, none⟩ (.string xh)).setCell ⟨R.heap.size, 2, none⟩ (.string xk)).setCell ⟨R.heap.size, 3, none⟩ (.string { data := #[] })).setCell ⟨R.heap.size, 4, none⟩ (.slice at_ mt ct)).cell? ⟨sh, oh, none⟩ = some (.string xh) ∧ ((((((R.alloc (.cells #[.string { data := #[] }, .string { data := #[] }, .string { data := #[] }, .string { data := #[] }, .slice none 0 0] 30)).setCell ⟨R.heap.size, 0, none⟩ (.string h.b)).setCell ⟨R.heap.size, 1, none⟩ (.string xh)).setCell ⟨R.heap.size, 2, none⟩ (.string xk)).setCell ⟨R.heap.size, 3, none⟩ (.string { data := #[] })).setCell ⟨R.heap.size, 4, none⟩ (.slice at_ mt ct)).cell? ⟨sk, ok, none⟩ = some (.string xk) := ⟨(HSR.out.below HE6.out).B, (HSR.out.below HE6.out).H, by rw [HE6.out.cell (p := ⟨sh, oh, none⟩) (block_lt_of_cell HXR.2.2.1)]; exact HXR.2.2.1, by rw [HE6.out.cell (p := ⟨sk, ok, none⟩) (block_lt_of_cell HXR.2.2.2)]; exact HXR.2.2.2⟩
  obtain ⟨⟨z0, z1, z2, z3, z4⟩, ⟨f0, f1, f2, f3, f4⟩, _⟩ := offer_zero HQA.out
  refine heldStore (d := none) (op := Go.Op.store 30 (Go.Operand.tmp 10) (Go.Operand.tmp 118)) (g := none) 12 ((((((R.alloc (.cells #[.string { data := #[] }, .string { data := #[] }, .string { data := #[] }, .string { data := #[] }, .slice none 0 0] 30)).setCell ⟨R.heap.size, 0, none⟩ (.string h.b)).setCell ⟨R.heap.size, 1, none⟩ (.string xh)).setCell ⟨R.heap.size, 2, none⟩ (.string xk)).setCell ⟨R.heap.size, 3, none⟩ (.string { data := #[] })).setCell ⟨R.heap.size, 4, none⟩ (.slice at_ mt ct)) rfl (by kernel_rfl) (by kernel_rfl) ?y12 HX6 ?_
  case y12 => intro o ho ht; simp only [execOp, ho]; go_simp; try rfl
  simp only [Act.put]
  refine wpAnyH_done (by kernel_rfl) ?_ _
  refine NoPanic.normal ?_
  clear z0 z1 z2 z3 z4 f0 f1 f2 f3 f4 HX6 HXR HXA HQA HEA
  obtain ⟨W6, hW6⟩ : ∃ V, ((((((R.alloc (.cells #[.string { data := #[] }, .string { data := #[] }, .string { data := #[] }, .string { data := #[] }, .slice none 0 0] 30)).setCell ⟨R.heap.size, 0, none⟩ (.string h.b)).setCell ⟨R.heap.size, 1, none⟩ (.string xh)).setCell ⟨R.heap.size, 2, none⟩ (.string xk)).setCell ⟨R.heap.size, 3, none⟩ (.string { data := #[] })).setCell ⟨R.heap.size, 4, none⟩ (.slice at_ mt ct)) = V := ⟨_, rfl⟩
  rw [hW6] at HE6 HQ6 ⊢
  clear hW6
  have HS6 := Sl.mk (HSR.out.below HE6.out)
  have HSo6 := Sl.mk (HSoR.out.below HE6.out)
  have HSt6 := Sl.mk (HStR.out.below HE6.out)
  have HB6 := Sl.mk HS6.out.B
  obtain ⟨q0, q1, q2, q3, q4⟩ := offer_cells HQ6.out
  by_cases ho0 : mo = 1
  rotate_left
  · have ho2 : ((mo : Int) == 1) = false := by simp; omega
    have HON : Sl (oneS lo = { data := #[] }) := ⟨oneS_ne (by rw [Mo.out]; exact ho0)⟩
    rw [HON.out] at QY
    obtain ⟨⟨z0, z1, z2, z3, z4⟩, ⟨f0, f1, f2, f3, f4⟩, _⟩ := offer_zero HS6.out.O
    go_wp2
    refine bodyPost_ret (ret_offer rfl _ _ (w.heap.size + 1) 30 _ (0, 0) rfl (five_cells _ _ _ _ _ _ _ _ _ _ _ _ HS6.out.O) rfl) rfl ?_
    exact ⟨⟨QY.out _ at_ ct mt ST.out Mt.out (own_other HSt6.out (grown_five W6 (w.heap.size + 1) _ _ _ _ _) HZB.out).strA⟩, ⟨HB6.out.grown (grown_five W6 (w.heap.size + 1) _ _ _ _ _) HB6.out.size (fun k hk => by injection hk with hk; omega)⟩⟩
  have ho2 : ((mo : Int) == 1) = true := by simp [ho0]
  subst ho0
  obtain ⟨xo, rfl⟩ := list_one Mo.out
  obtain ⟨so2, oo2, rfl, co0⟩ := strA_one HSo6.out
  have g3 : W6.frozen? ⟨R.heap.size, 3, none⟩ = false := frozen_of_row _ _ _ _ _ HQ6.out
  obtain ⟨W7, hW7⟩ : ∃ V, W6.setCell ⟨R.heap.size, 3, none⟩ (.string xo) = V := ⟨_, rfl⟩
  have HE7 : Sl (Below R.heap.size R W7) := ⟨by rw [← hW7]; exact HE6.out.grown (grown_setCell W6 R.heap.size 3 _) HE6.out.size (fun k hk => by injection hk with hk; omega)⟩
  have HQ7 : Sl (W7.heap[R.heap.size]? = some (.cells #[.string h.b, .string xh, .string xk, .string xo, .slice at_ mt ct] 30 (0, 0))) := ⟨by rw [← hW7, heap_setCell_same _ _ _ _ _ _ HQ6.out]; rfl⟩
  have HS7 := Sl.mk (HSR.out.below HE7.out)
  have HSt7 := Sl.mk (HStR.out.below HE7.out)
  have HB7 := Sl.mk HS7.out.B
  obtain ⟨r0, r1, r2, r3, r4⟩ := offer_cells HQ7.out
  obtain ⟨⟨z0, z1, z2, z3, z4⟩, ⟨f0, f1, f2, f3, f4⟩, _⟩ := offer_zero HS7.out.O
  go_wp2
  refine bodyPost_ret (ret_offer rfl _ _ (w.heap.size + 1) 30 _ (0, 0) rfl (five_cells _ _ _ _ _ _ _ _ _ _ _ _ HS7.out.O) rfl) rfl ?_
  exact ⟨⟨QY.out _ at_ ct mt ST.out Mt.out (own_other HSt7.out (grown_five W7 (w.heap.size + 1) _ _ _ _ _) HZB.out).strA⟩, ⟨HB7.out.grown (grown_five W7 (w.heap.size + 1) _ _ _ _ _) HB7.out.size (fun k hk => by injection hk with hk; omega)⟩⟩
end Go.Proofs.YthlagngpllahkaaGreatDoor
