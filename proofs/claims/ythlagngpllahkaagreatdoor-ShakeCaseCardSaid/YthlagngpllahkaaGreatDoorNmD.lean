/- The document's reader of a list, byte by byte. -/
import Derived.Test.YthlagngpllahkaaGreatDoorNmC
set_option maxRecDepth 100000
namespace Go.Proofs.YthlagngpllahkaaGreatDoor.Nam
open Go.RowKit HeadPlain

/-- What the document's readers answer. -/
def RefR (w w' : World) (o : Option (List (List Nat))) (e : Ending) : Prop :=
  (∃ v l, o = some (l.map bytes) ∧ e = .returned (.tuple #[v, .bool true]) ∧ OwnS w' w.heap.size v l) ∨ (o = none ∧ e = .returned (.tuple #[.slice none 0 0, .bool false]))
/-- Where the reader stands. -/
def Ref24 (bs : List Nat) (k : Nat) (out : List ByteArray) (tk : ByteArray) (bl : Bool) : Prop :=
  (k ≤ bs.length ∧ refL [] [] false bs = refL (out.map bytes) (bytes tk) bl (bs.drop k)) ∨ (k = bs.length + 1 ∧ refL [] [] false bs = some (out.map bytes))
theorem drop_cons {bs : List Nat} {k : Nat} (h : k < bs.length) : bs.drop k = bs.getD k 0 :: bs.drop (k + 1) := by
  rw [List.getD_eq_getElem?_getD, List.getElem?_eq_getElem h, List.drop_eq_getElem_cons h]; rfl
theorem isEmpty_iff (t : ByteArray) : t.toList.isEmpty = decide (t.size = 0) := by
  have := bytes_length t
  rw [toList_bytes, List.length_map] at this
  rw [← this]
  cases t.toList <;> simp
theorem bytes_nil {t : ByteArray} (h : t.size = 0) : bytes t = [] := List.eq_nil_of_length_eq_zero (by rw [bytes_length]; exact h)
theorem bytes_ne {t : ByteArray} (h : t.size ≠ 0) : bytes t ≠ [] := fun e => h (by rw [← bytes_length, e]; rfl)
theorem ref_end {bs : List Nat} {out : List ByteArray} {tk : ByteArray} {bl : Bool} (h : Ref24 bs bs.length out tk bl) : Ref24 bs (bs.length + 1) (if tk.size = 0 then out else out ++ [tk]) ByteArray.empty false := by
  rcases h with ⟨_, h⟩ | ⟨h, _⟩
  · refine .inr ⟨rfl, ?_⟩
    rw [h, List.drop_length, refL]
    by_cases h0 : tk.size = 0
    · rw [if_pos h0, if_pos (bytes_nil h0)]
    · rw [if_neg h0, if_neg (bytes_ne h0)]; simp
  · omega
theorem ref_comma {bs : List Nat} {k : Nat} {out : List ByteArray} {tk : ByteArray} {bl : Bool} (hk : k < bs.length) (hc : bs.getD k 0 = 44) (h : Ref24 bs k out tk bl) : Ref24 bs (k + 1) (if tk.size = 0 then out else out ++ [tk]) ByteArray.empty false := by
  rcases h with ⟨_, h⟩ | ⟨h, _⟩
  · refine .inl ⟨by omega, ?_⟩
    rw [h, drop_cons hk, hc, refL, if_pos rfl]
    by_cases h0 : tk.size = 0
    · rw [if_pos h0, if_pos (bytes_nil h0)]; rfl
    · rw [if_neg h0, if_neg (bytes_ne h0)]; simp; rfl
  · omega
theorem ref_blank {bs : List Nat} {k c : Nat} {out : List ByteArray} {tk : ByteArray} {bl : Bool} (hk : k < bs.length) (hc : bs.getD k 0 = c) (h1 : c = 32 ∨ c = 9) (h : Ref24 bs k out tk bl) : Ref24 bs (k + 1) out tk (decide (0 < tk.size)) := by
  rcases h with ⟨_, h⟩ | ⟨h, _⟩
  · refine .inl ⟨by omega, ?_⟩
    rw [h, drop_cons hk, hc, refL, if_neg (by omega), if_pos h1]
    congr 1
    cases hb : bytes tk with
    | nil => have : tk.size = 0 := by rw [← bytes_length, hb]; rfl
             simp [this]
    | cons a b => have : 0 < tk.size := by rw [← bytes_length, hb]; simp
                  simp [this]
  · omega
theorem ref_bad {bs : List Nat} {k c : Nat} {out : List ByteArray} {tk : ByteArray} {bl : Bool} (hk : k < bs.length) (hc : bs.getD k 0 = c) (h0 : c ≠ 44) (h1 : ¬ (c = 32 ∨ c = 9)) (h2 : bl = true ∨ tokB c = false) (h : Ref24 bs k out tk bl) : refL [] [] false bs = none := by
  rcases h with ⟨_, h⟩ | ⟨h, _⟩
  · rw [h, drop_cons hk, hc, refL, if_neg h0, if_neg h1, if_pos h2]
  · omega
theorem ref_more {bs : List Nat} {k c : Nat} {out : List ByteArray} {tk : ByteArray} (x : ByteArray) (hx : bytes x = [c]) (hk : k < bs.length) (hc : bs.getD k 0 = c) (h0 : c ≠ 44) (h1 : ¬ (c = 32 ∨ c = 9)) (h2 : tokB c = true) (h : Ref24 bs k out tk false) : Ref24 bs (k + 1) out (tk ++ x) false := by
  rcases h with ⟨_, h⟩ | ⟨h, _⟩
  · refine .inl ⟨by omega, ?_⟩
    rw [h, drop_cons hk, hc, refL, if_neg h0, if_neg h1, if_neg (by rw [h2]; simp), bytes_append, hx]
  · omega
theorem one_byte (s : ByteArray) (k : Nat) (h : k < s.size) : bytes (s.extract k (k + 1)) = [(bytes s).getD k 0] := by
  rw [bytes_extract, List.getD_eq_getElem?_getD]
  have hl : k < (bytes s).length := by rw [bytes_length]; exact h
  rw [List.drop_take, List.getElem?_eq_getElem hl]
  rw [show k + 1 - k = 1 by omega, List.drop_eq_getElem_cons hl]
  rfl
theorem token_one (c : Nat) : token [c] = tokB c := by unfold token; simp
set_option maxRecDepth 100000 in
set_option maxHeartbeats 2000000 in
theorem listR_any (s : ByteArray) (w : World) (hs : s.size ≤ 100000) : Calls Tryz.prog 80 #[.string s] w fun e w' => RefR w w' (toks (bytes s)) e ∧ Sl (Below w.heap.size w w') := by
  rw [← refL_toks]
  obtain ⟨bs, hbs⟩ : ∃ bs, bytes s = bs := ⟨_, rfl⟩
  have HBS := Sl.mk hbs
  have HLEN : Sl (bs.length = s.size) := ⟨by rw [← hbs, bytes_length]⟩
  rw [hbs]
  obtain ⟨res, hres⟩ : ∃ res, refL [] [] false bs = res := ⟨_, rfl⟩
  have HRES := Sl.mk hres
  rw [hres]
  clear hres hbs
  go_enter Tryz.func80, Tryz.ntmps80
  go_wp2
  go_loopw [4, 5, 6, 7] (fun v t b i wr => ∃ (k : Nat) (out : List ByteArray) (tk : ByteArray) (bl : Bool), k ≤ s.size + 1 ∧ t = .string tk ∧ b = .bool bl ∧ i = .int .i64 k ∧ out.length ≤ k ∧ tk.size ≤ k ∧
      Sl (OwnS wr w.heap.size v out) ∧ Sl (Below w.heap.size w wr) ∧ Sl (Ref24 bs k out tk bl)) (fun _ _ _ i _ => s.size + 1 - (intOf i).toNat)
  case atStart =>
    exact ⟨0, [], ByteArray.empty, false, Nat.zero_le _, rfl, rfl, rfl, Nat.le_refl _, by simp, ⟨own_lit w⟩, ⟨(Below.refl _ _).alloc (Nat.le_refl _) _⟩, ⟨.inl ⟨Nat.zero_le _, rfl⟩⟩⟩
  case round =>
    obtain ⟨k, out, tk, bl, hk, rfl, rfl, rfl, hol, htl, HO, HB, HR⟩ := hrel
    obtain ⟨oa, oc, ho⟩ := HO.out.slice
    subst ho
    have hk0 : (0 : Int) ≤ (k : Int) := by omega
    by_cases h1 : k = s.size + 1
    · have hge : ((k : Int) ≤ (s.size : Int)) = False := eq_false (by omega)
      go_wp2
      go_ret2
      refine ⟨.inl ⟨_, out, ?_, rfl, HO.out⟩, HB⟩
      rcases HR.out with ⟨h, _⟩ | ⟨_, h⟩
      · rw [HLEN.out] at h; omega
      · rw [← HRES.out]; exact h
    · have hle : ((k : Int) ≤ (s.size : Int)) = True := eq_true (by omega)
      have APP : Sl (OwnS (wr.alloc (.cells #[.string tk] 9)) w.heap.size (.slice oa out.length oc) out) := ⟨HO.out.below ((Below.refl _ _).alloc (Nat.le_refl _) _)⟩
      have BAS : Sl (w.heap.size ≤ (wr.alloc (.cells #[.string tk] 9)).heap.size) := ⟨by rw [alloc_size]; have := HB.out.size; omega⟩
      have AB : Sl (Below w.heap.size w (wr.alloc (.cells #[.string tk] 9))) := ⟨HB.out.alloc HB.out.size _⟩
      by_cases h2 : k = s.size
      · have he : ((k : Int) == (s.size : Int)) = true := by simp; omega
        have HE := Sl.mk (ref_end (by rw [HLEN.out, ← h2]; exact HR.out))
        rw [HLEN.out] at HE
        by_cases h3 : tk.size = 0
        · have hq2 : tk.toList = [] := by have := isEmpty_iff tk; rw [decide_eq_true h3] at this; simpa using this
          rw [if_pos h3] at HE
          go_wp2
          exact ⟨⟨s.size + 1, out, ByteArray.empty, false, by omega, rfl, rfl, by go_num, by omega, by simp, HO, HB, HE⟩, by simp [intOf]; omega⟩
        · have hq1 : tk.toList.isEmpty = false := by rw [isEmpty_iff, decide_eq_false h3]
          have hq2 : (tk.toList = []) = False := eq_false (fun e => by rw [e] at hq1; cases hq1)
          rw [if_neg h3] at HE
          go_wp2_with (refine app_str rfl rfl _ _ rfl w.heap.size _ out tk rfl APP.out ⟨wr.heap.size, 0, none⟩ 1 rfl (by simp) rfl (by omega) BAS.out ?_; intro v' w3 HO3 HG3)
          exact ⟨⟨s.size + 1, out ++ [tk], ByteArray.empty, false, by omega, rfl, rfl, by go_num, by simp; omega, by simp, HO3, ⟨AB.out.grown HG3.out BAS.out (fun j hj => own_ge APP.out hj)⟩, HE⟩, by simp [intOf]; omega⟩
      · have he : ((k : Int) == (s.size : Int)) = false := by simp; omega
        have hlt : k < s.size := by omega
        have hlb : k < bs.length := by rw [HLEN.out]; exact hlt
        obtain ⟨c, hc⟩ : ∃ c, (s[k]'hlt).toNat = c := ⟨_, rfl⟩
        have HC : Sl (bs.getD k 0 = c) := ⟨by rw [← HBS.out, bytes_getD s k hlt, ← hc]; rfl⟩
        by_cases h44 : c = 44
        · have hc1 : ((c : Int) == 44) = true := by simp; omega
          have HE := Sl.mk (ref_comma hlb (by rw [HC.out, h44]) HR.out)
          clear h44
          by_cases h3 : tk.size = 0
          · have hq2 : tk.toList = [] := by have := isEmpty_iff tk; rw [decide_eq_true h3] at this; simpa using this
            rw [if_pos h3] at HE
            go_wp2
            exact ⟨⟨k + 1, out, ByteArray.empty, false, by omega, rfl, rfl, by go_num, by omega, by simp, HO, HB, HE⟩, by simp [intOf]; omega⟩
          · have hq1 : tk.toList.isEmpty = false := by rw [isEmpty_iff, decide_eq_false h3]
            have hq2 : (tk.toList = []) = False := eq_false (fun e => by rw [e] at hq1; cases hq1)
            rw [if_neg h3] at HE
            go_wp2_with (refine app_str rfl rfl _ _ rfl w.heap.size _ out tk rfl APP.out ⟨wr.heap.size, 0, none⟩ 1 rfl (by simp) rfl (by omega) BAS.out ?_; intro v' w3 HO3 HG3)
            exact ⟨⟨k + 1, out ++ [tk], ByteArray.empty, false, by omega, rfl, rfl, by go_num, by simp; omega, by simp, HO3, ⟨AB.out.grown HG3.out BAS.out (fun j hj => own_ge APP.out hj)⟩, HE⟩, by simp [intOf]; omega⟩
        · have hc1 : ((c : Int) == 44) = false := by simp; omega
          by_cases hbl : c = 32 ∨ c = 9
          · have HE := Sl.mk (ref_blank hlb HC.out hbl HR.out)
            have HEM : Sl ((!tk.toList.isEmpty) = decide (0 < tk.size)) := ⟨by rw [isEmpty_iff]; by_cases h : tk.size = 0 <;> simp [h]; omega⟩
            by_cases h32 : c = 32
            · have hc2 : ((c : Int) == 32) = true := by simp; omega
              clear hbl h32 h44
              go_wp2
              exact ⟨⟨k + 1, out, tk, !tk.toList.isEmpty, by omega, rfl, rfl, by go_num, by omega, by omega, HO, HB, by rw [HEM.out]; exact HE⟩, by simp [intOf]; omega⟩
            · have hc2 : ((c : Int) == 32) = false := by simp; omega
              have hc3 : ((c : Int) == 9) = true := by simp; omega
              clear hbl h32 h44
              go_wp2
              exact ⟨⟨k + 1, out, tk, !tk.toList.isEmpty, by omega, rfl, rfl, by go_num, by omega, by omega, HO, HB, by rw [HEM.out]; exact HE⟩, by simp [intOf]; omega⟩
          · have hc2 : ((c : Int) == 32) = false := by simp; omega
            have hc3 : ((c : Int) == 9) = false := by simp; omega
            obtain ⟨x, hx⟩ : ∃ x, s.extract k (k + 1) = x := ⟨_, rfl⟩
            have HX : Sl (bytes x = [c]) := ⟨by rw [← hx, one_byte s k hlt, HBS.out, HC.out]⟩
            have hxs : x.size = 1 := by rw [← bytes_length, HX.out]; rfl
            have HTK : Sl (Calls Tryz.prog 57 #[.string x] wr fun e w' => e = .returned (.bool (tokB c)) ∧ wr = w') := ⟨(tokenR_any x wr (by unfold maxLen; omega)).mono fun _ _ ⟨h1, h2⟩ => ⟨by rw [h1, HX.out, token_one], h2.symm⟩⟩
            obtain ⟨r, hr⟩ : ∃ r, tokB c = r := ⟨_, rfl⟩
            have HRR := Sl.mk hr
            rw [hr] at HTK
            clear hr
            have HN44 : Sl (c ≠ 44 ∧ ¬ (c = 32 ∨ c = 9)) := ⟨⟨h44, hbl⟩⟩
            have hxs' : x.size ≤ 1 := by omega
            have hsum : tk.size + x.size ≤ 100002 := by omega
            clear h44 hbl hxs
            cases bl with
            | true =>
              have HE := Sl.mk (ref_bad hlb HC.out HN44.out.1 HN44.out.2 (.inl rfl) HR.out)
              go_wp2
              go_ret2
              exact ⟨.inr ⟨by rw [← HRES.out]; exact HE.out, rfl⟩, HB⟩
            | false =>
              cases r with
              | false =>
                have HE := Sl.mk (ref_bad hlb HC.out HN44.out.1 HN44.out.2 (.inr HRR.out) HR.out)
                go_wp2_with (go_at_call 57; refine HTK.out.mono ?_; rintro e w' ⟨rfl, rfl⟩)
                go_ret2
                exact ⟨.inr ⟨by rw [← HRES.out]; exact HE.out, rfl⟩, HB⟩
              | true =>
                have HE := Sl.mk (ref_more x HX.out hlb HC.out HN44.out.1 HN44.out.2 HRR.out HR.out)
                go_wp2_with (go_at_call 57; refine HTK.out.mono ?_; rintro e w' ⟨rfl, rfl⟩)
                exact ⟨⟨k + 1, out, tk ++ x, false, by omega, rfl, rfl, by go_num, by omega, by rw [ByteArray.size_append]; omega, HO, HB, HE⟩, by simp [intOf]; omega⟩
theorem toksAll_take {l : List ByteArray} {k : Nat} {p : ByteArray} (hk : k < l.length) (hp : l.getD k ByteArray.empty = p) : toksAll ((l.take (k + 1)).map bytes) = comb (toksAll ((l.take k).map bytes)) (toks (bytes p)) := by
  rw [take_snoc' hk, hp, List.map_append, toksAll_append]
  congr 1
  rw [List.map_singleton, toksAll, toksAll, comb_nil]
theorem toksAll_none {l : List ByteArray} {k : Nat} {p : ByteArray} (hk : k < l.length) (hp : l.getD k ByteArray.empty = p) (h : toks (bytes p) = none) : toksAll (l.map bytes) = none := by
  conv => lhs; rw [← List.take_append_drop (k + 1) l]
  rw [List.map_append, toksAll_append, toksAll_take hk hp, h]
  cases toksAll ((l.take k).map bytes) <;> rfl
theorem tell_take_len (l : List ByteArray) (k : Nat) : (tell (l.take k)).length ≤ (tell l).length := (tell_take l k).length_le
theorem toks_length {p : ByteArray} {m : List ByteArray} (h : toks (bytes p) = some (m.map bytes)) : m.length ≤ p.size + 1 := by
  rw [toks, ← cuts_bytes, tellC_bytes] at h
  split at h
  · have h2 := congrArg (Option.map List.length) h
    simp at h2
    rw [← h2]; exact tellC_len p
  · cases h
set_option maxRecDepth 100000 in
set_option maxHeartbeats 1000000 in
theorem listsR_any (l : List ByteArray) (v : Value) (w : World) (hv : StrA w v l) (hl : l.length ≤ 100) (hs : ∀ s ∈ l, s.size ≤ 3000) : Calls Tryz.prog 41 #[v] w fun e w' => RefR w w' (toksAll (l.map bytes)) e ∧ Sl (Below w.heap.size w w') := by
  obtain ⟨ad, ca, sa, oa, rfl, hca, haa, hcell⟩ := hv
  have HA := Sl.mk hcell
  have HAA := Sl.mk haa
  have HSZ := Sl.mk hs
  clear hcell haa hca hs
  obtain ⟨res, hres⟩ : ∃ res, toksAll (l.map bytes) = res := ⟨_, rfl⟩
  have HRES := Sl.mk hres
  rw [hres]
  obtain ⟨n, hn⟩ : ∃ n, l.length = n := ⟨_, rfl⟩
  have HN := Sl.mk hn
  rw [hn] at hl ⊢
  clear hn hres
  go_enter Tryz.func41, Tryz.ntmps41
  go_wp2
  go_loopw [4, 5] (fun v i wr => ∃ (k : Nat) (out : List ByteArray), k ≤ n ∧ i = .int .i64 k ∧ out.length ≤ k * 3001 ∧ Sl (OwnS wr w.heap.size v out) ∧ Sl (Below w.heap.size w wr) ∧ Sl (toksAll ((l.take k).map bytes) = some (out.map bytes))) (fun _ i _ => n - (intOf i).toNat)
  case atStart =>
    exact ⟨0, [], Nat.zero_le _, rfl, by simp, ⟨own_lit w⟩, ⟨(Below.refl _ _).alloc (Nat.le_refl _) _⟩, ⟨rfl⟩⟩
  case round =>
    obtain ⟨k, out, hk, rfl, hol, HO, HB, HR⟩ := hrel
    obtain ⟨xa, xc, ho⟩ := HO.out.slice
    subst ho
    have hk0 : (0 : Int) ≤ (k : Int) := by omega
    by_cases hlt : k < n
    · obtain rfl := HAA.out (by rw [HN.out]; omega)
      obtain ⟨p, hp⟩ : ∃ p, l.getD k ByteArray.empty = p := ⟨_, rfl⟩
      have HP := Sl.mk hp
      have e0 : wr.cell? ⟨sa, oa + k, none⟩ = some (.string p) := by
        have h1 := HA.out k (by rw [HN.out]; omega)
        rw [HB.out.cell (p := ⟨sa, oa + k, none⟩) (block_lt_of_cell h1), h1, hp]
      have hps : p.size ≤ 3000 := HSZ.out p (by rw [← hp]; exact getD_mem (by rw [HN.out]; exact hlt))
      have HC : Sl (Calls Tryz.prog 80 #[.string p] wr fun e w' => RefR wr w' (toks (bytes p)) e ∧ Sl (Below wr.heap.size wr w')) := ⟨listR_any p wr (by omega)⟩
      have hk1 : (k : Int) < (n : Int) := by omega
      clear hp
      go_wp2_with (first
        | (go_at_call 80; refine HC.out.mono ?_; rintro e w2 ⟨(⟨m, ml, hm, rfl, hmo⟩ | ⟨hm, rfl⟩), HB2⟩)
        | (refine app_all rfl _ _ rfl w.heap.size _ m out ml rfl (HO.out.below HB2.out) rfl hmo.strA (by have := toks_length hm; omega) (by have := HB.out.size; have := HB2.out.size; omega) ?_; intro v' w3 HO3 HG3))
      · have h1 := toks_length hm
        have h2 := HB2.out.size
        have h3 := HB.out.size
        refine ⟨⟨k + 1, out ++ ml, by omega, by go_num, by rw [List.length_append]; omega, HO3, ⟨(HB.out.trans (HB2.out.mono h3)).grown HG3.out (by omega) (fun j hj => own_ge HO.out hj)⟩, ⟨?_⟩⟩, by simp [intOf]; omega⟩
        rw [toksAll_take (by rw [HN.out]; exact hlt) HP.out, HR.out, hm]
        simp [comb]
      · go_ret2
        refine ⟨.inr ⟨?_, rfl⟩, ⟨HB.out.trans (HB2.out.mono HB.out.size)⟩⟩
        rw [← HRES.out]
        exact toksAll_none (by rw [HN.out]; exact hlt) HP.out hm
    · have hge : ((k : Int) < (n : Int)) = False := eq_false (by omega)
      go_wp2
      go_ret2
      refine ⟨.inl ⟨_, out, ?_, rfl, HO.out⟩, HB⟩
      rw [← HRES.out]
      have := HR.out
      rw [List.take_of_length_le (by rw [HN.out]; omega)] at this
      exact this
end Go.Proofs.YthlagngpllahkaaGreatDoor.Nam
/- The document's Has; a text with its letters' case turned. -/
namespace Go.Proofs.YthlagngpllahkaaGreatDoor.Nam
open Go.RowKit HeadPlain

theorem hasT_some {t : List Nat} {ls : List (List Nat)} {m : List ByteArray} (h : toksAll ls = some (m.map bytes)) : hasT t ls = m.any fun x => same (bytes x) t := by
  unfold hasT; rw [h]; simp only [List.any_map]; rfl
theorem map_inj {a b : List ByteArray} (h : a.map bytes = b.map bytes) : a = b := (List.map_inj_right (fun _ _ e => bytes_inj e)).1 h
theorem toks_tell {l m : List ByteArray} (h : toksAll (l.map bytes) = some (m.map bytes)) : m = tell l := by
  rw [tell_toks] at h
  split at h
  · injection h with h; exact (map_inj h).symm
  · cases h
theorem hasT_none {t : List Nat} {ls : List (List Nat)} (h : toksAll ls = none) : hasT t ls = false := by unfold hasT; rw [h]
set_option maxRecDepth 100000 in
set_option maxHeartbeats 1000000 in
theorem hasR_any (token : ByteArray) (l : List ByteArray) (v : Value) (w : World) (hv : StrA w v l) (hl : l.length ≤ 100) (hs : ∀ s ∈ l, s.size ≤ 3000) :
    Calls Tryz.prog 39 #[.string token, v] w fun e w' => e = .returned (.bool (hasB token l)) ∧ Sl (Below w.heap.size w w') := by
  have HL := Sl.mk (listsR_any l v w hv hl hs)
  obtain ⟨r, hr⟩ : ∃ r, hasB token l = r := ⟨_, rfl⟩
  have HR : Sl (hasT (bytes token) (l.map bytes) = r) := ⟨hr⟩
  have HLEN : Sl (∀ m : List ByteArray, toksAll (l.map bytes) = some (m.map bytes) → m.length ≤ 1000000 ∧ ∀ x ∈ m, x.size ≤ maxLen) := ⟨fun m hm => by
    rw [toks_tell hm]
    have h3 := tell_len l 3000 hs
    have h4 := Nat.mul_le_mul_right 3001 hl
    exact ⟨by omega, tell_size l (fun s hx => Nat.le_trans (hs s hx) (by unfold maxLen; omega))⟩⟩
  have HSAME : Sl (∀ (x : ByteArray) (V : World), x.size ≤ maxLen → Calls Tryz.prog 35 #[.string x, .string token] V fun e w' => e = .returned (.bool (same (bytes x) (bytes token))) ∧ Still V w') := ⟨fun x V hx => sameR_any x token V hx⟩
  rw [hr]
  clear hr hv hs hl
  go_enter Tryz.func39, Tryz.ntmps39
  go_wp2_with (go_at_call 41; refine HL.out.mono ?_; rintro e w2 ⟨(⟨m, ml, hm, rfl, hmo⟩ | ⟨hm, rfl⟩), HB2⟩)
  · have HM := Sl.mk hm
    have HMO := Sl.mk hmo.strA
    have HMX := Sl.mk (HLEN.out ml hm).2
    have hml := (HLEN.out ml hm).1
    clear hm hmo
    obtain ⟨ad, ca, sa, oa, hme, hca, haa, hcell⟩ := HMO.out
    subst hme
    have HA := Sl.mk hcell
    have HAA := Sl.mk haa
    clear hcell haa hca
    obtain ⟨n, hn⟩ : ∃ n, ml.length = n := ⟨_, rfl⟩
    have HN := Sl.mk hn
    rw [hn] at hml ⊢
    clear hn
    go_loopw [7] (fun i wr => ∃ k : Nat, k ≤ n ∧ i = .int .i64 k ∧ Sl (Still w2 wr) ∧ Sl (∀ j, j < k → same (bytes (ml.getD j ByteArray.empty)) (bytes token) = false)) (fun i _ => n - (intOf i).toNat)
    case atStart => exact ⟨0, Nat.zero_le _, rfl, ⟨Still.refl _⟩, ⟨fun j hj => by omega⟩⟩
    case round =>
      obtain ⟨k, hk, rfl, HS, HE⟩ := hrel
      by_cases hlt : k < n
      · obtain rfl := HAA.out (by rw [HN.out]; omega)
        obtain ⟨p, hp⟩ : ∃ p, ml.getD k ByteArray.empty = p := ⟨_, rfl⟩
        have HP := Sl.mk hp
        have e0 : wr.cell? ⟨sa, oa + k, none⟩ = some (.string p) := by
          rw [World.cell?_of_block (w := w2) (by rw [HS.out.heap]), HA.out k (by rw [HN.out]; omega), hp]
        have HC : Sl (Calls Tryz.prog 35 #[.string p, .string token] wr fun e w' => e = .returned (.bool (same (bytes p) (bytes token))) ∧ Still wr w') := ⟨HSAME.out p wr (HMX.out p (by rw [← hp]; exact getD_mem (by rw [HN.out]; exact hlt)))⟩
        have hk0 : (0 : Int) ≤ (k : Int) := by omega
        have hk1 : (k : Int) < (n : Int) := by omega
        obtain ⟨q, hq⟩ : ∃ q, same (bytes p) (bytes token) = q := ⟨_, rfl⟩
        have HQ := Sl.mk hq
        rw [hq] at HC
        clear hp hq
        cases q with
        | true =>
          go_wp2_with (go_at_call 35; refine HC.out.mono ?_; rintro e w' ⟨rfl, hs⟩; have H2 := Sl.mk hs; clear hs)
          go_ret
          refine ⟨ret_bool ?_, ⟨HB2.out.trans ((HS.out.trans H2.out).below.mono HB2.out.size)⟩⟩
          rw [← HR.out, hasT_some HM.out, any_hit (k := k) (by rw [HN.out]; exact hlt) (by rw [HP.out]; exact HQ.out)]
        | false =>
          go_wp2_with (go_at_call 35; refine HC.out.mono ?_; rintro e w' ⟨rfl, hs⟩; have H2 := Sl.mk hs; clear hs)
          refine ⟨⟨k + 1, by omega, by go_num, ⟨HS.out.trans H2.out⟩, ⟨fun j hj => ?_⟩⟩, by simp [intOf]; omega⟩
          by_cases e : j = k
          · subst e; rw [HP.out]; exact HQ.out
          · exact HE.out j (by omega)
      · have hge : ((k : Int) < (n : Int)) = False := eq_false (by omega)
        go_wp2
        go_ret
        refine ⟨ret_bool ?_, ⟨HB2.out.trans (HS.out.below.mono HB2.out.size)⟩⟩
        rw [← HR.out, hasT_some HM.out, any_miss (fun j hj => HE.out j (by rw [HN.out] at hj; omega))]
  · have HM := Sl.mk hm
    clear hm
    refine wp_loop_rounds 1 ?_
    rw [rounds_succ]
    go_wp2
    go_ret
    refine ⟨ret_bool ?_, HB2⟩
    rw [← HR.out, hasT_none HM.out]
/-- A text with a to z as A to Z. -/
def upS (s : ByteArray) : ByteArray := strOf ((bytes s).map up)
theorem up_small {l : List Nat} (h : Small 256 l) : Small 256 (l.map up) := fun x hx => by
  obtain ⟨y, hy, rfl⟩ := List.mem_map.1 hx
  exact up_lt (h y hy)
theorem upS_bytes (s : ByteArray) : bytes (upS s) = (bytes s).map up := bytes_strOf _ (up_small (bytes_small s))
theorem upS_size (s : ByteArray) : (upS s).size = s.size := by rw [← bytes_length, upS_bytes, List.length_map, bytes_length]
/-- The first k bytes turned. -/
def upTo (bs : List Nat) (k : Nat) : List Nat := (bs.take k).map up ++ bs.drop k
theorem upTo_get (bs : List Nat) (k i : Nat) : (upTo bs k).getD i 0 = if i < k ∧ i < bs.length then up (bs.getD i 0) else bs.getD i 0 := by
  unfold upTo
  simp only [List.getD_eq_getElem?_getD]
  by_cases h : i < ((bs.take k).map up).length
  · have h2 : i < k ∧ i < bs.length := by rw [List.length_map, List.length_take] at h; omega
    rw [List.getElem?_append_left h, if_pos h2, List.getElem?_map, List.getElem?_take_of_lt h2.1, List.getElem?_eq_getElem h2.2]
    rfl
  · have h2 : ¬ (i < k ∧ i < bs.length) := by rw [List.length_map, List.length_take] at h; omega
    rw [List.getElem?_append_right (by omega), if_neg h2, List.getElem?_drop]
    by_cases hb : i < bs.length
    · rw [List.length_map, List.length_take]
      congr 2; omega
    · rw [List.getElem?_eq_none (by rw [List.length_map, List.length_take]; omega), List.getElem?_eq_none (by omega)]
theorem upTo_all (bs : List Nat) : upTo bs bs.length = bs.map up := by unfold upTo; simp
end Go.Proofs.YthlagngpllahkaaGreatDoor.Nam
/- The forms for use, in worlds that grow; awake. -/
namespace Go.Proofs.YthlagngpllahkaaGreatDoor.Nam
open Go.RowKit HeadPlain

theorem strA_lit (W : World) (l : List ByteArray) (vs : Array Value) (h : vs = (l.map Value.string).toArray) : StrA (W.alloc (.cells vs 9)) (.slice (some ⟨W.heap.size, 0, none⟩) l.length l.length) l :=
  ⟨_, _, W.heap.size, 0, rfl, Nat.le_refl _, fun _ => rfl, fun i hi => by
    rw [Nat.zero_add, cell_of_row _ _ _ _ _ _ (alloc_new _ _ _ rfl), h, List.getElem?_toArray, List.getElem?_map, List.getElem?_eq_getElem hi, List.getD_eq_getElem?_getD, List.getElem?_eq_getElem hi]; rfl⟩
/-- One world behind another one. -/
theorem below_then {w0 W w' : World} (hB : Below w0.heap.size w0 W) (h : Below W.heap.size W w') : Below w0.heap.size w0 w' := hB.trans (h.mono hB.size)
theorem list_ex {w0 W : World} {l : List ByteArray} {v : Value} (hB : Below w0.heap.size w0 W) (hg : Globs w0) (hv : StrA W v l) (hl : l.length ≤ 100) (hs : ∀ s ∈ l, s.size ≤ 3000) :
    Calls Tryz.prog 77 #[v] W fun e w' => ListR W w' l e ∧ Sl (Below W.heap.size W w') ∧ Sl (Below w0.heap.size w0 w') :=
  (list_any l v W (by omega) (fun s hx => Nat.le_trans (hs s hx) (by unfold maxLen; omega)) (by have := tell_len l 3000 hs; have := Nat.mul_le_mul_right 3001 hl; omega) (hg.of hB) hv).mono fun _ _ ⟨h1, h2⟩ => ⟨h1, h2, ⟨below_then hB h2.out⟩⟩
theorem has_ex {w0 W : World} {l : List ByteArray} {v : Value} {token : ByteArray} {r : Bool} (hr : hasB token l = r) (hB : Below w0.heap.size w0 W) (hg : Globs w0) (hv : StrA W v l) (hl : l.length ≤ 100) (hs : ∀ s ∈ l, s.size ≤ 3000) (ht : token.size ≤ maxLen) :
    Calls Tryz.prog 109 #[.string token, v] W fun e w' => e = .returned (.bool r) ∧ Sl (Below W.heap.size W w') ∧ Sl (Below w0.heap.size w0 w') :=
  (has_any token l v W (by omega) (fun s hx => Nat.le_trans (hs s hx) (by unfold maxLen; omega)) (by have := tell_len l 3000 hs; have := Nat.mul_le_mul_right 3001 hl; omega) ht (hg.of hB) hv).mono fun _ _ ⟨h1, h2⟩ => ⟨by rw [h1, hr], h2, ⟨below_then hB h2.out⟩⟩
theorem once_ex {w0 W : World} {l : List ByteArray} {v : Value} {r : Bool} (hr : decide (l.map bytes).Nodup = r) (hB : Below w0.heap.size w0 W) (hv : StrA W v l) (hl : l.length ≤ 100) (hs : ∀ s ∈ l, s.size ≤ 3000) :
    Calls Tryz.prog 100 #[v] W fun e w' => e = .returned (.bool r) ∧ Sl (Below W.heap.size W w') ∧ Sl (Below w0.heap.size w0 w') :=
  (once_any l v W hv (by omega) (fun s hx => Nat.le_trans (hs s hx) (by unfold maxLen; omega))).mono fun _ _ ⟨h1, h2⟩ => ⟨by rw [h1, hr], h2, ⟨below_then hB h2.out⟩⟩
theorem row_ex {w0 W : World} {a b : List ByteArray} {x y : Value} {r : Bool} (hr : decide (a.map bytes = b.map bytes) = r) (hB : Below w0.heap.size w0 W) (ha : StrA W x a) (hb : StrA W y b) (hL : a.length ≤ 1000000) :
    Calls Tryz.prog 43 #[x, y] W fun e w' => e = .returned (.bool r) ∧ Sl (Below W.heap.size W w') ∧ Sl (Below w0.heap.size w0 w') :=
  (row_any a b x y W ha hb hL).mono fun _ _ ⟨h1, h2⟩ => ⟨by rw [h1, hr], ⟨h2.below⟩, ⟨below_then hB h2.below⟩⟩
def sKeep : ByteArray := ⟨#[107, 101, 101, 112, 45, 97, 108, 105, 118, 101, 44, 32, 85, 112, 103, 114, 97, 100, 101]⟩
def sX : ByteArray := ⟨#[44, 120]⟩
theorem exTell : tell [sKeep, sX] = [⟨#[107, 101, 101, 112, 45, 97, 108, 105, 118, 101]⟩, ⟨#[85, 112, 103, 114, 97, 100, 101]⟩, ⟨#[120]⟩] := by kernel_rfl
theorem exAll : (tell [sKeep, sX]).all tokT = true := by rw [exTell]; kernel_rfl
theorem exHas : hasB ⟨#[117, 112, 103, 114, 97, 100, 101]⟩ [⟨#[97]⟩, ⟨#[85, 112, 103, 114, 97, 100, 101]⟩] = true := by rw [hasB_eq]; kernel_rfl
theorem exFst : fstIn [⟨#[97]⟩, ⟨#[98]⟩] [⟨#[99]⟩, ⟨#[98]⟩, ⟨#[97]⟩] = some ⟨#[97]⟩ := by kernel_rfl
theorem exOnce : decide (([⟨#[97]⟩, ⟨#[98]⟩] : List ByteArray).map bytes).Nodup = true := by kernel_rfl
theorem below0 (w : World) : Below w.heap.size w w := Below.refl _ _
theorem list_yes {w0 W : World} {l : List ByteArray} {v : Value} (h : (tell l).all tokT = true) (hB : Below w0.heap.size w0 W) (hg : Globs w0) (hv : StrA W v l) (hl : l.length ≤ 100) (hs : ∀ s ∈ l, s.size ≤ 3000) :
    Calls Tryz.prog 77 #[v] W fun e w' => (∃ v, e = .returned (.tuple #[v, .int .i64 0]) ∧ Sl (StrA w' v (tell l))) ∧ Sl (Below W.heap.size W w') ∧ Sl (Below w0.heap.size w0 w') :=
  (list_ex hB hg hv hl hs).mono fun _ _ ⟨h1, h2, h3⟩ => by
    rcases h1 with ⟨_, v, he, ho⟩ | ⟨h0, _⟩
    · exact ⟨⟨v, he, ⟨ho.strA⟩⟩, h2, h3⟩
    · rw [h] at h0; cases h0
theorem list_no {w0 W : World} {l : List ByteArray} {v : Value} (h : (tell l).all tokT = false) (hB : Below w0.heap.size w0 W) (hg : Globs w0) (hv : StrA W v l) (hl : l.length ≤ 100) (hs : ∀ s ∈ l, s.size ≤ 3000) :
    Calls Tryz.prog 77 #[v] W fun e w' => e = .returned (.tuple #[.slice none 0 0, .int .i64 60]) ∧ Sl (Below W.heap.size W w') ∧ Sl (Below w0.heap.size w0 w') :=
  (list_ex hB hg hv hl hs).mono fun _ _ ⟨h1, h2, h3⟩ => by
    rcases h1 with ⟨h0, _⟩ | ⟨_, he⟩
    · rw [h] at h0; cases h0
    · exact ⟨he, h2, h3⟩
theorem lists_yes {w0 W : World} {l : List ByteArray} {v : Value} (h : (tell l).all tokT = true) (hB : Below w0.heap.size w0 W) (hv : StrA W v l) (hl : l.length ≤ 100) (hs : ∀ s ∈ l, s.size ≤ 3000) :
    Calls Tryz.prog 41 #[v] W fun e w' => (∃ v, e = .returned (.tuple #[v, .bool true]) ∧ Sl (StrA w' v (tell l))) ∧ Sl (Below W.heap.size W w') ∧ Sl (Below w0.heap.size w0 w') :=
  (listsR_any l v W hv hl hs).mono fun _ _ ⟨h1, h2⟩ => by
    rcases h1 with ⟨v, m, hm, he, ho⟩ | ⟨h0, _⟩
    · rw [toks_tell hm] at ho
      exact ⟨⟨v, he, ⟨ho.strA⟩⟩, h2, ⟨below_then hB h2.out⟩⟩
    · rw [tell_toks, if_pos h] at h0; cases h0
theorem lists_no {w0 W : World} {l : List ByteArray} {v : Value} (h : (tell l).all tokT = false) (hB : Below w0.heap.size w0 W) (hv : StrA W v l) (hl : l.length ≤ 100) (hs : ∀ s ∈ l, s.size ≤ 3000) :
    Calls Tryz.prog 41 #[v] W fun e w' => e = .returned (.tuple #[.slice none 0 0, .bool false]) ∧ Sl (Below W.heap.size W w') ∧ Sl (Below w0.heap.size w0 w') :=
  (listsR_any l v W hv hl hs).mono fun _ _ ⟨h1, h2⟩ => by
    rcases h1 with ⟨v, m, hm, _, _⟩ | ⟨_, he⟩
    · rw [tell_toks, h] at hm; cases hm
    · exact ⟨he, h2, ⟨below_then hB h2.out⟩⟩
theorem hasR_ex {w0 W : World} {l : List ByteArray} {v : Value} {token : ByteArray} {r : Bool} (hr : hasB token l = r) (hB : Below w0.heap.size w0 W) (hv : StrA W v l) (hl : l.length ≤ 100) (hs : ∀ s ∈ l, s.size ≤ 3000) :
    Calls Tryz.prog 39 #[.string token, v] W fun e w' => e = .returned (.bool r) ∧ Sl (Below W.heap.size W w') ∧ Sl (Below w0.heap.size w0 w') :=
  (hasR_any token l v W hv hl hs).mono fun _ _ ⟨h1, h2⟩ => ⟨by rw [h1, hr], h2, ⟨below_then hB h2.out⟩⟩
theorem few_ex {W : World} {l : List ByteArray} {v : Value} {r : Bool} (hr : fewB l = r) (hv : StrA W v l) (hl : l.length ≤ maxLen) (hs : ∀ s ∈ l, s.size ≤ maxLen) : Calls Tryz.prog 17 #[v] W fun e w' => e = .returned (.bool r) ∧ W = w' :=
  (few_any l v W hv hl hs).mono fun _ _ ⟨h1, h2⟩ => ⟨by rw [h1, hr], h2⟩
/-- Behind an append to a row of the call's own, made new. -/
theorem app_below {w0 W w' : World} {o : Obj} {v : Value} {l : List ByteArray} (hB : Below w0.heap.size w0 W) (ho : OwnS (W.alloc o) W.heap.size v l) (hg : (W.alloc o).grownBy w' v.ownBlock) : Sl (Below W.heap.size W w') ∧ Sl (Below w0.heap.size w0 w') := by
  have h : Below W.heap.size W w' := ((Below.refl _ W).alloc (Nat.le_refl _) o).grown hg (by rw [alloc_size]; omega) (fun k hk => own_ge ho hk)
  exact ⟨⟨h⟩, ⟨below_then hB h⟩⟩
end Go.Proofs.YthlagngpllahkaaGreatDoor.Nam
