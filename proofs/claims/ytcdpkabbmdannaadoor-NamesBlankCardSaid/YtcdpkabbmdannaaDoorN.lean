/- The document's reader of a list, byte by byte. -/
import Derived.Test.YtcdpkabbmdannaaDoorM
namespace Go.Proofs.YtcdpkabbmdannaaDoor
open Go.RowKit HeadPlain

/-- What the document's readers answer. -/
def RefR (w w' : World) (o : Option (List (List Nat))) (e : Ending) : Prop :=
  (∃ v l, o = some (l.map bytes) ∧ e = .returned (.tuple #[v, .bool true]) ∧ OwnS w' w.heap.size v l) ∨ (o = none ∧ e = .returned (.tuple #[.slice none 0 0, .bool false]))
/-- Where the reader stands. -/
def Ref24 (bs : List Nat) (k : Nat) (out : List ByteArray) (tk : ByteArray) (bl : Bool) : Prop :=
  (k ≤ bs.length ∧ refL [] [] false bs = refL (out.map bytes) (bytes tk) bl (bs.drop k)) ∨ (k = bs.length + 1 ∧ refL [] [] false bs = some (out.map bytes))
theorem drop_cons {bs : List Nat} {k : Nat} (h : k < bs.length) : bs.drop k = bs.getD k 0 :: bs.drop (k + 1) := by
  rw [List.getD_eq_getElem?_getD, List.getElem?_eq_getElem h, List.drop_eq_getElem_cons h]; rfl
theorem isEmpty_iff (t : ByteArray) : t.toList.isEmpty = decide (t.size = 0) := by
  have := bytes_length t
  rw [toList_bytes, List.length_map] at this
  rw [← this]
  cases t.toList <;> simp
theorem bytes_nil {t : ByteArray} (h : t.size = 0) : bytes t = [] := List.eq_nil_of_length_eq_zero (by rw [bytes_length]; exact h)
theorem bytes_ne {t : ByteArray} (h : t.size ≠ 0) : bytes t ≠ [] := fun e => h (by rw [← bytes_length, e]; rfl)
theorem ref_end {bs : List Nat} {out : List ByteArray} {tk : ByteArray} {bl : Bool} (h : Ref24 bs bs.length out tk bl) : Ref24 bs (bs.length + 1) (if tk.size = 0 then out else out ++ [tk]) ByteArray.empty false := by
  rcases h with ⟨_, h⟩ | ⟨h, _⟩
  · refine .inr ⟨rfl, ?_⟩
    rw [h, List.drop_length, refL]
    by_cases h0 : tk.size = 0
    · rw [if_pos h0, if_pos (bytes_nil h0)]
    · rw [if_neg h0, if_neg (bytes_ne h0)]; simp
  · omega
theorem ref_comma {bs : List Nat} {k : Nat} {out : List ByteArray} {tk : ByteArray} {bl : Bool} (hk : k < bs.length) (hc : bs.getD k 0 = 44) (h : Ref24 bs k out tk bl) : Ref24 bs (k + 1) (if tk.size = 0 then out else out ++ [tk]) ByteArray.empty false := by
  rcases h with ⟨_, h⟩ | ⟨h, _⟩
  · refine .inl ⟨by omega, ?_⟩
    rw [h, drop_cons hk, hc, refL, if_pos rfl]
    by_cases h0 : tk.size = 0
    · rw [if_pos h0, if_pos (bytes_nil h0)]; rfl
    · rw [if_neg h0, if_neg (bytes_ne h0)]; simp; rfl
  · omega
theorem ref_blank {bs : List Nat} {k c : Nat} {out : List ByteArray} {tk : ByteArray} {bl : Bool} (hk : k < bs.length) (hc : bs.getD k 0 = c) (h1 : c = 32 ∨ c = 9) (h : Ref24 bs k out tk bl) : Ref24 bs (k + 1) out tk (decide (0 < tk.size)) := by
  rcases h with ⟨_, h⟩ | ⟨h, _⟩
  · refine .inl ⟨by omega, ?_⟩
    rw [h, drop_cons hk, hc, refL, if_neg (by omega), if_pos h1]
    congr 1
    cases hb : bytes tk with
    | nil => have : tk.size = 0 := by rw [← bytes_length, hb]; rfl
             simp [this]
    | cons a b => have : 0 < tk.size := by rw [← bytes_length, hb]; simp
                  simp [this]
  · omega
theorem ref_bad {bs : List Nat} {k c : Nat} {out : List ByteArray} {tk : ByteArray} {bl : Bool} (hk : k < bs.length) (hc : bs.getD k 0 = c) (h0 : c ≠ 44) (h1 : ¬ (c = 32 ∨ c = 9)) (h2 : bl = true ∨ tokB c = false) (h : Ref24 bs k out tk bl) : refL [] [] false bs = none := by
  rcases h with ⟨_, h⟩ | ⟨h, _⟩
  · rw [h, drop_cons hk, hc, refL, if_neg h0, if_neg h1, if_pos h2]
  · omega
theorem ref_more {bs : List Nat} {k c : Nat} {out : List ByteArray} {tk : ByteArray} (x : ByteArray) (hx : bytes x = [c]) (hk : k < bs.length) (hc : bs.getD k 0 = c) (h0 : c ≠ 44) (h1 : ¬ (c = 32 ∨ c = 9)) (h2 : tokB c = true) (h : Ref24 bs k out tk false) : Ref24 bs (k + 1) out (tk ++ x) false := by
  rcases h with ⟨_, h⟩ | ⟨h, _⟩
  · refine .inl ⟨by omega, ?_⟩
    rw [h, drop_cons hk, hc, refL, if_neg h0, if_neg h1, if_neg (by rw [h2]; simp), bytes_append, hx]
  · omega
theorem one_byte (s : ByteArray) (k : Nat) (h : k < s.size) : bytes (s.extract k (k + 1)) = [(bytes s).getD k 0] := by
  rw [bytes_extract, List.getD_eq_getElem?_getD]
  have hl : k < (bytes s).length := by rw [bytes_length]; exact h
  rw [List.drop_take, List.getElem?_eq_getElem hl]
  rw [show k + 1 - k = 1 by omega, List.drop_eq_getElem_cons hl]
  rfl
theorem token_one (c : Nat) : token [c] = tokB c := by unfold token; simp
set_option maxRecDepth 100000 in
set_option maxHeartbeats 2000000 in
theorem listR_any (s : ByteArray) (w : World) (hs : s.size ≤ 100000) : Calls Tryd.prog 24 #[.string s] w fun e w' => RefR w w' (toks (bytes s)) e ∧ Sl (Below w.heap.size w w') := by
  rw [← refL_toks]
  obtain ⟨bs, hbs⟩ : ∃ bs, bytes s = bs := ⟨_, rfl⟩
  have HBS := Sl.mk hbs
  have HLEN : Sl (bs.length = s.size) := ⟨by rw [← hbs, bytes_length]⟩
  rw [hbs]
  obtain ⟨res, hres⟩ : ∃ res, refL [] [] false bs = res := ⟨_, rfl⟩
  have HRES := Sl.mk hres
  rw [hres]
  clear hres hbs
  go_enter Tryd.func24, Tryd.ntmps24
  go_wp2
  go_loopw [4, 5, 6, 7] (fun v t b i wr => ∃ (k : Nat) (out : List ByteArray) (tk : ByteArray) (bl : Bool), k ≤ s.size + 1 ∧ t = .string tk ∧ b = .bool bl ∧ i = .int .i64 k ∧ out.length ≤ k ∧ tk.size ≤ k ∧
      Sl (OwnS wr w.heap.size v out) ∧ Sl (Below w.heap.size w wr) ∧ Sl (Ref24 bs k out tk bl)) (fun _ _ _ i _ => s.size + 1 - (intOf i).toNat)
  case atStart =>
    exact ⟨0, [], ByteArray.empty, false, Nat.zero_le _, rfl, rfl, rfl, Nat.le_refl _, by simp, ⟨own_lit w⟩, ⟨(Below.refl _ _).alloc (Nat.le_refl _) _⟩, ⟨.inl ⟨Nat.zero_le _, rfl⟩⟩⟩
  case round =>
    obtain ⟨k, out, tk, bl, hk, rfl, rfl, rfl, hol, htl, HO, HB, HR⟩ := hrel
    obtain ⟨oa, oc, ho⟩ := HO.out.slice
    subst ho
    have hk0 : (0 : Int) ≤ (k : Int) := by omega
    by_cases h1 : k = s.size + 1
    · have hge : ((k : Int) ≤ (s.size : Int)) = False := eq_false (by omega)
      go_wp2
      go_ret2
      refine ⟨.inl ⟨_, out, ?_, rfl, HO.out⟩, HB⟩
      rcases HR.out with ⟨h, _⟩ | ⟨_, h⟩
      · rw [HLEN.out] at h; omega
      · rw [← HRES.out]; exact h
    · have hle : ((k : Int) ≤ (s.size : Int)) = True := eq_true (by omega)
      have APP : Sl (OwnS (wr.alloc (.cells #[.string tk] 9)) w.heap.size (.slice oa out.length oc) out) := ⟨HO.out.below ((Below.refl _ _).alloc (Nat.le_refl _) _)⟩
      have BAS : Sl (w.heap.size ≤ (wr.alloc (.cells #[.string tk] 9)).heap.size) := ⟨by rw [alloc_size]; have := HB.out.size; omega⟩
      have AB : Sl (Below w.heap.size w (wr.alloc (.cells #[.string tk] 9))) := ⟨HB.out.alloc HB.out.size _⟩
      by_cases h2 : k = s.size
      · have he : ((k : Int) == (s.size : Int)) = true := by simp; omega
        have HE := Sl.mk (ref_end (by rw [HLEN.out, ← h2]; exact HR.out))
        rw [HLEN.out] at HE
        by_cases h3 : tk.size = 0
        · have hq2 : tk.toList = [] := by have := isEmpty_iff tk; rw [decide_eq_true h3] at this; simpa using this
          rw [if_pos h3] at HE
          go_wp2
          exact ⟨⟨s.size + 1, out, ByteArray.empty, false, by omega, rfl, rfl, by go_num, by omega, by simp, HO, HB, HE⟩, by simp [intOf]; omega⟩
        · have hq1 : tk.toList.isEmpty = false := by rw [isEmpty_iff, decide_eq_false h3]
          have hq2 : (tk.toList = []) = False := eq_false (fun e => by rw [e] at hq1; cases hq1)
          rw [if_neg h3] at HE
          go_wp2_with (refine app_str rfl rfl _ _ rfl w.heap.size _ out tk rfl APP.out ⟨wr.heap.size, 0, none⟩ 1 rfl (by simp) rfl (by omega) BAS.out ?_; intro v' w3 HO3 HG3)
          exact ⟨⟨s.size + 1, out ++ [tk], ByteArray.empty, false, by omega, rfl, rfl, by go_num, by simp; omega, by simp, HO3, ⟨AB.out.grown HG3.out BAS.out (fun j hj => own_ge APP.out hj)⟩, HE⟩, by simp [intOf]; omega⟩
      · have he : ((k : Int) == (s.size : Int)) = false := by simp; omega
        have hlt : k < s.size := by omega
        have hlb : k < bs.length := by rw [HLEN.out]; exact hlt
        obtain ⟨c, hc⟩ : ∃ c, (s[k]'hlt).toNat = c := ⟨_, rfl⟩
        have HC : Sl (bs.getD k 0 = c) := ⟨by rw [← HBS.out, bytes_getD s k hlt, ← hc]; rfl⟩
        by_cases h44 : c = 44
        · have hc1 : ((c : Int) == 44) = true := by simp; omega
          have HE := Sl.mk (ref_comma hlb (by rw [HC.out, h44]) HR.out)
          clear h44
          by_cases h3 : tk.size = 0
          · have hq2 : tk.toList = [] := by have := isEmpty_iff tk; rw [decide_eq_true h3] at this; simpa using this
            rw [if_pos h3] at HE
            go_wp2
            exact ⟨⟨k + 1, out, ByteArray.empty, false, by omega, rfl, rfl, by go_num, by omega, by simp, HO, HB, HE⟩, by simp [intOf]; omega⟩
          · have hq1 : tk.toList.isEmpty = false := by rw [isEmpty_iff, decide_eq_false h3]
            have hq2 : (tk.toList = []) = False := eq_false (fun e => by rw [e] at hq1; cases hq1)
            rw [if_neg h3] at HE
            go_wp2_with (refine app_str rfl rfl _ _ rfl w.heap.size _ out tk rfl APP.out ⟨wr.heap.size, 0, none⟩ 1 rfl (by simp) rfl (by omega) BAS.out ?_; intro v' w3 HO3 HG3)
            exact ⟨⟨k + 1, out ++ [tk], ByteArray.empty, false, by omega, rfl, rfl, by go_num, by simp; omega, by simp, HO3, ⟨AB.out.grown HG3.out BAS.out (fun j hj => own_ge APP.out hj)⟩, HE⟩, by simp [intOf]; omega⟩
        · have hc1 : ((c : Int) == 44) = false := by simp; omega
          by_cases hbl : c = 32 ∨ c = 9
          · have HE := Sl.mk (ref_blank hlb HC.out hbl HR.out)
            have HEM : Sl ((!tk.toList.isEmpty) = decide (0 < tk.size)) := ⟨by rw [isEmpty_iff]; by_cases h : tk.size = 0 <;> simp [h]; omega⟩
            by_cases h32 : c = 32
            · have hc2 : ((c : Int) == 32) = true := by simp; omega
              clear hbl h32 h44
              go_wp2
              exact ⟨⟨k + 1, out, tk, !tk.toList.isEmpty, by omega, rfl, rfl, by go_num, by omega, by omega, HO, HB, by rw [HEM.out]; exact HE⟩, by simp [intOf]; omega⟩
            · have hc2 : ((c : Int) == 32) = false := by simp; omega
              have hc3 : ((c : Int) == 9) = true := by simp; omega
              clear hbl h32 h44
              go_wp2
              exact ⟨⟨k + 1, out, tk, !tk.toList.isEmpty, by omega, rfl, rfl, by go_num, by omega, by omega, HO, HB, by rw [HEM.out]; exact HE⟩, by simp [intOf]; omega⟩
          · have hc2 : ((c : Int) == 32) = false := by simp; omega
            have hc3 : ((c : Int) == 9) = false := by simp; omega
            obtain ⟨x, hx⟩ : ∃ x, s.extract k (k + 1) = x := ⟨_, rfl⟩
            have HX : Sl (bytes x = [c]) := ⟨by rw [← hx, one_byte s k hlt, HBS.out, HC.out]⟩
            have hxs : x.size = 1 := by rw [← bytes_length, HX.out]; rfl
            have HTK : Sl (Calls Tryd.prog 34 #[.string x] wr fun e w' => e = .returned (.bool (tokB c)) ∧ wr = w') := ⟨(tokenR_any x wr (by unfold maxLen; omega)).mono fun _ _ ⟨h1, h2⟩ => ⟨by rw [h1, HX.out, token_one], h2.symm⟩⟩
            obtain ⟨r, hr⟩ : ∃ r, tokB c = r := ⟨_, rfl⟩
            have HRR := Sl.mk hr
            rw [hr] at HTK
            clear hr
            have HN44 : Sl (c ≠ 44 ∧ ¬ (c = 32 ∨ c = 9)) := ⟨⟨h44, hbl⟩⟩
            have hxs' : x.size ≤ 1 := by omega
            have hsum : tk.size + x.size ≤ 100002 := by omega
            clear h44 hbl hxs
            cases bl with
            | true =>
              have HE := Sl.mk (ref_bad hlb HC.out HN44.out.1 HN44.out.2 (.inl rfl) HR.out)
              go_wp2
              go_ret2
              exact ⟨.inr ⟨by rw [← HRES.out]; exact HE.out, rfl⟩, HB⟩
            | false =>
              cases r with
              | false =>
                have HE := Sl.mk (ref_bad hlb HC.out HN44.out.1 HN44.out.2 (.inr HRR.out) HR.out)
                go_wp2_with (go_at_call 34; refine HTK.out.mono ?_; rintro e w' ⟨rfl, rfl⟩)
                go_ret2
                exact ⟨.inr ⟨by rw [← HRES.out]; exact HE.out, rfl⟩, HB⟩
              | true =>
                have HE := Sl.mk (ref_more x HX.out hlb HC.out HN44.out.1 HN44.out.2 HRR.out HR.out)
                go_wp2_with (go_at_call 34; refine HTK.out.mono ?_; rintro e w' ⟨rfl, rfl⟩)
                exact ⟨⟨k + 1, out, tk ++ x, false, by omega, rfl, rfl, by go_num, by omega, by rw [ByteArray.size_append]; omega, HO, HB, HE⟩, by simp [intOf]; omega⟩
theorem toksAll_take {l : List ByteArray} {k : Nat} {p : ByteArray} (hk : k < l.length) (hp : l.getD k ByteArray.empty = p) : toksAll ((l.take (k + 1)).map bytes) = comb (toksAll ((l.take k).map bytes)) (toks (bytes p)) := by
  rw [take_snoc' hk, hp, List.map_append, toksAll_append]
  congr 1
  rw [List.map_singleton, toksAll, toksAll, comb_nil]
theorem toksAll_none {l : List ByteArray} {k : Nat} {p : ByteArray} (hk : k < l.length) (hp : l.getD k ByteArray.empty = p) (h : toks (bytes p) = none) : toksAll (l.map bytes) = none := by
  conv => lhs; rw [← List.take_append_drop (k + 1) l]
  rw [List.map_append, toksAll_append, toksAll_take hk hp, h]
  cases toksAll ((l.take k).map bytes) <;> rfl
theorem tell_take_len (l : List ByteArray) (k : Nat) : (tell (l.take k)).length ≤ (tell l).length := (tell_take l k).length_le
theorem toks_length {p : ByteArray} {m : List ByteArray} (h : toks (bytes p) = some (m.map bytes)) : m.length ≤ p.size + 1 := by
  rw [toks, ← cuts_bytes, tellC_bytes] at h
  split at h
  · have h2 := congrArg (Option.map List.length) h
    simp at h2
    rw [← h2]; exact tellC_len p
  · cases h
set_option maxRecDepth 100000 in
set_option maxHeartbeats 1000000 in
theorem listsR_any (l : List ByteArray) (v : Value) (w : World) (hv : StrA w v l) (hl : l.length ≤ 100) (hs : ∀ s ∈ l, s.size ≤ 1000) : Calls Tryd.prog 12 #[v] w fun e w' => RefR w w' (toksAll (l.map bytes)) e ∧ Sl (Below w.heap.size w w') := by
  obtain ⟨ad, ca, sa, oa, rfl, hca, haa, hcell⟩ := hv
  have HA := Sl.mk hcell
  have HAA := Sl.mk haa
  have HSZ := Sl.mk hs
  clear hcell haa hca hs
  obtain ⟨res, hres⟩ : ∃ res, toksAll (l.map bytes) = res := ⟨_, rfl⟩
  have HRES := Sl.mk hres
  rw [hres]
  obtain ⟨n, hn⟩ : ∃ n, l.length = n := ⟨_, rfl⟩
  have HN := Sl.mk hn
  rw [hn] at hl ⊢
  clear hn hres
  go_enter Tryd.func12, Tryd.ntmps12
  go_wp2
  go_loopw [4, 5] (fun v i wr => ∃ (k : Nat) (out : List ByteArray), k ≤ n ∧ i = .int .i64 k ∧ out.length ≤ k * 1001 ∧ Sl (OwnS wr w.heap.size v out) ∧ Sl (Below w.heap.size w wr) ∧ Sl (toksAll ((l.take k).map bytes) = some (out.map bytes))) (fun _ i _ => n - (intOf i).toNat)
  case atStart =>
    exact ⟨0, [], Nat.zero_le _, rfl, by simp, ⟨own_lit w⟩, ⟨(Below.refl _ _).alloc (Nat.le_refl _) _⟩, ⟨rfl⟩⟩
  case round =>
    obtain ⟨k, out, hk, rfl, hol, HO, HB, HR⟩ := hrel
    obtain ⟨xa, xc, ho⟩ := HO.out.slice
    subst ho
    have hk0 : (0 : Int) ≤ (k : Int) := by omega
    by_cases hlt : k < n
    · obtain rfl := HAA.out (by rw [HN.out]; omega)
      obtain ⟨p, hp⟩ : ∃ p, l.getD k ByteArray.empty = p := ⟨_, rfl⟩
      have HP := Sl.mk hp
      have e0 : wr.cell? ⟨sa, oa + k, none⟩ = some (.string p) := by
        have h1 := HA.out k (by rw [HN.out]; omega)
        rw [HB.out.cell (p := ⟨sa, oa + k, none⟩) (block_lt_of_cell h1), h1, hp]
      have hps : p.size ≤ 1000 := HSZ.out p (by rw [← hp]; exact getD_mem (by rw [HN.out]; exact hlt))
      have HC : Sl (Calls Tryd.prog 24 #[.string p] wr fun e w' => RefR wr w' (toks (bytes p)) e ∧ Sl (Below wr.heap.size wr w')) := ⟨listR_any p wr (by omega)⟩
      have hk1 : (k : Int) < (n : Int) := by omega
      clear hp
      go_wp2_with (first
        | (go_at_call 24; refine HC.out.mono ?_; rintro e w2 ⟨(⟨m, ml, hm, rfl, hmo⟩ | ⟨hm, rfl⟩), HB2⟩)
        | (refine app_all rfl _ _ rfl w.heap.size _ m out ml rfl (HO.out.below HB2.out) rfl hmo.strA (by have := toks_length hm; omega) (by have := HB.out.size; have := HB2.out.size; omega) ?_; intro v' w3 HO3 HG3))
      · have h1 := toks_length hm
        have h2 := HB2.out.size
        have h3 := HB.out.size
        refine ⟨⟨k + 1, out ++ ml, by omega, by go_num, by rw [List.length_append]; omega, HO3, ⟨(HB.out.trans (HB2.out.mono h3)).grown HG3.out (by omega) (fun j hj => own_ge HO.out hj)⟩, ⟨?_⟩⟩, by simp [intOf]; omega⟩
        rw [toksAll_take (by rw [HN.out]; exact hlt) HP.out, HR.out, hm]
        simp [comb]
      · go_ret2
        refine ⟨.inr ⟨?_, rfl⟩, ⟨HB.out.trans (HB2.out.mono HB.out.size)⟩⟩
        rw [← HRES.out]
        exact toksAll_none (by rw [HN.out]; exact hlt) HP.out hm
    · have hge : ((k : Int) < (n : Int)) = False := eq_false (by omega)
      go_wp2
      go_ret2
      refine ⟨.inl ⟨_, out, ?_, rfl, HO.out⟩, HB⟩
      rw [← HRES.out]
      have := HR.out
      rw [List.take_of_length_le (by rw [HN.out]; omega)] at this
      exact this
end Go.Proofs.YtcdpkabbmdannaaDoor
