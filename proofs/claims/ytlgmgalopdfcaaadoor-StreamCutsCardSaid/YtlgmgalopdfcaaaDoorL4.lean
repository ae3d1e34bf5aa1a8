/- stream: StreamCuts' walk. -/
import Derived.Test.YtlgmgalopdfcaaaDoorL1
import Derived.Test.YtlgmgalopdfcaaaDoorSL
set_option maxRecDepth 100000
namespace Go.Proofs.YtlgmgalopdfcaaaDoor
open Go.RowKit MaskPlain FramePlain StreamPlain Mas Fra

/-- Two streams, of which only the first is fed, the frames that were told, the pieces. -/
structure CU (w wr : World) (b1 b2 : Nat) (masked : Bool) (part : List Nat) (e : Nat) (v1 LV : Value) (ll : List ByteArray) (u : Value) (fs : List Fr) : Prop where
  S : StrmAt w wr b1 masked 1000 part e v1
  T : StrmAt w wr b2 masked 1000 [] 0 (.slice none 0 0)
  N : b2 ≠ b1
  O : OwnR wr w.heap.size u fs
  R : OwnS wr w.heap.size LV ll
section
variable {w wr w' : World} {b1 b2 : Nat} {masked : Bool} {part : List Nat} {e : Nat} {v1 LV : Value} {ll : List ByteArray} {u : Value} {fs : List Fr}
theorem CU.below (h : CU w wr b1 b2 masked part e v1 LV ll u fs) (k : Below wr.heap.size wr w') : CU w w' b1 b2 masked part e v1 LV ll u fs :=
  ⟨h.S.below k, h.T.below k, h.N, h.O.below k, h.R.below k⟩
theorem CU.fed {part' : List Nat} {e' : Nat} {v' : Value} (h : CU w wr b1 b2 masked part e v1 LV ll u fs) (hs : StrmAt w w' b1 masked 1000 part' e' v') (T : Two wr w' b1 (ob v1 b1)) : CU w w' b1 b2 masked part' e' v' LV ll u fs :=
  ⟨hs, strm_two h.T h.S h.N T hs.L, h.N, own_fed h.O h.S (by decide) (by decide) T, own_fed h.R h.S (by decide) (by decide) T⟩
theorem CU.told {u' : Value} {fs' : List Fr} (h : CU w wr b1 b2 masked part e v1 LV ll u fs) (hO : OwnR w' w.heap.size u' fs') (g : wr.grownBy w' u.ownBlock) : CU w w' b1 b2 masked part e v1 LV ll u' fs' :=
  ⟨strm_told h.S h.O (by decide) (by decide) (Nat.le_refl _) g, strm_told h.T h.O (by decide) (by decide) (Nat.le_refl _) g, h.N, hO, own_told h.R h.O (by decide) g⟩
theorem CU.strs {LV' : Value} {ll' : List ByteArray} (h : CU w wr b1 b2 masked part e v1 LV ll u fs) (hR : OwnS w' w.heap.size LV' ll') (g : wr.grownBy w' LV.ownBlock) : CU w w' b1 b2 masked part e v1 LV' ll' u fs :=
  ⟨strm_told h.S h.R (by decide) (by decide) (Nat.le_refl _) g, strm_told h.T h.R (by decide) (by decide) (Nat.le_refl _) g, h.N, own_told h.O h.R (by decide) g, hR⟩
end
theorem lens_app {a b : List ByteArray} (ha : (∀ i, (a.getD i ByteArray.empty).size ≤ 300) ∧ a.length ≤ 40) (hb : (∀ i, (b.getD i ByteArray.empty).size ≤ 300) ∧ b.length ≤ 40) : (∀ i, ((a ++ b).getD i ByteArray.empty).size ≤ 300) ∧ (a ++ b).length ≤ 80 := by
  refine ⟨fun i => ?_, by rw [List.length_append]; omega⟩
  by_cases hi : i < a.length
  · have := ha.1 i
    rw [List.getD_eq_getElem?_getD] at this ⊢
    rw [List.getElem?_append_left hi]; exact this
  · have := hb.1 (i - a.length)
    rw [List.getD_eq_getElem?_getD] at this ⊢
    rw [List.getElem?_append_right (by omega)]; exact this
theorem str_cell {W : World} {a : Option Addr} {n c : Nat} {l : List ByteArray} (h : StrA W (.slice a n c) l) (k : Nat) (hk : k < l.length) : ∃ sb so, a = some ⟨sb, so, none⟩ ∧ W.cell? ⟨sb, so + k, none⟩ = some (.string (l.getD k ByteArray.empty)) := by
  obtain ⟨a', c', sb, so, he, _, h3, h4⟩ := h
  injection he with e1 e2 e3
  exact ⟨sb, so, by rw [e1]; exact h3 (by omega), h4 k hk⟩
/-- A stream stays when another one, that kept nothing, is fed. -/
theorem strm_same {w0 W W' : World} {b b2 : Nat} {masked masked2 : Bool} {most most2 : Int} {part : List Nat} {err err2 : Nat} {v : Value} (h : StrmAt w0 W b masked most part err v) (h2 : StrmAt w0 W b2 masked2 most2 [] err2 (.slice none 0 0)) (hne : b ≠ b2) (T : Two W W' b2 (ob (.slice none 0 0) b2)) : StrmAt w0 W' b masked most part err v := by
  have g : W.grownBy W' (some b2) := ⟨T.os, T.tape, T.output, T.size, fun k hk hn => T.block k hk (fun e => hn (by rw [e])) (fun e => hn (by rw [e]; rfl))⟩
  exact h.grown g (fun k hk => by
    injection hk with hk
    subst hk
    exact ⟨fun e => hne e.symm, ownB_kind h.O h2.X (by decide), h2.B⟩)
set_option maxHeartbeats 8000000 in
theorem cuts_walk (masked : Bool) (va : Value) (la : List ByteArray) (vb : Value) (lb : List ByteArray) (w : World) (hg : Globs w) (hva : StrsAt w va la) (hvb : StrsAt w vb lb) : Calls Tryd.prog 4 #[.bool masked, va, vb] w fun e w' => e = .returned (.bool true) ∧ Below w.heap.size w w' := by
  have HG := Sl.mk hg
  have HVA := Sl.mk hva
  have HVB := Sl.mk hvb
  have hq1 : ((0 : Int) != 0) = false := rfl
  obtain ⟨fa, hfa⟩ : ∃ b, few la = b := ⟨_, rfl⟩
  obtain ⟨fb, hfb⟩ : ∃ b, few lb = b := ⟨_, rfl⟩
  clear hg hva hvb
  cases fa with
  | false =>
    go_enter Tryd.func4, Tryd.ntmps4
    go_wp2_with fail
    refine (new_yes masked 1000 w w (Below.refl _ _) (by omega)).mono ?_
    rintro e w1 ⟨rfl, HS1, _⟩
    go_wp2_with fail
    refine (new_yes masked 1000 w w1 HS1.out.L (by omega)).mono ?_
    rintro e w2 ⟨rfl, HT2, HX2⟩
    have HS2 := Sl.mk (HS1.out.below HX2.out)
    have HNB : Sl (w1.heap.size ≠ w.heap.size) := ⟨by have := HS1.out.lt; omega⟩
    clear HS1 HX2
    go_wp2_with fail
    refine (awake_any w2 (HG.out.below HS2.out.L HG.out.size)).mono ?_
    rintro e w3 ⟨rfl, HX3⟩
    have HS3 := Sl.mk (HS2.out.below HX3.out)
    have HT3 := Sl.mk (HT2.out.below HX3.out)
    clear HS2 HT2 HX3
    have HFa := few_any la _ w3 (HVA.out.below HS3.out.L)
    have HFb := few_any lb _ w3 (HVB.out.below HS3.out.L)
    rw [hfa] at HFa
    go_wp2_with fail
    refine HFa.mono ?_
    rintro e w4 ⟨rfl, rfl⟩
    clear HFa
    go_wp2_with fail
    refine (awake_any w3 (HG.out.below HS3.out.L HG.out.size)).mono ?_
    rintro e w4 ⟨rfl, HX4⟩
    go_wp2
    go_ret
    exact ⟨rfl, (HS3.out.below HX4.out).L⟩
  | true =>
    cases fb with
    | false =>
      go_enter Tryd.func4, Tryd.ntmps4
      go_wp2_with fail
      refine (new_yes masked 1000 w w (Below.refl _ _) (by omega)).mono ?_
      rintro e w1 ⟨rfl, HS1, _⟩
      go_wp2_with fail
      refine (new_yes masked 1000 w w1 HS1.out.L (by omega)).mono ?_
      rintro e w2 ⟨rfl, HT2, HX2⟩
      have HS2 := Sl.mk (HS1.out.below HX2.out)
      have HNB : Sl (w1.heap.size ≠ w.heap.size) := ⟨by have := HS1.out.lt; omega⟩
      clear HS1 HX2
      go_wp2_with fail
      refine (awake_any w2 (HG.out.below HS2.out.L HG.out.size)).mono ?_
      rintro e w3 ⟨rfl, HX3⟩
      have HS3 := Sl.mk (HS2.out.below HX3.out)
      have HT3 := Sl.mk (HT2.out.below HX3.out)
      clear HS2 HT2 HX3
      have HFa := few_any la _ w3 (HVA.out.below HS3.out.L)
      have HFb := few_any lb _ w3 (HVB.out.below HS3.out.L)
      rw [hfa] at HFa
      go_wp2_with fail
      refine HFa.mono ?_
      rintro e w4 ⟨rfl, rfl⟩
      clear HFa
      rw [hfb] at HFb
      go_wp2_with fail
      refine HFb.mono ?_
      rintro e w4 ⟨rfl, rfl⟩
      clear HFb
      go_wp2_with fail
      refine (awake_any w3 (HG.out.below HS3.out.L HG.out.size)).mono ?_
      rintro e w4 ⟨rfl, HX4⟩
      go_wp2
      go_ret
      exact ⟨rfl, (HS3.out.below HX4.out).L⟩
    | true =>
      have HLA := Sl.mk (few_all hfa)
      have HLB := Sl.mk (few_all hfb)
      go_enter Tryd.func4, Tryd.ntmps4
      go_wp2_with fail
      refine (new_yes masked 1000 w w (Below.refl _ _) (by omega)).mono ?_
      rintro e w1 ⟨rfl, HS1, _⟩
      go_wp2_with fail
      refine (new_yes masked 1000 w w1 HS1.out.L (by omega)).mono ?_
      rintro e w2 ⟨rfl, HT2, HX2⟩
      have HS2 := Sl.mk (HS1.out.below HX2.out)
      have HNB : Sl (w1.heap.size ≠ w.heap.size) := ⟨by have := HS1.out.lt; omega⟩
      clear HS1 HX2
      go_wp2_with fail
      refine (awake_any w2 (HG.out.below HS2.out.L HG.out.size)).mono ?_
      rintro e w3 ⟨rfl, HX3⟩
      have HS3 := Sl.mk (HS2.out.below HX3.out)
      have HT3 := Sl.mk (HT2.out.below HX3.out)
      clear HS2 HT2 HX3
      have HFa := few_any la _ w3 (HVA.out.below HS3.out.L)
      have HFb := few_any lb _ w3 (HVB.out.below HS3.out.L)
      rw [hfa] at HFa
      go_wp2_with fail
      refine HFa.mono ?_
      rintro e w4 ⟨rfl, rfl⟩
      clear HFa
      rw [hfb] at HFb
      go_wp2_with fail
      refine HFb.mono ?_
      rintro e w4 ⟨rfl, rfl⟩
      clear HFb
      clear hfa hfb
      have B4 : Below w3.heap.size w3 (w3.alloc (.cells #[] 43)) := (Below.refl _ _).alloc (Nat.le_refl _) _
      obtain ⟨w4, hw4⟩ : ∃ V, w3.alloc (.cells #[] 43) = V := ⟨_, rfl⟩
      rw [hw4] at B4
      have B5 : Below w4.heap.size w4 (w4.alloc (.cells #[] 9)) := (Below.refl _ _).alloc (Nat.le_refl _) _
      have HB5 : Below w3.heap.size w3 (w4.alloc (.cells #[] 9)) := B4.trans (B5.mono B4.size)
      have hw3 := HS3.out.L.size
      have O4 : OwnR w4 w.heap.size (.slice (some ⟨w3.heap.size, 0, none⟩) 0 0) [] := by
        rw [← hw4]; exact World.ownsRow_lit w3 #[] 0 hw3 (by decide) rfl
      have HC5 : Sl (CU w (w4.alloc (.cells #[] 9)) w.heap.size w1.heap.size masked [] 0 (.slice none 0 0) (.slice (some ⟨w4.heap.size, 0, none⟩) 0 0) [] (.slice (some ⟨w3.heap.size, 0, none⟩) 0 0) []) := ⟨⟨HS3.out.below HB5, HT3.out.below HB5, HNB.out, O4.below B5, World.ownsRow_lit w4 #[] 0 (by have := B4.size; omega) (by decide) rfl⟩⟩
      have hL1 : ([] : List ByteArray).length + la.length ≤ 1000000 := by have := HLA.out.2; simp; omega
      have hL2 : ([] ++ la : List ByteArray).length + lb.length ≤ 1000000 := by have := HLA.out.2; have := HLB.out.2; simp; omega
      have HA5 := Sl.mk (HVA.out.below HC5.out.S.L)
      have hz5 : w.heap.size ≤ (w4.alloc (.cells #[] 9)).heap.size := HC5.out.S.L.size
      clear B4 B5 HB5 hw3 O4 HS3 HT3 HNB
      go_wp2_with (at_builtin; refine app_strs rfl (.tmp 59) (.tmp 60) rfl rfl w.heap.size (.slice (some ⟨w4.heap.size, 0, none⟩) 0 0) _ [] la rfl HC5.out.R rfl HA5.out hL1 hz5 ?_)
      intro v6 w6 HO6 HG6
      have HC6 := Sl.mk (HC5.out.strs HO6.out HG6.out)
      have HB6 := Sl.mk (HVB.out.below HC6.out.S.L)
      have hz6 : w.heap.size ≤ w6.heap.size := HC6.out.S.L.size
      clear HC5 HA5 HO6 HG6 hz5 hw4
      obtain ⟨a6, c6, rfl⟩ := HC6.out.R.slice
      go_wp2_with (at_builtin; refine app_strs rfl (.tmp 61) (.tmp 62) rfl rfl w.heap.size (.slice a6 ([] ++ la : List ByteArray).length c6) _ ([] ++ la) lb rfl HC6.out.R rfl HB6.out hL2 hz6 ?_)
      intro v7 w7 HO7 HG7
      have HC7 := Sl.mk (HC6.out.strs HO7.out HG7.out)
      clear HC6 HB6 HO7 HG7 hz6 hL1 hL2
      obtain ⟨ll, hll⟩ : ∃ ll, (la ++ lb : List ByteArray) = ll := ⟨_, rfl⟩
      have HLL : Sl ((∀ i, (ll.getD i ByteArray.empty).size ≤ 300) ∧ ll.length ≤ 80) := ⟨by rw [← hll]; exact lens_app HLA.out HLB.out⟩
      rw [hll] at HC7
      obtain ⟨a7, c7, rfl⟩ := HC7.out.R.slice
      obtain ⟨n, hn⟩ : ∃ n, ll.length = n := ⟨_, rfl⟩
      have hn80 : n ≤ 80 := by rw [← hn]; exact HLL.out.2
      have HN := Sl.mk hn
      rw [hn] at HC7 ⊢
      clear hn hll
      go_wp2
      go_loopw [11, 12, 14] (fun y u0 i wr => ∃ (k : Nat) (S0 : ByteArray) (u : Value) (fs : List Fr) (e : Nat) (part : List Nat) (v1 : Value), y = .string S0 ∧ u = u0 ∧ i = .int .i64 (k : Int) ∧ k ≤ n ∧ S0.size ≤ 300 * k ∧ Sl (FedS (bytes S0) masked 1000 fs e part) ∧ Sl (CU w wr w.heap.size w1.heap.size masked part e v1 (.slice a7 n c7) ll u fs)) (fun _ _ i _ => n - (intOf i).toNat)
      case atStart => exact ⟨0, { data := #[] }, _, [], 0, [], _, rfl, rfl, rfl, Nat.zero_le _, Nat.zero_le _, ⟨fed_nil masked 1000⟩, HC7⟩
      case round =>
        obtain ⟨k, S0, u, fs, e, part, v1, rfl, rfl, rfl, hk, hsz, HFD, HC⟩ := hrel
        have hfp := fed_part HFD.out (bytes_small S0)
        by_cases hkn : k < n
        · have hlt : ((k : Int) < (n : Int)) = True := eq_true (by omega)
          obtain ⟨s, hs⟩ : ∃ s, ll.getD k ByteArray.empty = s := ⟨_, rfl⟩
          have hs300 : s.size ≤ 300 := by rw [← hs]; exact HLL.out.1 k
          obtain ⟨sb, so, ha7, hcl0⟩ := str_cell HC.out.R.strA k (by rw [HN.out]; exact hkn)
          rw [hs] at hcl0
          subst ha7
          have hcat : S0.size + s.size ≤ 1000000 := by omega
          obtain ⟨c8, w8, hconv, HS8, HX8⟩ := conv_str s wr
          have HC8 := Sl.mk (HC.out.below HX8.out)
          obtain ⟨gs, e', part', HF', _, FF⟩ := feed_fed HFD.out (bytes_small S0) (bytes_small s) (by rw [bytes_length, bytes_length]; omega) (by omega : (1000 : Int) ≤ 9223372036854775807)
          have F9 := FF w w8 w.heap.size v1 (.slice (some ⟨wr.heap.size, 0, none⟩) s.size c8) HG.out HC8.out.S HS8.out
          have HFD' : Sl (FedS (bytes (S0 ++ s)) masked 1000 (fs ++ gs) e' part') := ⟨by rw [bytes_append]; exact HF'⟩
          have hfl := (all_frs masked 1000 _ (bytes (S0 ++ s)) (Nat.le_refl _) (bytes_small _)).2.2
          rw [(fed_part HFD'.out (bytes_small _)).2.2.2, bytes_append] at hfl
          simp only [List.length_append, bytes_length] at hfl
          have hlen : fs.length + gs.length ≤ 1000000 := by omega
          obtain ⟨n9, hn9⟩ : ∃ n, gs.length = n := ⟨_, rfl⟩
          rw [hn9] at F9
          have HN9 := Sl.mk hn9
          have HLEN := Sl.mk hlen
          have hsz' : (S0 ++ s).size ≤ 300 * (k + 1) := by rw [ByteArray.size_append]; omega
          have HSZ := Sl.mk hsz'
          clear hs hfp FF HF' hfl hn9 hlen hsz' HFD HC HX8 HS8 hs300
          go_wp2_with fail
          refine F9.mono ?_
          rintro e w9 ⟨a9, c9, v9, rfl, HF9, _, HS9, HT9⟩
          clear F9 hconv hcl0
          have HC9 := Sl.mk (HC8.out.fed HS9.out HT9.out)
          have hz9 : w.heap.size ≤ w9.heap.size := HC9.out.S.L.size
          have HF9' : Sl (FrsAt w9 (.slice a9 n9 c9) gs) := HF9
          clear HC8 HS9 HT9
          go_wp2_with (at_builtin; refine app_frs rfl (.tmp 86) (.tmp 87) rfl rfl w.heap.size u (.slice a9 n9 c9) fs gs rfl HC9.out.O rfl HF9'.out HLEN.out hz9 ?_)
          intro u' w10 HO10 HG10
          have HC10 := Sl.mk (HC9.out.told HO10.out HG10.out)
          clear HC9 HF9 HF9' HO10 HG10 hz9
          go_wp2
          exact ⟨⟨k + 1, S0 ++ s, u', fs ++ gs, e', part', v9, rfl, rfl, by go_num, by omega, HSZ.out, HFD', HC10⟩, by simp [intOf]; omega⟩
        · obtain rfl : k = n := by omega
          have hlt : ((k : Int) < (k : Int)) = False := eq_false (by omega)
          obtain ⟨c8, w8, hconv, HS8, HX8⟩ := conv_str S0 wr
          have HC8 := Sl.mk (HC.out.below HX8.out)
          obtain ⟨hp1, hp2, hp3, hall⟩ := hfp
          have hall' : all ([] ++ bytes S0) masked 1000 = (fs, e, part.length) := hall
          have hpart : ([] ++ bytes S0).drop (([] ++ bytes S0).length - part.length) = part := by
            obtain ⟨lf, h1, h2⟩ := HFD.out
            rw [hall] at h1; injection h1 with _ h1; injection h1 with _ h1
            rw [List.nil_append, h1]; exact h2.symm
          obtain ⟨n9, hn9⟩ : ∃ n, fs.length = n := ⟨_, rfl⟩
          have F9 := feed_ex HC8.out.T HG.out (.slice (some ⟨wr.heap.size, 0, none⟩) S0.size c8) (bytes S0) HS8.out (fun x hx => by cases hx) (bytes_small S0) (by rw [bytes_length]; simp; omega) (by omega) hall' part hpart n9 hn9
          have hfr := all_frs masked 1000 _ (bytes S0) (Nat.le_refl _) (bytes_small S0)
          rw [hall, bytes_length] at hfr
          simp only at hfr
          have HKS : Sl (∀ f ∈ fs, Small 256 f.key) := ⟨fun f hf => (hfr.1 f hf).2.2.1⟩
          have HFL : Sl (fs.length ≤ 1000000) := ⟨by have := hfr.2.2; omega⟩
          obtain ⟨a8, d8, hu⟩ := HC.out.O.slice
          subst hu
          obtain ⟨pn, hpn⟩ : ∃ n, part.length = n := ⟨_, rfl⟩
          have HPN := Sl.mk hpn
          have HN9 := Sl.mk hn9
          rw [hn9] at HC8 ⊢
          have hee : ((e : Int) == (e : Int)) = true := by simp
          have hpp : ((pn : Int) == (pn : Int)) = true := by simp
          clear hp1 hp2 hp3 hall hall' hpart hfr hpn hn9 HFD HC HX8 HS8 HC7
          go_wp2_with fail
          refine F9.mono ?_
          rintro e' w9 ⟨a9, c9, v9, rfl, HF9, _, HS9, HT9⟩
          clear F9 hconv
          have HO9 : Sl (OwnR w9 w.heap.size (.slice a8 n9 d8) fs) := ⟨own_fed HC8.out.O HC8.out.T (by decide) (by decide) HT9.out⟩
          have HSS9 : Sl (StrmAt w w9 w.heap.size masked 1000 part e v1) := ⟨strm_same HC8.out.S HC8.out.T (fun h => HC8.out.N h.symm) HT9.out⟩
          have S10 := same_yes fs (.slice a8 n9 d8) (.slice a9 n9 c9) w9 HO9.out.frs HF9.out HKS.out HFL.out
          clear HC8 HO9 HF9 HT9
          go_wp2_with fail
          refine S10.mono ?_
          rintro e' w10 ⟨rfl, HX10⟩
          have HS10 := Sl.mk (HS9.out.below HX10.out)
          have HSS10 := Sl.mk (HSS9.out.below HX10.out)
          clear S10 HS9 HSS9 HX10
          have E10 := err_any HSS10.out
          go_wp2_with fail
          refine E10.mono ?_
          rintro e' w11 ⟨rfl, rfl⟩
          clear E10
          have P10 := part_ex HS10.out pn HPN.out
          go_wp2_with fail
          refine P10.mono ?_
          rintro e' w11 ⟨rfl, rfl⟩
          clear P10
          have P11 := part_ex HSS10.out pn HPN.out
          go_wp2_with fail
          refine P11.mono ?_
          rintro e' w11 ⟨rfl, rfl⟩
          clear P11
          go_wp2
          go_ret
          exact ⟨rfl, HSS10.out.L⟩
end Go.Proofs.YtlgmgalopdfcaaaDoor
