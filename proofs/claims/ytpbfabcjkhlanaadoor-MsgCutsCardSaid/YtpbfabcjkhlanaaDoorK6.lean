/- MsgCuts' walk. -/
import Derived.Test.YtpbfabcjkhlanaaDoorMJ
import Derived.Test.YtpbfabcjkhlanaaDoorOpenBytes
set_option maxRecDepth 100000
namespace Go.Proofs.YtpbfabcjkhlanaaDoor.Msg
open Go.RowKit UtfPlain MsgPlain Fra Utf Cls
open FramePlain (Fr Fr0 form chk ctl zero4 form_cases)
open ClosePlain (getC)

/-- What the loop holds to: t is there, s is left; o is the next frame's op; the event e1 lies beside the machine. -/
structure CutR (w wr : World) (b e1 : Nat) (cs : Array Value) (op : Int) (A : List Nat) (o : Int) (t : List Nat) (s : ByteArray) (v p : Value) : Prop where
  st : ∃ st, MacS w wr b 2000 st v p ∧ ((t = [] ∧ st = M0 ∧ o = op) ∨ (st = ⟨0, false, true, op, t⟩ ∧ o = 0))
  A : A = t ++ bytes s
  E : wr.heap[e1]? = some (.cells cs 30 (0, 0))
  N : ∀ k, Mine b v p k → k ≠ e1
section
variable {w wr w' : World} {b e1 : Nat} {cs : Array Value} {op o o' : Int} {A t t' : List Nat} {s s' : ByteArray} {v p v' p' : Value}
theorem CutR.L (h : CutR w wr b e1 cs op A o t s v p) : Below w.heap.size w wr := by obtain ⟨st, h1, _⟩ := h.st; exact h1.m.L
theorem CutR.below (h : CutR w wr b e1 cs op A o t s v p) (hB : Below wr.heap.size wr w') : CutR w w' b e1 cs op A o t s v p := by
  obtain ⟨st, h1, h2⟩ := h.st
  exact ⟨⟨st, h1.below hB, h2⟩, h.A, below_key h.E hB, h.N⟩
theorem CutR.go (h : CutR w wr b e1 cs op A o t s v p) {st' : Ms} (hm : MacS w w' b 2000 st' v' p') (g : Goes wr w' b v p v' p') (hs : (t' = [] ∧ st' = M0 ∧ o' = op) ∨ (st' = ⟨0, false, true, op, t'⟩ ∧ o' = 0)) (hA : A = t' ++ bytes s') : CutR w w' b e1 cs op A o' t' s' v' p' where
  st := ⟨st', hm, hs⟩
  A := hA
  E := by rw [g.kept.block e1 (Array.getElem?_eq_some_iff.1 h.E).1 (fun e => h.N e1 e rfl)]; exact h.E
  N := fun k hk => by
    rcases g.mine k hk with h1 | h1
    · exact h.N k h1
    · have := (Array.getElem?_eq_some_iff.1 h.E).1
      omega
end
theorem cut_take {st : Ms} {t : List Nat} {o op : Int} (hop : op = 1 ∨ op = 2) (h : (t = [] ∧ st = M0 ∧ o = op) ∨ (st = ⟨0, false, true, op, t⟩ ∧ o = 0)) (fin : Bool) (d : List Nat) : MsgPlain.take 2000 st ⟨fin, o, false, [0, 0, 0, 0], d⟩ = more 2000 fin op (t ++ d) := by
  rcases h with ⟨rfl, rfl, rfl⟩ | ⟨rfl, rfl⟩
  · rw [take_m0]; exact step_first 2000 hop fin d
  · rw [take_mid]; exact step_more 2000 op fin t d
theorem cut_ping {st : Ms} {t : List Nat} {o op : Int} (h : (t = [] ∧ st = M0 ∧ o = op) ∨ (st = ⟨0, false, true, op, t⟩ ∧ o = 0)) {d : List Nat} (hd : d.length ≤ 125) : MsgPlain.take 2000 st ⟨true, 9, false, [0, 0, 0, 0], d⟩ = (st, some ⟨9, 0, d⟩) := by
  rcases h with ⟨rfl, rfl, rfl⟩ | ⟨rfl, rfl⟩
  · rw [take_m0]; exact step_ping 2000 M0 (.inl rfl) _ false hd (.inr rfl)
  · rw [take_mid]; exact step_ping 2000 _ (.inl rfl) _ false hd (.inr rfl)
/-- A whole message: its event and nothing wrong, or something wrong and no event. -/
theorem more_whole (op : Int) (A : List Nat) : (((more 2000 true op A).1.err : Int) == 0) = (more 2000 true op A).2.isSome := by
  unfold more
  split
  · rfl
  split
  · rfl
  · rw [if_pos rfl]; rfl
/-- A part: more is awaited, or it is as wrong as the whole. -/
theorem more_cut {op : Int} {A : List Nat} {t d r : List Nat} (hA : A = t ++ (d ++ r)) (hl : A.length ≤ 500) : more 2000 false op (t ++ d) = (⟨0, false, true, op, t ++ d⟩, none) ∨ (more 2000 false op (t ++ d) = (bad 122, none) ∧ more 2000 true op A = (bad 122, none)) := by
  have e : t ++ d = A.take (t ++ d).length := by rw [hA, ← List.append_assoc, List.take_left]
  rcases more_err 2000 false op (t ++ d) with h | ⟨_, h⟩
  · exact .inl (more_go h)
  · right
    have h2 : (more 2000 false op (A.take (t ++ d).length)).1.err ≠ 0 := by
      rw [← e]
      rcases h with h | h <;> rw [h] <;> decide
    have h3 := more_part (most := 2000) (by omega) h2
    rw [← e] at h3
    exact h3
theorem str_split (s : ByteArray) (n : Nat) : bytes s = bytes (s.extract 0 n) ++ bytes (s.extract n s.size) := by
  rw [bytes_extract, bytes_extract, List.drop_zero, List.take_of_length_le (l := bytes s) (i := s.size) (by rw [bytes_length]; exact Nat.le_refl _), List.take_append_drop]
theorem str_none (s : ByteArray) : s.extract s.size s.size = ByteArray.empty := by
  refine bytes_inj ?_
  rw [bytes_extract, List.drop_eq_nil_of_le (by rw [List.length_take, bytes_length]; omega)]
  rfl
theorem str_from {W : World} {ev : Operand → Value} {o : Oper} {x y : Operand} {s : ByteArray} {n : Nat} (ho : o.op = .slice 9 x (some y) none none) (hx : ev x = .string s) (hy : ev y = .int .i64 (n : Int)) (h : n ≤ s.size) : (execOp ev o).run Tryd.prog W = .ok (.value (.string (s.extract n s.size))) W := by
  simp only [execOp, ho, hx, hy, Option.map_some, Option.map_none]
  have h' : (n : Int) ≤ (s.size : Int) := by omega
  go_simp
set_option maxHeartbeats 16000000 in
theorem cuts_walk (text : Bool) (a : ByteArray) (v : Value) (cl : List Nat) (u : Value) (bl : List Fr) (w : World) (hg : Utf.Globs w) (hv : SrcAt w v cl) (hcs : Small 256 cl) (_ : cl.length ≤ maxLen) (hu : FrsAt w u bl) (_ : ∀ f ∈ bl, FrOk f) (hbm : bl.length ≤ maxLen) : Calls Tryd.prog 3 #[.bool text, .string a, v, u] w fun e w' => e = .returned (.bool true) ∧ Below w.heap.size w w' := by
  have HG := Sl.mk hg
  have N0 := new_yes 2000 w w (Below.refl _ _) (by omega)
  have HI := ev_info (cs := #[.int .i64 0, .int .i64 0, .string { data := #[] }]) rfl
  obtain ⟨ac, cap, sb, so, rfl, hc1, hc2, hc3⟩ := hv
  obtain ⟨ab, capb, rfl⟩ := hu.slice
  have HU := Sl.mk hu
  have HCM : Sl (bl.length ≤ 9223372036854775807) := ⟨by unfold maxLen at hbm; omega⟩
  have HSM := Sl.mk hcs
  obtain ⟨n, hn⟩ : ∃ n, cl.length = n := ⟨_, rfl⟩
  obtain ⟨nb, hnb⟩ : ∃ n, bl.length = n := ⟨_, rfl⟩
  have HNB := Sl.mk hnb
  rw [hn] at hc1 hc2 hc3 ⊢
  rw [hnb] at HU ⊢
  have HA := Sl.mk hc2
  have HCE := Sl.mk hc3
  clear hg hu hcs hc1 hc2 hc3 hbm hn hnb
  by_cases ha : a.size > 500
  · have hq : ((a.size : Int) > 500) = True := eq_true (by omega)
    clear ha
    go_enter Tryd.func3, Tryd.ntmps3
    go_wp2_with fail
    refine N0.mono ?_
    rintro e w1 ⟨rfl, HS1, _⟩
    clear N0
    have N1 := new_yes 2000 w w1 HS1.out.m.L (by omega)
    go_wp2_with fail
    refine N1.mono ?_
    rintro e w2 ⟨rfl, HS2, HB2⟩
    clear N1
    have HP2 := Sl.mk (Pair.new HS1.out HB2.out HS2.out)
    have A3 := awake_any w2 (HG.out.below HP2.out.one.m.L HG.out.size)
    go_wp2_with fail
    refine A3.mono ?_
    rintro e w3 ⟨rfl, HB3⟩
    have HP3 := Sl.mk (HP2.out.below HB3.out)
    clear A3 HS1 HS2 HB2 HB3 HP2
    obtain ⟨b2, hb2⟩ : ∃ b2, w1.heap.size = b2 := ⟨_, rfl⟩
    rw [hb2] at HP3 ⊢
    have A4 := awake_any w3 (HG.out.below HP3.out.one.m.L HG.out.size)
    go_wp2_with fail
    refine A4.mono ?_
    rintro e w4 ⟨rfl, HB4⟩
    have HL := Sl.mk (HP3.out.one.m.L.trans (HB4.out.mono HP3.out.one.m.L.size))
    go_wp2
    go_ret
    exact ⟨rfl, HL.out⟩
  have hqa : ((a.size : Int) > 500) = False := eq_false (by omega)
  have HAL : Sl (a.size ≤ 500) := ⟨by omega⟩
  clear ha
  by_cases hl : n > 30
  · have hq : ((n : Int) > 30) = True := eq_true (by omega)
    clear hl
    go_enter Tryd.func3, Tryd.ntmps3
    go_wp2_with fail
    refine N0.mono ?_
    rintro e w1 ⟨rfl, HS1, _⟩
    clear N0
    have N1 := new_yes 2000 w w1 HS1.out.m.L (by omega)
    go_wp2_with fail
    refine N1.mono ?_
    rintro e w2 ⟨rfl, HS2, HB2⟩
    clear N1
    have HP2 := Sl.mk (Pair.new HS1.out HB2.out HS2.out)
    have A3 := awake_any w2 (HG.out.below HP2.out.one.m.L HG.out.size)
    go_wp2_with fail
    refine A3.mono ?_
    rintro e w3 ⟨rfl, HB3⟩
    have HP3 := Sl.mk (HP2.out.below HB3.out)
    clear A3 HS1 HS2 HB2 HB3 HP2
    obtain ⟨b2, hb2⟩ : ∃ b2, w1.heap.size = b2 := ⟨_, rfl⟩
    rw [hb2] at HP3 ⊢
    have A4 := awake_any w3 (HG.out.below HP3.out.one.m.L HG.out.size)
    go_wp2_with fail
    refine A4.mono ?_
    rintro e w4 ⟨rfl, HB4⟩
    have HL := Sl.mk (HP3.out.one.m.L.trans (HB4.out.mono HP3.out.one.m.L.size))
    go_wp2
    go_ret
    exact ⟨rfl, HL.out⟩
  have hql : ((n : Int) > 30) = False := eq_false (by omega)
  have HNL : Sl (n ≤ 30) := ⟨by omega⟩
  clear hl
  obtain ⟨op, hop⟩ : ∃ op : Int, (if text = true then 1 else 2) = op := ⟨_, rfl⟩
  have HOP : Sl (op = 1 ∨ op = 2) := ⟨by rw [← hop]; split <;> simp⟩
  obtain ⟨⟨st1, ev⟩, hr⟩ : ∃ r, more 2000 true op (bytes a) = r := ⟨_, rfl⟩
  have HR := Sl.mk hr
  have HR1 : Sl (MsgPlain.take 2000 M0 (⟨true, op, false, [0, 0, 0, 0], bytes a⟩ : Fr) = (st1, ev)) := ⟨by rw [← hr, take_m0]; exact step_first 2000 HOP.out true _⟩
  obtain ⟨eo, ec, et, hev⟩ := evO_any ev
  have HEV := Sl.mk hev
  obtain ⟨d, hd⟩ : ∃ d, ev.isSome = d := ⟨_, rfl⟩
  have HD := Sl.mk hd
  obtain ⟨x, hx⟩ : ∃ x : Int, (st1.err : Int) = x := ⟨_, rfl⟩
  have HX := Sl.mk hx
  have hxd : (x == 0) = d := by
    have h := more_whole op (bytes a)
    rw [hr] at h
    rw [← hx, ← hd]; exact h
  have hsame := ev_same eo ec et
  have HIE := ev_info (cs := #[.int .i64 eo, .int .i64 ec, .string et]) rfl
  have hdd : (d == d) = true := by simp
  have hxx : (x == x) = true := by simp
  have HBL : Sl ((bytes a).length ≤ 500) := ⟨by rw [bytes_length]; exact HAL.out⟩
  clear hr hev hd hx
  go_enter Tryd.func3, Tryd.ntmps3
  go_wp2_with fail
  refine N0.mono ?_
  rintro e w1 ⟨rfl, HS1, _⟩
  clear N0
  have N1 := new_yes 2000 w w1 HS1.out.m.L (by omega)
  go_wp2_with fail
  refine N1.mono ?_
  rintro e w2 ⟨rfl, HS2, HB2⟩
  clear N1
  have HP2 := Sl.mk (Pair.new HS1.out HB2.out HS2.out)
  have A3 := awake_any w2 (HG.out.below HP2.out.one.m.L HG.out.size)
  go_wp2_with fail
  refine A3.mono ?_
  rintro e w3 ⟨rfl, HB3⟩
  have HP3 := Sl.mk (HP2.out.below HB3.out)
  clear A3 HS1 HS2 HB2 HB3 HP2
  obtain ⟨b2, hb2⟩ : ∃ b2, w1.heap.size = b2 := ⟨_, rfl⟩
  rw [hb2] at HP3 ⊢
  cases text with
  | true =>
    obtain rfl : op = 1 := by rw [← hop]; rfl
    clear hop
    have T1 := take_ex HP3.out.one HG.out true 1 false 0 0 0 0 a small0 (by have := HAL.out; omega) _ rfl st1 ev HR1.out eo ec et HEV.out d HD.out x HX.out
    go_wp2_with fail
    refine T1.mono ?_
    rintro e w5 ⟨v5, p5, rfl, HS5, HX5⟩
    clear T1
    have HP5 := Sl.mk (HP3.out.go HS5.out HX5.out)
    clear HS5 HX5 HP3
    obtain ⟨V5, hV5, HBV5, HEV5⟩ := laid_ev w5 #[.int .i64 eo, .int .i64 ec, .string et]
    go_upto_region 9 with (refine wpList_store_row rfl 30 (.tmp 14) (.tmp 73) rfl w5.heap.size #[.int .i64 eo, .int .i64 ec, .string et] rfl rfl 30 #[.int .i64 0, .int .i64 0, .string { data := #[] }] (ev_new w5) HIE rfl (ev_all _ _ _) ?_)
    (try rw [hV5])
    clear hV5
    obtain ⟨e1, he1⟩ : ∃ e1, w5.heap.size = e1 := ⟨_, rfl⟩
    have HC0 : Sl (CutR w V5 b2 e1 #[.int .i64 eo, .int .i64 ec, .string et] 1 (bytes a) 1 [] a (.slice none 0 0) (.pointer none)) := ⟨⟨⟨M0, HP5.out.two.below HBV5.out, .inl ⟨rfl, rfl, rfl⟩⟩, rfl, by rw [← he1]; exact HEV5.out, fun k hk => by have := (HP5.out.two.m.own hk).2; omega⟩⟩
    rw [he1]
    clear HP5 HBV5 HEV5 he1 hqa hql
    go_wp2
    go_loopw [13, 17, 18] (fun ov rv i wr => ∃ (j : Nat) (t : List Nat) (s : ByteArray) (o : Int) (vx px : Value), ov = .int .i64 o ∧ rv = .string s ∧ i = .int .i64 (j : Int) ∧ j ≤ n ∧ Sl (CutR w wr b2 e1 #[.int .i64 eo, .int .i64 ec, .string et] 1 (bytes a) o t s vx px)) (fun _ _ i _ => n - (intOf i).toNat)
    case atStart => exact ⟨0, _, _, _, _, _, rfl, rfl, rfl, Nat.zero_le _, HC0⟩
    case round =>
      obtain ⟨j, t, s, o, vx, px, rfl, rfl, rfl, hj, HC⟩ := hrel
      obtain ⟨st, hst1, hst2⟩ := HC.out.st
      have HST := Sl.mk hst1
      have HS2 := Sl.mk hst2
      have hsl : s.size ≤ 500 := by
        have h1 := congrArg List.length HC.out.A
        have h2 := HBL.out
        rw [List.length_append, bytes_length s] at h1
        omega
      have HSL := Sl.mk hsl
      clear hst1 hst2
      by_cases hjn : j < n
      · have hlt : ((j : Int) < (n : Int)) = True := eq_true (by omega)
        obtain rfl := HA.out (by omega)
        obtain ⟨c, hc⟩ : ∃ c, cl.getD j 0 = c := ⟨_, rfl⟩
        have hce := HCE.out j hjn
        rw [hc] at hce
        have hcell : wr.cell? ⟨sb, so + j, none⟩ = some (.int .u8 (c : Int)) := (HC.out.L.cell (block_lt_of_cell hce)).trans hce
        have hc256 : c < 256 := by rw [← hc]; exact HSM.out.getD (by decide) _
        have hn9 : n ≤ 9223372036854775807 := by have := HNL.out; omega
        have z1 : IntKind.i64.wrap (c : Int) = (c : Int) := by rw [IntKind.wrap_i64]; omega
        clear hc hce
        by_cases hsc : s.size < c
        · skip
          obtain ⟨s2, hs2⟩ : ∃ s2, s.extract s.size s.size = s2 := ⟨_, rfl⟩
          have hA2 : bytes a = t ++ (bytes s ++ bytes s2) := by rw [HC.out.A, ← hs2, str_none]; show _ = t ++ (bytes s ++ []); rw [List.append_nil]
          have hle : s.size ≤ s.size := Nat.le_refl _
          have hs1l : s.size ≤ 100000 := by omega
          have HA2 := Sl.mk hA2
          have HS2L := Sl.mk hs2
          have HLE := Sl.mk hle
          have HS1L := Sl.mk hs1l
          have hmc := more_cut (op := 1) hA2 HBL.out
          clear hA2 hle hs1l hsl hs2
          rcases hmc with hm | ⟨hm, hw⟩
          · have R2 : Sl (MsgPlain.take 2000 st (⟨false, o, false, [0, 0, 0, 0], bytes s⟩ : Fr) = (⟨0, false, true, 1, t ++ bytes s⟩, none)) := ⟨by rw [cut_take (.inl rfl : (1 : Int) = 1 ∨ (1 : Int) = 2) HS2.out]; exact hm⟩
            have T2 := take_ex HST.out HG.out false o false 0 0 0 0 s small0 HS1L.out _ rfl _ none R2.out 0 0 { data := #[] } rfl false rfl 0 rfl
            clear hm
            go_wp2_with fail
            refine T2.mono ?_
            rintro e w7 ⟨v7, p7, rfl, HS7, HX7⟩
            clear T2
            obtain ⟨V7, hV7, HBV7, HEV7⟩ := laid_ev w7 #[.int .i64 0, .int .i64 0, .string { data := #[] }]
            go_upto_region 17 with (refine wpList_store_row rfl 30 (.tmp 20) (.tmp 99) rfl w7.heap.size #[.int .i64 0, .int .i64 0, .string { data := #[] }] rfl rfl 30 #[.int .i64 0, .int .i64 0, .string { data := #[] }] (ev_new w7) HI rfl (ev_all _ _ _) ?_)
            (try rw [hV7])
            clear hV7
            have HM7 := Sl.mk (HS7.out.below HBV7.out)
            have HC7 : Sl (CutR w V7 b2 e1 #[.int .i64 eo, .int .i64 ec, .string et] 1 (bytes a) 0 (t ++ bytes s) s2 v7 p7) := ⟨(HC.out.go HS7.out HX7.out (.inr ⟨rfl, rfl⟩) (by rw [List.append_assoc]; exact HA2.out)).below HBV7.out⟩
            clear HS7 HX7 HBV7 HEV7 hcell HST HC
            obtain ⟨Rw, hRw⟩ : ∃ R, V7.drew = R := ⟨_, rfl⟩
            have HBR : Below V7.heap.size V7 Rw := by rw [← hRw]; exact (Below.refl _ _).drew
            refine wp_region_noPanic ?_
            refine wp_region_held (S := fun _ => True) (by kernel_rfl) ?_
            change wpAnyH _ _ _ _ _ _ _ _ V7.drew
            rw [hRw]
            clear hRw
            refine heldTake (d := some 114) (op := .move (Operand.tmp 17)) (g := none) 0 ?v0A1 rfl (by kernel_rfl) (by kernel_rfl) (by kernel_rfl) (by kernel_rfl) ?y0A1 trivial ?_
            case y0A1 => intro o' ho W hS; simp only [execOp, ho]; go_simp; try rfl
            simp only [Act.put, List.setIfInBounds_toArray, List.set_cons_zero, List.set_cons_succ]
            refine heldTake (d := some 115) (op := .move (Operand.tmp 19)) (g := none) 1 ?v1A1 rfl (by kernel_rfl) (by kernel_rfl) (by kernel_rfl) (by kernel_rfl) ?y1A1 trivial ?_
            case y1A1 => intro o' ho W hS; simp only [execOp, ho]; go_simp; try rfl
            simp only [Act.put, List.setIfInBounds_toArray, List.set_cons_zero, List.set_cons_succ]
            refine heldTake (d := some 116) (op := .slice 9 (Operand.tmp 114) (some (Operand.tmp 115)) none none) (g := none) 2 (.string s2) rfl (by kernel_rfl) (by kernel_rfl) (by kernel_rfl) (by kernel_rfl) ?y2A1 trivial ?_
            case y2A1 => intro o' ho W hS; exact (str_from ho (by rfl) (by rfl) HLE.out).trans (by rw [HS2L.out])
            simp only [Act.put, List.setIfInBounds_toArray, List.set_cons_zero, List.set_cons_succ]
            refine heldTake (d := some 13) (op := .assign (Operand.const (Value.int IntKind.i64 0))) (g := none) 3 ?v3A1 rfl (by kernel_rfl) (by kernel_rfl) (by kernel_rfl) (by kernel_rfl) ?y3A1 trivial ?_
            case y3A1 => intro o' ho W hS; simp only [execOp, ho]; go_simp; try rfl
            simp only [Act.put, List.setIfInBounds_toArray, List.set_cons_zero, List.set_cons_succ]
            refine heldTake (d := some 17) (op := .assign (Operand.tmp 116)) (g := none) 4 ?v4A1 rfl (by kernel_rfl) (by kernel_rfl) (by kernel_rfl) (by kernel_rfl) ?y4A1 trivial ?_
            case y4A1 => intro o' ho W hS; simp only [execOp, ho]; go_simp; try rfl
            simp only [Act.put, List.setIfInBounds_toArray, List.set_cons_zero, List.set_cons_succ]
            refine wpAnyH_done (by kernel_rfl) ?_ _
            refine NoPanic.normal ?_
            have HC8 := Sl.mk (HC7.out.below HBR)
            have HM8 := Sl.mk (HM7.out.below HBR)
            clear HC7 HM7 HBR
            by_cases hjb : j < nb
            · have hltb : ((j : Int) < (nb : Int)) = True := eq_true (by omega)
              have hjl : j < bl.length := by rw [HNB.out]; exact hjb
              obtain ⟨sb', so', rfl⟩ := HU.out.cap.2 (by omega)
              obtain ⟨rf, ro, rm, ka, kb, kc, kd, rd, hcv, _⟩ := cv_parts (bl.getD j Fr0)
              have HCV := Sl.mk hcv
              obtain ⟨_, _, _, _, _, _, _, g7⟩ := (HU.out.below HC8.out.L).at8 j hjl hcv
              have hb9 : nb ≤ 9223372036854775807 := by have := HCM.out; rw [HNB.out] at this; exact this
              have HJL := Sl.mk hjl
              clear hcv hjl
              by_cases hz : rd.size ≤ 125
              · have hq5 : ((rd.size : Int) ≤ 125) = True := eq_true (by omega)
                have R3 : Sl (MsgPlain.take 2000 ⟨0, false, true, 1, t ++ bytes s⟩ (⟨true, 9, false, [0, 0, 0, 0], bytes rd⟩ : Fr) = (⟨0, false, true, 1, t ++ bytes s⟩, some ⟨9, 0, bytes rd⟩)) := ⟨cut_ping (o := 0) (.inr ⟨rfl, rfl⟩) (by rw [bytes_length]; exact hz)⟩
                have HIR := ev_info (cs := #[.int .i64 9, .int .i64 0, .string rd]) rfl
                have T3 := take_ex HM8.out HG.out true 9 false 0 0 0 0 rd small0 (by omega) _ rfl _ _ R3.out 9 0 rd (evO_some _ _ _) true rfl 0 rfl
                clear hz
                go_wp2_with fail
                refine T3.mono ?_
                rintro e w9 ⟨v9, p9, rfl, HS9, HX9⟩
                clear T3
                obtain ⟨V9, hV9, HBV9, HEV9⟩ := laid_ev w9 #[.int .i64 9, .int .i64 0, .string rd]
                go_upto_region 20 with (refine wpList_store_row rfl 30 (.tmp 23) (.tmp 139) rfl w9.heap.size #[.int .i64 9, .int .i64 0, .string rd] rfl rfl 30 #[.int .i64 0, .int .i64 0, .string { data := #[] }] (ev_new w9) HIR rfl (ev_all _ _ _) ?_)
                (try rw [hV9])
                clear hV9
                have HC9 : Sl (CutR w V9 b2 e1 #[.int .i64 eo, .int .i64 ec, .string et] 1 (bytes a) 0 (t ++ bytes s) s2 v9 p9) := ⟨(HC8.out.go HS9.out HX9.out (.inr ⟨rfl, rfl⟩) HC8.out.A).below HBV9.out⟩
                clear HS9 HX9 HBV9 HC8 HM8 g7
                obtain ⟨a0, a1, a2⟩ := ev_cells HEV9.out
                obtain ⟨_, _, _, _, _, _, _, h7⟩ := (HU.out.below HC9.out.L).at8 j HJL.out HCV.out
                have hrr : (rd.toList == rd.toList) = true := by simp
                have hrn : (rd.toList != rd.toList) = false := by simp
                go_still (by kernel_rfl)
                change Exit.then _ _ Exit.normal _ V9.drew
                have HC10 := Sl.mk (HC9.out.below (Below.refl V9.heap.size V9).drew)
                clear HC9 HEV9 a0 a1 a2 h7
                go_wp2
                exact ⟨⟨j + 1, _, _, _, _, _, rfl, rfl, by go_num, by omega, HC10⟩, by simp [intOf]; omega⟩
              · have hq5 : ((rd.size : Int) ≤ 125) = False := eq_false (by omega)
                clear hz
                go_wp2
                exact ⟨⟨j + 1, _, _, _, _, _, rfl, rfl, by go_num, by omega, HC8⟩, by simp [intOf]; omega⟩
            · have hltb : ((j : Int) < (nb : Int)) = False := eq_false (by omega)
              go_wp2
              exact ⟨⟨j + 1, _, _, _, _, _, rfl, rfl, by go_num, by omega, HC8⟩, by simp [intOf]; omega⟩
          · have R2 : Sl (MsgPlain.take 2000 st (⟨false, o, false, [0, 0, 0, 0], bytes s⟩ : Fr) = (bad 122, none)) := ⟨by rw [cut_take (.inl rfl : (1 : Int) = 1 ∨ (1 : Int) = 2) HS2.out]; exact hm⟩
            have hx122 : ((122 : Int) == x) = true := by
              have h1 := HR.out
              rw [hw] at h1
              have h2 := HX.out
              injection h1 with h1 _
              rw [← h1] at h2
              rw [← h2]; rfl
            have T2 := take_ex HST.out HG.out false o false 0 0 0 0 s small0 HS1L.out _ rfl _ none R2.out 0 0 { data := #[] } rfl false rfl 122 rfl
            clear hm hw
            go_wp2_with fail
            refine T2.mono ?_
            rintro e w7 ⟨v7, p7, rfl, HS7, HX7⟩
            clear T2
            obtain ⟨V7, hV7, HBV7, HEV7⟩ := laid_ev w7 #[.int .i64 0, .int .i64 0, .string { data := #[] }]
            go_upto_region 15 with (refine wpList_store_row rfl 30 (.tmp 20) (.tmp 99) rfl w7.heap.size #[.int .i64 0, .int .i64 0, .string { data := #[] }] rfl rfl 30 #[.int .i64 0, .int .i64 0, .string { data := #[] }] (ev_new w7) HI rfl (ev_all _ _ _) ?_)
            (try rw [hV7])
            clear hV7
            have HL := Sl.mk ((HS7.out.below HBV7.out).m.L)
            clear HS7 HX7 HBV7 HEV7 hcell HST HC
            go_wp2
            go_ret
            exact ⟨rfl, HL.out⟩
        · have hcs2 : c ≤ s.size := by omega
          obtain ⟨s1, hs1⟩ : ∃ s1, s.extract 0 c = s1 := ⟨_, rfl⟩
          obtain ⟨s2, hs2⟩ : ∃ s2, s.extract c s.size = s2 := ⟨_, rfl⟩
          have hA2 : bytes a = t ++ (bytes s1 ++ bytes s2) := by rw [HC.out.A, str_split s c, hs1, hs2]
          have hle : c ≤ s.size := hcs2
          have hs1l : s1.size ≤ 100000 := by rw [← hs1, ByteArray.size_extract]; omega
          have hnot : ¬ s.size < c := hsc
          have hci : ((c : Int) ≤ (s.size : Int)) = True := eq_true (by omega)
          have HA2 := Sl.mk hA2
          have HS2L := Sl.mk hs2
          have HLE := Sl.mk hle
          have HS1L := Sl.mk hs1l
          have hmc := more_cut (op := 1) hA2 HBL.out
          clear hA2 hle hs1l hsl hs2
          rcases hmc with hm | ⟨hm, hw⟩
          · have R2 : Sl (MsgPlain.take 2000 st (⟨false, o, false, [0, 0, 0, 0], bytes s1⟩ : Fr) = (⟨0, false, true, 1, t ++ bytes s1⟩, none)) := ⟨by rw [cut_take (.inl rfl : (1 : Int) = 1 ∨ (1 : Int) = 2) HS2.out]; exact hm⟩
            have T2 := take_ex HST.out HG.out false o false 0 0 0 0 s1 small0 HS1L.out _ rfl _ none R2.out 0 0 { data := #[] } rfl false rfl 0 rfl
            clear hm
            go_wp2_with fail
            refine T2.mono ?_
            rintro e w7 ⟨v7, p7, rfl, HS7, HX7⟩
            clear T2
            obtain ⟨V7, hV7, HBV7, HEV7⟩ := laid_ev w7 #[.int .i64 0, .int .i64 0, .string { data := #[] }]
            go_upto_region 17 with (refine wpList_store_row rfl 30 (.tmp 20) (.tmp 99) rfl w7.heap.size #[.int .i64 0, .int .i64 0, .string { data := #[] }] rfl rfl 30 #[.int .i64 0, .int .i64 0, .string { data := #[] }] (ev_new w7) HI rfl (ev_all _ _ _) ?_)
            (try rw [hV7])
            clear hV7
            have HM7 := Sl.mk (HS7.out.below HBV7.out)
            have HC7 : Sl (CutR w V7 b2 e1 #[.int .i64 eo, .int .i64 ec, .string et] 1 (bytes a) 0 (t ++ bytes s1) s2 v7 p7) := ⟨(HC.out.go HS7.out HX7.out (.inr ⟨rfl, rfl⟩) (by rw [List.append_assoc]; exact HA2.out)).below HBV7.out⟩
            clear HS7 HX7 HBV7 HEV7 hcell HST HC
            obtain ⟨Rw, hRw⟩ : ∃ R, V7.drew = R := ⟨_, rfl⟩
            have HBR : Below V7.heap.size V7 Rw := by rw [← hRw]; exact (Below.refl _ _).drew
            refine wp_region_noPanic ?_
            refine wp_region_held (S := fun _ => True) (by kernel_rfl) ?_
            change wpAnyH _ _ _ _ _ _ _ _ V7.drew
            rw [hRw]
            clear hRw
            refine heldTake (d := some 114) (op := .move (Operand.tmp 17)) (g := none) 0 ?v0B1 rfl (by kernel_rfl) (by kernel_rfl) (by kernel_rfl) (by kernel_rfl) ?y0B1 trivial ?_
            case y0B1 => intro o' ho W hS; simp only [execOp, ho]; go_simp; try rfl
            simp only [Act.put, List.setIfInBounds_toArray, List.set_cons_zero, List.set_cons_succ]
            refine heldTake (d := some 115) (op := .move (Operand.tmp 19)) (g := none) 1 ?v1B1 rfl (by kernel_rfl) (by kernel_rfl) (by kernel_rfl) (by kernel_rfl) ?y1B1 trivial ?_
            case y1B1 => intro o' ho W hS; simp only [execOp, ho]; go_simp; try rfl
            simp only [Act.put, List.setIfInBounds_toArray, List.set_cons_zero, List.set_cons_succ]
            refine heldTake (d := some 116) (op := .slice 9 (Operand.tmp 114) (some (Operand.tmp 115)) none none) (g := none) 2 (.string s2) rfl (by kernel_rfl) (by kernel_rfl) (by kernel_rfl) (by kernel_rfl) ?y2B1 trivial ?_
            case y2B1 => intro o' ho W hS; exact (str_from ho (by rfl) (by rfl) HLE.out).trans (by rw [HS2L.out])
            simp only [Act.put, List.setIfInBounds_toArray, List.set_cons_zero, List.set_cons_succ]
            refine heldTake (d := some 13) (op := .assign (Operand.const (Value.int IntKind.i64 0))) (g := none) 3 ?v3B1 rfl (by kernel_rfl) (by kernel_rfl) (by kernel_rfl) (by kernel_rfl) ?y3B1 trivial ?_
            case y3B1 => intro o' ho W hS; simp only [execOp, ho]; go_simp; try rfl
            simp only [Act.put, List.setIfInBounds_toArray, List.set_cons_zero, List.set_cons_succ]
            refine heldTake (d := some 17) (op := .assign (Operand.tmp 116)) (g := none) 4 ?v4B1 rfl (by kernel_rfl) (by kernel_rfl) (by kernel_rfl) (by kernel_rfl) ?y4B1 trivial ?_
            case y4B1 => intro o' ho W hS; simp only [execOp, ho]; go_simp; try rfl
            simp only [Act.put, List.setIfInBounds_toArray, List.set_cons_zero, List.set_cons_succ]
            refine wpAnyH_done (by kernel_rfl) ?_ _
            refine NoPanic.normal ?_
            have HC8 := Sl.mk (HC7.out.below HBR)
            have HM8 := Sl.mk (HM7.out.below HBR)
            clear HC7 HM7 HBR
            by_cases hjb : j < nb
            · have hltb : ((j : Int) < (nb : Int)) = True := eq_true (by omega)
              have hjl : j < bl.length := by rw [HNB.out]; exact hjb
              obtain ⟨sb', so', rfl⟩ := HU.out.cap.2 (by omega)
              obtain ⟨rf, ro, rm, ka, kb, kc, kd, rd, hcv, _⟩ := cv_parts (bl.getD j Fr0)
              have HCV := Sl.mk hcv
              obtain ⟨_, _, _, _, _, _, _, g7⟩ := (HU.out.below HC8.out.L).at8 j hjl hcv
              have hb9 : nb ≤ 9223372036854775807 := by have := HCM.out; rw [HNB.out] at this; exact this
              have HJL := Sl.mk hjl
              clear hcv hjl
              by_cases hz : rd.size ≤ 125
              · have hq5 : ((rd.size : Int) ≤ 125) = True := eq_true (by omega)
                have R3 : Sl (MsgPlain.take 2000 ⟨0, false, true, 1, t ++ bytes s1⟩ (⟨true, 9, false, [0, 0, 0, 0], bytes rd⟩ : Fr) = (⟨0, false, true, 1, t ++ bytes s1⟩, some ⟨9, 0, bytes rd⟩)) := ⟨cut_ping (o := 0) (.inr ⟨rfl, rfl⟩) (by rw [bytes_length]; exact hz)⟩
                have HIR := ev_info (cs := #[.int .i64 9, .int .i64 0, .string rd]) rfl
                have T3 := take_ex HM8.out HG.out true 9 false 0 0 0 0 rd small0 (by omega) _ rfl _ _ R3.out 9 0 rd (evO_some _ _ _) true rfl 0 rfl
                clear hz
                go_wp2_with fail
                refine T3.mono ?_
                rintro e w9 ⟨v9, p9, rfl, HS9, HX9⟩
                clear T3
                obtain ⟨V9, hV9, HBV9, HEV9⟩ := laid_ev w9 #[.int .i64 9, .int .i64 0, .string rd]
                go_upto_region 20 with (refine wpList_store_row rfl 30 (.tmp 23) (.tmp 139) rfl w9.heap.size #[.int .i64 9, .int .i64 0, .string rd] rfl rfl 30 #[.int .i64 0, .int .i64 0, .string { data := #[] }] (ev_new w9) HIR rfl (ev_all _ _ _) ?_)
                (try rw [hV9])
                clear hV9
                have HC9 : Sl (CutR w V9 b2 e1 #[.int .i64 eo, .int .i64 ec, .string et] 1 (bytes a) 0 (t ++ bytes s1) s2 v9 p9) := ⟨(HC8.out.go HS9.out HX9.out (.inr ⟨rfl, rfl⟩) HC8.out.A).below HBV9.out⟩
                clear HS9 HX9 HBV9 HC8 HM8 g7
                obtain ⟨a0, a1, a2⟩ := ev_cells HEV9.out
                obtain ⟨_, _, _, _, _, _, _, h7⟩ := (HU.out.below HC9.out.L).at8 j HJL.out HCV.out
                have hrr : (rd.toList == rd.toList) = true := by simp
                have hrn : (rd.toList != rd.toList) = false := by simp
                go_still (by kernel_rfl)
                change Exit.then _ _ Exit.normal _ V9.drew
                have HC10 := Sl.mk (HC9.out.below (Below.refl V9.heap.size V9).drew)
                clear HC9 HEV9 a0 a1 a2 h7
                go_wp2
                exact ⟨⟨j + 1, _, _, _, _, _, rfl, rfl, by go_num, by omega, HC10⟩, by simp [intOf]; omega⟩
              · have hq5 : ((rd.size : Int) ≤ 125) = False := eq_false (by omega)
                clear hz
                go_wp2
                exact ⟨⟨j + 1, _, _, _, _, _, rfl, rfl, by go_num, by omega, HC8⟩, by simp [intOf]; omega⟩
            · have hltb : ((j : Int) < (nb : Int)) = False := eq_false (by omega)
              go_wp2
              exact ⟨⟨j + 1, _, _, _, _, _, rfl, rfl, by go_num, by omega, HC8⟩, by simp [intOf]; omega⟩
          · have R2 : Sl (MsgPlain.take 2000 st (⟨false, o, false, [0, 0, 0, 0], bytes s1⟩ : Fr) = (bad 122, none)) := ⟨by rw [cut_take (.inl rfl : (1 : Int) = 1 ∨ (1 : Int) = 2) HS2.out]; exact hm⟩
            have hx122 : ((122 : Int) == x) = true := by
              have h1 := HR.out
              rw [hw] at h1
              have h2 := HX.out
              injection h1 with h1 _
              rw [← h1] at h2
              rw [← h2]; rfl
            have T2 := take_ex HST.out HG.out false o false 0 0 0 0 s1 small0 HS1L.out _ rfl _ none R2.out 0 0 { data := #[] } rfl false rfl 122 rfl
            clear hm hw
            go_wp2_with fail
            refine T2.mono ?_
            rintro e w7 ⟨v7, p7, rfl, HS7, HX7⟩
            clear T2
            obtain ⟨V7, hV7, HBV7, HEV7⟩ := laid_ev w7 #[.int .i64 0, .int .i64 0, .string { data := #[] }]
            go_upto_region 15 with (refine wpList_store_row rfl 30 (.tmp 20) (.tmp 99) rfl w7.heap.size #[.int .i64 0, .int .i64 0, .string { data := #[] }] rfl rfl 30 #[.int .i64 0, .int .i64 0, .string { data := #[] }] (ev_new w7) HI rfl (ev_all _ _ _) ?_)
            (try rw [hV7])
            clear hV7
            have HL := Sl.mk ((HS7.out.below HBV7.out).m.L)
            clear HS7 HX7 HBV7 HEV7 hcell HST HC
            go_wp2
            go_ret
            exact ⟨rfl, HL.out⟩
      · obtain rfl : j = n := by omega
        have hlt : ((j : Int) < (j : Int)) = False := eq_false (by omega)
        have RR : Sl (MsgPlain.take 2000 st (⟨true, o, false, [0, 0, 0, 0], bytes s⟩ : Fr) = (st1, ev)) := ⟨by rw [cut_take (.inl rfl : (1 : Int) = 1 ∨ (1 : Int) = 2) HS2.out, ← HC.out.A]; exact HR.out⟩
        have T2 := take_ex HST.out HG.out true o false 0 0 0 0 s small0 (by omega) _ rfl st1 ev RR.out eo ec et HEV.out d HD.out x HX.out
        clear hsl
        go_wp2_with fail
        refine T2.mono ?_
        rintro e w7 ⟨v7, p7, rfl, HS7, HX7⟩
        clear T2
        have HEw : Sl (w7.heap[e1]? = some (.cells #[.int .i64 eo, .int .i64 ec, .string et] 30 (0, 0))) := ⟨by rw [HX7.out.kept.block e1 (Array.getElem?_eq_some_iff.1 HC.out.E).1 (fun e => HC.out.N e1 e rfl)]; exact HC.out.E⟩
        obtain ⟨V7, hV7, HBV7, HEV7⟩ := laid_ev w7 #[.int .i64 eo, .int .i64 ec, .string et]
        go_upto_region 23 with (refine wpList_store_row rfl 30 (.tmp 26) (.tmp 164) rfl w7.heap.size #[.int .i64 eo, .int .i64 ec, .string et] rfl rfl 30 #[.int .i64 0, .int .i64 0, .string { data := #[] }] (ev_new w7) HIE rfl (ev_all _ _ _) ?_)
        (try rw [hV7])
        clear hV7
        have HEw2 := Sl.mk (below_key HEw.out HBV7.out)
        have HL := Sl.mk ((HS7.out.below HBV7.out).m.L)
        obtain ⟨a0, a1, a2⟩ := ev_cells HEw2.out
        obtain ⟨c0, c1, c2⟩ := ev_cells HEV7.out
        clear HS7 HX7 HBV7 HEw HC HST
        go_wp2
        go_ret
        exact ⟨rfl, HL.out⟩
  | false =>
    obtain rfl : op = 2 := by rw [← hop]; rfl
    clear hop
    have T1 := take_ex HP3.out.one HG.out true 2 false 0 0 0 0 a small0 (by have := HAL.out; omega) _ rfl st1 ev HR1.out eo ec et HEV.out d HD.out x HX.out
    go_wp2_with fail
    refine T1.mono ?_
    rintro e w5 ⟨v5, p5, rfl, HS5, HX5⟩
    clear T1
    have HP5 := Sl.mk (HP3.out.go HS5.out HX5.out)
    clear HS5 HX5 HP3
    obtain ⟨V5, hV5, HBV5, HEV5⟩ := laid_ev w5 #[.int .i64 eo, .int .i64 ec, .string et]
    go_upto_region 9 with (refine wpList_store_row rfl 30 (.tmp 14) (.tmp 73) rfl w5.heap.size #[.int .i64 eo, .int .i64 ec, .string et] rfl rfl 30 #[.int .i64 0, .int .i64 0, .string { data := #[] }] (ev_new w5) HIE rfl (ev_all _ _ _) ?_)
    (try rw [hV5])
    clear hV5
    obtain ⟨e1, he1⟩ : ∃ e1, w5.heap.size = e1 := ⟨_, rfl⟩
    have HC0 : Sl (CutR w V5 b2 e1 #[.int .i64 eo, .int .i64 ec, .string et] 2 (bytes a) 2 [] a (.slice none 0 0) (.pointer none)) := ⟨⟨⟨M0, HP5.out.two.below HBV5.out, .inl ⟨rfl, rfl, rfl⟩⟩, rfl, by rw [← he1]; exact HEV5.out, fun k hk => by have := (HP5.out.two.m.own hk).2; omega⟩⟩
    rw [he1]
    clear HP5 HBV5 HEV5 he1 hqa hql
    go_wp2
    go_loopw [13, 17, 18] (fun ov rv i wr => ∃ (j : Nat) (t : List Nat) (s : ByteArray) (o : Int) (vx px : Value), ov = .int .i64 o ∧ rv = .string s ∧ i = .int .i64 (j : Int) ∧ j ≤ n ∧ Sl (CutR w wr b2 e1 #[.int .i64 eo, .int .i64 ec, .string et] 2 (bytes a) o t s vx px)) (fun _ _ i _ => n - (intOf i).toNat)
    case atStart => exact ⟨0, _, _, _, _, _, rfl, rfl, rfl, Nat.zero_le _, HC0⟩
    case round =>
      obtain ⟨j, t, s, o, vx, px, rfl, rfl, rfl, hj, HC⟩ := hrel
      obtain ⟨st, hst1, hst2⟩ := HC.out.st
      have HST := Sl.mk hst1
      have HS2 := Sl.mk hst2
      have hsl : s.size ≤ 500 := by
        have h1 := congrArg List.length HC.out.A
        have h2 := HBL.out
        rw [List.length_append, bytes_length s] at h1
        omega
      have HSL := Sl.mk hsl
      clear hst1 hst2
      by_cases hjn : j < n
      · have hlt : ((j : Int) < (n : Int)) = True := eq_true (by omega)
        obtain rfl := HA.out (by omega)
        obtain ⟨c, hc⟩ : ∃ c, cl.getD j 0 = c := ⟨_, rfl⟩
        have hce := HCE.out j hjn
        rw [hc] at hce
        have hcell : wr.cell? ⟨sb, so + j, none⟩ = some (.int .u8 (c : Int)) := (HC.out.L.cell (block_lt_of_cell hce)).trans hce
        have hc256 : c < 256 := by rw [← hc]; exact HSM.out.getD (by decide) _
        have hn9 : n ≤ 9223372036854775807 := by have := HNL.out; omega
        have z1 : IntKind.i64.wrap (c : Int) = (c : Int) := by rw [IntKind.wrap_i64]; omega
        clear hc hce
        by_cases hsc : s.size < c
        · skip
          obtain ⟨s2, hs2⟩ : ∃ s2, s.extract s.size s.size = s2 := ⟨_, rfl⟩
          have hA2 : bytes a = t ++ (bytes s ++ bytes s2) := by rw [HC.out.A, ← hs2, str_none]; show _ = t ++ (bytes s ++ []); rw [List.append_nil]
          have hle : s.size ≤ s.size := Nat.le_refl _
          have hs1l : s.size ≤ 100000 := by omega
          have HA2 := Sl.mk hA2
          have HS2L := Sl.mk hs2
          have HLE := Sl.mk hle
          have HS1L := Sl.mk hs1l
          have hmc := more_cut (op := 2) hA2 HBL.out
          clear hA2 hle hs1l hsl hs2
          rcases hmc with hm | ⟨hm, hw⟩
          · have R2 : Sl (MsgPlain.take 2000 st (⟨false, o, false, [0, 0, 0, 0], bytes s⟩ : Fr) = (⟨0, false, true, 2, t ++ bytes s⟩, none)) := ⟨by rw [cut_take (.inr rfl : (2 : Int) = 1 ∨ (2 : Int) = 2) HS2.out]; exact hm⟩
            have T2 := take_ex HST.out HG.out false o false 0 0 0 0 s small0 HS1L.out _ rfl _ none R2.out 0 0 { data := #[] } rfl false rfl 0 rfl
            clear hm
            go_wp2_with fail
            refine T2.mono ?_
            rintro e w7 ⟨v7, p7, rfl, HS7, HX7⟩
            clear T2
            obtain ⟨V7, hV7, HBV7, HEV7⟩ := laid_ev w7 #[.int .i64 0, .int .i64 0, .string { data := #[] }]
            go_upto_region 17 with (refine wpList_store_row rfl 30 (.tmp 20) (.tmp 99) rfl w7.heap.size #[.int .i64 0, .int .i64 0, .string { data := #[] }] rfl rfl 30 #[.int .i64 0, .int .i64 0, .string { data := #[] }] (ev_new w7) HI rfl (ev_all _ _ _) ?_)
            (try rw [hV7])
            clear hV7
            have HM7 := Sl.mk (HS7.out.below HBV7.out)
            have HC7 : Sl (CutR w V7 b2 e1 #[.int .i64 eo, .int .i64 ec, .string et] 2 (bytes a) 0 (t ++ bytes s) s2 v7 p7) := ⟨(HC.out.go HS7.out HX7.out (.inr ⟨rfl, rfl⟩) (by rw [List.append_assoc]; exact HA2.out)).below HBV7.out⟩
            clear HS7 HX7 HBV7 HEV7 hcell HST HC
            obtain ⟨Rw, hRw⟩ : ∃ R, V7.drew = R := ⟨_, rfl⟩
            have HBR : Below V7.heap.size V7 Rw := by rw [← hRw]; exact (Below.refl _ _).drew
            refine wp_region_noPanic ?_
            refine wp_region_held (S := fun _ => True) (by kernel_rfl) ?_
            change wpAnyH _ _ _ _ _ _ _ _ V7.drew
            rw [hRw]
            clear hRw
            refine heldTake (d := some 114) (op := .move (Operand.tmp 17)) (g := none) 0 ?v0A2 rfl (by kernel_rfl) (by kernel_rfl) (by kernel_rfl) (by kernel_rfl) ?y0A2 trivial ?_
            case y0A2 => intro o' ho W hS; simp only [execOp, ho]; go_simp; try rfl
            simp only [Act.put, List.setIfInBounds_toArray, List.set_cons_zero, List.set_cons_succ]
            refine heldTake (d := some 115) (op := .move (Operand.tmp 19)) (g := none) 1 ?v1A2 rfl (by kernel_rfl) (by kernel_rfl) (by kernel_rfl) (by kernel_rfl) ?y1A2 trivial ?_
            case y1A2 => intro o' ho W hS; simp only [execOp, ho]; go_simp; try rfl
            simp only [Act.put, List.setIfInBounds_toArray, List.set_cons_zero, List.set_cons_succ]
            refine heldTake (d := some 116) (op := .slice 9 (Operand.tmp 114) (some (Operand.tmp 115)) none none) (g := none) 2 (.string s2) rfl (by kernel_rfl) (by kernel_rfl) (by kernel_rfl) (by kernel_rfl) ?y2A2 trivial ?_
            case y2A2 => intro o' ho W hS; exact (str_from ho (by rfl) (by rfl) HLE.out).trans (by rw [HS2L.out])
            simp only [Act.put, List.setIfInBounds_toArray, List.set_cons_zero, List.set_cons_succ]
            refine heldTake (d := some 13) (op := .assign (Operand.const (Value.int IntKind.i64 0))) (g := none) 3 ?v3A2 rfl (by kernel_rfl) (by kernel_rfl) (by kernel_rfl) (by kernel_rfl) ?y3A2 trivial ?_
            case y3A2 => intro o' ho W hS; simp only [execOp, ho]; go_simp; try rfl
            simp only [Act.put, List.setIfInBounds_toArray, List.set_cons_zero, List.set_cons_succ]
            refine heldTake (d := some 17) (op := .assign (Operand.tmp 116)) (g := none) 4 ?v4A2 rfl (by kernel_rfl) (by kernel_rfl) (by kernel_rfl) (by kernel_rfl) ?y4A2 trivial ?_
            case y4A2 => intro o' ho W hS; simp only [execOp, ho]; go_simp; try rfl
            simp only [Act.put, List.setIfInBounds_toArray, List.set_cons_zero, List.set_cons_succ]
            refine wpAnyH_done (by kernel_rfl) ?_ _
            refine NoPanic.normal ?_
            have HC8 := Sl.mk (HC7.out.below HBR)
            have HM8 := Sl.mk (HM7.out.below HBR)
            clear HC7 HM7 HBR
            by_cases hjb : j < nb
            · have hltb : ((j : Int) < (nb : Int)) = True := eq_true (by omega)
              have hjl : j < bl.length := by rw [HNB.out]; exact hjb
              obtain ⟨sb', so', rfl⟩ := HU.out.cap.2 (by omega)
              obtain ⟨rf, ro, rm, ka, kb, kc, kd, rd, hcv, _⟩ := cv_parts (bl.getD j Fr0)
              have HCV := Sl.mk hcv
              obtain ⟨_, _, _, _, _, _, _, g7⟩ := (HU.out.below HC8.out.L).at8 j hjl hcv
              have hb9 : nb ≤ 9223372036854775807 := by have := HCM.out; rw [HNB.out] at this; exact this
              have HJL := Sl.mk hjl
              clear hcv hjl
              by_cases hz : rd.size ≤ 125
              · have hq5 : ((rd.size : Int) ≤ 125) = True := eq_true (by omega)
                have R3 : Sl (MsgPlain.take 2000 ⟨0, false, true, 2, t ++ bytes s⟩ (⟨true, 9, false, [0, 0, 0, 0], bytes rd⟩ : Fr) = (⟨0, false, true, 2, t ++ bytes s⟩, some ⟨9, 0, bytes rd⟩)) := ⟨cut_ping (o := 0) (.inr ⟨rfl, rfl⟩) (by rw [bytes_length]; exact hz)⟩
                have HIR := ev_info (cs := #[.int .i64 9, .int .i64 0, .string rd]) rfl
                have T3 := take_ex HM8.out HG.out true 9 false 0 0 0 0 rd small0 (by omega) _ rfl _ _ R3.out 9 0 rd (evO_some _ _ _) true rfl 0 rfl
                clear hz
                go_wp2_with fail
                refine T3.mono ?_
                rintro e w9 ⟨v9, p9, rfl, HS9, HX9⟩
                clear T3
                obtain ⟨V9, hV9, HBV9, HEV9⟩ := laid_ev w9 #[.int .i64 9, .int .i64 0, .string rd]
                go_upto_region 20 with (refine wpList_store_row rfl 30 (.tmp 23) (.tmp 139) rfl w9.heap.size #[.int .i64 9, .int .i64 0, .string rd] rfl rfl 30 #[.int .i64 0, .int .i64 0, .string { data := #[] }] (ev_new w9) HIR rfl (ev_all _ _ _) ?_)
                (try rw [hV9])
                clear hV9
                have HC9 : Sl (CutR w V9 b2 e1 #[.int .i64 eo, .int .i64 ec, .string et] 2 (bytes a) 0 (t ++ bytes s) s2 v9 p9) := ⟨(HC8.out.go HS9.out HX9.out (.inr ⟨rfl, rfl⟩) HC8.out.A).below HBV9.out⟩
                clear HS9 HX9 HBV9 HC8 HM8 g7
                obtain ⟨a0, a1, a2⟩ := ev_cells HEV9.out
                obtain ⟨_, _, _, _, _, _, _, h7⟩ := (HU.out.below HC9.out.L).at8 j HJL.out HCV.out
                have hrr : (rd.toList == rd.toList) = true := by simp
                have hrn : (rd.toList != rd.toList) = false := by simp
                go_still (by kernel_rfl)
                change Exit.then _ _ Exit.normal _ V9.drew
                have HC10 := Sl.mk (HC9.out.below (Below.refl V9.heap.size V9).drew)
                clear HC9 HEV9 a0 a1 a2 h7
                go_wp2
                exact ⟨⟨j + 1, _, _, _, _, _, rfl, rfl, by go_num, by omega, HC10⟩, by simp [intOf]; omega⟩
              · have hq5 : ((rd.size : Int) ≤ 125) = False := eq_false (by omega)
                clear hz
                go_wp2
                exact ⟨⟨j + 1, _, _, _, _, _, rfl, rfl, by go_num, by omega, HC8⟩, by simp [intOf]; omega⟩
            · have hltb : ((j : Int) < (nb : Int)) = False := eq_false (by omega)
              go_wp2
              exact ⟨⟨j + 1, _, _, _, _, _, rfl, rfl, by go_num, by omega, HC8⟩, by simp [intOf]; omega⟩
          · have R2 : Sl (MsgPlain.take 2000 st (⟨false, o, false, [0, 0, 0, 0], bytes s⟩ : Fr) = (bad 122, none)) := ⟨by rw [cut_take (.inr rfl : (2 : Int) = 1 ∨ (2 : Int) = 2) HS2.out]; exact hm⟩
            have hx122 : ((122 : Int) == x) = true := by
              have h1 := HR.out
              rw [hw] at h1
              have h2 := HX.out
              injection h1 with h1 _
              rw [← h1] at h2
              rw [← h2]; rfl
            have T2 := take_ex HST.out HG.out false o false 0 0 0 0 s small0 HS1L.out _ rfl _ none R2.out 0 0 { data := #[] } rfl false rfl 122 rfl
            clear hm hw
            go_wp2_with fail
            refine T2.mono ?_
            rintro e w7 ⟨v7, p7, rfl, HS7, HX7⟩
            clear T2
            obtain ⟨V7, hV7, HBV7, HEV7⟩ := laid_ev w7 #[.int .i64 0, .int .i64 0, .string { data := #[] }]
            go_upto_region 15 with (refine wpList_store_row rfl 30 (.tmp 20) (.tmp 99) rfl w7.heap.size #[.int .i64 0, .int .i64 0, .string { data := #[] }] rfl rfl 30 #[.int .i64 0, .int .i64 0, .string { data := #[] }] (ev_new w7) HI rfl (ev_all _ _ _) ?_)
            (try rw [hV7])
            clear hV7
            have HL := Sl.mk ((HS7.out.below HBV7.out).m.L)
            clear HS7 HX7 HBV7 HEV7 hcell HST HC
            go_wp2
            go_ret
            exact ⟨rfl, HL.out⟩
        · have hcs2 : c ≤ s.size := by omega
          obtain ⟨s1, hs1⟩ : ∃ s1, s.extract 0 c = s1 := ⟨_, rfl⟩
          obtain ⟨s2, hs2⟩ : ∃ s2, s.extract c s.size = s2 := ⟨_, rfl⟩
          have hA2 : bytes a = t ++ (bytes s1 ++ bytes s2) := by rw [HC.out.A, str_split s c, hs1, hs2]
          have hle : c ≤ s.size := hcs2
          have hs1l : s1.size ≤ 100000 := by rw [← hs1, ByteArray.size_extract]; omega
          have hnot : ¬ s.size < c := hsc
          have hci : ((c : Int) ≤ (s.size : Int)) = True := eq_true (by omega)
          have HA2 := Sl.mk hA2
          have HS2L := Sl.mk hs2
          have HLE := Sl.mk hle
          have HS1L := Sl.mk hs1l
          have hmc := more_cut (op := 2) hA2 HBL.out
          clear hA2 hle hs1l hsl hs2
          rcases hmc with hm | ⟨hm, hw⟩
          · have R2 : Sl (MsgPlain.take 2000 st (⟨false, o, false, [0, 0, 0, 0], bytes s1⟩ : Fr) = (⟨0, false, true, 2, t ++ bytes s1⟩, none)) := ⟨by rw [cut_take (.inr rfl : (2 : Int) = 1 ∨ (2 : Int) = 2) HS2.out]; exact hm⟩
            have T2 := take_ex HST.out HG.out false o false 0 0 0 0 s1 small0 HS1L.out _ rfl _ none R2.out 0 0 { data := #[] } rfl false rfl 0 rfl
            clear hm
            go_wp2_with fail
            refine T2.mono ?_
            rintro e w7 ⟨v7, p7, rfl, HS7, HX7⟩
            clear T2
            obtain ⟨V7, hV7, HBV7, HEV7⟩ := laid_ev w7 #[.int .i64 0, .int .i64 0, .string { data := #[] }]
            go_upto_region 17 with (refine wpList_store_row rfl 30 (.tmp 20) (.tmp 99) rfl w7.heap.size #[.int .i64 0, .int .i64 0, .string { data := #[] }] rfl rfl 30 #[.int .i64 0, .int .i64 0, .string { data := #[] }] (ev_new w7) HI rfl (ev_all _ _ _) ?_)
            (try rw [hV7])
            clear hV7
            have HM7 := Sl.mk (HS7.out.below HBV7.out)
            have HC7 : Sl (CutR w V7 b2 e1 #[.int .i64 eo, .int .i64 ec, .string et] 2 (bytes a) 0 (t ++ bytes s1) s2 v7 p7) := ⟨(HC.out.go HS7.out HX7.out (.inr ⟨rfl, rfl⟩) (by rw [List.append_assoc]; exact HA2.out)).below HBV7.out⟩
            clear HS7 HX7 HBV7 HEV7 hcell HST HC
            obtain ⟨Rw, hRw⟩ : ∃ R, V7.drew = R := ⟨_, rfl⟩
            have HBR : Below V7.heap.size V7 Rw := by rw [← hRw]; exact (Below.refl _ _).drew
            refine wp_region_noPanic ?_
            refine wp_region_held (S := fun _ => True) (by kernel_rfl) ?_
            change wpAnyH _ _ _ _ _ _ _ _ V7.drew
            rw [hRw]
            clear hRw
            refine heldTake (d := some 114) (op := .move (Operand.tmp 17)) (g := none) 0 ?v0B2 rfl (by kernel_rfl) (by kernel_rfl) (by kernel_rfl) (by kernel_rfl) ?y0B2 trivial ?_
            case y0B2 => intro o' ho W hS; simp only [execOp, ho]; go_simp; try rfl
            simp only [Act.put, List.setIfInBounds_toArray, List.set_cons_zero, List.set_cons_succ]
            refine heldTake (d := some 115) (op := .move (Operand.tmp 19)) (g := none) 1 ?v1B2 rfl (by kernel_rfl) (by kernel_rfl) (by kernel_rfl) (by kernel_rfl) ?y1B2 trivial ?_
            case y1B2 => intro o' ho W hS; simp only [execOp, ho]; go_simp; try rfl
            simp only [Act.put, List.setIfInBounds_toArray, List.set_cons_zero, List.set_cons_succ]
            refine heldTake (d := some 116) (op := .slice 9 (Operand.tmp 114) (some (Operand.tmp 115)) none none) (g := none) 2 (.string s2) rfl (by kernel_rfl) (by kernel_rfl) (by kernel_rfl) (by kernel_rfl) ?y2B2 trivial ?_
            case y2B2 => intro o' ho W hS; exact (str_from ho (by rfl) (by rfl) HLE.out).trans (by rw [HS2L.out])
            simp only [Act.put, List.setIfInBounds_toArray, List.set_cons_zero, List.set_cons_succ]
            refine heldTake (d := some 13) (op := .assign (Operand.const (Value.int IntKind.i64 0))) (g := none) 3 ?v3B2 rfl (by kernel_rfl) (by kernel_rfl) (by kernel_rfl) (by kernel_rfl) ?y3B2 trivial ?_
            case y3B2 => intro o' ho W hS; simp only [execOp, ho]; go_simp; try rfl
            simp only [Act.put, List.setIfInBounds_toArray, List.set_cons_zero, List.set_cons_succ]
            refine heldTake (d := some 17) (op := .assign (Operand.tmp 116)) (g := none) 4 ?v4B2 rfl (by kernel_rfl) (by kernel_rfl) (by kernel_rfl) (by kernel_rfl) ?y4B2 trivial ?_
            case y4B2 => intro o' ho W hS; simp only [execOp, ho]; go_simp; try rfl
            simp only [Act.put, List.setIfInBounds_toArray, List.set_cons_zero, List.set_cons_succ]
            refine wpAnyH_done (by kernel_rfl) ?_ _
            refine NoPanic.normal ?_
            have HC8 := Sl.mk (HC7.out.below HBR)
            have HM8 := Sl.mk (HM7.out.below HBR)
            clear HC7 HM7 HBR
            by_cases hjb : j < nb
            · have hltb : ((j : Int) < (nb : Int)) = True := eq_true (by omega)
              have hjl : j < bl.length := by rw [HNB.out]; exact hjb
              obtain ⟨sb', so', rfl⟩ := HU.out.cap.2 (by omega)
              obtain ⟨rf, ro, rm, ka, kb, kc, kd, rd, hcv, _⟩ := cv_parts (bl.getD j Fr0)
              have HCV := Sl.mk hcv
              obtain ⟨_, _, _, _, _, _, _, g7⟩ := (HU.out.below HC8.out.L).at8 j hjl hcv
              have hb9 : nb ≤ 9223372036854775807 := by have := HCM.out; rw [HNB.out] at this; exact this
              have HJL := Sl.mk hjl
              clear hcv hjl
              by_cases hz : rd.size ≤ 125
              · have hq5 : ((rd.size : Int) ≤ 125) = True := eq_true (by omega)
                have R3 : Sl (MsgPlain.take 2000 ⟨0, false, true, 2, t ++ bytes s1⟩ (⟨true, 9, false, [0, 0, 0, 0], bytes rd⟩ : Fr) = (⟨0, false, true, 2, t ++ bytes s1⟩, some ⟨9, 0, bytes rd⟩)) := ⟨cut_ping (o := 0) (.inr ⟨rfl, rfl⟩) (by rw [bytes_length]; exact hz)⟩
                have HIR := ev_info (cs := #[.int .i64 9, .int .i64 0, .string rd]) rfl
                have T3 := take_ex HM8.out HG.out true 9 false 0 0 0 0 rd small0 (by omega) _ rfl _ _ R3.out 9 0 rd (evO_some _ _ _) true rfl 0 rfl
                clear hz
                go_wp2_with fail
                refine T3.mono ?_
                rintro e w9 ⟨v9, p9, rfl, HS9, HX9⟩
                clear T3
                obtain ⟨V9, hV9, HBV9, HEV9⟩ := laid_ev w9 #[.int .i64 9, .int .i64 0, .string rd]
                go_upto_region 20 with (refine wpList_store_row rfl 30 (.tmp 23) (.tmp 139) rfl w9.heap.size #[.int .i64 9, .int .i64 0, .string rd] rfl rfl 30 #[.int .i64 0, .int .i64 0, .string { data := #[] }] (ev_new w9) HIR rfl (ev_all _ _ _) ?_)
                (try rw [hV9])
                clear hV9
                have HC9 : Sl (CutR w V9 b2 e1 #[.int .i64 eo, .int .i64 ec, .string et] 2 (bytes a) 0 (t ++ bytes s1) s2 v9 p9) := ⟨(HC8.out.go HS9.out HX9.out (.inr ⟨rfl, rfl⟩) HC8.out.A).below HBV9.out⟩
                clear HS9 HX9 HBV9 HC8 HM8 g7
                obtain ⟨a0, a1, a2⟩ := ev_cells HEV9.out
                obtain ⟨_, _, _, _, _, _, _, h7⟩ := (HU.out.below HC9.out.L).at8 j HJL.out HCV.out
                have hrr : (rd.toList == rd.toList) = true := by simp
                have hrn : (rd.toList != rd.toList) = false := by simp
                go_still (by kernel_rfl)
                change Exit.then _ _ Exit.normal _ V9.drew
                have HC10 := Sl.mk (HC9.out.below (Below.refl V9.heap.size V9).drew)
                clear HC9 HEV9 a0 a1 a2 h7
                go_wp2
                exact ⟨⟨j + 1, _, _, _, _, _, rfl, rfl, by go_num, by omega, HC10⟩, by simp [intOf]; omega⟩
              · have hq5 : ((rd.size : Int) ≤ 125) = False := eq_false (by omega)
                clear hz
                go_wp2
                exact ⟨⟨j + 1, _, _, _, _, _, rfl, rfl, by go_num, by omega, HC8⟩, by simp [intOf]; omega⟩
            · have hltb : ((j : Int) < (nb : Int)) = False := eq_false (by omega)
              go_wp2
              exact ⟨⟨j + 1, _, _, _, _, _, rfl, rfl, by go_num, by omega, HC8⟩, by simp [intOf]; omega⟩
          · have R2 : Sl (MsgPlain.take 2000 st (⟨false, o, false, [0, 0, 0, 0], bytes s1⟩ : Fr) = (bad 122, none)) := ⟨by rw [cut_take (.inr rfl : (2 : Int) = 1 ∨ (2 : Int) = 2) HS2.out]; exact hm⟩
            have hx122 : ((122 : Int) == x) = true := by
              have h1 := HR.out
              rw [hw] at h1
              have h2 := HX.out
              injection h1 with h1 _
              rw [← h1] at h2
              rw [← h2]; rfl
            have T2 := take_ex HST.out HG.out false o false 0 0 0 0 s1 small0 HS1L.out _ rfl _ none R2.out 0 0 { data := #[] } rfl false rfl 122 rfl
            clear hm hw
            go_wp2_with fail
            refine T2.mono ?_
            rintro e w7 ⟨v7, p7, rfl, HS7, HX7⟩
            clear T2
            obtain ⟨V7, hV7, HBV7, HEV7⟩ := laid_ev w7 #[.int .i64 0, .int .i64 0, .string { data := #[] }]
            go_upto_region 15 with (refine wpList_store_row rfl 30 (.tmp 20) (.tmp 99) rfl w7.heap.size #[.int .i64 0, .int .i64 0, .string { data := #[] }] rfl rfl 30 #[.int .i64 0, .int .i64 0, .string { data := #[] }] (ev_new w7) HI rfl (ev_all _ _ _) ?_)
            (try rw [hV7])
            clear hV7
            have HL := Sl.mk ((HS7.out.below HBV7.out).m.L)
            clear HS7 HX7 HBV7 HEV7 hcell HST HC
            go_wp2
            go_ret
            exact ⟨rfl, HL.out⟩
      · obtain rfl : j = n := by omega
        have hlt : ((j : Int) < (j : Int)) = False := eq_false (by omega)
        have RR : Sl (MsgPlain.take 2000 st (⟨true, o, false, [0, 0, 0, 0], bytes s⟩ : Fr) = (st1, ev)) := ⟨by rw [cut_take (.inr rfl : (2 : Int) = 1 ∨ (2 : Int) = 2) HS2.out, ← HC.out.A]; exact HR.out⟩
        have T2 := take_ex HST.out HG.out true o false 0 0 0 0 s small0 (by omega) _ rfl st1 ev RR.out eo ec et HEV.out d HD.out x HX.out
        clear hsl
        go_wp2_with fail
        refine T2.mono ?_
        rintro e w7 ⟨v7, p7, rfl, HS7, HX7⟩
        clear T2
        have HEw : Sl (w7.heap[e1]? = some (.cells #[.int .i64 eo, .int .i64 ec, .string et] 30 (0, 0))) := ⟨by rw [HX7.out.kept.block e1 (Array.getElem?_eq_some_iff.1 HC.out.E).1 (fun e => HC.out.N e1 e rfl)]; exact HC.out.E⟩
        obtain ⟨V7, hV7, HBV7, HEV7⟩ := laid_ev w7 #[.int .i64 eo, .int .i64 ec, .string et]
        go_upto_region 23 with (refine wpList_store_row rfl 30 (.tmp 26) (.tmp 164) rfl w7.heap.size #[.int .i64 eo, .int .i64 ec, .string et] rfl rfl 30 #[.int .i64 0, .int .i64 0, .string { data := #[] }] (ev_new w7) HIE rfl (ev_all _ _ _) ?_)
        (try rw [hV7])
        clear hV7
        have HEw2 := Sl.mk (below_key HEw.out HBV7.out)
        have HL := Sl.mk ((HS7.out.below HBV7.out).m.L)
        obtain ⟨a0, a1, a2⟩ := ev_cells HEw2.out
        obtain ⟨c0, c1, c2⟩ := ev_cells HEV7.out
        clear HS7 HX7 HBV7 HEw HC HST
        go_wp2
        go_ret
        exact ⟨rfl, HL.out⟩
end Go.Proofs.YtpbfabcjkhlanaaDoor.Msg
