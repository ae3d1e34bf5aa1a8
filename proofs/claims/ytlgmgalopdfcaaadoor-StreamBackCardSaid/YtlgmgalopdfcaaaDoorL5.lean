/- stream: StreamBack's walk. -/
import Derived.Test.YtlgmgalopdfcaaaDoorSM
import Derived.Test.YtlgmgalopdfcaaaDoorSL
set_option maxRecDepth 100000
namespace Go.Proofs.YtlgmgalopdfcaaaDoor
open Go.RowKit MaskPlain FramePlain StreamPlain Mas Fra

theorem str_ne {s : ByteArray} (h : ¬ s = { data := #[] }) : (s.toList == []) = false := by
  rw [ByteArray.toList_eq]
  cases hd : s.data.toList with
  | nil =>
    refine absurd ?_ h
    obtain ⟨⟨l⟩⟩ := s
    simp only at hd
    subst hd; rfl
  | cons x xs => rfl
theorem byte_cell {W : World} {a : Option Addr} {n c : Nat} {l : List Nat} (h : SrcAt W (.slice a n c) l) (k : Nat) (hk : k < l.length) : ∃ sb so, a = some ⟨sb, so, none⟩ ∧ W.cell? ⟨sb, so + k, none⟩ = some (.int .u8 ((l.getD k 0 : Nat) : Int)) := by
  obtain ⟨a', c', sb, so, he, _, h3, h4⟩ := h
  injection he with e1 e2 e3
  exact ⟨sb, so, by rw [e1]; exact h3 (by omega), h4 k hk⟩
theorem str_cut (s : ByteArray) (n : Nat) (_h : n ≤ s.size) : s.extract 0 n ++ s.extract n s.size = s := by
  refine bytes_inj ?_
  rw [bytes_append, bytes_extract, bytes_extract, List.drop_zero, List.take_of_length_le (l := bytes s) (i := s.size) (by rw [bytes_length]; exact Nat.le_refl _), List.take_append_drop]
theorem str_none (s : ByteArray) : s.extract s.size s.size = ByteArray.empty := by
  refine bytes_inj ?_
  rw [bytes_extract, List.drop_eq_nil_of_le (by rw [List.length_take, bytes_length]; omega)]
  rfl
theorem str_cut0 (s : ByteArray) : s ++ s.extract s.size s.size = s := by
  refine bytes_inj ?_
  rw [bytes_append, bytes_extract, List.drop_eq_nil_of_le (by rw [List.length_take, bytes_length]; omega), List.append_nil]
/-- A beginning of what is right is right. -/
theorem fed_zero {A B : List Nat} {masked : Bool} {most : Int} {fs l : List Fr} {e lf : Nat} {part : List Nat} (h : FedS A masked most fs e part) (hs : Small 256 A) (hb : Small 256 B) (hx : all (A ++ B) masked most = (l, 0, lf)) : e = 0 := by
  obtain ⟨l0, ha, _⟩ := h
  have hp := all_append masked most B hb _ A (Nat.le_refl _) hs
  rw [ha, hx] at hp
  simp only at hp
  by_cases he : e = 0
  · exact he
  · rw [if_neg he] at hp
    injection hp with _ hp
    injection hp with hp _
    exact hp.symm
theorem str_from {W : World} {ev : Operand → Value} {o : Oper} {x y : Operand} {s : ByteArray} {n : Nat} (ho : o.op = .slice 9 x (some y) none none) (hx : ev x = .string s) (hy : ev y = .int .i64 (n : Int)) (h : n ≤ s.size) : (execOp ev o).run Tryd.prog W = .ok (.value (.string (s.extract n s.size))) W := by
  simp only [execOp, ho, hx, hy, Option.map_some, Option.map_none]
  have h' : (n : Int) ≤ (s.size : Int) := by omega
  go_simp
/-- An append of frames behind a guard that lets. -/
theorem app_frsG {w : World} {ops : Array Oper} {rest : List Oper} {o : Oper} {a : Act} {Q : Exit → Act → World → Prop} (hw : Region.wanted o (yielded ops a.tmps) = true) (s x : Operand)
    (ho : o.op = .call { callee := .builtin .append, args := #[s, x], argTypes := #[29, 29] }) (hty : o.type = 29) (base : Nat) (v u : Value) (fs gs : List Fr) (hs : a.eval s = v) (hown : OwnR w base v fs)
    (hx : a.eval x = u) (hu : FrsAt w u gs) (hl : fs.length + gs.length ≤ 1000000) (hbase : base ≤ w.heap.size)
    (h : ∀ v' w', Sl (OwnR w' base v' (fs ++ gs)) → Sl (w.grownBy w' v.ownBlock) → wpList Tryd.prog ops Q rest (a.put o.dst v') w') : wpList Tryd.prog ops Q (o :: rest) a w := by
  obtain ⟨v1, w1, hrun, h1, h2, _⟩ := add_frs hown hu hl hbase
  refine wpList_step fun K hK => ?_
  rw [if_pos hw]
  unfold Oper.wp
  have hy : (execOp a.eval o).run Tryd.prog w = .ok (.value v1) w1 := by
    simp [execOp, ho, hty, resolve, invoke, builtin, hs, hx, hrun, Result.andThen]
  rw [hy, Oper.upon_value]
  exact hK _ _ (h v1 w1 ⟨h1⟩ ⟨h2⟩)
set_option maxHeartbeats 8000000 in
theorem back_walk (masked : Bool) (v : Value) (l : List Fr) (vc : Value) (cl : List Nat) (w : World) (hg : Globs w) (hv : FrsAt w v l) (hok : ∀ f ∈ l, FrOk f) (hml : l.length ≤ maxLen) (hvc : SrcAt w vc cl) (hcs : Small 256 cl) (hcm : cl.length ≤ maxLen) : Calls Tryd.prog 5 #[.bool masked, v, vc] w fun e w' => e = .returned (.bool true) ∧ Below w.heap.size w w' := by
  have HG := Sl.mk hg
  have HOK := Sl.mk hok
  have HCS := Sl.mk hcs
  have N0 := new_yes masked 65536 w w (Below.refl _ _) (by omega)
  have hq1 : ((0 : Int) != 0) = false := rfl
  have hq0 : (((0 : Nat) : Int) != 0) = false := rfl
  have hq0' : (((0 : Nat) : Int) == 0) = true := rfl
  obtain ⟨a, cap, rfl⟩ := hv.slice
  have HV := Sl.mk hv
  obtain ⟨a3, c3, rfl⟩ : ∃ a c, vc = .slice a cl.length c := by
    obtain ⟨a, c, _, _, rfl, _⟩ := hvc; exact ⟨a, c, rfl⟩
  have HC := Sl.mk hvc
  have HKS : Sl (∀ f ∈ l, Small 256 f.key) := ⟨fun f hf => (hok f hf).ks⟩
  unfold maxLen at hml hcm
  clear hg hok hv hvc hcs
  by_cases h20 : l.length > 20
  · have hq : ((l.length : Int) > 20) = True := eq_true (by omega)
    go_enter Tryd.func5, Tryd.ntmps5
    go_wp2_with fail
    refine N0.mono ?_
    rintro e w1 ⟨rfl, HS1, _⟩
    clear N0
    go_wp2_with fail
    refine (awake_any w1 (HG.out.below HS1.out.L HG.out.size)).mono ?_
    rintro e w2 ⟨rfl, HX2⟩
    have HS2 := Sl.mk (HS1.out.below HX2.out)
    clear HS1 HX2
    go_wp2_with fail
    refine (awake_any w2 (HG.out.below HS2.out.L HG.out.size)).mono ?_
    rintro e w4 ⟨rfl, HX4⟩
    go_wp2
    go_ret
    exact ⟨rfl, (HS2.out.below HX4.out).L⟩
  · have hq : ((l.length : Int) > 20) = False := eq_false (by omega)
    by_cases h100 : cl.length > 100
    · have hqc : ((cl.length : Int) > 100) = True := eq_true (by omega)
      go_enter Tryd.func5, Tryd.ntmps5
      go_wp2_with fail
      refine N0.mono ?_
      rintro e w1 ⟨rfl, HS1, _⟩
      clear N0
      go_wp2_with fail
      refine (awake_any w1 (HG.out.below HS1.out.L HG.out.size)).mono ?_
      rintro e w2 ⟨rfl, HX2⟩
      have HS2 := Sl.mk (HS1.out.below HX2.out)
      clear HS1 HX2
      go_wp2_with fail
      refine (awake_any w2 (HG.out.below HS2.out.L HG.out.size)).mono ?_
      rintro e w4 ⟨rfl, HX4⟩
      go_wp2
      go_ret
      exact ⟨rfl, (HS2.out.below HX4.out).L⟩
    · have hqc : ((cl.length : Int) > 100) = False := eq_false (by omega)
      go_enter Tryd.func5, Tryd.ntmps5
      go_wp2_with fail
      refine N0.mono ?_
      rintro e w1 ⟨rfl, HS1, _⟩
      clear N0
      go_wp2_with fail
      refine (awake_any w1 (HG.out.below HS1.out.L HG.out.size)).mono ?_
      rintro e w2 ⟨rfl, HX2⟩
      have HS2 := Sl.mk (HS1.out.below HX2.out)
      clear HS1 HX2
      go_wp2
      go_loopw [9] (fun i wr => ∃ (k : Nat), i = .int .i64 (k : Int) ∧ k ≤ l.length ∧ Sl (∀ j, j < k → FrLet (l.getD j Fr0) masked) ∧ Sl (StrmAt w wr w.heap.size masked 65536 [] 0 (.slice none 0 0))) (fun i _ => l.length - (intOf i).toNat)
      case atStart => exact ⟨0, rfl, Nat.zero_le _, ⟨fun j hj => absurd hj (Nat.not_lt_zero _)⟩, HS2⟩
      case round =>
        obtain ⟨k, rfl, hk, HLK, HS⟩ := hrel
        by_cases hkn : k < l.length
        · have hlt : ((k : Int) < (l.length : Int)) = True := eq_true (by omega)
          obtain ⟨sb, so, rfl⟩ := HV.out.cap.2 (by omega)
          have hok := HOK.out (l.getD k Fr0) (by rw [List.getD_eq_getElem?_getD, List.getElem?_eq_getElem hkn]; exact List.getElem_mem hkn)
          obtain ⟨fin, op, m, ka, kb, kc, kd, s, hf, hcv, hks⟩ := fr_parts hok
          have CF := refform_any fin op m ka kb kc kd s wr hks
          rw [← hf] at CF
          obtain ⟨fo, hfo⟩ : ∃ x, form (l.getD k Fr0) = x := ⟨_, rfl⟩
          rw [hfo] at CF
          have HOK1 := Sl.mk hok
          obtain ⟨e0, e1, e2, e3, e4, e5, e6, e7⟩ := (HV.out.below HS.out.L).at8 k hkn hcv
          cases fo with
          | false =>
            clear hf hfo hok hks
            go_wp2_with fail
            refine CF.mono ?_
            rintro e w2 ⟨rfl, HX2⟩
            have HS2 := Sl.mk (HS.out.below HX2.out)
            clear CF
            go_wp2
            go_ret
            exact ⟨rfl, HS2.out.L⟩
          | true =>
            by_cases hs500 : s.size > 500
            · have hqs : ((s.size : Int) > 500) = True := eq_true (by omega)
              clear hf hfo hok hks
              go_wp2_with fail
              refine CF.mono ?_
              rintro e w2 ⟨rfl, HX2⟩
              have HS2 := Sl.mk (HS.out.below HX2.out)
              clear CF
              clear e0 e1 e2 e3 e4 e5 e6 e7
              obtain ⟨e0, e1, e2, e3, e4, e5, e6, e7⟩ := (HV.out.below HS2.out.L).at8 k hkn hcv
              go_wp2
              go_ret
              exact ⟨rfl, HS2.out.L⟩
            · have hqs : ((s.size : Int) > 500) = False := eq_false (by omega)
              by_cases hmm : m = masked
              · subst hmm
                have HLK' : Sl (∀ j, j < k + 1 → FrLet (l.getD j Fr0) m) := ⟨fun j hj => by
                  by_cases hjk : j = k
                  · subst hjk
                    exact ⟨hok, hfo, by rw [hf]; show (bytes s).length ≤ 500; rw [bytes_length]; omega, by rw [hf]⟩
                  · exact HLK.out j (by omega)⟩
                clear hf hfo hok hks HLK hs500
                go_wp2_with fail
                refine CF.mono ?_
                rintro e w2 ⟨rfl, HX2⟩
                have HS2 := Sl.mk (HS.out.below HX2.out)
                clear CF
                clear e0 e1 e2 e3 e4 e5 e6 e7
                obtain ⟨e0, e1, e2, e3, e4, e5, e6, e7⟩ := (HV.out.below HS2.out.L).at8 k hkn hcv
                clear HX2 HS
                go_wp2
                exact ⟨⟨k + 1, by go_num, by omega, HLK', HS2⟩, by simp [intOf]; omega⟩
              · have hqm : (m == masked) = false := by simpa using hmm
                clear hf hfo hok hks hmm
                go_wp2_with fail
                refine CF.mono ?_
                rintro e w2 ⟨rfl, HX2⟩
                have HS2 := Sl.mk (HS.out.below HX2.out)
                clear CF
                clear e0 e1 e2 e3 e4 e5 e6 e7
                obtain ⟨e0, e1, e2, e3, e4, e5, e6, e7⟩ := (HV.out.below HS2.out.L).at8 k hkn hcv
                go_wp2
                go_ret
                exact ⟨rfl, HS2.out.L⟩
        · obtain rfl : k = l.length := by omega
          have hlt : ((l.length : Int) < (l.length : Int)) = False := eq_false (by omega)
          have HLET : Sl (∀ f ∈ l, FrLet f masked) := ⟨fun f hf => by
            obtain ⟨i, hi, rfl⟩ := List.getElem_of_mem hf
            have := HLK.out i hi
            rwa [List.getD_eq_getElem?_getD, List.getElem?_eq_getElem hi] at this⟩
          clear HLK HOK
          have HX := Sl.mk (all_texts HLET.out)
          have HXS := Sl.mk (texts_small HLET.out)
          have HXL : Sl ((texts l).length ≤ 12000) := ⟨by have := texts_le HLET.out; omega⟩
          have CT := reftexts_any l masked (.slice a l.length cap) wr (HV.out.below HS.out.L) HLET.out (by omega)
          obtain ⟨X, hX⟩ : ∃ X, texts l = X := ⟨_, rfl⟩
          rw [hX] at HX HXS HXL CT
          have hRb : bytes (strOf X) = X := bytes_strOf X HXS.out
          obtain ⟨R0, hR0⟩ : ∃ R, strOf X = R := ⟨_, rfl⟩
          rw [hR0] at hRb CT
          have HALL := HX
          clear HX hX hR0
          go_wp2_with fail
          refine CT.mono ?_
          rintro e w4 ⟨rfl, HX4⟩
          have HS4 := Sl.mk (HS.out.below HX4.out)
          have B5 : Below w4.heap.size w4 (w4.alloc (.cells #[] 43)) := (Below.refl _ _).alloc (Nat.le_refl _) _
          have HS5 := Sl.mk (HS4.out.below B5)
          have HO5 : Sl (OwnR (w4.alloc (.cells #[] 43)) w.heap.size (.slice (some ⟨w4.heap.size, 0, none⟩) 0 0) []) := ⟨World.ownsRow_lit w4 #[] 0 HS4.out.L.size (by decide) rfl⟩
          have HX0 : Sl ([] ++ bytes R0 = X) := ⟨hRb⟩
          obtain ⟨m, hm⟩ : ∃ m, cl.length = m := ⟨_, rfl⟩
          have HM := Sl.mk hm
          rw [hm] at h100 hcm HC ⊢
          clear CT HX4 HS4 HS B5 hRb hm
          go_wp2
          go_loopw [10, 11, 12] (fun y u0 i wr => ∃ (k : Nat) (Rs : ByteArray) (u : Value) (A : List Nat) (fs : List Fr) (part : List Nat) (v1 : Value), y = .string Rs ∧ u = u0 ∧ i = .int .i64 (k : Int) ∧ k ≤ m ∧ Sl (A ++ bytes Rs = X) ∧ Sl (FedS A masked 65536 fs 0 part) ∧ Sl (StrmAt w wr w.heap.size masked 65536 part 0 v1) ∧ Sl (OwnR wr w.heap.size u fs)) (fun _ _ i _ => m - (intOf i).toNat)
          case atStart => exact ⟨0, R0, _, [], [], [], _, rfl, rfl, rfl, Nat.zero_le _, HX0, ⟨fed_nil masked 65536⟩, HS5, HO5⟩
          case round =>
            obtain ⟨k, Rs, u, A, fs, part, v1, rfl, rfl, rfl, hk, HX, HFD, HST, HO⟩ := hrel
            have HAS : Sl (Small 256 A) := ⟨fun x hx => HXS.out x (by rw [← HX.out]; exact List.mem_append_left _ hx)⟩
            have HAL : Sl (A.length + (bytes Rs).length ≤ 100000) := ⟨by rw [← List.length_append, HX.out]; have := HXL.out; omega⟩
            by_cases hkm : k < m
            · have hlt2 : ((k : Int) < (m : Int)) = True := eq_true (by omega)
              have hlt2' : decide ((k : Int) < (m : Int)) = true := by simp; omega
              by_cases hR : Rs = { data := #[] }
              · have hre : (Rs.toList == []) = true := by rw [hR, ByteArray.toList_eq]; rfl
                clear hR
                obtain ⟨c8, w8, hconv, HS8, HX8⟩ := conv_str Rs wr
                have HST8 := Sl.mk (HST.out.below HX8.out)
                have HO8 := Sl.mk (HO.out.below HX8.out)
                obtain ⟨gs, e', part', HF', _, FF⟩ := feed_fed HFD.out HAS.out (bytes_small Rs) HAL.out (by omega : (65536 : Int) ≤ 9223372036854775807)
                rw [HX.out] at HF'
                obtain ⟨lf, hx1, hx2⟩ := HF'
                rw [HALL.out] at hx1
                injection hx1 with hx3 hx1
                injection hx1 with hx4 hx5
                rw [← hx5, Nat.sub_zero, List.drop_length] at hx2
                subst hx4 hx2
                have F9 := FF w w8 w.heap.size v1 (.slice (some ⟨wr.heap.size, 0, none⟩) Rs.size c8) HG.out HST8.out HS8.out
                obtain ⟨n9, hn9⟩ : ∃ n, gs.length = n := ⟨_, rfl⟩
                rw [hn9] at F9
                have hfl : fs.length + gs.length ≤ 1000000 := by rw [← List.length_append, ← hx3]; omega
                have HFG := Sl.mk hx3
                have HLEN := Sl.mk hfl
                clear hx3 hx5 FF hn9 hfl HS8 HX8 HST HO HFD HAS HAL HX HALL
                go_wp2_with fail
                refine F9.mono ?_
                rintro e w9 ⟨a9, c9, v9, rfl, HF9, _, HS9, HT9⟩
                clear F9 hconv
                have HO9 : Sl (OwnR w9 w.heap.size u fs) := ⟨own_fed HO8.out HST8.out (by decide) (by decide) HT9.out⟩
                have P9 := part_ex HS9.out 0 rfl
                have hz9 : w.heap.size ≤ w9.heap.size := HS9.out.L.size
                clear HO8 HST8 HT9
                go_wp2_with fail
                refine P9.mono ?_
                rintro e w10 ⟨rfl, rfl⟩
                clear P9
                go_wp2_with (at_builtin; refine app_frsG (o := ⟨some 129, _, _, _, _, _⟩) rfl (.tmp 127) (.tmp 128) rfl rfl w.heap.size u (.slice a9 n9 c9) fs gs rfl HO9.out rfl HF9.out HLEN.out hz9 ?_)
                intro u' w11 HO11 HG11
                have HS11 := Sl.mk (strm_told HS9.out HO9.out (by decide) (by decide) (Nat.le_refl _) HG11.out)
                have S11 := same_yes l u' (.slice a l.length cap) w11 (by rw [HFG.out]; exact HO11.out.frs) (HV.out.below HS11.out.L) HKS.out (by omega)
                clear HS9 HO9 HF9 HG11 hz9
                go_wp2_with fail
                refine S11.mono ?_
                rintro e w12 ⟨rfl, HX12⟩
                go_wp2
                go_ret
                exact ⟨rfl, (HS11.out.below HX12.out).L⟩
              · have hre : (Rs.toList == []) = false := str_ne hR
                obtain ⟨sbc, soc, ha3, hcell⟩ := byte_cell HC.out k (by rw [HM.out]; exact hkm)
                subst ha3
                obtain ⟨c, hc⟩ : ∃ c, cl.getD k 0 = c := ⟨_, rfl⟩
                have hc256 : c < 256 := by rw [← hc]; exact HCS.out.getD (by decide) k
                rw [hc] at hcell
                have hcell' : wr.cell? ⟨sbc, soc + k, none⟩ = some (.int .u8 (c : Int)) := (HST.out.L.cell (block_lt_of_cell hcell)).trans hcell
                have hwc : IntKind.i64.wrap (c : Int) = (c : Int) := by rw [IntKind.wrap_i64]; omega
                clear hcell hc
                by_cases hcr : Rs.size < c
                · have hnle : Rs.size ≤ Rs.size := by omega
                  have HNN := Sl.mk hnle
                  have HX2 : Sl ((A ++ bytes Rs) ++ bytes (Rs.extract Rs.size Rs.size) = X) := ⟨by
                    rw [← HX.out, List.append_assoc, ← bytes_append]
                    congr 2
                    exact str_cut0 Rs⟩
                  have hBz : Rs.size = Rs.size := rfl
                  obtain ⟨c8, w8, hconv, HS8, HX8⟩ := conv_str Rs wr
                  have HST8 := Sl.mk (HST.out.below HX8.out)
                  have HO8 := Sl.mk (HO.out.below HX8.out)
                  have hAX : A.length + Rs.size ≤ 12000 := by
                    have h1 := congrArg List.length HX2.out
                    rw [List.length_append, List.length_append, bytes_length, bytes_length, hBz] at h1
                    have := HXL.out; omega
                  obtain ⟨gs, e', part', HF', _, FF⟩ := feed_fed HFD.out HAS.out (bytes_small Rs) (by rw [bytes_length, hBz]; omega) (by omega : (65536 : Int) ≤ 9223372036854775807)
                  have hAS' : Small 256 (A ++ bytes Rs) := HAS.out.append (bytes_small _)
                  obtain ⟨e0', hfl⟩ : e' = 0 ∧ 2 * (fs.length + gs.length) ≤ 12000 := by
                    refine ⟨fed_zero HF' hAS' (bytes_small _) (by rw [HX2.out]; exact HALL.out), ?_⟩
                    have h1 := (all_frs masked 65536 _ (A ++ bytes Rs) (Nat.le_refl _) hAS').2.2
                    rw [(fed_part HF' hAS').2.2.2] at h1
                    simp only [List.length_append, bytes_length] at h1
                    rw [hBz] at h1
                    omega
                  subst e0'
                  rw [hBz] at hconv HS8
                  have F9 := FF w w8 w.heap.size v1 (.slice (some ⟨wr.heap.size, 0, none⟩) Rs.size c8) HG.out HST8.out HS8.out
                  obtain ⟨n9, hn9⟩ : ∃ n, gs.length = n := ⟨_, rfl⟩
                  rw [hn9] at F9
                  have HLEN : Sl (fs.length + gs.length ≤ 1000000) := ⟨by omega⟩
                  have HFD' := Sl.mk HF'
                  have HAS' := Sl.mk hAS'
                  clear FF hn9 hfl hAS' HF' HS8 HX8 HST HO HFD HAS HX hBz hAX
                  go_wp2_with fail
                  refine F9.mono ?_
                  rintro e w9 ⟨a9, c9, v9, rfl, HF9, _, HS9, HT9⟩
                  clear F9 hconv
                  have HO9 : Sl (OwnR w9 w.heap.size u fs) := ⟨own_fed HO8.out HST8.out (by decide) (by decide) HT9.out⟩
                  clear HO8 HST8 HT9
                  go_upto_region 17 with fail
                  obtain ⟨Rw, hRw⟩ : ∃ R, w9.drew = R := ⟨_, rfl⟩
                  have HB : Below w9.heap.size w9 Rw := by rw [← hRw]; exact (Below.refl _ _).drew
                  refine wp_region_noPanic ?_
                  refine wp_region_held (S := fun _ => True) (by kernel_rfl) ?_
                  change wpAnyH _ _ _ _ _ _ _ _ w9.drew
                  rw [hRw]
                  clear hRw
                  have HOR := HO9.out.below HB
                  obtain ⟨u', w10, hap, HO10, HG10, _⟩ := add_frs HOR (HF9.out.below HB) HLEN.out (Nat.le_trans HS9.out.L.size HB.size)
                  refine heldTake (d := some 106) (op := .move (Operand.tmp 11)) (g := none) 0 ?v0z rfl (by kernel_rfl) (by kernel_rfl) (by kernel_rfl) (by kernel_rfl) ?y0z trivial ?_
                  case y0z => intro o' ho W hS; simp only [execOp, ho]; go_simp; try rfl
                  simp only [Act.put, List.setIfInBounds_toArray, List.set_cons_zero, List.set_cons_succ]
                  refine heldTake (d := some 107) (op := .move (Operand.tmp 14)) (g := none) 1 ?v1z rfl (by kernel_rfl) (by kernel_rfl) (by kernel_rfl) (by kernel_rfl) ?y1z trivial ?_
                  case y1z => intro o' ho W hS; simp only [execOp, ho]; go_simp; try rfl
                  simp only [Act.put, List.setIfInBounds_toArray, List.set_cons_zero, List.set_cons_succ]
                  refine heldTake (d := some 109) (op := .move (Operand.tmp 10)) (g := none) 3 ?v3z rfl (by kernel_rfl) (by kernel_rfl) (by kernel_rfl) (by kernel_rfl) ?y3z trivial ?_
                  case y3z => intro o' ho W hS; simp only [execOp, ho]; go_simp; try rfl
                  simp only [Act.put, List.setIfInBounds_toArray, List.set_cons_zero, List.set_cons_succ]
                  refine heldTake (d := some 110) (op := .move (Operand.tmp 13)) (g := none) 4 ?v4z rfl (by kernel_rfl) (by kernel_rfl) (by kernel_rfl) (by kernel_rfl) ?y4z trivial ?_
                  case y4z => intro o' ho W hS; simp only [execOp, ho]; go_simp; try rfl
                  simp only [Act.put, List.setIfInBounds_toArray, List.set_cons_zero, List.set_cons_succ]
                  refine heldTake (d := some 111) (op := .slice 9 (Operand.tmp 109) (some (Operand.tmp 110)) none none) (g := none) 5 (.string (Rs.extract Rs.size Rs.size)) rfl (by kernel_rfl) (by kernel_rfl) (by kernel_rfl) (by kernel_rfl) ?y5z trivial ?_
                  case y5z => intro o' ho W hS; exact str_from ho (by rfl) (by rfl) HNN.out
                  simp only [Act.put, List.setIfInBounds_toArray, List.set_cons_zero, List.set_cons_succ]
                  refine heldRunT (d := some 108) (op := .call { callee := Callee.builtin Builtin.append, args := #[Operand.tmp 106, Operand.tmp 107], argTypes := #[29, 29] }) (g := none) (t := 29) 2 u' w10 rfl (by kernel_rfl) (by kernel_rfl) ?y2z trivial ?_
                  case y2z => intro o' ho ht; exact run_appB ho ht (by rfl) (by rfl) hap
                  simp only [Act.put, List.setIfInBounds_toArray, List.set_cons_zero, List.set_cons_succ]
                  refine heldTake (d := some 11) (op := .assign (Operand.tmp 108)) (g := none) 6 ?v6z rfl (by kernel_rfl) (by kernel_rfl) (by kernel_rfl) (by kernel_rfl) ?y6z trivial ?_
                  case y6z => intro o' ho W hS; simp only [execOp, ho]; go_simp; try rfl
                  simp only [Act.put, List.setIfInBounds_toArray, List.set_cons_zero, List.set_cons_succ]
                  refine heldTake (d := some 10) (op := .assign (Operand.tmp 111)) (g := none) 7 ?v7z rfl (by kernel_rfl) (by kernel_rfl) (by kernel_rfl) (by kernel_rfl) ?y7z trivial ?_
                  case y7z => intro o' ho W hS; simp only [execOp, ho]; go_simp; try rfl
                  simp only [Act.put, List.setIfInBounds_toArray, List.set_cons_zero, List.set_cons_succ]
                  refine wpAnyH_done (by kernel_rfl) ?_ _
                  refine NoPanic.normal ?_
                  have HST10 := Sl.mk (strm_told (HS9.out.below HB) HOR (by decide) (by decide) (Nat.le_refl _) HG10)
                  have HO10' := Sl.mk HO10
                  clear HB HOR hap HO10 HG10 HS9 HO9 HF9
                  go_wp2
                  exact ⟨⟨k + 1, ByteArray.empty, u', A ++ bytes Rs, fs ++ gs, part', v9, rfl, rfl, by go_num, by omega, ⟨by have := HX2.out; rw [str_none] at this; exact this⟩, HFD', HST10, HO10'⟩, by simp [intOf]; omega⟩
                · have hnle : c ≤ Rs.size := by omega
                  have HNN := Sl.mk hnle
                  have HX2 : Sl ((A ++ bytes (Rs.extract 0 c)) ++ bytes (Rs.extract c Rs.size) = X) := ⟨by
                    rw [← HX.out, List.append_assoc, ← bytes_append]
                    congr 2
                    exact str_cut Rs c hnle⟩
                  have hBz : (Rs.extract 0 c).size = c := by rw [ByteArray.size_extract]; omega
                  obtain ⟨c8, w8, hconv, HS8, HX8⟩ := conv_str (Rs.extract 0 c) wr
                  have HST8 := Sl.mk (HST.out.below HX8.out)
                  have HO8 := Sl.mk (HO.out.below HX8.out)
                  have hAX : A.length + c ≤ 12000 := by
                    have h1 := congrArg List.length HX2.out
                    rw [List.length_append, List.length_append, bytes_length, bytes_length, hBz] at h1
                    have := HXL.out; omega
                  obtain ⟨gs, e', part', HF', _, FF⟩ := feed_fed HFD.out HAS.out (bytes_small (Rs.extract 0 c)) (by rw [bytes_length, hBz]; omega) (by omega : (65536 : Int) ≤ 9223372036854775807)
                  have hAS' : Small 256 (A ++ bytes (Rs.extract 0 c)) := HAS.out.append (bytes_small _)
                  obtain ⟨e0', hfl⟩ : e' = 0 ∧ 2 * (fs.length + gs.length) ≤ 12000 := by
                    refine ⟨fed_zero HF' hAS' (bytes_small _) (by rw [HX2.out]; exact HALL.out), ?_⟩
                    have h1 := (all_frs masked 65536 _ (A ++ bytes (Rs.extract 0 c)) (Nat.le_refl _) hAS').2.2
                    rw [(fed_part HF' hAS').2.2.2] at h1
                    simp only [List.length_append, bytes_length] at h1
                    rw [hBz] at h1
                    omega
                  subst e0'
                  rw [hBz] at hconv HS8
                  have F9 := FF w w8 w.heap.size v1 (.slice (some ⟨wr.heap.size, 0, none⟩) c c8) HG.out HST8.out HS8.out
                  obtain ⟨n9, hn9⟩ : ∃ n, gs.length = n := ⟨_, rfl⟩
                  rw [hn9] at F9
                  have HLEN : Sl (fs.length + gs.length ≤ 1000000) := ⟨by omega⟩
                  have HFD' := Sl.mk HF'
                  have HAS' := Sl.mk hAS'
                  clear FF hn9 hfl hAS' HF' HS8 HX8 HST HO HFD HAS HX hBz hAX
                  go_wp2_with fail
                  refine F9.mono ?_
                  rintro e w9 ⟨a9, c9, v9, rfl, HF9, _, HS9, HT9⟩
                  clear F9 hconv
                  have HO9 : Sl (OwnR w9 w.heap.size u fs) := ⟨own_fed HO8.out HST8.out (by decide) (by decide) HT9.out⟩
                  clear HO8 HST8 HT9
                  go_upto_region 17 with fail
                  obtain ⟨Rw, hRw⟩ : ∃ R, w9.drew = R := ⟨_, rfl⟩
                  have HB : Below w9.heap.size w9 Rw := by rw [← hRw]; exact (Below.refl _ _).drew
                  refine wp_region_noPanic ?_
                  refine wp_region_held (S := fun _ => True) (by kernel_rfl) ?_
                  change wpAnyH _ _ _ _ _ _ _ _ w9.drew
                  rw [hRw]
                  clear hRw
                  have HOR := HO9.out.below HB
                  obtain ⟨u', w10, hap, HO10, HG10, _⟩ := add_frs HOR (HF9.out.below HB) HLEN.out (Nat.le_trans HS9.out.L.size HB.size)
                  refine heldTake (d := some 106) (op := .move (Operand.tmp 11)) (g := none) 0 ?v0c rfl (by kernel_rfl) (by kernel_rfl) (by kernel_rfl) (by kernel_rfl) ?y0c trivial ?_
                  case y0c => intro o' ho W hS; simp only [execOp, ho]; go_simp; try rfl
                  simp only [Act.put, List.setIfInBounds_toArray, List.set_cons_zero, List.set_cons_succ]
                  refine heldTake (d := some 107) (op := .move (Operand.tmp 14)) (g := none) 1 ?v1c rfl (by kernel_rfl) (by kernel_rfl) (by kernel_rfl) (by kernel_rfl) ?y1c trivial ?_
                  case y1c => intro o' ho W hS; simp only [execOp, ho]; go_simp; try rfl
                  simp only [Act.put, List.setIfInBounds_toArray, List.set_cons_zero, List.set_cons_succ]
                  refine heldTake (d := some 109) (op := .move (Operand.tmp 10)) (g := none) 3 ?v3c rfl (by kernel_rfl) (by kernel_rfl) (by kernel_rfl) (by kernel_rfl) ?y3c trivial ?_
                  case y3c => intro o' ho W hS; simp only [execOp, ho]; go_simp; try rfl
                  simp only [Act.put, List.setIfInBounds_toArray, List.set_cons_zero, List.set_cons_succ]
                  refine heldTake (d := some 110) (op := .move (Operand.tmp 13)) (g := none) 4 ?v4c rfl (by kernel_rfl) (by kernel_rfl) (by kernel_rfl) (by kernel_rfl) ?y4c trivial ?_
                  case y4c => intro o' ho W hS; simp only [execOp, ho]; go_simp; try rfl
                  simp only [Act.put, List.setIfInBounds_toArray, List.set_cons_zero, List.set_cons_succ]
                  refine heldTake (d := some 111) (op := .slice 9 (Operand.tmp 109) (some (Operand.tmp 110)) none none) (g := none) 5 (.string (Rs.extract c Rs.size)) rfl (by kernel_rfl) (by kernel_rfl) (by kernel_rfl) (by kernel_rfl) ?y5c trivial ?_
                  case y5c => intro o' ho W hS; exact str_from ho (by rfl) (by rfl) HNN.out
                  simp only [Act.put, List.setIfInBounds_toArray, List.set_cons_zero, List.set_cons_succ]
                  refine heldRunT (d := some 108) (op := .call { callee := Callee.builtin Builtin.append, args := #[Operand.tmp 106, Operand.tmp 107], argTypes := #[29, 29] }) (g := none) (t := 29) 2 u' w10 rfl (by kernel_rfl) (by kernel_rfl) ?y2c trivial ?_
                  case y2c => intro o' ho ht; exact run_appB ho ht (by rfl) (by rfl) hap
                  simp only [Act.put, List.setIfInBounds_toArray, List.set_cons_zero, List.set_cons_succ]
                  refine heldTake (d := some 11) (op := .assign (Operand.tmp 108)) (g := none) 6 ?v6c rfl (by kernel_rfl) (by kernel_rfl) (by kernel_rfl) (by kernel_rfl) ?y6c trivial ?_
                  case y6c => intro o' ho W hS; simp only [execOp, ho]; go_simp; try rfl
                  simp only [Act.put, List.setIfInBounds_toArray, List.set_cons_zero, List.set_cons_succ]
                  refine heldTake (d := some 10) (op := .assign (Operand.tmp 111)) (g := none) 7 ?v7c rfl (by kernel_rfl) (by kernel_rfl) (by kernel_rfl) (by kernel_rfl) ?y7c trivial ?_
                  case y7c => intro o' ho W hS; simp only [execOp, ho]; go_simp; try rfl
                  simp only [Act.put, List.setIfInBounds_toArray, List.set_cons_zero, List.set_cons_succ]
                  refine wpAnyH_done (by kernel_rfl) ?_ _
                  refine NoPanic.normal ?_
                  have HST10 := Sl.mk (strm_told (HS9.out.below HB) HOR (by decide) (by decide) (Nat.le_refl _) HG10)
                  have HO10' := Sl.mk HO10
                  clear HB HOR hap HO10 HG10 HS9 HO9 HF9
                  go_wp2
                  exact ⟨⟨k + 1, Rs.extract c Rs.size, u', A ++ bytes (Rs.extract 0 c), fs ++ gs, part', v9, rfl, rfl, by go_num, by omega, HX2, HFD', HST10, HO10'⟩, by simp [intOf]; omega⟩
            · obtain rfl : k = m := by omega
              have hlt2 : ((k : Int) < (k : Int)) = False := eq_false (by omega)
              obtain ⟨c8, w8, hconv, HS8, HX8⟩ := conv_str Rs wr
              have HST8 := Sl.mk (HST.out.below HX8.out)
              have HO8 := Sl.mk (HO.out.below HX8.out)
              obtain ⟨gs, e', part', HF', _, FF⟩ := feed_fed HFD.out HAS.out (bytes_small Rs) HAL.out (by omega : (65536 : Int) ≤ 9223372036854775807)
              rw [HX.out] at HF'
              obtain ⟨lf, hx1, hx2⟩ := HF'
              rw [HALL.out] at hx1
              injection hx1 with hx3 hx1
              injection hx1 with hx4 hx5
              rw [← hx5, Nat.sub_zero, List.drop_length] at hx2
              subst hx4 hx2
              have F9 := FF w w8 w.heap.size v1 (.slice (some ⟨wr.heap.size, 0, none⟩) Rs.size c8) HG.out HST8.out HS8.out
              obtain ⟨n9, hn9⟩ : ∃ n, gs.length = n := ⟨_, rfl⟩
              rw [hn9] at F9
              have hfl : fs.length + gs.length ≤ 1000000 := by rw [← List.length_append, ← hx3]; omega
              have HFG := Sl.mk hx3
              have HLEN := Sl.mk hfl
              clear hx3 hx5 FF hn9 hfl HS8 HX8 HST HO HFD HAS HAL HX HALL
              go_wp2_with fail
              refine F9.mono ?_
              rintro e w9 ⟨a9, c9, v9, rfl, HF9, _, HS9, HT9⟩
              clear F9 hconv
              have HO9 : Sl (OwnR w9 w.heap.size u fs) := ⟨own_fed HO8.out HST8.out (by decide) (by decide) HT9.out⟩
              have P9 := part_ex HS9.out 0 rfl
              have hz9 : w.heap.size ≤ w9.heap.size := HS9.out.L.size
              clear HO8 HST8 HT9
              go_wp2_with fail
              refine P9.mono ?_
              rintro e w10 ⟨rfl, rfl⟩
              clear P9
              go_wp2_with (at_builtin; refine app_frsG (o := ⟨some 129, _, _, _, _, _⟩) rfl (.tmp 127) (.tmp 128) rfl rfl w.heap.size u (.slice a9 n9 c9) fs gs rfl HO9.out rfl HF9.out HLEN.out hz9 ?_)
              intro u' w11 HO11 HG11
              have HS11 := Sl.mk (strm_told HS9.out HO9.out (by decide) (by decide) (Nat.le_refl _) HG11.out)
              have S11 := same_yes l u' (.slice a l.length cap) w11 (by rw [HFG.out]; exact HO11.out.frs) (HV.out.below HS11.out.L) HKS.out (by omega)
              clear HS9 HO9 HF9 HG11 hz9
              go_wp2_with fail
              refine S11.mono ?_
              rintro e w12 ⟨rfl, HX12⟩
              go_wp2
              go_ret
              exact ⟨rfl, (HS11.out.below HX12.out).L⟩
end Go.Proofs.YtlgmgalopdfcaaaDoor
