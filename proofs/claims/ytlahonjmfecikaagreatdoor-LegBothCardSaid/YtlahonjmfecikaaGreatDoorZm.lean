/- The texts below, joined. -/
import Derived.Test.YtlahonjmfecikaaGreatDoorZl
set_option maxRecDepth 100000
set_option linter.unusedVariables false
set_option linter.unusedSimpArgs false
namespace LegPlain
open FramePlain (Fr Fr0 form ctl zero4 text form_cases)
open StreamPlain (one all all_append all_step one_text all_left)
open MsgPlain (Ev Ms M0 run run_append run_cons run_stop Fit)
open CutPlain (frs)
open ClosePlain (putC getC codeC acrossC valid)
def flow (l : Lg) : List (Bool × Int × List Nat) := (l.hist ++ l.ctl ++ l.rest).map core
theorem mv_flow (c : Cf) : ∀ (n : Nat) (l : Lg), flow (mv c n l) = flow l
  | 0, l => rfl
  | n + 1, l => by
    unfold mv
    by_cases ht : (fill c l).tail ≠ []
    · rw [if_pos ht]; rfl
    · rw [if_neg ht]
      cases hc : l.ctl with
      | cons f cs =>
        refine (mv_flow c n _).trans ?_
        show (l.hist ++ [dress c _ f] ++ cs ++ l.rest).map core = (l.hist ++ l.ctl ++ l.rest).map core
        rw [hc]
        simp [core_dress]
      | nil =>
        cases hr : l.rest with
        | cons f r =>
          refine (mv_flow c n _).trans ?_
          show (l.hist ++ [dress c _ f] ++ l.ctl ++ r).map core = (l.hist ++ l.ctl ++ l.rest).map core
          rw [hc, hr]
          simp [core_dress]
        | nil => rfl
theorem move_flow (c : Cf) (l : Lg) : flow (move c l) = flow l := mv_flow c _ l
theorem flow_hist (l : Lg) : ∃ R, flow l = l.hist.map core ++ R := ⟨(l.ctl ++ l.rest).map core, by unfold flow; rw [List.append_assoc, List.map_append]⟩
theorem flow_quiet {l : Lg} (h : Quiet l) : flow l = l.hist.map core := by unfold flow; rw [h.2.2.1, h.2.2.2, List.append_nil, List.append_nil]
structure Bo (c : Cf) (l : Lg) (X : List (Bool × Int × List Nat)) : Prop where
  few : Few c l 0
  flow : flow l = X
  reads : Reads c l
  buf : l.buf = []
  ms : l.ms = M0
theorem bo_zero (c : Cf) (d : Nat) : Bo c (L0 d) [] := ⟨few_zero c d, rfl, reads_zero c d, rfl, rfl⟩
theorem bo_take {c : Cf} (hf : c.frm ≤ 65536) {l : Lg} {X : List (Bool × Int × List Nat)} (h : Bo c l X) (n : Int) : Bo c (takeN c l n).1 X ∧ (takeN c l n).1.sent = l.sent ∧ (takeN c l n).1.gone = l.gone ++ (takeN c l n).2 := by
  have k := take_keep c l n
  refine ⟨⟨few_take hf h.few n, ?_, reads_keep k h.reads, k.buf.trans h.buf, k.ms.trans h.ms⟩, (mv_keep c _ { l with gone := l.gone ++ l.ring.take n.toNat, ring := l.ring.drop n.toNat }).2.1, ?_⟩
  · show flow (move c _) = X
    rw [move_flow]; exact h.flow
  · have hi : Inv c { l with gone := l.gone ++ l.ring.take n.toNat, ring := l.ring.drop n.toNat } := ⟨by
      show l.gone ++ l.ring.take n.toNat ++ l.ring.drop n.toNat ++ l.tail = _
      rw [List.append_assoc l.gone, List.take_append_drop]; exact h.few.ok.inv.bytes, h.few.ok.inv.hist, h.few.ok.inv.ctl, h.few.ok.inv.rest, by
      show (l.ring.drop n.toNat).length ≤ _
      rw [List.length_drop]; have := h.few.ok.inv.ring; omega⟩
    exact (move_inv hi).2.gone
theorem bo_send {c : Cf} (hf : c.frm ≤ 65536) (hm : 1 ≤ c.frm) {l : Lg} {X : List (Bool × Int × List Nat)} (h : Bo c l X) (hq : Quiet l) (hs : l.sent = false) {t : List Nat} (ht : t.length ≤ c.msg) (hsm : ∀ y ∈ t, y < 256) :
    (send c l 2 t).2 = true ∧ Bo c (send c l 2 t).1 (X ++ (frs c.frm 2 t).map core) ∧ (send c l 2 t).1.sent = false ∧ (send c l 2 t).1.gone = l.gone := by
  have hok := few_send hf hm h.few 2 t hsm
  have k := send_keep c l 2 t
  have hc : free l = true ∧ ((2 : Int) = 1 ∨ (2 : Int) = 2) ∧ t.length ≤ c.msg := ⟨by unfold free; rw [hs, h.reads.got, h.reads.wrong, hq.2.2.2]; rfl, .inr rfl, ht⟩
  have hX := flow_quiet hq
  rw [h.flow] at hX
  have hR := frs_isR (c := c) hm (op := 2) (.inr rfl) t hsm
  have hi : Inv c { l with rest := frs c.frm 2 t, said := l.said ++ [(2, t)] } := ⟨h.few.ok.inv.bytes, h.few.ok.inv.hist, h.few.ok.inv.ctl, hR, h.few.ok.inv.ring⟩
  refine ⟨by unfold send; rw [if_pos hc], ⟨hok, ?_, reads_keep k h.reads, k.buf.trans h.buf, k.ms.trans h.ms⟩, ?_, ?_⟩
  · unfold send
    rw [if_pos hc]
    show flow (move c _) = _
    rw [move_flow]
    show (l.hist ++ l.ctl ++ frs c.frm 2 t).map core = _
    rw [hq.2.2.1, List.append_nil, List.map_append, hX]
  · unfold send
    rw [if_pos hc]
    exact (mv_keep c _ { l with rest := frs c.frm 2 t, said := l.said ++ [(2, t)] }).2.1.trans hs
  · unfold send
    rw [if_pos hc]
    exact (move_inv hi).2.gone
theorem bo_close {c : Cf} (hf : c.frm ≤ 65536) {l : Lg} {X : List (Bool × Int × List Nat)} (h : Bo c l X) (hq : Quiet l) (code : Int) (hy : (close c l code []).2 = true) :
    ∃ d, putC code [] = (d, 0) ∧ Bo c (close c l code []).1 (X ++ [(true, 8, d)]) ∧ (close c l code []).1.gone = l.gone := by
  have hok := few_close hf h.few code [] (fun y hy => absurd hy List.not_mem_nil)
  have k := close_keep c l code []
  have hX := flow_quiet hq
  rw [h.flow] at hX
  have hc : ¬ (l.sent = true ∨ (putC code []).2 ≠ 0) := fun e => by
    unfold close at hy
    rw [if_pos e] at hy
    cases hy
  have hp : (putC code []).2 = 0 := Classical.byContradiction fun e => hc (.inr e)
  obtain ⟨d, hd⟩ : ∃ d, (putC code []).1 = d := ⟨_, rfl⟩
  have hpc : putC code [] = (d, 0) := by rw [← hd, ← hp]
  refine ⟨d, hpc, ⟨hok, ?_, reads_keep k h.reads, k.buf.trans h.buf, k.ms.trans h.ms⟩, ?_⟩
  · unfold close
    rw [if_neg hc, hd]
    show flow (move c _) = _
    rw [move_flow]
    show (l.hist ++ (l.ctl ++ [ctlF 8 d]) ++ []).map core = _
    rw [hq.2.2.1, List.nil_append, List.append_nil, List.map_append, hX]; rfl
  · have hlen := (ClosePlain.put_sizes hpc).1
    have hsm := ClosePlain.put_small (fun y hy => absurd hy List.not_mem_nil) hpc
    have hi : Inv c { { l with sent := true, rest := [], last := d } with ctl := l.ctl ++ [ctlF 8 d] } := ⟨h.few.ok.inv.bytes, h.few.ok.inv.hist, fun f hf => by
      rcases List.mem_append.1 hf with hf | hf
      · exact h.few.ok.inv.ctl f hf
      · rw [List.mem_singleton] at hf
        rw [hf]
        exact ⟨rfl, .inl rfl, rfl, rfl, hlen, hsm⟩, fun f hf => absurd hf List.not_mem_nil, h.few.ok.inv.ring⟩
    unfold close
    rw [if_neg hc, hd]
    exact (move_inv hi).2.gone
structure Emp (c : Cf) (l : Lg) : Prop where
  ok : Ok c l
  flow : flow l = []
  gone : l.gone = []
  sent : l.sent = false
structure One (c : Cf) (l : Lg) : Prop where
  ok : Ok c l
  flow : ∃ k, flow l = [(true, 8, (putC (acrossC k) []).1)]
  gone : l.gone = []
  sent : l.sent = true
def Eo (c : Cf) (l : Lg) : Prop := Emp c l ∨ One c l
theorem eo_zero (c : Cf) (d : Nat) : Eo c (L0 d) := .inl ⟨ok_zero c d, rfl, rfl, rfl⟩
theorem eo_in {c : Cf} {l m : Lg} (h : Eo c l) (h1 : m.gone = l.gone ∧ m.ring = l.ring ∧ m.tail = l.tail ∧ m.hist = l.hist ∧ m.ctl = l.ctl ∧ m.rest = l.rest ∧ m.said = l.said ∧ m.last = l.last ∧ m.sent = l.sent) : Eo c m := by
  have hfl : LegPlain.flow m = LegPlain.flow l := by unfold LegPlain.flow; rw [h1.2.2.2.1, h1.2.2.2.2.1, h1.2.2.2.2.2.1]
  rcases h with h | h
  · exact .inl ⟨ok_in h.ok h1, hfl.trans h.flow, h1.1.trans h.gone, h1.2.2.2.2.2.2.2.2.trans h.sent⟩
  · obtain ⟨k, hk⟩ := h.flow
    exact .inr ⟨ok_in h.ok h1, ⟨k, hfl.trans hk⟩, h1.1.trans h.gone, h1.2.2.2.2.2.2.2.2.trans h.sent⟩
theorem eo_react {c : Cf} {l : Lg} (h : Eo c l) {x : Ev} (hx : x.op = 2 ∨ x.op = 8) : Eo c (react c l x) := by
  unfold react
  rw [if_neg (by omega)]
  by_cases h8 : ¬ x.op = 8
  · rw [if_neg h8]; exact h
  have h8 : x.op = 8 := Classical.byContradiction h8
  rw [if_pos h8]
  have h' : Eo c { l with got := true } := eo_in h ⟨rfl, rfl, rfl, rfl, rfl, rfl, rfl, rfl, rfl⟩
  rcases h' with h' | h'
  · have hp : (putC (acrossC x.code) []).2 = 0 := by
      rcases ClosePlain.across_valid x.code with e | e
      · rw [e]; rfl
      · rw [ClosePlain.put_yes e (Nat.zero_le _) rfl]
    have hok := ok_close h'.ok (acrossC x.code) [] (fun y hy => absurd hy List.not_mem_nil)
    have hsn := (close_sent c { l with got := true } (acrossC x.code) (ClosePlain.across_valid x.code)).1
    have hc : ¬ ((({ l with got := true } : Lg)).sent = true ∨ (putC (acrossC x.code) []).2 ≠ 0) := fun e => e.elim (fun e => absurd (e.symm.trans h'.sent) (by decide)) (fun e => e hp)
    obtain ⟨d, hd⟩ : ∃ d, (putC (acrossC x.code) []).1 = d := ⟨_, rfl⟩
    have hpc : putC (acrossC x.code) [] = (d, 0) := by rw [← hd, ← hp]
    have hfl := h'.flow
    unfold LegPlain.flow at hfl
    have hz := List.map_eq_nil_iff.1 hfl
    have hz1 : l.hist ++ l.ctl = [] := (List.append_eq_nil_iff.1 hz).1
    have hh : l.hist = [] := (List.append_eq_nil_iff.1 hz1).1
    have hc0 : l.ctl = [] := (List.append_eq_nil_iff.1 hz1).2
    have hlen := (ClosePlain.put_sizes hpc).1
    have hsm := ClosePlain.put_small (fun y hy => absurd hy List.not_mem_nil) hpc
    have hi : Inv c { { ({ l with got := true } : Lg) with sent := true, rest := [], last := d } with ctl := l.ctl ++ [ctlF 8 d] } := ⟨h'.ok.inv.bytes, h'.ok.inv.hist, fun f hf => by
      rcases List.mem_append.1 hf with hf | hf
      · exact h'.ok.inv.ctl f hf
      · rw [List.mem_singleton] at hf
        rw [hf]
        exact ⟨rfl, .inl rfl, rfl, rfl, hlen, hsm⟩, fun f hf => absurd hf List.not_mem_nil, h'.ok.inv.ring⟩
    refine .inr ⟨hok, ⟨x.code, ?_⟩, ?_, hsn⟩
    · unfold close
      rw [if_neg hc, hd]
      show LegPlain.flow (move c _) = _
      rw [move_flow]
      show (l.hist ++ (l.ctl ++ [ctlF 8 d]) ++ []).map core = _
      rw [hh, hc0]; rfl
    · unfold close
      rw [if_neg hc, hd]
      exact (move_inv hi).2.gone.trans h'.gone
  · have hc : (({ l with got := true } : Lg)).sent = true ∨ (putC (acrossC x.code) []).2 ≠ 0 := .inl h'.sent
    unfold close
    rw [if_pos hc]
    exact .inr h'
theorem eo_fold {c : Cf} : ∀ (xs : List Ev) {l : Lg}, Eo c l → (∀ x ∈ xs, x.op = 2 ∨ x.op = 8) → Eo c (xs.foldl (react c) l)
  | [], _, h, _ => h
  | x :: xs, _, h, hx => eo_fold xs (eo_react h (hx x List.mem_cons_self)) (fun y hy => hx y (List.mem_cons_of_mem _ hy))
structure Bst (c : Cf) (l : Lg) (G : List Nat) (E : List Ev) : Prop where
  wrong : l.wrong = 0
  got : l.got = (run (c.msg : Int) M0 (all G c.masked (bound c : Int)).1).1.over
  evs : E = (run (c.msg : Int) M0 (all G c.masked (bound c : Int)).1).2
  fed : (run (c.msg : Int) M0 (all G c.masked (bound c : Int)).1).1.over = false → Fed c l G
  eo : Eo c l
theorem bst_zero (c : Cf) (d : Nat) : Bst c (L0 d) [] [] := ⟨rfl, rfl, rfl, fun _ => fed_zero c d, eo_zero c d⟩
theorem bst_step {c : Cf} {l : Lg} {G : List Nat} {E : List Ev} (h : Bst c l G E) (hG : ∀ y ∈ G, y < 256) (b : List Nat) (hb : ∀ y ∈ b, y < 256) (ha : (all (G ++ b) c.masked (bound c : Int)).2.1 = 0) (hr : (run (c.msg : Int) M0 (all (G ++ b) c.masked (bound c : Int)).1).1.err = 0) (hx : ∀ x ∈ (run (c.msg : Int) M0 (all (G ++ b) c.masked (bound c : Int)).1).2, x.op = 2 ∨ x.op = 8) :
    Bst c (feed c l b).1 (G ++ b) (E ++ (feed c l b).2) := by
  cases ho : (run (c.msg : Int) M0 (all G c.masked (bound c : Int)).1).1.over with
  | true =>
    have hgot : l.got = true := h.got.trans ho
    have hall := all_append c.masked (bound c : Int) b hb _ G (Nat.le_refl _) hG
    have hse : (all G c.masked (bound c : Int)).2.1 = 0 := Classical.byContradiction fun e => by
      rw [if_neg e] at hall
      rw [hall] at ha
      exact e ha
    rw [if_pos hse] at hall
    have hrun : run (c.msg : Int) M0 (all (G ++ b) c.masked (bound c : Int)).1 = run (c.msg : Int) M0 (all G c.masked (bound c : Int)).1 := by
      rw [hall, run_append, run_stop _ (.inr ho)]
      simp
    rw [feed_stop b (.inl hgot), List.append_nil]
    exact ⟨h.wrong, by rw [hrun]; exact h.got, by rw [hrun]; exact h.evs, fun e => absurd (e.symm.trans ((congrArg (fun z => z.1.over) hrun).trans ho)) (by decide), h.eo⟩
  | false =>
    have hfd := h.fed ho
    obtain ⟨s1, s2, s3, s4⟩ := fed_step hfd hG b hb ha hr
    obtain ⟨f1, f2, _, _, _, f6, _, _⟩ := feed_in hfd.reads b hb
    have hev : ∀ x ∈ evs c l b, x.op = 2 ∨ x.op = 8 := fun x hxx => hx x (by rw [s1]; exact List.mem_append.2 (.inr hxx))
    have hfil : (evs c l b).filter (fun x => decide (x.op ≠ 9)) = evs c l b := List.filter_eq_self.2 fun x hxx => by
      have := hev x hxx
      exact decide_eq_true (by omega)
    refine ⟨f2.trans s2, f1.trans (by rw [s3]), by rw [f6, hfil, s1, h.evs], s4, ?_⟩
    unfold feed
    rw [if_neg (fun e => e.elim (fun e => absurd (e.symm.trans hfd.reads.got) (by decide)) (fun e => e hfd.reads.wrong))]
    show Eo c (if errs c l b ≠ 0 then _ else _)
    rw [if_neg (fun e => e s2)]
    exact eo_fold _ (eo_in h.eo ⟨rfl, rfl, rfl, rfl, rfl, rfl, rfl, rfl, rfl⟩) hev
structure Fine (c : Cf) (X : List (Bool × Int × List Nat)) : Prop where
  err : (run (c.msg : Int) M0 (X.map ofCore)).1.err = 0
  evs : ∀ x ∈ (run (c.msg : Int) M0 (X.map ofCore)).2, x.op = 2 ∨ x.op = 8
  len : ∀ x ∈ X, x.2.2.length ≤ bound c
theorem Fine.pre {c : Cf} {X Y : List (Bool × Int × List Nat)} (h : Fine c (X ++ Y)) : Fine c X := by
  have h1 := h.err
  have h2 := h.evs
  rw [List.map_append] at h1 h2
  refine ⟨(run_prefix h1).1, fun x hx => h2 x ?_, fun x hx => h.len x (List.mem_append.2 (.inl hx))⟩
  rw [run_append]
  exact List.mem_append.2 (.inl hx)
def turned (c : Cf) : Cf := { c with masked := !c.masked }
theorem both_feed {c : Cf} (hf : c.frm ≤ 65536) (hmo : c.msg ≤ 65536) {a : Lg} {X : List (Bool × Int × List Nat)} (ha : Bo c a X) (hX : Fine c X) {b : Lg} {G r : List Nat} {E : List Ev} (hb : Bst (turned c) b G E) (hr : a.gone = G ++ r) : Bst (turned c) (feed (turned c) b r).1 a.gone (E ++ (feed (turned c) b r).2) := by
  obtain ⟨R, hR⟩ := flow_hist a
  rw [ha.flow] at hR
  rw [hR] at hX
  have hH := hX.pre
  have hO := ha.few.ok.inv.hist
  have hs := (all_out hf a.hist hO).2
  have hby := ha.few.ok.inv.bytes
  rw [hr, List.append_assoc, List.append_assoc] at hby
  rw [← hby] at hs
  have hGs : ∀ y ∈ G, y < 256 := fun y hy => hs y (List.mem_append.2 (.inl hy))
  have hrs : ∀ y ∈ r, y < 256 := fun y hy => hs y (List.mem_append.2 (.inr (List.mem_append.2 (.inl hy))))
  have hd : ∀ f ∈ a.hist, (f.data.length : Int) ≤ (bound c : Int) := fun f hf => by
    have := hH.len (core f) (List.mem_map.2 ⟨f, hf, rfl⟩)
    have : f.data.length ≤ bound c := this
    omega
  obtain ⟨fs, lf, rest, g1, g2, g3, _⟩ := gone_reads (most := (bound c : Int)) hf (by unfold bound; omega) (B := (c.msg : Int)) hO hd hH.err (G := G ++ r) (R := a.ring ++ a.tail) (by rw [List.append_assoc]; exact hby)
  have g1' : all (G ++ r) (turned c).masked (bound (turned c) : Int) = (fs, 0, lf) := g1
  rw [hr]
  refine bst_step hb hGs r hrs (by rw [g1']) (by rw [g1']; exact g3) (fun x hx => ?_)
  rw [g1'] at hx
  have hk : ∀ f ∈ a.hist, f.masked = true ∨ f.key = zero4 := fun f hf => (form_cases (hO f hf).form).2
  refine hH.evs x ?_
  rw [← run_core _ a.hist M0 hk, g2, run_append]
  exact List.mem_append.2 (.inl hx)
theorem both_quiet {c : Cf} (hf : c.frm ≤ 65536) (hmo : c.msg ≤ 65536) {a : Lg} {X : List (Bool × Int × List Nat)} (ha : Bo c a X) (hX : Fine c X) (hq : Quiet a) {b : Lg} {E : List Ev} (hb : Bst (turned c) b a.gone E) : E = (run (c.msg : Int) M0 (X.map ofCore)).2 ∧ b.got = (run (c.msg : Int) M0 (X.map ofCore)).1.over := by
  have hR := flow_quiet hq
  rw [ha.flow] at hR
  have hO := ha.few.ok.inv.hist
  have hd : ∀ f ∈ a.hist, (f.data.length : Int) ≤ (bound c : Int) := fun f hf => by
    rw [hR] at hX
    have := hX.len (core f) (List.mem_map.2 ⟨f, hf, rfl⟩)
    have : f.data.length ≤ bound c := this
    omega
  have hby := ha.few.ok.inv.bytes
  rw [hq.1, hq.2.1, List.append_nil, List.append_nil] at hby
  have hall : all a.gone (turned c).masked (bound (turned c) : Int) = (a.hist, 0, 0) := by
    rw [hby]; exact all_outs (most := (bound c : Int)) hf (by unfold bound; omega) a.hist hO hd
  have hk : ∀ f ∈ a.hist, f.masked = true ∨ f.key = zero4 := fun f hf => (form_cases (hO f hf).form).2
  have hrun : run (c.msg : Int) M0 a.hist = run (c.msg : Int) M0 (X.map ofCore) := by rw [run_core _ a.hist M0 hk, hR]
  refine ⟨?_, ?_⟩
  · rw [hb.evs, hall, ← hrun]; rfl
  · rw [hb.got, hall, ← hrun]; rfl
theorem frs_data_le {most : Nat} (hm : 1 ≤ most) : ∀ (n : Nat) (op : Int) (t : List Nat), t.length ≤ n → ∀ f ∈ frs most op t, f.data.length ≤ t.length
  | 0, op, t, h, f, hf => by
    rw [CutPlain.frs_last (by omega), List.mem_singleton] at hf
    rw [hf]; exact Nat.le_refl _
  | n + 1, op, t, h, f, hf => by
    by_cases h1 : t.length ≤ most
    · rw [CutPlain.frs_last h1, List.mem_singleton] at hf
      rw [hf]; exact Nat.le_refl _
    · rw [CutPlain.frs_more hm h1] at hf
      rcases List.mem_cons.1 hf with hf | hf
      · rw [hf]; show (t.take most).length ≤ _; rw [List.length_take]; omega
      · have := frs_data_le hm n 0 (t.drop most) (by rw [List.length_drop]; omega) f hf
        rw [List.length_drop] at this
        omega
theorem fine_flt {c : Cf} (hm : 1 ≤ c.frm) (s : List (List Nat)) (h : ∀ t ∈ s, t.length ≤ c.msg ∧ ∀ y ∈ t, y < 256) : Fine c (flt c s) ∧ run (c.msg : Int) M0 ((flt c s).map ofCore) = (M0, s.map fun t => ⟨2, 0, t⟩) := by
  have hr := run_flt hm (B := (c.msg : Int)) s (fun t ht => ⟨by have := (h t ht).1; omega, (h t ht).2⟩)
  refine ⟨⟨by rw [hr]; rfl, fun x hx => ?_, fun x hx => ?_⟩, hr⟩
  · rw [hr] at hx
    obtain ⟨t, _, rfl⟩ := List.mem_map.1 hx
    exact .inl rfl
  · obtain ⟨t, ht, hx⟩ := List.mem_flatMap.1 hx
    obtain ⟨f, hf, rfl⟩ := List.mem_map.1 hx
    have h1 := frs_data_le hm _ 2 t (Nat.le_refl _) f hf
    have h2 := (h t ht).1
    show f.data.length ≤ bound c
    unfold bound
    omega
theorem fine_end {c : Cf} (hm : 1 ≤ c.frm) (s : List (List Nat)) (h : ∀ t ∈ s, t.length ≤ c.msg ∧ ∀ y ∈ t, y < 256) {code : Int} {d : List Nat} (hd : putC code [] = (d, 0)) : Fine c (flt c s ++ [(true, 8, d)]) ∧ ∃ k, run (c.msg : Int) M0 ((flt c s ++ [(true, 8, d)]).map ofCore) = (MsgPlain.done, (s.map fun t => ⟨2, 0, t⟩) ++ [⟨8, k, []⟩]) := by
  obtain ⟨h1, h2⟩ := fine_flt hm s h
  obtain ⟨k, hk⟩ := run_end (c.msg : Int) hd
  have hr : run (c.msg : Int) M0 ((flt c s ++ [(true, 8, d)]).map ofCore) = (MsgPlain.done, (s.map fun t => ⟨2, 0, t⟩) ++ [⟨8, k, []⟩]) := by
    rw [List.map_append, run_append, h2]
    simp only [List.map_cons, List.map_nil, hk]
  refine ⟨⟨by rw [hr]; rfl, fun x hx => ?_, fun x hx => ?_⟩, k, hr⟩
  · rw [hr] at hx
    rcases List.mem_append.1 hx with hx | hx
    · obtain ⟨t, _, rfl⟩ := List.mem_map.1 hx
      exact .inl rfl
    · rw [List.mem_singleton] at hx
      rw [hx]; exact .inr rfl
  · rcases List.mem_append.1 hx with hx | hx
    · exact h1.len x hx
    · rw [List.mem_singleton] at hx
      rw [hx]
      have := (ClosePlain.put_sizes hd).1
      show d.length ≤ bound c
      unfold bound
      omega
theorem both_back {c : Cf} (hf : c.frm ≤ 65536) (hmo : c.msg ≤ 65536) {a : Lg} {X : List (Bool × Int × List Nat)} (ha : Bo c a X) {b : Lg} (hb : Eo (turned c) b) (n : Nat) : (feed c a (b.ring.take n)).1.wrong = 0 := by
  obtain ⟨hok, hgone, k, hfl⟩ : Ok (turned c) b ∧ b.gone = [] ∧ ∃ k, flow b = [] ∨ flow b = [(true, 8, (putC (acrossC k) []).1)] := by
    rcases hb with h | h
    · exact ⟨h.ok, h.gone, 0, .inl h.flow⟩
    · obtain ⟨k, hk⟩ := h.flow
      exact ⟨h.ok, h.gone, k, .inr hk⟩
  obtain ⟨R, hR⟩ := flow_hist b
  have hF : Fine c (flow b) := by
    rcases hfl with e | e
    · rw [e]; exact ⟨rfl, fun x hx => absurd hx List.not_mem_nil, fun x hx => absurd hx List.not_mem_nil⟩
    · have hp : (putC (acrossC k) []).2 = 0 := by
        rcases ClosePlain.across_valid k with e | e
        · rw [e]; rfl
        · rw [ClosePlain.put_yes e (Nat.zero_le _) rfl]
      have hpc : putC (acrossC k) [] = ((putC (acrossC k) []).1, 0) := by rw [← hp]
      obtain ⟨j, hj⟩ := run_end (c.msg : Int) hpc
      have hj' : run (c.msg : Int) M0 ([(true, 8, (putC (acrossC k) []).1)].map ofCore) = (MsgPlain.done, [⟨8, j, []⟩]) := hj
      rw [e]
      refine ⟨by rw [hj']; rfl, fun x hx => ?_, fun x hx => ?_⟩
      · rw [hj', List.mem_singleton] at hx
        rw [hx]; exact .inr rfl
      · rw [List.mem_singleton] at hx
        rw [hx]
        have := (ClosePlain.put_sizes hpc).1
        show (putC (acrossC k) []).1.length ≤ bound c
        unfold bound
        omega
  rw [hR] at hF
  have hH := hF.pre
  have hO := hok.inv.hist
  have hd : ∀ f ∈ b.hist, (f.data.length : Int) ≤ (bound c : Int) := fun f hf => by
    have := hH.len (core f) (List.mem_map.2 ⟨f, hf, rfl⟩)
    have : f.data.length ≤ bound c := this
    omega
  have hby := hok.inv.bytes
  rw [hgone, List.nil_append] at hby
  have hG : b.ring.take n ++ (b.ring.drop n ++ b.tail) = b.hist.flatMap text := by rw [← List.append_assoc, List.take_append_drop]; exact hby
  have hs := (all_out (c := turned c) hf b.hist hO).2
  rw [← hG] at hs
  have hrs : ∀ y ∈ b.ring.take n, y < 256 := fun y hy => hs y (List.mem_append.2 (.inl hy))
  obtain ⟨fs, lf, rest, g1, _, g3, _⟩ := gone_reads (c := turned c) (most := (bound c : Int)) hf (by unfold bound; omega) (B := (c.msg : Int)) hO hd hH.err hG
  have hmm : (!(turned c).masked) = c.masked := by show (!(!c.masked)) = c.masked; rw [Bool.not_not]
  rw [hmm] at g1
  obtain ⟨_, f2, _⟩ := feed_in ha.reads (b.ring.take n) hrs
  rw [f2]
  have hms : (came c a (b.ring.take n)).ms.err = 0 := by
    show (run _ a.ms (all (a.buf ++ _) _ _).1).1.err = 0
    rw [ha.buf, ha.ms, List.nil_append, g1]; exact g3
  unfold errs
  rw [if_neg (fun e => e hms)]
  split
  · rfl
  · show (all (a.buf ++ _) _ _).2.1 = 0
    rw [ha.buf, List.nil_append, g1]
end LegPlain
