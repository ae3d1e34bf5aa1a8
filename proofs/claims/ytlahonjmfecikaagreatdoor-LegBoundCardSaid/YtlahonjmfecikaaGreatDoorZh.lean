/- The texts below, joined. -/
import Derived.Test.YtlahonjmfecikaaGreatDoorZg
set_option maxRecDepth 100000
namespace LegPlain
open FramePlain (Fr Fr0 form ctl zero4 text form_of form_cases)
open StreamPlain (one all all_append all_step one_text)
open MsgPlain (Ev Ms M0)
open CutPlain (frs)
open ClosePlain (putC getC codeC acrossC valid)
def free (l : Lg) : Bool := !l.sent && !l.got && decide (l.wrong = 0) && l.rest.isEmpty
def send (c : Cf) (l : Lg) (op : Int) (t : List Nat) : Lg × Bool :=
  if free l = true ∧ (op = 1 ∨ op = 2) ∧ t.length ≤ c.msg then (move c { l with rest := frs c.frm op t, said := l.said ++ [(op, t)] }, true) else (l, false)
def ctlF (op : Int) (d : List Nat) : Fr := ⟨true, op, false, zero4, d⟩
def control (c : Cf) (l : Lg) (op : Int) (d : List Nat) : Lg := move c { l with ctl := l.ctl ++ [ctlF op d] }
def ping (c : Cf) (l : Lg) (d : List Nat) : Lg × Bool := if l.sent = true ∨ l.got = true ∨ l.wrong ≠ 0 ∨ 125 < d.length then (l, false) else (control c l 9 d, true)
def close (c : Cf) (l : Lg) (code : Int) (words : List Nat) : Lg × Bool :=
  if l.sent = true ∨ (putC code words).2 ≠ 0 then (l, false) else (control c { l with sent := true, rest := [], last := (putC code words).1 } 8 (putC code words).1, true)
def repl (d : List Nat) : List Fr → List Fr
  | [] => []
  | f :: l => if f.op = 10 then { f with data := d } :: l else f :: repl d l
def pong (c : Cf) (l : Lg) (d : List Nat) : Lg :=
  if l.sent = true then l else if l.ctl.any (fun f => decide (f.op = 10)) = true then move c { l with ctl := repl d l.ctl } else control c l 10 d
def fail (c : Cf) (l : Lg) (e : Nat) : Lg := (close c { l with wrong := e } (codeC (e : Int)) []).1
def react (c : Cf) (l : Lg) (x : Ev) : Lg :=
  if x.op = 9 then pong c l x.data else if x.op = 8 then (close c { l with got := true } (acrossC x.code) []).1 else l
def bound (c : Cf) : Nat := max c.msg 125
def came (c : Cf) (l : Lg) (b : List Nat) : Lg :=
  { l with buf := (if (all (l.buf ++ b) c.masked (bound c : Int)).2.1 = 0 then (l.buf ++ b).drop ((l.buf ++ b).length - (all (l.buf ++ b) c.masked (bound c : Int)).2.2) else []), serr := (all (l.buf ++ b) c.masked (bound c : Int)).2.1, ms := (MsgPlain.run (c.msg : Int) l.ms (all (l.buf ++ b) c.masked (bound c : Int)).1).1 }
def evs (c : Cf) (l : Lg) (b : List Nat) : List Ev := (MsgPlain.run (c.msg : Int) l.ms (all (l.buf ++ b) c.masked (bound c : Int)).1).2
def errs (c : Cf) (l : Lg) (b : List Nat) : Nat := if (came c l b).ms.err ≠ 0 then (came c l b).ms.err else if (came c l b).ms.over = true then 0 else (came c l b).serr
def feed (c : Cf) (l : Lg) (b : List Nat) : Lg × List Ev :=
  if l.got = true ∨ l.wrong ≠ 0 then (l, []) else
    (if errs c l b ≠ 0 then fail c ((evs c l b).foldl (react c) (came c l b)) (errs c l b) else (evs c l b).foldl (react c) (came c l b), (evs c l b).filter (fun x => decide (x.op ≠ 9)))
def takeN (c : Cf) (l : Lg) (n : Int) : Lg × List Nat :=
  (move c { l with gone := l.gone ++ l.ring.take n.toNat, ring := l.ring.drop n.toNat }, l.ring.take n.toNat)
def flat (c : Cf) (s : List (Int × List Nat)) : List (Bool × Int × List Nat) := s.flatMap fun m => (frs c.frm m.1 m.2).map core
def lastc (c : Cf) (s : List (Int × List Nat)) : List (Bool × Int × List Nat) := match s.getLast? with
  | none => []
  | some m => (frs c.frm m.1 m.2).map core
theorem flat_last (c : Cf) (s : List (Int × List Nat)) : flat c s.dropLast ++ lastc c s = flat c s := by
  rcases List.eq_nil_or_concat s with rfl | ⟨p, m, rfl⟩
  · rfl
  · unfold flat lastc
    rw [List.concat_eq_append, List.dropLast_concat, List.getLast?_append]
    simp
theorem lastc_snoc (c : Cf) (s : List (Int × List Nat)) (m : Int × List Nat) : lastc c (s ++ [m]) = (frs c.frm m.1 m.2).map core := by unfold lastc; rw [List.getLast?_append]; rfl
def NoE (l : List Fr) : Prop := ∀ f ∈ l, f.op ≠ 8
structure End (l : Lg) : Prop where
  no : l.sent = false → NoE l.hist ∧ NoE l.ctl
  rest : l.sent = true → l.rest = []
  yes : l.sent = true → (∃ p x, l.hist = p ++ [x] ∧ x.op = 8 ∧ x.data = l.last ∧ NoE p ∧ l.ctl = []) ∨ (∃ p x, l.ctl = p ++ [x] ∧ x.op = 8 ∧ x.data = l.last ∧ NoE p ∧ NoE l.hist)
theorem dress_op (c : Cf) (d : Nat) (f : Fr) : (dress c d f).op = f.op ∧ (dress c d f).data = f.data ∧ (dress c d f).fin = f.fin := by unfold dress; split <;> exact ⟨rfl, rfl, rfl⟩
theorem noe_snoc {l : List Fr} {f : Fr} (h : NoE l) (hf : f.op ≠ 8) : NoE (l ++ [f]) := fun g hg => by
  rcases List.mem_append.1 hg with hg | hg
  · exact h g hg
  · rw [List.mem_singleton] at hg; rw [hg]; exact hf
theorem mv_end (c : Cf) : ∀ (n : Nat) (l : Lg), (∀ f ∈ l.rest, IsR c.frm f) → End l → End (mv c n l)
  | 0, l, _, h => ⟨h.no, h.rest, h.yes⟩
  | n + 1, l, hR, h => by
    unfold mv
    by_cases ht : (fill c l).tail ≠ []
    · rw [if_pos ht]; exact ⟨h.no, h.rest, h.yes⟩
    · rw [if_neg ht]
      cases hc : l.ctl with
      | cons f cs =>
        refine mv_end c n _ hR ⟨fun hs => ?_, h.rest, fun hs => ?_⟩
        · obtain ⟨h1, h2⟩ := h.no hs
          rw [hc] at h2
          exact ⟨noe_snoc h1 (by rw [(dress_op _ _ _).1]; exact h2 f List.mem_cons_self), fun g hg => h2 g (List.mem_cons_of_mem _ hg)⟩
        · rcases h.yes hs with ⟨p, x, h1, h2, h3, h4, h5⟩ | ⟨p, x, h1, h2, h3, h4, h5⟩
          · rw [hc] at h5; cases h5
          · rw [hc] at h1
            cases p with
            | nil =>
              rw [List.nil_append] at h1
              injection h1 with e1 e2
              subst e1
              exact .inl ⟨l.hist, _, rfl, by rw [(dress_op _ _ _).1]; exact h2, by rw [(dress_op _ _ _).2.1]; exact h3, h5, e2⟩
            | cons g p =>
              rw [List.cons_append] at h1
              injection h1 with e1 e2
              subst e1
              exact .inr ⟨p, x, e2, h2, h3, fun g hg => h4 g (List.mem_cons_of_mem _ hg), noe_snoc h5 (by rw [(dress_op _ _ _).1]; exact h4 f List.mem_cons_self)⟩
      | nil =>
        cases hr : l.rest with
        | cons f r =>
          have hs : l.sent = false := by
            cases hs : l.sent with
            | false => rfl
            | true => have := h.rest hs; rw [hr] at this; cases this
          have hfr : IsR c.frm f := hR f (by rw [hr]; exact List.mem_cons_self)
          have hop : f.op ≠ 8 := by rcases hfr.op with e | e | e <;> omega
          refine mv_end c n _ (fun g hg => hR g (by rw [hr]; exact List.mem_cons_of_mem _ hg)) ⟨fun _ => ?_, fun hs' => ?_, fun hs' => ?_⟩
          · obtain ⟨h1, h2⟩ := h.no hs
            exact ⟨noe_snoc h1 (by rw [(dress_op _ _ _).1]; exact hop), h2⟩
          · exact absurd (show l.sent = true from hs') (by rw [hs]; decide)
          · exact absurd (show l.sent = true from hs') (by rw [hs]; decide)
        | nil => exact ⟨h.no, h.rest, h.yes⟩
def Dat (c : Cf) (l : Lg) : Prop := ∃ j, dat l.hist = flat c l.said.dropLast ++ (lastc c l.said).take j ∧ (l.sent = false → dat l.rest = (lastc c l.said).drop j)
theorem dat_rest {most : Nat} {l : List Fr} (h : ∀ f ∈ l, IsR most f) : dat l = l.map core := by
  unfold dat
  rw [List.filter_eq_self.2 (fun f hf => (h f hf).isD)]
theorem move_dat {c : Cf} {l : Lg} (hi : Inv c l) (he : End l) (h : Dat c l) : Dat c (move c l) := by
  obtain ⟨hi2, hs⟩ := move_inv hi
  obtain ⟨j, h1, h2⟩ := h
  obtain ⟨k, hk⟩ := hs.rest
  unfold Dat
  rw [hs.said, hs.sent]
  cases hsn : l.sent with
  | true =>
    have hr := he.rest hsn
    have hr2 : (move c l).rest = [] := by rw [hk, hr, List.drop_nil]
    refine ⟨j, ?_, fun e => (by cases e)⟩
    have hd := hs.dat
    have hz : dat [] = [] := rfl
    rw [hr, hr2, hz, List.append_nil, List.append_nil] at hd
    rw [hd]; exact h1
  | false =>
    have h2 := h2 hsn
    have hd := hs.dat
    have e1 : dat (move c l).rest = (lastc c l.said).drop (j + k) := by
      rw [hk, dat_rest (fun f hf => hi.rest f (List.mem_of_mem_drop hf)), List.map_drop, ← dat_rest hi.rest, h2, List.drop_drop]
    refine ⟨j + k, ?_, fun _ => e1⟩
    rw [e1, h1, h2, List.append_assoc, List.take_append_drop] at hd
    have hx : flat c l.said.dropLast ++ lastc c l.said = (flat c l.said.dropLast ++ (lastc c l.said).take (j + k)) ++ (lastc c l.said).drop (j + k) := by rw [List.append_assoc, List.take_append_drop]
    rw [hx] at hd
    exact List.append_cancel_right hd
structure Ok (c : Cf) (l : Lg) : Prop where
  inv : Inv c l
  set : Settled c l
  fin : End l
  dats : Dat c l
  said : ∀ m ∈ l.said, (m.1 = 1 ∨ m.1 = 2) ∧ m.2.length ≤ c.msg ∧ ∀ y ∈ m.2, y < 256
theorem ok_move {c : Cf} {l : Lg} (hi : Inv c l) (he : End l) (hd : Dat c l) (hs : ∀ m ∈ l.said, (m.1 = 1 ∨ m.1 = 2) ∧ m.2.length ≤ c.msg ∧ ∀ y ∈ m.2, y < 256) : Ok c (move c l) :=
  ⟨(move_inv hi).1, move_settled hi, mv_end c _ l hi.rest he, move_dat hi he hd, by rw [(move_inv hi).2.said]; exact hs⟩
theorem ok_zero (c : Cf) (d : Nat) : Ok c (L0 d) :=
  ⟨⟨rfl, fun f hf => absurd hf List.not_mem_nil, fun f hf => absurd hf List.not_mem_nil, fun f hf => absurd hf List.not_mem_nil, Nat.zero_le _⟩, ⟨fun h => absurd rfl h, fun _ => ⟨rfl, rfl⟩⟩, ⟨fun _ => ⟨fun f hf => absurd hf List.not_mem_nil, fun f hf => absurd hf List.not_mem_nil⟩, fun h => (by cases h), fun h => (by cases h)⟩, ⟨0, rfl, fun _ => rfl⟩, fun m hm => absurd hm List.not_mem_nil⟩
theorem ok_control {c : Cf} {l : Lg} (h : Ok c l) (hs : l.sent = false) (op : Int) (ho : op = 9 ∨ op = 10) (d : List Nat) (hd : d.length ≤ 125) (hsm : ∀ y ∈ d, y < 256) : Ok c (control c l op d) := by
  refine ok_move (l := { l with ctl := l.ctl ++ [ctlF op d] }) ⟨h.inv.bytes, h.inv.hist, fun f hf => ?_, h.inv.rest, h.inv.ring⟩ ⟨fun _ => ⟨(h.fin.no hs).1, noe_snoc (h.fin.no hs).2 (by show op ≠ 8; omega)⟩, fun e => absurd (show l.sent = true from e) (by rw [hs]; decide), fun e => absurd (show l.sent = true from e) (by rw [hs]; decide)⟩ h.dats h.said
  rcases List.mem_append.1 hf with hf | hf
  · exact h.inv.ctl f hf
  · rw [List.mem_singleton] at hf
    rw [hf]
    exact ⟨rfl, .inr ho, rfl, rfl, hd, hsm⟩
theorem ok_close {c : Cf} {l : Lg} (h : Ok c l) (code : Int) (words : List Nat) (hw : ∀ y ∈ words, y < 256) : Ok c (close c l code words).1 := by
  unfold close
  by_cases hc : l.sent = true ∨ (putC code words).2 ≠ 0
  · rw [if_pos hc]; exact h
  · rw [if_neg hc]
    have hs : l.sent = false := by
      cases e : l.sent with
      | false => rfl
      | true => exact absurd (.inl e) hc
    have hp : (putC code words).2 = 0 := Classical.byContradiction fun e => hc (.inr e)
    obtain ⟨s, hsd⟩ : ∃ s, (putC code words).1 = s := ⟨_, rfl⟩
    have hpc : putC code words = (s, 0) := by rw [← hsd, ← hp]
    have hlen := (ClosePlain.put_sizes hpc).1
    have hsm := ClosePlain.put_small hw hpc
    rw [hsd]
    refine ok_move (l := { { l with sent := true, rest := [], last := s } with ctl := l.ctl ++ [ctlF 8 s] }) ⟨h.inv.bytes, h.inv.hist, fun f hf => ?_, fun f hf => absurd hf List.not_mem_nil, h.inv.ring⟩ ⟨fun e => (by cases e), fun _ => rfl, fun _ => .inr ⟨l.ctl, ctlF 8 s, rfl, rfl, rfl, (h.fin.no hs).2, (h.fin.no hs).1⟩⟩ ?_ h.said
    · rcases List.mem_append.1 hf with hf | hf
      · exact h.inv.ctl f hf
      · rw [List.mem_singleton] at hf
        rw [hf]
        exact ⟨rfl, .inl rfl, rfl, rfl, hlen, hsm⟩
    · obtain ⟨j, h1, _⟩ := h.dats
      exact ⟨j, h1, fun e => (by cases e)⟩
theorem repl_mem {d : List Nat} : ∀ {l : List Fr} {f : Fr}, f ∈ repl d l → (∃ g ∈ l, g.op = 10 ∧ f = { g with data := d }) ∨ f ∈ l
  | g :: l, f, h => by
    unfold repl at h
    by_cases hg : g.op = 10
    · rw [if_pos hg] at h
      rcases List.mem_cons.1 h with h | h
      · exact .inl ⟨g, List.mem_cons_self, hg, h⟩
      · exact .inr (List.mem_cons_of_mem _ h)
    · rw [if_neg hg] at h
      rcases List.mem_cons.1 h with h | h
      · rw [h]; exact .inr List.mem_cons_self
      · rcases repl_mem h with ⟨x, h1, h2, h3⟩ | h1
        · exact .inl ⟨x, List.mem_cons_of_mem _ h1, h2, h3⟩
        · exact .inr (List.mem_cons_of_mem _ h1)
theorem ok_pong {c : Cf} {l : Lg} (h : Ok c l) (d : List Nat) (hd : d.length ≤ 125) (hsm : ∀ y ∈ d, y < 256) : Ok c (pong c l d) := by
  unfold pong
  by_cases hs1 : l.sent = true
  · rw [if_pos hs1]; exact h
  · rw [if_neg hs1]
    have hs : l.sent = false := by simpa using hs1
    by_cases hp : l.ctl.any (fun f => decide (f.op = 10)) = true
    · rw [if_pos hp]
      refine ok_move (l := { l with ctl := repl d l.ctl }) ⟨h.inv.bytes, h.inv.hist, fun f hf => ?_, h.inv.rest, h.inv.ring⟩ ⟨fun _ => ⟨(h.fin.no hs).1, fun f hf => ?_⟩, fun e => absurd (show l.sent = true from e) (by rw [hs]; decide), fun e => absurd (show l.sent = true from e) (by rw [hs]; decide)⟩ h.dats h.said
      · rcases repl_mem hf with ⟨g, h1, h2, rfl⟩ | h1
        · have := h.inv.ctl g h1
          exact ⟨this.fin, .inr (.inr h2), this.masked, this.key, hd, hsm⟩
        · exact h.inv.ctl f h1
      · rcases repl_mem hf with ⟨g, h1, h2, rfl⟩ | h1
        · show g.op ≠ 8; omega
        · exact (h.fin.no hs).2 f h1
    · rw [if_neg hp]
      exact ok_control h hs 10 (.inr rfl) d hd hsm
theorem ok_ping {c : Cf} {l : Lg} (h : Ok c l) (d : List Nat) (hsm : ∀ y ∈ d, y < 256) : Ok c (ping c l d).1 := by
  unfold ping
  by_cases hc : l.sent = true ∨ l.got = true ∨ l.wrong ≠ 0 ∨ 125 < d.length
  · rw [if_pos hc]; exact h
  · rw [if_neg hc]
    have hs : l.sent = false := by
      cases e : l.sent with
      | false => rfl
      | true => exact absurd (.inl e) hc
    exact ok_control h hs 9 (.inl rfl) d (by omega) hsm
theorem frs_isR {c : Cf} (hm : 1 ≤ c.frm) {op : Int} (ho : op = 1 ∨ op = 2) (t : List Nat) (hs : ∀ y ∈ t, y < 256) : ∀ f ∈ frs c.frm op t, IsR c.frm f := by
  have key : ∀ (n : Nat) (op : Int) (t : List Nat), t.length ≤ n → (op = 0 ∨ op = 1 ∨ op = 2) → (∀ y ∈ t, y < 256) → ∀ f ∈ frs c.frm op t, IsR c.frm f := by
    intro n
    induction n with
    | zero =>
      intro op t hn ho hs f hf
      rw [CutPlain.frs_last (by omega), List.mem_singleton] at hf
      rw [hf]
      exact ⟨ho, rfl, rfl, by show t.length ≤ _; omega, hs⟩
    | succ n ih =>
      intro op t hn ho hs f hf
      by_cases h : t.length ≤ c.frm
      · rw [CutPlain.frs_last h, List.mem_singleton] at hf
        rw [hf]
        exact ⟨ho, rfl, rfl, h, hs⟩
      · rw [CutPlain.frs_more hm h] at hf
        rcases List.mem_cons.1 hf with hf | hf
        · rw [hf]
          exact ⟨ho, rfl, rfl, by show (t.take c.frm).length ≤ _; rw [List.length_take]; omega, fun y hy => hs y (List.mem_of_mem_take hy)⟩
        · exact ih 0 (t.drop c.frm) (by rw [List.length_drop]; omega) (.inl rfl) (fun y hy => hs y (List.mem_of_mem_drop hy)) f hf
  exact key t.length op t (Nat.le_refl _) (.inr ho) hs
theorem ok_send {c : Cf} (hm : 1 ≤ c.frm) {l : Lg} (h : Ok c l) (op : Int) (t : List Nat) (hsm : ∀ y ∈ t, y < 256) : Ok c (send c l op t).1 := by
  unfold send
  by_cases hc : free l = true ∧ (op = 1 ∨ op = 2) ∧ t.length ≤ c.msg
  · rw [if_pos hc]
    obtain ⟨hf, ho, ht⟩ := hc
    unfold free at hf
    simp only [Bool.and_eq_true, Bool.not_eq_true', decide_eq_true_eq, List.isEmpty_iff] at hf
    obtain ⟨⟨⟨hs, _⟩, _⟩, hr⟩ := hf
    refine ok_move (l := { l with rest := frs c.frm op t, said := l.said ++ [(op, t)] }) ⟨h.inv.bytes, h.inv.hist, h.inv.ctl, frs_isR hm ho t hsm, h.inv.ring⟩ ⟨h.fin.no, fun e => absurd (show l.sent = true from e) (by rw [hs]; decide), fun e => absurd (show l.sent = true from e) (by rw [hs]; decide)⟩ ?_ (fun m hm2 => ?_)
    · obtain ⟨j, h1, h2⟩ := h.dats
      have h2 := h2 hs
      rw [hr] at h2
      have hz : (lastc c l.said).take j = lastc c l.said := by
        have := List.take_append_drop j (lastc c l.said)
        rw [← h2] at this
        simpa [dat] using this
      refine ⟨0, ?_, fun _ => ?_⟩
      · show dat l.hist = flat c (l.said ++ [(op, t)]).dropLast ++ _
        rw [List.dropLast_concat, List.take_zero, List.append_nil, h1, hz, flat_last]
      · show dat (frs c.frm op t) = (lastc c (l.said ++ [(op, t)])).drop 0
        rw [lastc_snoc, List.drop_zero, dat_rest (frs_isR hm ho t hsm)]
    · rcases List.mem_append.1 hm2 with hm2 | hm2
      · exact h.said m hm2
      · rw [List.mem_singleton] at hm2
        rw [hm2]
        exact ⟨ho, ht, hsm⟩
  · rw [if_neg hc]; exact h
theorem ok_take {c : Cf} {l : Lg} (h : Ok c l) (n : Int) : Ok c (takeN c l n).1 := by
  refine ok_move (l := { l with gone := l.gone ++ l.ring.take n.toNat, ring := l.ring.drop n.toNat }) ⟨?_, h.inv.hist, h.inv.ctl, h.inv.rest, ?_⟩ ⟨h.fin.no, h.fin.rest, h.fin.yes⟩ h.dats h.said
  · show l.gone ++ l.ring.take n.toNat ++ l.ring.drop n.toNat ++ l.tail = _
    rw [List.append_assoc l.gone, List.take_append_drop]; exact h.inv.bytes
  · show (l.ring.drop n.toNat).length ≤ _
    rw [List.length_drop]; have := h.inv.ring; omega
theorem ok_in {c : Cf} {l m : Lg} (h : Ok c l) (h1 : m.gone = l.gone ∧ m.ring = l.ring ∧ m.tail = l.tail ∧ m.hist = l.hist ∧ m.ctl = l.ctl ∧ m.rest = l.rest ∧ m.said = l.said ∧ m.last = l.last ∧ m.sent = l.sent) : Ok c m := by
  obtain ⟨e1, e2, e3, e4, e5, e6, e7, e8, e9⟩ := h1
  obtain ⟨g, r, t, hi, ct, re, sa, la, se, x1, x2, x3, x4, x5, x6⟩ := m
  simp only at e1 e2 e3 e4 e5 e6 e7 e8 e9
  subst e1 e2 e3 e4 e5 e6 e7 e8 e9
  exact ⟨⟨h.inv.bytes, h.inv.hist, h.inv.ctl, h.inv.rest, h.inv.ring⟩, h.set, ⟨h.fin.no, h.fin.rest, h.fin.yes⟩, h.dats, h.said⟩
theorem ok_react {c : Cf} {l : Lg} (h : Ok c l) (x : Ev) (hx : x.op = 9 → x.data.length ≤ 125) (hs : ∀ y ∈ x.data, y < 256) : Ok c (react c l x) := by
  unfold react
  by_cases h9 : x.op = 9
  · rw [if_pos h9]; exact ok_pong h x.data (hx h9) hs
  · rw [if_neg h9]
    by_cases h8 : x.op = 8
    · rw [if_pos h8]
      exact ok_close (ok_in (m := { l with got := true }) h ⟨rfl, rfl, rfl, rfl, rfl, rfl, rfl, rfl, rfl⟩) _ _ (fun y hy => absurd hy List.not_mem_nil)
    · rw [if_neg h8]; exact h
theorem ok_fold {c : Cf} : ∀ (xs : List Ev) {l : Lg}, Ok c l → (∀ x ∈ xs, (x.op = 9 → x.data.length ≤ 125) ∧ ∀ y ∈ x.data, y < 256) → Ok c (xs.foldl (react c) l)
  | [], _, h, _ => h
  | x :: xs, _, h, hx => ok_fold xs (ok_react h x (hx x List.mem_cons_self).1 (hx x List.mem_cons_self).2) (fun y hy => hx y (List.mem_cons_of_mem _ hy))
theorem ok_fail {c : Cf} {l : Lg} (h : Ok c l) (e : Nat) : Ok c (fail c l e) :=
  ok_close (ok_in (m := { l with wrong := e }) h ⟨rfl, rfl, rfl, rfl, rfl, rfl, rfl, rfl, rfl⟩) _ _ (fun y hy => absurd hy List.not_mem_nil)
theorem ok_feed {c : Cf} {l : Lg} (h : Ok c l) (b : List Nat) (hx : ∀ x ∈ evs c l b, (x.op = 9 → x.data.length ≤ 125) ∧ ∀ y ∈ x.data, y < 256) : Ok c (feed c l b).1 := by
  unfold feed
  by_cases hg : l.got = true ∨ l.wrong ≠ 0
  · rw [if_pos hg]; exact h
  · rw [if_neg hg]
    have h1 : Ok c (came c l b) := ok_in h ⟨rfl, rfl, rfl, rfl, rfl, rfl, rfl, rfl, rfl⟩
    have h2 := ok_fold (evs c l b) h1 hx
    show Ok c (if errs c l b ≠ 0 then _ else _)
    split
    · exact ok_fail h2 _
    · exact h2
end LegPlain
namespace LegPlain
open FramePlain (Fr Fr0 form ctl zero4 text headB lenB lenB_small lenB_low byte0_facts text_length)
open StreamPlain (one all all_append all_step one_text all_rest all_left)
open MsgPlain (Ev Ms M0 run run_append run_cons run_stop)
open ClosePlain (putC getC codeC acrossC valid)
theorem getD_small {l : List Nat} (h : ∀ y ∈ l, y < 256) (i : Nat) : l.getD i 0 < 256 := by
  rw [List.getD_eq_getElem?_getD]
  cases hi : l[i]? with
  | none => exact (by decide)
  | some y => exact h y (List.mem_of_getElem? hi)
theorem text_bytes {f : Fr} (h1 : form f = true) (hn : f.data.length ≤ 9223372036854775807) (hk : ∀ y ∈ f.key, y < 256) (hd : ∀ y ∈ f.data, y < 256) : ∀ y ∈ text f, y < 256 := by
  have hb := (byte0_facts h1).2.2.2.1
  have hl := lenB_small hn
  have hw := (lenB_low hn).1
  unfold text headB
  by_cases hm : f.masked = true
  · rw [if_pos hm, if_pos hm]
    intro x hx
    simp only [List.mem_append, List.mem_cons] at hx
    rcases hx with ((rfl | rfl | hx) | hx) | hx
    · exact hb
    · omega
    · exact hl x (List.mem_of_mem_drop hx)
    · exact hk x hx
    · exact MaskPlain.turn_lt _ _ _ hd (getD_small hk) x hx
  · rw [if_neg hm, if_neg hm]
    intro x hx
    simp only [List.mem_append, List.mem_cons] at hx
    rcases hx with (rfl | hx) | hx
    · exact hb
    · exact hl x hx
    · exact hd x hx
theorem IsO.small' {c : Cf} {f : Fr} (h : IsO c f) (hf : c.frm ≤ 65536) : ∀ y ∈ text f, y < 256 := text_bytes h.form (by have := h.len; omega) h.keys h.small
theorem all_out {c : Cf} (hf : c.frm ≤ 65536) : ∀ (fs : List Fr), (∀ f ∈ fs, IsO c f) → all (fs.flatMap text) (!c.masked) 65536 = (fs, 0, 0) ∧ ∀ y ∈ fs.flatMap text, y < 256
  | [], _ => ⟨rfl, fun y hy => absurd hy List.not_mem_nil⟩
  | f :: fs, h => by
    have hf1 := h f List.mem_cons_self
    obtain ⟨i1, i2⟩ := all_out hf fs (fun g hg => h g (List.mem_cons_of_mem _ hg))
    have hs : ∀ y ∈ (f :: fs).flatMap text, y < 256 := fun y hy => by
      rw [List.flatMap_cons] at hy
      rcases List.mem_append.1 hy with hy | hy
      · exact hf1.small' hf y hy
      · exact i2 y hy
    have hl := hf1.len
    have ho := one_text (most := 65536) hf1.form hf1.masked hf1.key (by omega) (by decide) (fs.flatMap text)
    refine ⟨?_, hs⟩
    rw [all_step _ _ _ hs, List.flatMap_cons, ho, if_neg (show ¬ (0 : Nat) = 90 by decide), if_neg (show ¬ (0 : Nat) ≠ 0 by decide)]
    show (f :: (all ((text f ++ fs.flatMap text).drop (FramePlain.size f)) (!c.masked) 65536).1, _) = _
    rw [show (text f ++ fs.flatMap text).drop (FramePlain.size f) = fs.flatMap text from by
      rw [← text_length f (by omega) hf1.key, List.drop_left], i1]
def Quiet (l : Lg) : Prop := l.ring = [] ∧ l.tail = [] ∧ l.ctl = [] ∧ l.rest = []
theorem quiet_of {c : Cf} {l : Lg} (h : Ok c l) (ho : 1 ≤ c.out) (hr : l.ring = []) : Quiet l := by
  have ht : l.tail = [] := Classical.byContradiction fun e => by
    have := h.set.1 e
    rw [hr] at this
    simp at this
    omega
  obtain ⟨h1, h2⟩ := h.set.2 ht
  exact ⟨hr, ht, h1, h2⟩
theorem said_all {c : Cf} {l : Lg} (hf : c.frm ≤ 65536) (h : Ok c l) (hq : Quiet l) : all l.gone (!c.masked) 65536 = (l.hist, 0, 0) := by
  have hb := h.inv.bytes
  rw [hq.1, hq.2.1, List.append_nil, List.append_nil] at hb
  rw [hb]
  exact (all_out hf l.hist h.inv.hist).1
theorem said_dat {c : Cf} {l : Lg} (h : Ok c l) (hq : Quiet l) : (l.sent = false → dat l.hist = flat c l.said) ∧ ∃ j, dat l.hist = flat c l.said.dropLast ++ (lastc c l.said).take j := by
  obtain ⟨j, h1, h2⟩ := h.dats
  refine ⟨fun hs => ?_, j, h1⟩
  have h3 := h2 hs
  rw [hq.2.2.2] at h3
  have hz : (lastc c l.said).take j = lastc c l.said := by
    have := List.take_append_drop j (lastc c l.said)
    rw [← h3] at this
    simpa [dat] using this
  rw [h1, hz, flat_last]
theorem said_end {c : Cf} {l : Lg} (h : Ok c l) (hq : Quiet l) : (l.sent = false → NoE l.hist) ∧ (l.sent = true → ∃ p x, l.hist = p ++ [x] ∧ x.op = 8 ∧ x.data = l.last ∧ NoE p) := by
  refine ⟨fun hs => (h.fin.no hs).1, fun hs => ?_⟩
  rcases h.fin.yes hs with ⟨p, x, h1, h2, h3, h4, _⟩ | ⟨p, x, h1, _⟩
  · exact ⟨p, x, h1, h2, h3, h4⟩
  · rw [hq.2.2.1] at h1; cases p <;> cases h1
structure Keep (l m : Lg) : Prop where
  got : m.got = l.got
  wrong : m.wrong = l.wrong
  buf : m.buf = l.buf
  serr : m.serr = l.serr
  ms : m.ms = l.ms
theorem mv_keep (c : Cf) : ∀ (n : Nat) (l : Lg), Keep l (mv c n l) ∧ (mv c n l).sent = l.sent ∧ (mv c n l).said = l.said ∧ (mv c n l).last = l.last
  | 0, l => ⟨⟨rfl, rfl, rfl, rfl, rfl⟩, rfl, rfl, rfl⟩
  | n + 1, l => by
    unfold mv
    split
    · exact ⟨⟨rfl, rfl, rfl, rfl, rfl⟩, rfl, rfl, rfl⟩
    · split
      · obtain ⟨k, h1, h2, h3⟩ := mv_keep c n (put c { fill c l with ctl := _ } _)
        exact ⟨⟨k.got, k.wrong, k.buf, k.serr, k.ms⟩, h1, h2, h3⟩
      · obtain ⟨k, h1, h2, h3⟩ := mv_keep c n (put c { fill c l with rest := _ } _)
        exact ⟨⟨k.got, k.wrong, k.buf, k.serr, k.ms⟩, h1, h2, h3⟩
      · exact ⟨⟨rfl, rfl, rfl, rfl, rfl⟩, rfl, rfl, rfl⟩
theorem control_keep (c : Cf) (l : Lg) (op : Int) (d : List Nat) : Keep l (control c l op d) ∧ (control c l op d).sent = l.sent ∧ (control c l op d).last = l.last := by
  obtain ⟨k, h1, _, h3⟩ := mv_keep c _ { l with ctl := l.ctl ++ [ctlF op d] }
  exact ⟨⟨k.got, k.wrong, k.buf, k.serr, k.ms⟩, h1, h3⟩
theorem pong_keep (c : Cf) (l : Lg) (d : List Nat) : Keep l (pong c l d) ∧ (pong c l d).sent = l.sent ∧ (pong c l d).last = l.last := by
  unfold pong
  split
  · exact ⟨⟨rfl, rfl, rfl, rfl, rfl⟩, rfl, rfl⟩
  · split
    · obtain ⟨k, h1, _, h3⟩ := mv_keep c _ { l with ctl := repl d l.ctl }
      exact ⟨⟨k.got, k.wrong, k.buf, k.serr, k.ms⟩, h1, h3⟩
    · exact control_keep c l 10 d
theorem close_keep (c : Cf) (l : Lg) (code : Int) (words : List Nat) : Keep l (close c l code words).1 := by
  unfold close
  split
  · exact ⟨rfl, rfl, rfl, rfl, rfl⟩
  · obtain ⟨k, _⟩ := control_keep c { l with sent := true, rest := [], last := (putC code words).1 } 8 (putC code words).1
    exact ⟨k.got, k.wrong, k.buf, k.serr, k.ms⟩
theorem close_sent (c : Cf) (l : Lg) (code : Int) (hc : code = 0 ∨ valid code = true) : (close c l code []).1.sent = true ∧ (l.sent = false → (close c l code []).1.last = (putC code []).1) := by
  have hp : (putC code []).2 = 0 := by
    rcases hc with rfl | hc
    · rfl
    · rw [ClosePlain.put_yes hc (Nat.zero_le _) rfl]
  unfold close
  by_cases hs : l.sent = true
  · rw [if_pos (.inl hs)]
    exact ⟨hs, fun e => absurd (e.symm.trans hs) (by decide)⟩
  · rw [if_neg (fun e => e.elim hs (fun e => e hp))]
    obtain ⟨_, h1, h2⟩ := control_keep c { l with sent := true, rest := [], last := (putC code []).1 } 8 (putC code []).1
    exact ⟨h1, fun _ => h2⟩
theorem react_keep (c : Cf) (l : Lg) (x : Ev) : (react c l x).wrong = l.wrong ∧ (react c l x).buf = l.buf ∧ (react c l x).serr = l.serr ∧ (react c l x).ms = l.ms ∧ (react c l x).got = (l.got || decide (x.op = 8)) ∧ (x.op ≠ 8 → (react c l x).sent = l.sent ∧ (react c l x).last = l.last) ∧ (x.op = 8 → (react c l x).sent = true ∧ (l.sent = false → (react c l x).last = (putC (acrossC x.code) []).1)) := by
  unfold react
  by_cases h9 : x.op = 9
  · rw [if_pos h9]
    obtain ⟨k, h1, h2⟩ := pong_keep c l x.data
    exact ⟨k.wrong, k.buf, k.serr, k.ms, by rw [k.got, h9]; simp, fun _ => ⟨h1, h2⟩, fun e => by omega⟩
  · rw [if_neg h9]
    by_cases h8 : x.op = 8
    · rw [if_pos h8]
      have k := close_keep c { l with got := true } (acrossC x.code) []
      have hv := close_sent c { l with got := true } (acrossC x.code) (ClosePlain.across_valid x.code)
      exact ⟨k.wrong, k.buf, k.serr, k.ms, by rw [k.got, h8]; simp, fun e => absurd h8 e, fun _ => hv⟩
    · rw [if_neg h8]
      exact ⟨rfl, rfl, rfl, rfl, by simp [h8], fun _ => ⟨rfl, rfl⟩, fun e => absurd e h8⟩
theorem fold_keep (c : Cf) : ∀ (xs : List Ev) (l : Lg), (xs.foldl (react c) l).wrong = l.wrong ∧ (xs.foldl (react c) l).buf = l.buf ∧ (xs.foldl (react c) l).serr = l.serr ∧ (xs.foldl (react c) l).ms = l.ms ∧ (xs.foldl (react c) l).got = (l.got || xs.any (fun x => decide (x.op = 8)))
  | [], l => ⟨rfl, rfl, rfl, rfl, by simp⟩
  | x :: xs, l => by
    obtain ⟨r1, r2, r3, r4, r5, _⟩ := react_keep c l x
    obtain ⟨i1, i2, i3, i4, i5⟩ := fold_keep c xs (react c l x)
    refine ⟨i1.trans r1, i2.trans r2, i3.trans r3, i4.trans r4, ?_⟩
    rw [List.foldl_cons, i5, r5, List.any_cons, Bool.or_assoc]
theorem step_over (most : Int) {st : Ms} (h0 : st.over = false) (h8 : st.begun = true → st.op ≠ 8) (f : Fr) : ((MsgPlain.step most st f).2.toList.any fun x => decide (x.op = 8)) = (MsgPlain.step most st f).1.over := by
  unfold MsgPlain.step
  by_cases a1 : form f = false
  · rw [if_pos a1]; rfl
  rw [if_neg a1]
  by_cases a2 : f.op = 9 ∨ f.op = 10
  · rw [if_pos a2]
    rcases a2 with e | e <;> simp [e, h0]
  rw [if_neg a2]
  by_cases a3 : f.op = 8
  · rw [if_pos a3]
    by_cases a4 : (getC f.data).2.2 = 0
    · rw [if_pos a4]; simp [MsgPlain.done]
    · rw [if_neg a4]; rfl
  rw [if_neg a3]
  by_cases a4 : decide (f.op = 0) ≠ st.begun
  · rw [if_pos a4]; rfl
  have hform : form f = true := by simpa using a1
  have hop : f.op = 0 ∨ f.op = 1 ∨ f.op = 2 := by
    rcases (FramePlain.form_cases hform).1 with h | h
    · omega
    · omega
  rw [if_neg a4]
  unfold MsgPlain.more
  by_cases a5 : most < ((st.text ++ f.data).length : Int)
  · rw [if_pos a5]; rfl
  rw [if_neg a5]
  obtain ⟨o, ho⟩ : ∃ o, (if st.begun = true then st.op else f.op) = o := ⟨_, rfl⟩
  have ho8 : o ≠ 8 := by
    rw [← ho]
    by_cases hb : st.begun = true
    · rw [if_pos hb]; exact h8 hb
    · rw [if_neg hb]; exact a3
  rw [ho]
  by_cases a6 : MsgPlain.okT o f.fin (st.text ++ f.data) = false
  · rw [if_pos a6]; rfl
  rw [if_neg a6]
  by_cases a7 : f.fin = true
  · rw [if_pos a7]; simp [ho8, M0]
  · rw [if_neg a7]; rfl
theorem run_over {most : Int} (hm : 0 ≤ most) : ∀ (fs : List Fr) {st : Ms}, MsgPlain.Fit most st → st.err = 0 → st.over = false → (∀ f ∈ fs, ∀ y ∈ f.data, y < 256) → ((run most st fs).2.any fun x => decide (x.op = 8)) = (run most st fs).1.over
  | [], st, _, _, h0, _ => by show false = st.over; exact h0.symm
  | f :: fs, st, hf, he, h0, hs => by
    rw [run_cons, List.any_append]
    have hst : MsgPlain.take most st f = MsgPlain.step most st f := MsgPlain.take_go most he h0 f
    have h1 := step_over most h0 (fun hb => by rcases hf.op hb with e | e <;> omega) f
    have hf2 := MsgPlain.fit_take hm (f := f) hf (hs f List.mem_cons_self)
    rw [hst] at hf2 ⊢
    show (((MsgPlain.step most st f).2.toList.any fun x => decide (x.op = 8)) || _) = (run most (MsgPlain.step most st f).1 fs).1.over
    rw [h1]
    by_cases hx : (MsgPlain.step most st f).1.err ≠ 0 ∨ (MsgPlain.step most st f).1.over = true
    · rw [run_stop most hx]; simp
    · have he2 : (MsgPlain.step most st f).1.err = 0 := Classical.byContradiction fun e => hx (.inl e)
      have ho2 : (MsgPlain.step most st f).1.over = false := by simpa using fun e => hx (.inr e)
      rw [ho2, Bool.false_or]
      exact run_over hm fs hf2 he2 ho2 (fun g hg => hs g (List.mem_cons_of_mem _ hg))
theorem fold_sent (c : Cf) : ∀ (xs : List Ev) (l : Lg), (xs.foldl (react c) l).sent = (l.sent || xs.any (fun x => decide (x.op = 8))) ∧ (l.sent = false → (xs.foldl (react c) l).sent = true → ∃ k, (xs.foldl (react c) l).last = (putC (acrossC k) []).1) ∧ (l.sent = true → (∀ x ∈ xs, x.op = 8 → True) → (xs.foldl (react c) l).sent = true)
  | [], l => ⟨by simp, fun h1 h2 => absurd (h1.symm.trans h2) (by decide), fun h _ => h⟩
  | x :: xs, l => by
    obtain ⟨_, _, _, _, _, r6, r7⟩ := react_keep c l x
    obtain ⟨i1, i2, i3⟩ := fold_sent c xs (react c l x)
    by_cases h8 : x.op = 8
    · obtain ⟨s1, s2⟩ := r7 h8
      have hsent : (xs.foldl (react c) (react c l x)).sent = true := by rw [i1, s1, Bool.true_or]
      refine ⟨by rw [List.foldl_cons, hsent]; simp [h8], fun h1 _ => ?_, fun _ _ => hsent⟩
      have hl := fold_last c xs (react c l x) s1
      exact ⟨x.code, by rw [List.foldl_cons, hl, s2 h1]⟩
    · obtain ⟨s1, s2⟩ := r6 h8
      refine ⟨by rw [List.foldl_cons, i1, s1]; simp [h8], fun h1 h2 => ?_, fun h1 _ => by rw [List.foldl_cons, i1, s1, h1, Bool.true_or]⟩
      exact i2 (by rw [s1]; exact h1) h2
where
  fold_last (c : Cf) : ∀ (xs : List Ev) (l : Lg), l.sent = true → (xs.foldl (react c) l).last = l.last
    | [], _, _ => rfl
    | x :: xs, l, h => by
      have hr : react c l x = l ∨ react c l x = { l with got := true } := by
        unfold react
        split
        · unfold pong; rw [if_pos h]; exact .inl rfl
        · split
          · unfold close; rw [if_pos (.inl h)]; exact .inr rfl
          · exact .inl rfl
      rcases hr with e | e
      · rw [List.foldl_cons, e]; exact fold_last c xs l h
      · rw [List.foldl_cons, e]; exact fold_last c xs { l with got := true } h
structure Reads (c : Cf) (l : Lg) : Prop where
  got : l.got = false
  wrong : l.wrong = 0
  serr : l.serr = 0
  err : l.ms.err = 0
  over : l.ms.over = false
  fit : MsgPlain.Fit (c.msg : Int) l.ms
  left : (one l.buf c.masked (bound c : Int)).2.2 = 90
  small : ∀ y ∈ l.buf, y < 256
theorem reads_zero (c : Cf) (d : Nat) : Reads c (L0 d) := ⟨rfl, rfl, rfl, rfl, rfl, MsgPlain.fit0 (by omega), rfl, fun y hy => absurd hy List.not_mem_nil⟩
theorem all_small (masked : Bool) (most : Int) : ∀ (k : Nat) (s : List Nat), s.length ≤ k → (∀ y ∈ s, y < 256) → ∀ f ∈ (all s masked most).1, ∀ y ∈ f.data, y < 256
  | 0, s, h, hs, f, hf => by
    obtain rfl : s = [] := List.eq_nil_of_length_eq_zero (by omega)
    exact absurd hf List.not_mem_nil
  | k + 1, s, h, hs, f, hf => by
    by_cases h1 : (one s masked most).2.2 = 90
    · rw [all_step s masked most hs, if_pos h1] at hf; exact absurd hf List.not_mem_nil
    by_cases h2 : (one s masked most).2.2 ≠ 0
    · rw [all_step s masked most hs, if_neg h1, if_pos h2] at hf; exact absurd hf List.not_mem_nil
    rw [all_step s masked most hs, if_neg h1, if_neg h2] at hf
    have h0 : (one s masked most).2.2 = 0 := Classical.byContradiction h2
    have hl := StreamPlain.one_len hs h0
    rcases List.mem_cons.1 hf with hf | hf
    · obtain ⟨⟨g, n, e⟩, ho⟩ : ∃ r, one s masked most = r := ⟨_, rfl⟩
      rw [ho] at h0 hf
      simp only at h0
      subst h0
      have hg := FramePlain.get_ok hs (StreamPlain.one_ok ho).1
      rw [hf]
      exact hg.2.2.2.2.2.2.1
    · exact all_small masked most k (s.drop (one s masked most).2.1) (by rw [List.length_drop]; omega) (fun y hy => hs y (List.mem_of_mem_drop hy)) f hf
theorem feed_in {c : Cf} {l : Lg} (h : Reads c l) (b : List Nat) (hb : ∀ y ∈ b, y < 256) :
    (feed c l b).1.got = (came c l b).ms.over ∧ (feed c l b).1.wrong = errs c l b ∧ (feed c l b).1.buf = (came c l b).buf ∧ (feed c l b).1.serr = (came c l b).serr ∧ (feed c l b).1.ms = (came c l b).ms ∧ (feed c l b).2 = (evs c l b).filter (fun x => decide (x.op ≠ 9)) ∧
    (feed c l b).1.sent = (l.sent || (came c l b).ms.over || decide (errs c l b ≠ 0)) ∧ MsgPlain.Fit (c.msg : Int) (came c l b).ms := by
  have hs : ∀ y ∈ l.buf ++ b, y < 256 := fun y hy => by
    rcases List.mem_append.1 hy with hy | hy
    · exact h.small y hy
    · exact hb y hy
  have hfr := all_small c.masked (bound c : Int) _ (l.buf ++ b) (Nat.le_refl _) hs
  have hov : (evs c l b).any (fun x => decide (x.op = 8)) = (came c l b).ms.over := run_over (by omega) _ h.fit h.err h.over hfr
  have hfit : MsgPlain.Fit (c.msg : Int) (came c l b).ms := MsgPlain.fit_run (by omega) _ h.fit hfr
  obtain ⟨k1, k2, k3, k4, k5⟩ := fold_keep c (evs c l b) (came c l b)
  obtain ⟨s1, _, _⟩ := fold_sent c (evs c l b) (came c l b)
  have hgo : ¬ (l.got = true ∨ l.wrong ≠ 0) := fun e => by
    rcases e with e | e
    · rw [h.got] at e; cases e
    · exact e h.wrong
  have hg2 : ((evs c l b).foldl (react c) (came c l b)).got = (came c l b).ms.over := by rw [k5, hov]; show (l.got || _) = _; rw [h.got, Bool.false_or]
  have hs2 : ((evs c l b).foldl (react c) (came c l b)).sent = (l.sent || (came c l b).ms.over) := by rw [s1, hov]; rfl
  have hw2 : ((evs c l b).foldl (react c) (came c l b)).wrong = 0 := k1.trans h.wrong
  unfold feed
  rw [if_neg hgo]
  by_cases he : errs c l b ≠ 0
  · have k := close_keep c { (evs c l b).foldl (react c) (came c l b) with wrong := errs c l b } (codeC (errs c l b : Int)) []
    have hv := (close_sent c { (evs c l b).foldl (react c) (came c l b) with wrong := errs c l b } (codeC (errs c l b : Int)) (.inr (ClosePlain.code_valid _))).1
    simp only [if_pos he]
    exact ⟨k.got.trans hg2, k.wrong, k.buf.trans k2, k.serr.trans k3, k.ms.trans k4, trivial, by unfold fail; rw [hv, decide_eq_true he, Bool.or_true], hfit⟩
  · simp only [if_neg he]
    have he0 : errs c l b = 0 := Classical.byContradiction he
    exact ⟨hg2, hw2.trans he0.symm, k2, k3, k4, trivial, by rw [hs2, decide_eq_false he, Bool.or_false], hfit⟩
theorem feed_reads {c : Cf} {l : Lg} (h : Reads c l) (b : List Nat) (hb : ∀ y ∈ b, y < 256) (he : errs c l b = 0) (ho : (came c l b).ms.over = false) : Reads c (feed c l b).1 := by
  obtain ⟨f1, f2, f3, f4, f5, _, _, f8⟩ := feed_in h b hb
  have hs : ∀ y ∈ l.buf ++ b, y < 256 := fun y hy => by
    rcases List.mem_append.1 hy with hy | hy
    · exact h.small y hy
    · exact hb y hy
  have hme : (came c l b).ms.err = 0 := Classical.byContradiction fun e => by
    unfold errs at he
    rw [if_pos e] at he
    exact e he
  have hse : (came c l b).serr = 0 := by
    unfold errs at he
    rwa [if_neg (fun e => e hme), if_neg (by rw [ho]; decide)] at he
  have hse2 : (all (l.buf ++ b) c.masked (bound c : Int)).2.1 = 0 := hse
  have hbuf : (came c l b).buf = (l.buf ++ b).drop ((l.buf ++ b).length - (all (l.buf ++ b) c.masked (bound c : Int)).2.2) := by show (if _ then _ else _) = _; rw [if_pos hse2]
  refine ⟨f1.trans ho, f2.trans he, f4.trans hse, by rw [f5]; exact hme, by rw [f5]; exact ho, by rw [f5]; exact f8, ?_, ?_⟩
  · rw [f3, hbuf]; exact all_rest c.masked (bound c : Int) _ _ (Nat.le_refl _) hs hse2
  · rw [f3, hbuf]; exact fun y hy => hs y (List.mem_of_mem_drop hy)
theorem feed_stop {c : Cf} {l : Lg} (b : List Nat) (h : l.got = true ∨ l.wrong ≠ 0) : feed c l b = (l, []) := by
  unfold feed
  rw [if_pos h]
theorem feed_two {c : Cf} {l : Lg} (h : Reads c l) (a b : List Nat) (ha : ∀ y ∈ a, y < 256) (hb : ∀ y ∈ b, y < 256) :
    (feed c l (a ++ b)).2 = (feed c l a).2 ++ (feed c (feed c l a).1 b).2 ∧ (feed c l (a ++ b)).1.wrong = (feed c (feed c l a).1 b).1.wrong ∧ (feed c l (a ++ b)).1.got = (feed c (feed c l a).1 b).1.got := by
  have hab : ∀ y ∈ a ++ b, y < 256 := fun y hy => by
    rcases List.mem_append.1 hy with hy | hy
    · exact ha y hy
    · exact hb y hy
  have hs : ∀ y ∈ l.buf ++ a, y < 256 := fun y hy => by
    rcases List.mem_append.1 hy with hy | hy
    · exact h.small y hy
    · exact ha y hy
  obtain ⟨p1, p2, p3, p4, p5, p6, _, _⟩ := feed_in h a ha
  obtain ⟨q1, q2, _, _, _, q6, _, _⟩ := feed_in h (a ++ b) hab
  have hall := all_append c.masked (bound c : Int) b hb _ (l.buf ++ a) (Nat.le_refl _) hs
  rw [List.append_assoc] at hall
  have stop : (came c l (a ++ b)).ms = (came c l a).ms → evs c l (a ++ b) = evs c l a → errs c l (a ++ b) = errs c l a → ((came c l a).ms.over = true ∨ errs c l a ≠ 0) →
      (feed c l (a ++ b)).2 = (feed c l a).2 ++ (feed c (feed c l a).1 b).2 ∧ (feed c l (a ++ b)).1.wrong = (feed c (feed c l a).1 b).1.wrong ∧ (feed c l (a ++ b)).1.got = (feed c (feed c l a).1 b).1.got := fun e1 e2 e3 e4 => by
    have hst : (feed c l a).1.got = true ∨ (feed c l a).1.wrong ≠ 0 := by
      rcases e4 with e4 | e4
      · exact .inl (p1.trans e4)
      · exact .inr (by rw [p2]; exact e4)
    have hno : feed c (feed c l a).1 b = ((feed c l a).1, []) := feed_stop b hst
    rw [hno, q6, p6, e2, List.append_nil, q2, p2, e3, q1, p1, e1]
    exact ⟨rfl, rfl, rfl⟩
  by_cases hsa : (all (l.buf ++ a) c.masked (bound c : Int)).2.1 = 0
  · rw [if_pos hsa] at hall
    have hev : evs c l (a ++ b) = evs c l a ++ (run (c.msg : Int) (came c l a).ms (all ((l.buf ++ a).drop ((l.buf ++ a).length - (all (l.buf ++ a) c.masked (bound c : Int)).2.2) ++ b) c.masked (bound c : Int)).1).2 := by
      unfold evs
      rw [hall, run_append]; rfl
    have hms : (came c l (a ++ b)).ms = (run (c.msg : Int) (came c l a).ms (all ((l.buf ++ a).drop ((l.buf ++ a).length - (all (l.buf ++ a) c.masked (bound c : Int)).2.2) ++ b) c.masked (bound c : Int)).1).1 := by
      show (run _ _ _).1 = _
      rw [hall, run_append]; rfl
    by_cases hx : (came c l a).ms.err ≠ 0 ∨ (came c l a).ms.over = true
    · rw [run_stop _ hx] at hev hms
      refine stop hms (by rw [hev, List.append_nil]) ?_ ?_
      · unfold errs
        rw [hms]
        rcases hx with hx | hx
        · rw [if_pos hx, if_pos hx]
        · by_cases hy : (came c l a).ms.err ≠ 0
          · rw [if_pos hy, if_pos hy]
          · rw [if_neg hy, if_neg hy, if_pos hx, if_pos hx]
      · rcases hx with hx | hx
        · refine .inr ?_
          unfold errs; rw [if_pos hx]; exact hx
        · exact .inl hx
    · have he0 : (came c l a).ms.err = 0 := Classical.byContradiction fun e => hx (.inl e)
      have ho0 : (came c l a).ms.over = false := by simpa using fun e => hx (.inr e)
      have her : errs c l a = 0 := by
        unfold errs
        rw [if_neg (fun e => e he0), if_neg (by rw [ho0]; decide)]
        exact hsa
      have hr := feed_reads h a ha her ho0
      obtain ⟨r1, r2, _, _, _, r6, _, _⟩ := feed_in hr b hb
      have hbuf : (feed c l a).1.buf = (l.buf ++ a).drop ((l.buf ++ a).length - (all (l.buf ++ a) c.masked (bound c : Int)).2.2) := by
        rw [p3]; show (if _ then _ else _) = _; rw [if_pos hsa]
      have e1 : evs c (feed c l a).1 b = (run (c.msg : Int) (came c l a).ms (all ((l.buf ++ a).drop ((l.buf ++ a).length - (all (l.buf ++ a) c.masked (bound c : Int)).2.2) ++ b) c.masked (bound c : Int)).1).2 := by
        unfold evs; rw [hbuf, p5]
      have e2 : (came c (feed c l a).1 b).ms = (came c l (a ++ b)).ms := by
        rw [hms]; show (run _ _ _).1 = _; rw [hbuf, p5]
      have e3 : (came c (feed c l a).1 b).serr = (came c l (a ++ b)).serr := by
        show (all ((feed c l a).1.buf ++ b) _ _).2.1 = (all (l.buf ++ (a ++ b)) _ _).2.1
        rw [hbuf, hall]
      have e4 : errs c (feed c l a).1 b = errs c l (a ++ b) := by unfold errs; rw [e2, e3]
      rw [q6, p6, r6, hev, List.filter_append, e1, q2, r2, e4, q1, r1, e2]
      exact ⟨rfl, rfl, rfl⟩
  · rw [if_neg hsa] at hall
    have hms : (came c l (a ++ b)).ms = (came c l a).ms := by
      show (run _ _ _).1 = (run _ _ _).1
      rw [hall]
    have hse : (came c l (a ++ b)).serr = (came c l a).serr := by
      show (all (l.buf ++ (a ++ b)) _ _).2.1 = _
      rw [hall]; rfl
    refine stop hms (by unfold evs; rw [hall]) (by unfold errs; rw [hms, hse]) ?_
    by_cases ho : (came c l a).ms.over = true
    · exact .inl ho
    · refine .inr ?_
      unfold errs
      by_cases hy : (came c l a).ms.err ≠ 0
      · rw [if_pos hy]; exact hy
      · rw [if_neg hy, if_neg ho]; exact hsa
end LegPlain
namespace LegPlain
open FramePlain (Fr Fr0 form ctl zero4 text size text_length)
open StreamPlain (one all all_append all_step one_text all_rest all_left one_err)
open MsgPlain (Ev Ms M0 run run_append run_cons run_stop bad)
open CutPlain (frs)
open ClosePlain (putC getC codeC acrossC valid)
def wt (f : Fr) : Nat := 14 + f.data.length
def wts (l : List Fr) : Nat := (l.map wt).sum
theorem wts_cons (f : Fr) (l : List Fr) : wts (f :: l) = wt f + wts l := rfl
theorem wts_append (a b : List Fr) : wts (a ++ b) = wts a + wts b := by simp [wts]
theorem wts_le {k : Nat} : ∀ (l : List Fr), (∀ f ∈ l, f.data.length ≤ k) → wts l ≤ l.length * (14 + k)
  | [], _ => Nat.zero_le _
  | f :: l, h => by
    have h1 := h f List.mem_cons_self
    have h2 := wts_le l (fun g hg => h g (List.mem_cons_of_mem _ hg))
    rw [wts_cons, List.length_cons, Nat.succ_mul]
    unfold wt
    omega
theorem size_le (f : Fr) : size f ≤ 14 + f.data.length := by
  unfold size
  repeat' split
  all_goals omega
def pend (l : Lg) : Nat := l.ring.length + l.tail.length + wts l.ctl + wts l.rest
theorem fill_pend (c : Cf) (l : Lg) : (fill c l).ring.length + (fill c l).tail.length = l.ring.length + l.tail.length := by
  show (l.ring ++ l.tail.take _).length + (l.tail.drop _).length = _
  rw [List.length_append, List.length_take, List.length_drop]
  omega
theorem fill_tail (c : Cf) (l : Lg) : (fill c l).tail.length ≤ l.tail.length := by
  show (l.tail.drop _).length ≤ _
  rw [List.length_drop]; omega
theorem out_len {c : Cf} {f : Fr} (h : IsO c f) (hf : c.frm ≤ 65536) : (text f).length ≤ 14 + f.data.length := by
  rw [text_length f (by have := h.len; omega) h.key]
  exact size_le f
theorem mv_pend (c : Cf) (hf : c.frm ≤ 65536) (T : Nat) (hT : 14 + max c.frm 125 ≤ T) : ∀ (n : Nat) (l : Lg), (∀ f ∈ l.ctl, IsC f) → (∀ f ∈ l.rest, IsR c.frm f) → l.tail.length ≤ T →
    pend (mv c n l) ≤ pend l ∧ (mv c n l).tail.length ≤ T ∧ ∃ k, (mv c n l).ctl = l.ctl.drop k
  | 0, l, _, _, h => ⟨by have := fill_pend c l; show (fill c l).ring.length + (fill c l).tail.length + wts l.ctl + wts l.rest ≤ l.ring.length + l.tail.length + wts l.ctl + wts l.rest; omega, Nat.le_trans (fill_tail c l) h, 0, rfl⟩
  | n + 1, l, hC, hR, h => by
    have hfp := fill_pend c l
    have hft := fill_tail c l
    have stop : pend (fill c l) ≤ pend l ∧ (fill c l).tail.length ≤ T ∧ ∃ k, (fill c l).ctl = l.ctl.drop k := ⟨by show (fill c l).ring.length + _ + wts l.ctl + wts l.rest ≤ l.ring.length + _ + wts l.ctl + wts l.rest; omega, by omega, 0, rfl⟩
    unfold mv
    by_cases ht : (fill c l).tail ≠ []
    · rw [if_pos ht]; exact stop
    · rw [if_neg ht]
      have ht' : (fill c l).tail = [] := Classical.byContradiction ht
      rw [ht'] at hfp
      cases hc : l.ctl with
      | cons f cs =>
        have hfc : IsC f := hC f (by rw [hc]; exact List.mem_cons_self)
        have ho := hfc.out (c := c) (draws c (fill c l).draw)
        have hl := out_len ho hf
        rw [(dress_op _ _ _).2.1] at hl
        have := hfc.len
        obtain ⟨i1, i2, k, i3⟩ := mv_pend c hf T hT n (put c { fill c l with ctl := cs } f) (fun g hg => hC g (by rw [hc]; exact List.mem_cons_of_mem _ hg)) hR (by show (text _).length ≤ T; exact Nat.le_trans hl (by omega))
        refine ⟨Nat.le_trans i1 ?_, i2, k + 1, by rw [List.drop_succ_cons]; exact i3⟩
        show (fill c l).ring.length + (text _).length + wts cs + wts l.rest ≤ l.ring.length + l.tail.length + wts l.ctl + wts l.rest
        rw [hc, wts_cons]
        unfold wt
        have hl' : (text (dress c (draws c (fill c l).draw) f)).length ≤ 14 + f.data.length := hl
        simp only [List.length_nil, Nat.add_zero] at hfp
        show (fill c l).ring.length + (text (dress c (draws c (fill c l).draw) f)).length + wts cs + wts l.rest ≤ _
        omega
      | nil =>
        cases hr : l.rest with
        | cons f r =>
          have hfr : IsR c.frm f := hR f (by rw [hr]; exact List.mem_cons_self)
          have ho := hfr.out (c := c) (draws c (fill c l).draw)
          have hl := out_len ho hf
          rw [(dress_op _ _ _).2.1] at hl
          have := hfr.len
          obtain ⟨i1, i2, k, i3⟩ := mv_pend c hf T hT n (put c { fill c l with rest := r } f) hC (fun g hg => hR g (by rw [hr]; exact List.mem_cons_of_mem _ hg)) (by show (text _).length ≤ T; exact Nat.le_trans hl (by omega))
          refine ⟨Nat.le_trans i1 ?_, i2, k, i3.trans (by show l.ctl.drop k = _; rw [hc])⟩
          have hl' : (text (dress c (draws c (fill c l).draw) f)).length ≤ 14 + f.data.length := hl
          simp only [List.length_nil, Nat.add_zero] at hfp
          show (fill c l).ring.length + (text (dress c (draws c (fill c l).draw) f)).length + wts l.ctl + wts r ≤ l.ring.length + l.tail.length + wts l.ctl + wts l.rest
          rw [hr, wts_cons]
          unfold wt
          omega
        | nil => exact ⟨stop.1, stop.2.1, 0, by show l.ctl = _; rw [hc]; rfl⟩
structure Low (c : Cf) (l : Lg) : Prop where
  tail : l.tail.length ≤ 14 + max c.frm 125
  ctl : ∀ f ∈ l.ctl, IsC f
  rest : ∀ f ∈ l.rest, IsR c.frm f
  ring : l.ring.length ≤ c.out
theorem low_of {c : Cf} {l : Lg} (h : Ok c l) (ht : l.tail.length ≤ 14 + max c.frm 125) : Low c l := ⟨ht, h.inv.ctl, h.inv.rest, h.inv.ring⟩
theorem move_low {c : Cf} (hf : c.frm ≤ 65536) {l : Lg} (hC : ∀ f ∈ l.ctl, IsC f) (hR : ∀ f ∈ l.rest, IsR c.frm f) (ht : l.tail.length ≤ 14 + max c.frm 125) : pend (move c l) ≤ pend l ∧ (move c l).tail.length ≤ 14 + max c.frm 125 ∧ ∃ k, (move c l).ctl = l.ctl.drop k := mv_pend c hf _ (Nat.le_refl _) _ l hC hR ht
theorem take_pend {c : Cf} (hf : c.frm ≤ 65536) {l : Lg} (h : Low c l) {n : Int} (hn : 1 ≤ n) : (l.ring ≠ [] → pend (takeN c l n).1 + 1 ≤ pend l) ∧ pend (takeN c l n).1 ≤ pend l ∧ (takeN c l n).1.tail.length ≤ 14 + max c.frm 125 := by
  obtain ⟨h1, h2, _⟩ := move_low hf (l := { l with gone := l.gone ++ l.ring.take n.toNat, ring := l.ring.drop n.toNat }) h.ctl h.rest h.tail
  have hp : pend { l with gone := l.gone ++ l.ring.take n.toNat, ring := l.ring.drop n.toNat } = l.ring.length - n.toNat + l.tail.length + wts l.ctl + wts l.rest := by
    show (l.ring.drop n.toNat).length + _ + _ + _ = _
    rw [List.length_drop]
  have hq : pend l = l.ring.length + l.tail.length + wts l.ctl + wts l.rest := rfl
  refine ⟨fun hr => ?_, ?_, h2⟩
  · have : 0 < l.ring.length := List.length_pos_iff.2 hr
    show pend (move c _) + 1 ≤ _
    omega
  · show pend (move c _) ≤ _
    omega
theorem quiet_pend {l : Lg} (h : pend l = 0) : Quiet l := by
  unfold pend at h
  have h3 : wts l.ctl = 0 := by omega
  have h4 : wts l.rest = 0 := by omega
  have z : ∀ (l : List Fr), wts l = 0 → l = [] := fun l h => by
    cases l with
    | nil => rfl
    | cons f l => rw [wts_cons] at h; unfold wt at h; omega
  exact ⟨List.eq_nil_of_length_eq_zero (by omega), List.eq_nil_of_length_eq_zero (by omega), z _ h3, z _ h4⟩
theorem take_round {c : Cf} (hf : c.frm ≤ 65536) (ho : 1 ≤ c.out) {l : Lg} (h : Ok c l) (ht : l.tail.length ≤ 14 + max c.frm 125) (hq : ¬ Quiet l) {n : Int} (hn : 1 ≤ n) : Ok c (takeN c l n).1 ∧ (takeN c l n).1.tail.length ≤ 14 + max c.frm 125 ∧ pend (takeN c l n).1 + 1 ≤ pend l := by
  obtain ⟨h1, _, h3⟩ := take_pend hf (low_of h ht) hn
  exact ⟨ok_take h n, h3, h1 (fun e => hq (quiet_of h ho e))⟩
theorem getL_low (xs : List Nat) : (MaskPlain.getL xs).2.1 ≤ 9 ∧ ((MaskPlain.getL xs).2.2 = 80 → xs.length ≤ 8) := by
  cases xs with
  | nil => exact ⟨by decide, fun _ => by decide⟩
  | cons x xs =>
    rw [MaskPlain.getL]
    split
    · exact ⟨by simp, fun h => by simp at h⟩
    split
    · split
      · exact ⟨by simp, fun _ => by simp; omega⟩
      split
      · exact ⟨by simp, fun h => by simp at h⟩
      · exact ⟨by simp, fun h => by simp at h⟩
    split
    · exact ⟨by simp, fun h => by simp at h⟩
    split
    · exact ⟨by simp, fun h => by simp at h⟩
    split
    · exact ⟨by simp, fun _ => by simp; omega⟩
    · exact ⟨by simp, fun h => by simp at h⟩
theorem keep_le {s : List Nat} {masked : Bool} {most : Int} (hm : 0 ≤ most) (h : (one s masked most).2.2 = 90) : (s.length : Int) ≤ 13 + most := by
  cases s with
  | nil => simp; omega
  | cons x xs =>
    rw [StreamPlain.one_cons] at h
    by_cases h1 : FramePlain.bad x = true
    · rw [if_pos h1] at h; exact absurd h (by decide)
    rw [if_neg h1] at h
    by_cases h2 : 0 < xs.length ∧ decide (128 ≤ xs.getD 0 0) ≠ masked
    · rw [if_pos h2] at h; exact absurd h (by decide)
    rw [if_neg h2, StreamPlain.get_cons, if_neg h1] at h
    obtain ⟨k1, k2⟩ := getL_low xs
    by_cases h3 : 0 < xs.length ∧ 8 ≤ x % 16 ∧ 125 < xs.getD 0 0 % 128
    · rw [if_pos h3] at h; exact absurd h (by decide)
    rw [if_neg h3] at h
    by_cases h4 : (MaskPlain.getL xs).2.2 = 81
    · rw [if_pos h4] at h; exact absurd h (by decide)
    rw [if_neg h4] at h
    by_cases h5 : (MaskPlain.getL xs).2.2 = 80
    · have := k2 h5
      simp; omega
    rw [if_neg h5] at h
    by_cases h6 : most < ((MaskPlain.getL xs).1 : Int)
    · rw [if_pos h6] at h; exact absurd h (by decide)
    rw [if_neg h6] at h
    unfold FramePlain.rest at h
    have hl : (xs.drop (MaskPlain.getL xs).2.1).length = xs.length - (MaskPlain.getL xs).2.1 := List.length_drop ..
    rw [hl] at h
    simp only [List.length_cons]
    split at h
    · split at h
      · omega
      · simp at h
    · split at h
      · omega
      · simp at h
structure Kept (c : Cf) (l : Lg) : Prop where
  buf : l.buf.length ≤ 13 + bound c
  text : l.ms.text.length ≤ c.msg
theorem Keep.kept {c : Cf} {l m : Lg} (k : Keep l m) (h : Kept c l) : Kept c m := ⟨by rw [k.buf]; exact h.buf, by rw [k.ms]; exact h.text⟩
theorem Reads.kept {c : Cf} {l : Lg} (h : Reads c l) : Kept c l := ⟨by have := keep_le (by omega) h.left; omega, by have := h.fit.most; omega⟩
theorem feed_kept {c : Cf} {l : Lg} (h : Reads c l) (b : List Nat) (hb : ∀ y ∈ b, y < 256) : Kept c (feed c l b).1 := by
  obtain ⟨_, _, f3, _, f5, _, _, f8⟩ := feed_in h b hb
  have hs : ∀ y ∈ l.buf ++ b, y < 256 := fun y hy => by
    rcases List.mem_append.1 hy with hy | hy
    · exact h.small y hy
    · exact hb y hy
  refine ⟨?_, by rw [f5]; have := f8.most; omega⟩
  rw [f3]
  show (if _ then _ else _ : List Nat).length ≤ _
  split
  · next he =>
    have := keep_le (by omega) (all_rest c.masked (bound c : Int) _ _ (Nat.le_refl _) hs he)
    omega
  · exact Nat.zero_le _
def In (c : Cf) (l : Lg) : Prop := Reads c l ∨ ((l.got = true ∨ l.wrong ≠ 0) ∧ Kept c l)
theorem In.kept {c : Cf} {l : Lg} (h : In c l) : Kept c l := h.elim Reads.kept And.right
theorem in_zero (c : Cf) (d : Nat) : In c (L0 d) := .inl (reads_zero c d)
theorem in_keep {c : Cf} {l m : Lg} (k : Keep l m) (h : In c l) : In c m := by
  rcases h with h | ⟨h1, h2⟩
  · exact .inl ⟨k.got.trans h.got, k.wrong.trans h.wrong, k.serr.trans h.serr, by rw [k.ms]; exact h.err, by rw [k.ms]; exact h.over, by rw [k.ms]; exact h.fit, by rw [k.buf]; exact h.left, by rw [k.buf]; exact h.small⟩
  · exact .inr ⟨by rw [k.got, k.wrong]; exact h1, k.kept h2⟩
theorem in_feed {c : Cf} {l : Lg} (h : In c l) (b : List Nat) (hb : ∀ y ∈ b, y < 256) : In c (feed c l b).1 := by
  rcases h with h | ⟨h1, h2⟩
  · by_cases he : errs c l b = 0
    · cases ho : (came c l b).ms.over with
      | false => exact .inl (feed_reads h b hb he ho)
      | true => exact .inr ⟨.inl ((feed_in h b hb).1.trans ho), feed_kept h b hb⟩
    · exact .inr ⟨.inr (by rw [(feed_in h b hb).2.1]; exact he), feed_kept h b hb⟩
  · rw [feed_stop b h1]; exact .inr ⟨h1, h2⟩
theorem move_keep (c : Cf) (l : Lg) : Keep l (move c l) := (mv_keep c _ l).1
theorem send_keep (c : Cf) (l : Lg) (op : Int) (t : List Nat) : Keep l (send c l op t).1 := by
  unfold send
  split
  · have k := move_keep c { l with rest := frs c.frm op t, said := l.said ++ [(op, t)] }
    exact ⟨k.got, k.wrong, k.buf, k.serr, k.ms⟩
  · exact ⟨rfl, rfl, rfl, rfl, rfl⟩
theorem ping_keep (c : Cf) (l : Lg) (d : List Nat) : Keep l (ping c l d).1 := by
  unfold ping
  split
  · exact ⟨rfl, rfl, rfl, rfl, rfl⟩
  · exact (control_keep c l 9 d).1
theorem take_keep (c : Cf) (l : Lg) (n : Int) : Keep l (takeN c l n).1 := by
  have k := move_keep c { l with gone := l.gone ++ l.ring.take n.toNat, ring := l.ring.drop n.toNat }
  exact ⟨k.got, k.wrong, k.buf, k.serr, k.ms⟩
theorem ring_le {c : Cf} {l : Lg} (h : Ok c l) : l.ring.length ≤ c.out := h.inv.ring
end LegPlain
namespace LegPlain
open FramePlain (Fr Fr0 form ctl zero4 text size text_length form_of headB byte0 lenB)
open StreamPlain (one all all_step one_text)
open MsgPlain (Ev Ms M0 run)
open CutPlain (frs)
def pingF (d : List Nat) : Fr := ⟨true, 9, true, zero4, d⟩
theorem ping_text {d : List Nat} (h : d.length ≤ 125) : text (pingF d) = 137 :: (128 + d.length) :: 0 :: 0 :: 0 :: 0 :: d := by
  have hl := FramePlain.lenB_low (n := d.length) (by omega)
  have hn := FramePlain.lenB_length (n := d.length) (by omega)
  rw [if_neg (by omega), if_neg (by omega)] at hn
  obtain ⟨x, hx⟩ := List.length_eq_one_iff.1 hn
  have hx2 := hl.2 h
  rw [hx] at hx2
  have hx3 : x = d.length := hx2
  unfold text headB
  rw [if_pos (show (pingF d).masked = true from rfl), if_pos (show (pingF d).masked = true from rfl)]
  show byte0 (pingF d) :: ((lenB d.length).getD 0 0 + 128) :: (lenB d.length).drop 1 ++ zero4 ++ MaskPlain.turn zero4 0 d = _
  rw [hx, MaskPlain.turn_zero (show ∀ i, i < 4 → zero4.getD i 0 = 0 by decide), hx3]
  show 137 :: (d.length + 128) :: ([] ++ zero4 ++ d) = _
  rw [Nat.add_comm d.length 128]; rfl
theorem ping_all {masked : Bool} (hm : masked = true) {most : Int} (hmo : 125 ≤ most) (hmo2 : most ≤ 9223372036854775807) {d : List Nat} (h : d.length ≤ 125) (hs : ∀ y ∈ d, y < 256) : all (text (pingF d)) masked most = ([pingF d], 0, 0) := by
  have hform : form (pingF d) = true := form_of ⟨.inr ⟨by show (8 : Int) ≤ 9; decide, by show (9 : Int) ≤ 10; decide, rfl, h⟩, .inl rfl⟩
  have hb : ∀ y ∈ text (pingF d), y < 256 := text_bytes hform (by show d.length ≤ _; omega) (by show ∀ y ∈ zero4, y < 256; exact zero4_small) hs
  have ho := one_text (masked := masked) (most := most) hform (by rw [hm]; rfl) (show zero4.length = 4 from rfl) (by show (d.length : Int) ≤ most; omega) hmo2 []
  rw [List.append_nil] at ho
  rw [all_step _ _ _ hb, ho, if_neg (show ¬ (0 : Nat) = 90 by decide), if_neg (show ¬ (0 : Nat) ≠ 0 by decide)]
  show (pingF d :: (all ((text (pingF d)).drop (size (pingF d))) masked most).1, _) = _
  rw [show (text (pingF d)).drop (size (pingF d)) = [] from List.drop_of_length_le (by rw [text_length (pingF d) (by show d.length ≤ _; omega) rfl]; exact Nat.le_refl _)]
  rfl
theorem feed_ping {c : Cf} (hm : c.masked = true) (hmo : c.msg ≤ 65536) {l : Lg} (h : Reads c l) (hb : l.buf = []) (hms : l.ms = M0) {d : List Nat} (hd : d.length ≤ 125) (hs : ∀ y ∈ d, y < 256) : feed c l (text (pingF d)) = (pong c l d, []) := by
  have ha : all (l.buf ++ text (pingF d)) c.masked (bound c : Int) = ([pingF d], 0, 0) := by
    rw [hb, List.nil_append]
    exact ping_all hm (by unfold bound; omega) (by unfold bound; omega) hd hs
  have hst : MsgPlain.take (c.msg : Int) M0 (pingF d) = (M0, some ⟨9, 0, d⟩) := by
    rw [MsgPlain.take_go _ rfl rfl]
    exact MsgPlain.step_ping (c.msg : Int) M0 (op := 9) (.inl rfl) zero4 true hd (.inl rfl)
  have hrun : run (c.msg : Int) l.ms [pingF d] = (M0, [⟨9, 0, d⟩]) := by
    rw [hms, MsgPlain.run_one, hst]; rfl
  have hc : came c l (text (pingF d)) = l := by
    unfold came
    rw [ha, hrun]
    simp only [if_true]
    rw [show (l.buf ++ text (pingF d)).drop ((l.buf ++ text (pingF d)).length - 0) = [] from List.drop_of_length_le (by omega)]
    obtain ⟨x1, x2, x3, x4, x5, x6, x7, x8, x9, x10, x11, x12, x13, x14, x15⟩ := l
    have e1 : x13 = [] := hb
    have e2 : x14 = 0 := h.serr
    have e3 : x15 = M0 := hms
    subst e1 e2 e3
    rfl
  have he : evs c l (text (pingF d)) = [⟨9, 0, d⟩] := by unfold evs; rw [ha, hrun]
  have her : errs c l (text (pingF d)) = 0 := by
    unfold errs
    rw [hc, if_neg (fun e => e h.err), if_neg (by rw [h.over]; decide)]
    exact h.serr
  unfold feed
  rw [if_neg (fun e => e.elim (fun e => absurd (e.symm.trans h.got) (by decide)) (fun e => e h.wrong)), her, if_neg (fun e => e rfl), he, hc]
  rfl
theorem con_all {l : List Fr} (h : dat l = []) : con l = l.map core := by
  unfold con
  rw [List.filter_eq_self.2]
  intro f hf
  unfold dat at h
  have h := List.map_eq_nil_iff.1 h
  cases hi : isD f with
  | false => rfl
  | true =>
    have : f ∈ l.filter isD := List.mem_filter.2 ⟨hf, hi⟩
    rw [h] at this
    cases this
def pgs (P : List (List Nat)) : List (Bool × Int × List Nat) := P.map fun d => (true, 10, d)
structure Pg (c : Cf) (l : Lg) (ds : List (List Nat)) : Prop where
  ok : Ok c l
  tail : l.tail.length ≤ 14 + max c.frm 125
  reads : Reads c l
  buf : l.buf = []
  ms : l.ms = M0
  sent : l.sent = false
  rest : l.rest = []
  one : l.ctl.length ≤ 1
  pongs : ∃ P : List (List Nat), l.hist.map core ++ l.ctl.map core = pgs P ∧ P.Sublist ds ∧ P.getLast? = ds.getLast?
theorem pg_zero (c : Cf) (d : Nat) : Pg c (L0 d) [] := ⟨ok_zero c d, Nat.zero_le _, reads_zero c d, rfl, rfl, rfl, rfl, Nat.zero_le _, [], rfl, List.Sublist.refl _, rfl⟩
theorem reads_keep {c : Cf} {l m : Lg} (k : Keep l m) (h : Reads c l) : Reads c m := ⟨k.got.trans h.got, k.wrong.trans h.wrong, k.serr.trans h.serr, by rw [k.ms]; exact h.err, by rw [k.ms]; exact h.over, by rw [k.ms]; exact h.fit, by rw [k.buf]; exact h.left, by rw [k.buf]; exact h.small⟩
theorem pg_move {c : Cf} (hf : c.frm ≤ 65536) {l : Lg} {ds : List (List Nat)} (hok : Ok c (move c l)) (hi : Inv c l) (ht : l.tail.length ≤ 14 + max c.frm 125) (hr : Reads c l) (hb : l.buf = []) (hms : l.ms = M0) (hs : l.sent = false) (hre : l.rest = []) (h1 : l.ctl.length ≤ 1)
    (hp : ∃ P : List (List Nat), l.hist.map core ++ l.ctl.map core = pgs P ∧ P.Sublist ds ∧ P.getLast? = ds.getLast?) : Pg c (move c l) ds := by
  obtain ⟨_, sm⟩ := move_inv hi
  obtain ⟨_, p2, k, p3⟩ := move_low hf hi.ctl hi.rest ht
  have hre2 : (move c l).rest = [] := by
    obtain ⟨k, hk⟩ := sm.rest
    rw [hk, hre, List.drop_nil]
  refine ⟨hok, p2, reads_keep (move_keep c l) hr, sm.buf.trans hb, sm.ms.trans hms, sm.sent.trans hs, hre2, by rw [p3, List.length_drop]; omega, ?_⟩
  obtain ⟨P, q1, q2, q3⟩ := hp
  refine ⟨P, ?_, q2, q3⟩
  have hd : ∀ f ∈ l.hist ++ l.ctl, isD f = false := fun f hf => by
    have : core f ∈ pgs P := by
      rw [← q1, ← List.map_append]
      exact List.mem_map.2 ⟨f, hf, rfl⟩
    obtain ⟨d, _, hd⟩ := List.mem_map.1 this
    have : f.op = 10 := by
      have := congrArg (fun x : Bool × Int × List Nat => x.2.1) hd
      exact this.symm
    unfold isD
    rw [this]; rfl
  have dz : ∀ l : List Fr, (∀ f ∈ l, isD f = false) → dat l = [] := fun l h => by
    unfold dat
    rw [List.filter_eq_nil_iff.2 (fun f hf => by rw [h f hf]; decide)]; rfl
  have d1 := dz l.hist (fun f hf => hd f (List.mem_append.2 (.inl hf)))
  have d2 := dz l.ctl (fun f hf => hd f (List.mem_append.2 (.inr hf)))
  have dd := sm.dat
  rw [hre, hre2, d1, show dat [] = [] from rfl, List.append_nil, List.append_nil] at dd
  have d3 := dz (move c l).ctl (fun f hf => by rw [p3] at hf; exact hd f (List.mem_append.2 (.inr (List.mem_of_mem_drop hf))))
  have dc := sm.con
  rw [con_all dd, con_all d3, con_all d1, con_all d2] at dc
  rw [dc]; exact q1
theorem pong_pg {c : Cf} (hf : c.frm ≤ 65536) {l : Lg} {ds : List (List Nat)} (h : Pg c l ds) {d : List Nat} (hd : d.length ≤ 125) (hs : ∀ y ∈ d, y < 256) : Pg c (pong c l d) (ds ++ [d]) := by
  have hok := ok_pong h.ok d hd hs
  obtain ⟨P, q1, q2, q3⟩ := h.pongs
  have hsn : ¬ l.sent = true := by rw [h.sent]; decide
  unfold pong at hok ⊢
  rw [if_neg hsn] at hok ⊢
  cases hc : l.ctl with
  | nil =>
    rw [hc] at hok q1
    rw [if_neg (by simp)] at hok ⊢
    unfold control at hok ⊢
    refine pg_move hf hok ⟨h.ok.inv.bytes, h.ok.inv.hist, fun f hf => ?_, h.ok.inv.rest, h.ok.inv.ring⟩ h.tail ⟨h.reads.got, h.reads.wrong, h.reads.serr, h.reads.err, h.reads.over, h.reads.fit, h.reads.left, h.reads.small⟩ h.buf h.ms h.sent h.rest (by show (l.ctl ++ [_]).length ≤ 1; rw [hc]; simp) ⟨P ++ [d], ?_, q2.append (List.Sublist.refl _), ?_⟩
    · rcases List.mem_append.1 hf with hf | hf
      · exact h.ok.inv.ctl f hf
      · rw [List.mem_singleton] at hf
        rw [hf]
        exact ⟨rfl, .inr (.inr rfl), rfl, rfl, hd, hs⟩
    · show l.hist.map core ++ (l.ctl ++ [ctlF 10 d]).map core = _
      rw [hc, List.nil_append]
      rw [List.map_nil, List.append_nil] at q1
      rw [q1]; unfold pgs; rw [List.map_append]; rfl
    · simp
  | cons f cs =>
    have hcs : cs = [] := by
      have := h.one
      rw [hc, List.length_cons] at this
      exact List.eq_nil_of_length_eq_zero (by omega)
    subst hcs
    rw [hc] at hok q1
    have hlast := congrArg List.getLast? q1
    rw [List.map_cons, List.map_nil, List.getLast?_concat] at hlast
    rcases List.eq_nil_or_concat P with rfl | ⟨P0, x, rfl⟩
    · cases hlast
    rw [List.concat_eq_append] at hlast q1 q2 q3
    unfold pgs at hlast q1
    rw [List.map_append, List.map_cons, List.map_nil, List.getLast?_concat] at hlast
    rw [List.map_append, List.map_cons, List.map_nil, List.map_cons, List.map_nil] at q1
    have hfx : core f = (true, 10, x) := by injection hlast
    have hop : f.op = 10 := congrArg (fun x : Bool × Int × List Nat => x.2.1) hfx
    have hfin : f.fin = true := congrArg (fun x : Bool × Int × List Nat => x.1) hfx
    have q1 := List.append_inj_left' q1 rfl
    rw [if_pos (by simp [hop])] at hok ⊢
    have hre : repl d [f] = [{ f with data := d }] := by unfold repl; rw [if_pos hop]
    rw [hre] at hok ⊢
    have hfc := h.ok.inv.ctl f (by rw [hc]; exact List.mem_cons_self)
    refine pg_move hf hok ⟨h.ok.inv.bytes, h.ok.inv.hist, fun g hg => ?_, h.ok.inv.rest, h.ok.inv.ring⟩ h.tail ⟨h.reads.got, h.reads.wrong, h.reads.serr, h.reads.err, h.reads.over, h.reads.fit, h.reads.left, h.reads.small⟩ h.buf h.ms h.sent h.rest (Nat.le_refl _) ⟨P0 ++ [d], ?_, (((List.sublist_append_left P0 [x]).trans q2).append (List.Sublist.refl [d])), ?_⟩
    · have hg : g ∈ [{ f with data := d }] := hg
      rw [List.mem_singleton] at hg
      rw [hg]
      exact ⟨hfc.fin, .inr (.inr hop), hfc.masked, hfc.key, hd, hs⟩
    · show l.hist.map core ++ [core { f with data := d }] = _
      rw [q1]; unfold pgs; rw [List.map_append]
      show _ ++ [(f.fin, f.op, d)] = _
      rw [hfin, hop]; rfl
    · simp
theorem take_pg {c : Cf} (hf : c.frm ≤ 65536) {l : Lg} {ds : List (List Nat)} (h : Pg c l ds) (n : Int) : Pg c (takeN c l n).1 ds := by
  have hok := ok_take h.ok n
  refine pg_move hf hok ⟨?_, h.ok.inv.hist, h.ok.inv.ctl, h.ok.inv.rest, ?_⟩ h.tail ⟨h.reads.got, h.reads.wrong, h.reads.serr, h.reads.err, h.reads.over, h.reads.fit, h.reads.left, h.reads.small⟩ h.buf h.ms h.sent h.rest h.one h.pongs
  · show l.gone ++ l.ring.take n.toNat ++ l.ring.drop n.toNat ++ l.tail = _
    rw [List.append_assoc l.gone, List.take_append_drop]; exact h.ok.inv.bytes
  · show (l.ring.drop n.toNat).length ≤ _
    rw [List.length_drop]; have := h.ok.inv.ring; omega
theorem sub_two {x y : List Nat} {P l : List (List Nat)} (h : (x :: P).Sublist (y :: l)) (hn : y ≠ x) : (x :: P).Sublist l := by
  cases h with
  | cons _ h => exact h
  | cons_cons _ h => exact absurd rfl hn
theorem sub_at {P l : List (List Nat)} {i a : Nat} (hi : i < P.length) (h : (P.drop i).Sublist (l.drop a)) : a < l.length ∧ (l.getD a [] ≠ P.getD i [] → (P.drop i).Sublist (l.drop (a + 1))) ∧ (l.getD a [] = P.getD i [] → (P.drop (i + 1)).Sublist (l.drop (a + 1))) := by
  have ha : a < l.length := by
    have := h.length_le
    rw [List.length_drop, List.length_drop] at this
    omega
  have e1 : P.drop i = P.getD i [] :: P.drop (i + 1) := by
    rw [List.drop_eq_getElem_cons hi, List.getD_eq_getElem?_getD, List.getElem?_eq_getElem hi]; rfl
  have e2 : l.drop a = l.getD a [] :: l.drop (a + 1) := by
    rw [List.drop_eq_getElem_cons ha, List.getD_eq_getElem?_getD, List.getElem?_eq_getElem ha]; rfl
  rw [e1, e2] at h
  refine ⟨ha, fun hn => ?_, fun he => ?_⟩
  · rw [e1]; exact sub_two h hn
  · rw [he] at h
    exact List.cons_sublist_cons.1 h
end LegPlain
namespace LegPlain
open FramePlain (Fr Fr0 form ctl zero4 text)
open MsgPlain (Ev Ms M0 run)
open CutPlain (frs)
open ClosePlain (putC getC codeC acrossC valid)
theorem pg_pend {c : Cf} {l : Lg} {ds : List (List Nat)} (h : Pg c l ds) : pend l ≤ c.out + (14 + max c.frm 125) + 139 := by
  have h1 := h.ok.inv.ring
  have h2 := h.tail
  have h3 := wts_le (k := 125) l.ctl (fun f hf => (h.ok.inv.ctl f hf).len)
  have h4 := h.one
  have h5 : wts l.rest = 0 := by rw [h.rest]; rfl
  have h6 : l.ctl.length * (14 + 125) ≤ 1 * (14 + 125) := Nat.mul_le_mul_right _ h4
  unfold pend
  omega
theorem pend_le {c : Cf} {l : Lg} (h : Low c l) {k m : Nat} (hk : l.ctl.length ≤ k) (hm : wts l.rest ≤ m) : pend l ≤ c.out + (14 + max c.frm 125) + k * 139 + m := by
  have h1 := h.ring
  have h2 := h.tail
  have h3 := wts_le (k := 125) l.ctl (fun f hf => (h.ctl f hf).len)
  have h6 : l.ctl.length * 139 ≤ k * 139 := Nat.mul_le_mul_right _ hk
  unfold pend
  omega
theorem frs_wts {most : Nat} (hm : 1 ≤ most) : ∀ (n : Nat) (op : Int) (t : List Nat), t.length ≤ n → wts (frs most op t) ≤ 14 + 15 * t.length
  | 0, op, t, h => by
    rw [CutPlain.frs_last (by omega)]
    show 14 + t.length + 0 ≤ _
    omega
  | n + 1, op, t, h => by
    by_cases h1 : t.length ≤ most
    · rw [CutPlain.frs_last h1]
      show 14 + t.length + 0 ≤ _
      omega
    · rw [CutPlain.frs_more hm h1, wts_cons]
      have := frs_wts hm n 0 (t.drop most) (by rw [List.length_drop]; omega)
      rw [List.length_drop] at this
      unfold wt
      rw [List.length_take]
      omega
theorem wts_drop (l : List Fr) (k : Nat) : wts (l.drop k) ≤ wts l := by
  have := wts_append (l.take k) (l.drop k)
  rw [List.take_append_drop] at this
  omega
theorem repl_length (d : List Nat) : ∀ l : List Fr, (repl d l).length = l.length
  | [] => rfl
  | f :: l => by
    unfold repl
    split
    · rfl
    · rw [List.length_cons, repl_length d l, List.length_cons]
theorem repl_pong (d : List Nat) : ∀ l : List Fr, ((repl d l).any fun f => decide (f.op = 10)) = l.any fun f => decide (f.op = 10)
  | [] => rfl
  | f :: l => by
    unfold repl
    split
    · next h => simp [h]
    · rw [List.any_cons, List.any_cons, repl_pong d l]
def pongs (l : List Fr) : Nat := (l.filter fun f => decide (f.op = 10)).length
def others (l : List Fr) : Nat := (l.filter fun f => !decide (f.op = 10)).length
theorem few_sum (l : List Fr) : l.length = pongs l + others l := by
  unfold pongs others
  induction l with
  | nil => rfl
  | cons f l ih =>
    rw [List.filter_cons, List.filter_cons, List.length_cons]
    by_cases h : f.op = 10
    · rw [if_pos (by simp [h]), if_neg (by simp [h]), List.length_cons]; omega
    · rw [if_neg (by simp [h]), if_pos (by simp [h]), List.length_cons]; omega
theorem pongs_drop (l : List Fr) (k : Nat) : pongs (l.drop k) ≤ pongs l := ((List.drop_sublist k l).filter _).length_le
theorem others_drop (l : List Fr) (k : Nat) : others (l.drop k) ≤ others l := ((List.drop_sublist k l).filter _).length_le
theorem pongs_append (a b : List Fr) : pongs (a ++ b) = pongs a + pongs b := by unfold pongs; rw [List.filter_append, List.length_append]
theorem others_append (a b : List Fr) : others (a ++ b) = others a + others b := by unfold others; rw [List.filter_append, List.length_append]
theorem repl_pongs (d : List Nat) : ∀ l : List Fr, pongs (repl d l) = pongs l ∧ others (repl d l) = others l
  | [] => ⟨rfl, rfl⟩
  | f :: l => by
    obtain ⟨i1, i2⟩ := repl_pongs d l
    have c1 : ∀ (g : Fr) (l : List Fr), pongs (g :: l) = pongs [g] + pongs l := fun g l => pongs_append [g] l
    have c2 : ∀ (g : Fr) (l : List Fr), others (g :: l) = others [g] + others l := fun g l => others_append [g] l
    unfold repl
    by_cases h : f.op = 10
    · rw [if_pos h]
      have e1 : pongs [{ f with data := d }] = pongs [f] := by unfold pongs; simp [h]
      have e2 : others [{ f with data := d }] = others [f] := by unfold others; simp [h]
      exact ⟨by rw [c1, e1, ← c1], by rw [c2, e2, ← c2]⟩
    · rw [if_neg h]
      exact ⟨by rw [c1, i1, ← c1], by rw [c2, i2, ← c2]⟩
theorem no_pongs {l : List Fr} (h : ¬ (l.any fun f => decide (f.op = 10)) = true) : pongs l = 0 := by
  unfold pongs
  rw [List.filter_eq_nil_iff.2 (fun f hf e => h (List.any_eq_true.2 ⟨f, hf, e⟩))]; rfl
structure Few (c : Cf) (l : Lg) (k : Nat) : Prop where
  ok : Ok c l
  tail : l.tail.length ≤ 14 + max c.frm 125
  pongs : pongs l.ctl ≤ 1
  others : others l.ctl ≤ k + l.sent.toNat
  rest : wts l.rest ≤ 14 + 15 * c.msg
theorem Few.low {c : Cf} {l : Lg} {k : Nat} (h : Few c l k) : Low c l := low_of h.ok h.tail
theorem toNat_le (b : Bool) : b.toNat ≤ 1 := by cases b <;> decide
theorem Few.pend {c : Cf} {l : Lg} {k : Nat} (h : Few c l k) : pend l ≤ c.out + (14 + max c.frm 125) + (k + 2) * 139 + (14 + 15 * c.msg) :=
  pend_le h.low (by rw [few_sum]; have := h.pongs; have := h.others; have := toNat_le l.sent; omega) h.rest
theorem Few.mono {c : Cf} {l : Lg} {k j : Nat} (h : Few c l k) (hj : k ≤ j) : Few c l j := ⟨h.ok, h.tail, h.pongs, by have := h.others; omega, h.rest⟩
theorem few_zero (c : Cf) (d : Nat) : Few c (L0 d) 0 := ⟨ok_zero c d, Nat.zero_le _, Nat.zero_le _, Nat.zero_le _, Nat.zero_le _⟩
theorem few_move {c : Cf} (hf : c.frm ≤ 65536) {l : Lg} {k : Nat} (hok : Ok c (move c l)) (hi : Inv c l) (ht : l.tail.length ≤ 14 + max c.frm 125) (hp : LegPlain.pongs l.ctl ≤ 1) (hk : LegPlain.others l.ctl ≤ k + l.sent.toNat) (hr : wts l.rest ≤ 14 + 15 * c.msg) : Few c (move c l) k := by
  obtain ⟨_, p2, j, p3⟩ := move_low hf hi.ctl hi.rest ht
  have sm := (move_inv hi).2
  obtain ⟨i, hi⟩ := sm.rest
  refine ⟨hok, p2, by rw [p3]; exact Nat.le_trans (pongs_drop _ _) hp, by rw [p3, sm.sent]; exact Nat.le_trans (others_drop _ _) hk, ?_⟩
  rw [hi]
  exact Nat.le_trans (wts_drop _ _) hr
theorem few_take {c : Cf} (hf : c.frm ≤ 65536) {l : Lg} {k : Nat} (h : Few c l k) (n : Int) : Few c (takeN c l n).1 k := by
  have hok := ok_take h.ok n
  refine few_move hf hok ⟨?_, h.ok.inv.hist, h.ok.inv.ctl, h.ok.inv.rest, ?_⟩ h.tail h.pongs h.others h.rest
  · show l.gone ++ l.ring.take n.toNat ++ l.ring.drop n.toNat ++ l.tail = _
    rw [List.append_assoc l.gone, List.take_append_drop]; exact h.ok.inv.bytes
  · show (l.ring.drop n.toNat).length ≤ _
    rw [List.length_drop]; have := h.ok.inv.ring; omega
theorem few_send {c : Cf} (hf : c.frm ≤ 65536) (hm : 1 ≤ c.frm) {l : Lg} {k : Nat} (h : Few c l k) (op : Int) (t : List Nat) (hs : ∀ y ∈ t, y < 256) : Few c (send c l op t).1 k := by
  have hok := ok_send hm h.ok op t hs
  unfold send at hok ⊢
  by_cases hc : free l = true ∧ (op = 1 ∨ op = 2) ∧ t.length ≤ c.msg
  · rw [if_pos hc] at hok ⊢
    have hR := frs_isR (c := c) hm hc.2.1 t hs
    refine few_move hf hok ⟨h.ok.inv.bytes, h.ok.inv.hist, h.ok.inv.ctl, hR, h.ok.inv.ring⟩ h.tail h.pongs h.others ?_
    have := frs_wts hm _ op t (Nat.le_refl _)
    show wts (frs c.frm op t) ≤ _
    have := hc.2.2
    omega
  · rw [if_neg hc]; exact h
theorem few_control {c : Cf} (hf : c.frm ≤ 65536) {l : Lg} {k : Nat} (hi : Inv c l) (ht : l.tail.length ≤ 14 + max c.frm 125) (hr : wts l.rest ≤ 14 + 15 * c.msg) (op : Int) (ho : op = 8 ∨ op = 9 ∨ op = 10) (d : List Nat) (hd : d.length ≤ 125) (hs : ∀ y ∈ d, y < 256) (hok : Ok c (control c l op d)) (hp : LegPlain.pongs l.ctl + LegPlain.pongs [ctlF op d] ≤ 1) (hk : LegPlain.others l.ctl + LegPlain.others [ctlF op d] ≤ k + l.sent.toNat) : Few c (control c l op d) k := by
  have hC : ∀ f ∈ l.ctl ++ [ctlF op d], IsC f := fun f hf => by
    rcases List.mem_append.1 hf with hf | hf
    · exact hi.ctl f hf
    · rw [List.mem_singleton] at hf
      rw [hf]
      exact ⟨rfl, ho, rfl, rfl, hd, hs⟩
  exact few_move hf hok ⟨hi.bytes, hi.hist, hC, hi.rest, hi.ring⟩ ht (by show LegPlain.pongs (l.ctl ++ [_]) ≤ 1; rw [pongs_append]; exact hp) (by show LegPlain.others (l.ctl ++ [_]) ≤ _; rw [others_append]; exact hk) hr
theorem few_ping {c : Cf} (hf : c.frm ≤ 65536) {l : Lg} {k : Nat} (h : Few c l k) (d : List Nat) (hs : ∀ y ∈ d, y < 256) : Few c (ping c l d).1 (k + 1) := by
  have hok := ok_ping h.ok d hs
  unfold ping at hok ⊢
  by_cases hc : l.sent = true ∨ l.got = true ∨ l.wrong ≠ 0 ∨ 125 < d.length
  · rw [if_pos hc]; exact h.mono (by omega)
  · rw [if_neg hc] at hok ⊢
    exact few_control hf h.ok.inv h.tail h.rest 9 (.inr (.inl rfl)) d (by omega) hs hok h.pongs (by have := h.others; show _ + 1 ≤ _; omega)
theorem few_close {c : Cf} (hf : c.frm ≤ 65536) {l : Lg} {k : Nat} (h : Few c l k) (code : Int) (words : List Nat) (hw : ∀ y ∈ words, y < 256) : Few c (close c l code words).1 k := by
  have hok := ok_close h.ok code words hw
  unfold close at hok ⊢
  by_cases hc : l.sent = true ∨ (putC code words).2 ≠ 0
  · rw [if_pos hc]; exact h
  · rw [if_neg hc] at hok ⊢
    have hp : (putC code words).2 = 0 := Classical.byContradiction fun e => hc (.inr e)
    have hsn : l.sent = false := by simpa using fun e => hc (.inl e)
    obtain ⟨s, hsd⟩ : ∃ s, (putC code words).1 = s := ⟨_, rfl⟩
    have hpc : putC code words = (s, 0) := by rw [← hsd, ← hp]
    have hlen := (ClosePlain.put_sizes hpc).1
    have hsm := ClosePlain.put_small hw hpc
    rw [hsd] at hok ⊢
    refine few_control (l := { l with sent := true, rest := [], last := s }) hf ⟨h.ok.inv.bytes, h.ok.inv.hist, h.ok.inv.ctl, fun f hf => absurd hf List.not_mem_nil, h.ok.inv.ring⟩ h.tail (Nat.zero_le _) 8 (.inl rfl) s hlen hsm hok h.pongs ?_
    have := h.others
    rw [hsn] at this
    exact Nat.add_le_add_right this 1
theorem few_in {c : Cf} {l m : Lg} {k : Nat} (h : Few c l k) (hok : Ok c m) (h1 : m.tail = l.tail ∧ m.ctl = l.ctl ∧ m.rest = l.rest ∧ m.sent = l.sent) : Few c m k := by
  obtain ⟨e1, e2, e3, e4⟩ := h1
  exact ⟨hok, by rw [e1]; exact h.tail, by rw [e2]; exact h.pongs, by rw [e2, e4]; exact h.others, by rw [e3]; exact h.rest⟩
theorem few_pong {c : Cf} (hf : c.frm ≤ 65536) {l : Lg} {k : Nat} (h : Few c l k) (d : List Nat) (hd : d.length ≤ 125) (hs : ∀ y ∈ d, y < 256) : Few c (pong c l d) k := by
  have hok := ok_pong h.ok d hd hs
  unfold pong at hok ⊢
  by_cases hs1 : l.sent = true
  · rw [if_pos hs1]; exact h
  rw [if_neg hs1] at hok ⊢
  by_cases hp : l.ctl.any (fun f => decide (f.op = 10)) = true
  · rw [if_pos hp] at hok ⊢
    obtain ⟨r1, r2⟩ := repl_pongs d l.ctl
    refine few_move hf hok ⟨h.ok.inv.bytes, h.ok.inv.hist, fun f hf => ?_, h.ok.inv.rest, h.ok.inv.ring⟩ h.tail (by show LegPlain.pongs (repl d l.ctl) ≤ 1; rw [r1]; exact h.pongs) (by show LegPlain.others (repl d l.ctl) ≤ _; rw [r2]; exact h.others) h.rest
    rcases repl_mem hf with ⟨g, h1, h2, rfl⟩ | h1
    · have := h.ok.inv.ctl g h1
      exact ⟨this.fin, .inr (.inr h2), this.masked, this.key, hd, hs⟩
    · exact h.ok.inv.ctl f h1
  · rw [if_neg hp] at hok ⊢
    exact few_control hf h.ok.inv h.tail h.rest 10 (.inr (.inr rfl)) d hd hs hok (by rw [no_pongs hp]; exact Nat.le_refl _) h.others
theorem few_react {c : Cf} (hf : c.frm ≤ 65536) {l : Lg} {k : Nat} (h : Few c l k) (x : Ev) (hx : x.op = 9 → x.data.length ≤ 125) (hs : ∀ y ∈ x.data, y < 256) : Few c (react c l x) k := by
  unfold react
  by_cases h9 : x.op = 9
  · rw [if_pos h9]; exact few_pong hf h x.data (hx h9) hs
  · rw [if_neg h9]
    by_cases h8 : x.op = 8
    · rw [if_pos h8]
      exact few_close hf (few_in (m := { l with got := true }) h (ok_in h.ok ⟨rfl, rfl, rfl, rfl, rfl, rfl, rfl, rfl, rfl⟩) ⟨rfl, rfl, rfl, rfl⟩) _ _ (fun y hy => absurd hy List.not_mem_nil)
    · rw [if_neg h8]; exact h
theorem few_fold {c : Cf} (hf : c.frm ≤ 65536) {k : Nat} : ∀ (xs : List Ev) {l : Lg}, Few c l k → (∀ x ∈ xs, (x.op = 9 → x.data.length ≤ 125) ∧ ∀ y ∈ x.data, y < 256) → Few c (xs.foldl (react c) l) k
  | [], _, h, _ => h
  | x :: xs, _, h, hx => few_fold hf xs (few_react hf h x (hx x List.mem_cons_self).1 (hx x List.mem_cons_self).2) (fun y hy => hx y (List.mem_cons_of_mem _ hy))
theorem few_feed {c : Cf} (hf : c.frm ≤ 65536) {l : Lg} {k : Nat} (h : Few c l k) (b : List Nat) (hx : ∀ x ∈ evs c l b, (x.op = 9 → x.data.length ≤ 125) ∧ ∀ y ∈ x.data, y < 256) : Few c (feed c l b).1 k := by
  unfold feed
  by_cases hg : l.got = true ∨ l.wrong ≠ 0
  · rw [if_pos hg]; exact h
  · rw [if_neg hg]
    have h2 := few_fold hf (evs c l b) (few_in (m := came c l b) h (ok_in h.ok ⟨rfl, rfl, rfl, rfl, rfl, rfl, rfl, rfl, rfl⟩) ⟨rfl, rfl, rfl, rfl⟩) hx
    show Few c (if errs c l b ≠ 0 then _ else _) k
    split
    · exact few_close hf (few_in (m := { (evs c l b).foldl (react c) (came c l b) with wrong := errs c l b }) h2 (ok_in h2.ok ⟨rfl, rfl, rfl, rfl, rfl, rfl, rfl, rfl, rfl⟩) ⟨rfl, rfl, rfl, rfl⟩) _ _ (fun y hy => absurd hy List.not_mem_nil)
    · exact h2
end LegPlain
namespace LegPlain
open FramePlain (Fr Fr0 form ctl zero4 text size text_length form_of form_cases)
open StreamPlain (one all all_append all_step one_text all_left)
open MsgPlain (Ev Ms M0 run run_append run_cons run_stop Fit)
open CutPlain (frs)
open ClosePlain (putC getC codeC acrossC valid)
theorem getC_part (s : List Nat) : (getC s).2.1 = [] ∨ (getC s).2.1 = s.drop 2 := by
  match s with
  | [] => exact .inl rfl
  | [_] => exact .inl rfl
  | x :: y :: l =>
    rw [ClosePlain.getC_two]
    split
    · exact .inl rfl
    · split
      · exact .inl rfl
      · exact .inr rfl
theorem step_evs (most : Int) {st : Ms} (hf : Fit most st) {f : Fr} (hs : ∀ y ∈ f.data, y < 256) : ∀ x ∈ (MsgPlain.step most st f).2.toList, (x.op = 9 → x.data.length ≤ 125) ∧ ∀ y ∈ x.data, y < 256 := by
  unfold MsgPlain.step
  by_cases a1 : form f = false
  · rw [if_pos a1]; exact fun x hx => absurd hx List.not_mem_nil
  rw [if_neg a1]
  have hform : form f = true := by simpa using a1
  by_cases a2 : f.op = 9 ∨ f.op = 10
  · rw [if_pos a2]
    intro x hx
    have hx : x ∈ [_] := hx
    rw [List.mem_singleton] at hx
    rw [hx]
    refine ⟨fun _ => ?_, hs⟩
    rcases (form_cases hform).1 with h | h
    · omega
    · exact h.2.2.2
  rw [if_neg a2]
  by_cases a3 : f.op = 8
  · rw [if_pos a3]
    by_cases a4 : (getC f.data).2.2 = 0
    · rw [if_pos a4]
      intro x hx
      have hx : x ∈ [_] := hx
      rw [List.mem_singleton] at hx
      rw [hx]
      refine ⟨fun e => absurd (show (8 : Int) = 9 from e) (by decide), fun y hy => ?_⟩
      rcases getC_part f.data with e | e
      · have hy : y ∈ (getC f.data).2.1 := hy
        rw [e] at hy; exact absurd hy List.not_mem_nil
      · have hy : y ∈ (getC f.data).2.1 := hy
        rw [e] at hy; exact hs y (List.mem_of_mem_drop hy)
    · rw [if_neg a4]; exact fun x hx => absurd hx List.not_mem_nil
  rw [if_neg a3]
  by_cases a4 : decide (f.op = 0) ≠ st.begun
  · rw [if_pos a4]; exact fun x hx => absurd hx List.not_mem_nil
  rw [if_neg a4]
  obtain ⟨o, ho⟩ : ∃ o, (if st.begun = true then st.op else f.op) = o := ⟨_, rfl⟩
  have ho9 : o ≠ 9 := by
    rw [← ho]
    by_cases hb : st.begun = true
    · rw [if_pos hb]; rcases hf.op hb with h | h <;> omega
    · rw [if_neg hb]; omega
  rw [ho]
  unfold MsgPlain.more
  split
  · exact fun x hx => absurd hx List.not_mem_nil
  split
  · exact fun x hx => absurd hx List.not_mem_nil
  split
  · intro x hx
    have hx : x ∈ [_] := hx
    rw [List.mem_singleton] at hx
    rw [hx]
    refine ⟨fun e => absurd e ho9, fun y hy => ?_⟩
    · rcases List.mem_append.1 hy with hy | hy
      · exact hf.small y hy
      · exact hs y hy
  · exact fun x hx => absurd hx List.not_mem_nil
theorem run_evs {most : Int} (hm : 0 ≤ most) : ∀ (fs : List Fr) {st : Ms}, Fit most st → (∀ f ∈ fs, ∀ y ∈ f.data, y < 256) → ∀ x ∈ (run most st fs).2, (x.op = 9 → x.data.length ≤ 125) ∧ ∀ y ∈ x.data, y < 256
  | [], _, _, _, x, hx => absurd hx List.not_mem_nil
  | f :: fs, st, hf, hs, x, hx => by
    rw [run_cons] at hx
    have hf2 := MsgPlain.fit_take hm (f := f) hf (hs f List.mem_cons_self)
    rcases List.mem_append.1 hx with hx | hx
    · unfold MsgPlain.take at hx
      split at hx
      · exact absurd hx List.not_mem_nil
      · exact step_evs most hf (hs f List.mem_cons_self) x hx
    · exact run_evs hm fs hf2 (fun g hg => hs g (List.mem_cons_of_mem _ hg)) x hx
theorem evs_small {c : Cf} {l : Lg} (h : Reads c l) (b : List Nat) (hb : ∀ y ∈ b, y < 256) : ∀ x ∈ evs c l b, (x.op = 9 → x.data.length ≤ 125) ∧ ∀ y ∈ x.data, y < 256 := by
  have hs : ∀ y ∈ l.buf ++ b, y < 256 := fun y hy => by
    rcases List.mem_append.1 hy with hy | hy
    · exact h.small y hy
    · exact hb y hy
  exact run_evs (by omega) _ h.fit (all_small c.masked (bound c : Int) _ (l.buf ++ b) (Nat.le_refl _) hs)
theorem all_outs {c : Cf} (hf : c.frm ≤ 65536) {most : Int} (hmo : most ≤ 9223372036854775807) : ∀ (fs : List Fr), (∀ f ∈ fs, IsO c f) → (∀ f ∈ fs, (f.data.length : Int) ≤ most) → all (fs.flatMap text) (!c.masked) most = (fs, 0, 0)
  | [], _, _ => rfl
  | f :: fs, h, hd => by
    have hf1 := h f List.mem_cons_self
    have i1 := all_outs hf hmo fs (fun g hg => h g (List.mem_cons_of_mem _ hg)) (fun g hg => hd g (List.mem_cons_of_mem _ hg))
    have hs := (all_out hf (f :: fs) h).2
    have hl := hf1.len
    have ho := one_text (most := most) hf1.form hf1.masked hf1.key (hd f List.mem_cons_self) hmo (fs.flatMap text)
    rw [all_step _ _ _ hs, List.flatMap_cons, ho, if_neg (show ¬ (0 : Nat) = 90 by decide), if_neg (show ¬ (0 : Nat) ≠ 0 by decide)]
    show (f :: (all ((text f ++ fs.flatMap text).drop (FramePlain.size f)) (!c.masked) most).1, _) = _
    rw [show (text f ++ fs.flatMap text).drop (FramePlain.size f) = fs.flatMap text from by
      rw [← text_length f (by omega) hf1.key, List.drop_left], i1]
def ofCore (x : Bool × Int × List Nat) : Fr := ⟨x.1, x.2.1, false, zero4, x.2.2⟩
theorem take_core (most : Int) (st : Ms) {f : Fr} (h : f.masked = true ∨ f.key = zero4) : MsgPlain.take most st f = MsgPlain.take most st (ofCore (core f)) := by
  obtain ⟨fin, op, m, k, d⟩ := f
  cases m with
  | true => exact MsgPlain.take_mask most st fin op k d
  | false =>
    rcases h with h | h
    · cases h
    · have h : k = zero4 := h
      subst h; rfl
theorem run_core (most : Int) : ∀ (fs : List Fr) (st : Ms), (∀ f ∈ fs, f.masked = true ∨ f.key = zero4) → run most st fs = run most st ((fs.map core).map ofCore)
  | [], _, _ => rfl
  | f :: fs, st, h => by
    rw [List.map_cons, List.map_cons, run_cons, run_cons, take_core most st (h f List.mem_cons_self), run_core most fs _ (fun g hg => h g (List.mem_cons_of_mem _ hg))]
theorem run_begun {B : Int} {most : Nat} (hm : 1 ≤ most) : ∀ (n : Nat) (u t : List Nat), t.length ≤ n → ((u ++ t).length : Int) ≤ B → run B ⟨0, false, true, 2, u⟩ (frs most 0 t) = (M0, [⟨2, 0, u ++ t⟩]) := by
  intro n
  induction n with
  | zero =>
    intro u t hn hB
    rw [CutPlain.frs_last (by omega), MsgPlain.run_one, MsgPlain.take_go _ rfl rfl, MsgPlain.step_more, MsgPlain.more_bin, if_neg (by omega), if_pos rfl]; rfl
  | succ n ih =>
    intro u t hn hB
    by_cases h : t.length ≤ most
    · rw [CutPlain.frs_last h, MsgPlain.run_one, MsgPlain.take_go _ rfl rfl, MsgPlain.step_more, MsgPlain.more_bin, if_neg (by omega), if_pos rfl]; rfl
    · have hB2 : ((u ++ t.take most).length : Int) ≤ B := by
        rw [List.length_append] at hB ⊢
        rw [List.length_take]
        omega
      rw [CutPlain.frs_more hm h, run_cons, MsgPlain.take_go _ rfl rfl, MsgPlain.step_more, MsgPlain.more_bin, if_neg (by omega), if_neg (by decide)]
      have := ih (u ++ t.take most) (t.drop most) (by rw [List.length_drop]; omega) (by rw [List.append_assoc, List.take_append_drop]; exact hB)
      simp only [this]
      rw [List.append_assoc, List.take_append_drop]; rfl
theorem run_msg {B : Int} {most : Nat} (hm : 1 ≤ most) (t : List Nat) (hB : (t.length : Int) ≤ B) : run B M0 (frs most 2 t) = (M0, [⟨2, 0, t⟩]) := by
  by_cases h : t.length ≤ most
  · rw [CutPlain.frs_last h, MsgPlain.run_one, MsgPlain.take_go _ rfl rfl, MsgPlain.step_first _ (.inr rfl), MsgPlain.more_bin, if_neg (by omega), if_pos rfl]; rfl
  · have hB2 : ((t.take most).length : Int) ≤ B := by rw [List.length_take]; omega
    rw [CutPlain.frs_more hm h, run_cons, MsgPlain.take_go _ rfl rfl, MsgPlain.step_first _ (.inr rfl), MsgPlain.more_bin, if_neg (by omega), if_neg (by decide)]
    have := run_begun (B := B) hm _ (t.take most) (t.drop most) (Nat.le_refl _) (by rw [List.take_append_drop]; exact hB)
    simp only [this]
    rw [List.take_append_drop]; rfl
def flt (c : Cf) (s : List (List Nat)) : List (Bool × Int × List Nat) := s.flatMap fun t => (frs c.frm 2 t).map core
theorem flt_snoc (c : Cf) (s : List (List Nat)) (t : List Nat) : flt c (s ++ [t]) = flt c s ++ (frs c.frm 2 t).map core := by simp [flt]
theorem of_frs {c : Cf} (hm : 1 ≤ c.frm) (t : List Nat) (hs : ∀ y ∈ t, y < 256) : ((frs c.frm 2 t).map core).map ofCore = frs c.frm 2 t := by
  have h := frs_isR (c := c) hm (op := 2) (.inr rfl) t hs
  rw [List.map_map]
  refine (List.map_congr_left fun f hf => ?_).trans (List.map_id _)
  obtain ⟨fin, op, m, k, d⟩ := f
  have e1 : m = false := (h _ hf).masked
  have e2 : k = zero4 := (h _ hf).key
  subst e1 e2; rfl
theorem run_flt {c : Cf} (hm : 1 ≤ c.frm) {B : Int} : ∀ (s : List (List Nat)), (∀ t ∈ s, (t.length : Int) ≤ B ∧ ∀ y ∈ t, y < 256) → run B M0 ((flt c s).map ofCore) = (M0, s.map fun t => ⟨2, 0, t⟩)
  | [], _ => rfl
  | t :: s, h => by
    obtain ⟨h1, h2⟩ := h t List.mem_cons_self
    have hc : flt c (t :: s) = (frs c.frm 2 t).map core ++ flt c s := rfl
    rw [hc, List.map_append, of_frs hm t h2, run_append, run_msg hm t h1]
    simp only [run_flt hm s (fun x hx => h x (List.mem_cons_of_mem _ hx))]
    rfl
theorem run_end (B : Int) {code : Int} {d : List Nat} (h : putC code [] = (d, 0)) : ∃ k, run B M0 [ofCore (true, 8, d)] = (MsgPlain.done, [⟨8, k, []⟩]) := by
  have hl := (ClosePlain.put_sizes h).1
  have hg : ∃ k, getC d = (k, [], 0) := by
    by_cases h0 : code = 0
    · subst h0
      have h : (([] : List Nat), 0) = (d, 0) := h
      injection h with h _
      subst h
      exact ⟨1005, rfl⟩
    · exact ⟨code, ClosePlain.put_get h h0⟩
  obtain ⟨k, hk⟩ := hg
  refine ⟨k, ?_⟩
  rw [MsgPlain.run_one, MsgPlain.take_go _ rfl rfl]
  unfold MsgPlain.step
  rw [if_neg (by rw [form_of (f := ofCore (true, 8, d)) ⟨.inr ⟨by show (8 : Int) ≤ 8; omega, by show (8 : Int) ≤ 10; omega, rfl, hl⟩, .inr rfl⟩]; decide), if_neg (by show ¬ ((8 : Int) = 9 ∨ (8 : Int) = 10); omega), if_pos (show (ofCore (true, 8, d)).op = 8 from rfl), show (ofCore (true, 8, d)).data = d from rfl, hk, if_pos rfl]
  rfl
theorem run_prefix {B : Int} {a b : List Fr} (h : (run B M0 (a ++ b)).1.err = 0) : (run B M0 a).1.err = 0 ∧ ((run B M0 (a ++ b)).1.over = false → (run B M0 a).1.over = false) := by
  rw [run_append] at h ⊢
  refine ⟨Classical.byContradiction fun e => ?_, fun ho => ?_⟩
  · rw [run_stop B (.inl e)] at h; exact e h
  · cases hx : (run B M0 a).1.over with
    | false => rfl
    | true =>
      rw [run_stop B (.inr hx)] at ho
      exact absurd (hx.symm.trans ho) (by decide)
theorem gone_reads {c : Cf} (hf : c.frm ≤ 65536) {most : Int} (hmo : most ≤ 9223372036854775807) {B : Int} {hist : List Fr} (hO : ∀ f ∈ hist, IsO c f) (hd : ∀ f ∈ hist, (f.data.length : Int) ≤ most) (he : (run B M0 ((hist.map core).map ofCore)).1.err = 0) {G R : List Nat} (hG : G ++ R = hist.flatMap text) :
    ∃ fs lf rest, all G (!c.masked) most = (fs, 0, lf) ∧ hist = fs ++ rest ∧ (run B M0 fs).1.err = 0 ∧ ((run B M0 ((hist.map core).map ofCore)).1.over = false → (run B M0 fs).1.over = false) := by
  have hs := (all_out hf hist hO).2
  have ha := all_outs hf hmo hist hO hd
  rw [← hG] at hs ha
  obtain ⟨fs, lf, rest, h1, h2⟩ := CutPlain.all_prefix (!c.masked) most (fun y hy => hs y (List.mem_append.2 (.inl hy))) (fun y hy => hs y (List.mem_append.2 (.inr hy))) ha
  have hk : ∀ f ∈ hist, f.masked = true ∨ f.key = zero4 := fun f hf => (form_cases (hO f hf).form).2
  rw [← run_core B hist M0 hk, h2] at he
  obtain ⟨r1, r2⟩ := run_prefix he
  exact ⟨fs, lf, rest, h1, h2, r1, fun ho => r2 (by rw [← h2, run_core B hist M0 hk]; exact ho)⟩
structure Fed (c : Cf) (l : Lg) (G : List Nat) : Prop where
  reads : Reads c l
  buf : l.buf = G.drop (G.length - (all G c.masked (bound c : Int)).2.2)
  serr : (all G c.masked (bound c : Int)).2.1 = 0
  ms : l.ms = (run (c.msg : Int) M0 (all G c.masked (bound c : Int)).1).1
theorem fed_zero (c : Cf) (d : Nat) : Fed c (L0 d) [] := ⟨reads_zero c d, rfl, rfl, rfl⟩
theorem fed_step {c : Cf} {l : Lg} {G : List Nat} (h : Fed c l G) (hG : ∀ y ∈ G, y < 256) (b : List Nat) (hb : ∀ y ∈ b, y < 256) (ha : (all (G ++ b) c.masked (bound c : Int)).2.1 = 0) (hr : (run (c.msg : Int) M0 (all (G ++ b) c.masked (bound c : Int)).1).1.err = 0) :
    (run (c.msg : Int) M0 (all (G ++ b) c.masked (bound c : Int)).1).2 = (run (c.msg : Int) M0 (all G c.masked (bound c : Int)).1).2 ++ evs c l b ∧ errs c l b = 0 ∧ (came c l b).ms = (run (c.msg : Int) M0 (all (G ++ b) c.masked (bound c : Int)).1).1 ∧
    ((run (c.msg : Int) M0 (all (G ++ b) c.masked (bound c : Int)).1).1.over = false → Fed c (feed c l b).1 (G ++ b)) := by
  have hall := all_append c.masked (bound c : Int) b hb _ G (Nat.le_refl _) hG
  rw [if_pos h.serr, ← h.buf] at hall
  have hms : (came c l b).ms = (run (c.msg : Int) M0 (all (G ++ b) c.masked (bound c : Int)).1).1 := by
    show (run _ l.ms _).1 = _
    rw [hall, run_append, ← h.ms]
  have hev : (run (c.msg : Int) M0 (all (G ++ b) c.masked (bound c : Int)).1).2 = (run (c.msg : Int) M0 (all G c.masked (bound c : Int)).1).2 ++ evs c l b := by
    unfold evs
    rw [hall, run_append, ← h.ms]
  have hse : (came c l b).serr = 0 := by
    show (all (l.buf ++ b) c.masked (bound c : Int)).2.1 = 0
    rw [hall] at ha; exact ha
  have her : errs c l b = 0 := by
    unfold errs
    rw [if_neg (fun e => e (by rw [hms]; exact hr))]
    split
    · rfl
    · exact hse
  refine ⟨hev, her, hms, fun ho => ?_⟩
  have ho2 : (came c l b).ms.over = false := by rw [hms]; exact ho
  obtain ⟨_, _, f3, _, f5, _, _, _⟩ := feed_in h.reads b hb
  refine ⟨feed_reads h.reads b hb her ho2, ?_, ha, f5.trans hms⟩
  have hse2 : (all (l.buf ++ b) c.masked (bound c : Int)).2.1 = 0 := hse
  have hle := all_left c.masked (bound c : Int) _ G (Nat.le_refl _) hG
  have hs : ∀ y ∈ l.buf ++ b, y < 256 := fun y hy => by
    rcases List.mem_append.1 hy with hy | hy
    · exact h.reads.small y hy
    · exact hb y hy
  have hle2 := all_left c.masked (bound c : Int) _ (l.buf ++ b) (Nat.le_refl _) hs
  have hleft : (all (G ++ b) c.masked (bound c : Int)).2.2 = (all (l.buf ++ b) c.masked (bound c : Int)).2.2 := by rw [hall]
  have hbl : l.buf.length = (all G c.masked (bound c : Int)).2.2 := by rw [h.buf, List.length_drop]; omega
  rw [f3]
  show (if _ then _ else _) = _
  rw [if_pos hse2, hleft]
  have e1 : l.buf ++ b = (G ++ b).drop (G.length - (all G c.masked (bound c : Int)).2.2) := by
    rw [List.drop_append_of_le_length (by omega), ← h.buf]
  obtain ⟨z, hz⟩ : ∃ z, (all (l.buf ++ b) c.masked (bound c : Int)).2.2 = z := ⟨_, rfl⟩
  rw [hz] at hle2 ⊢
  have e2 : (l.buf ++ b).length - z = (l.buf ++ b).length - z := rfl
  rw [show (l.buf ++ b).drop ((l.buf ++ b).length - z) = ((G ++ b).drop (G.length - (all G c.masked (bound c : Int)).2.2)).drop ((l.buf ++ b).length - z) from by rw [← e1], List.drop_drop]
  congr 1
  rw [List.length_append] at hle2
  rw [List.length_append, List.length_append]
  omega
end LegPlain
namespace LegPlain
open FramePlain (Fr Fr0 form ctl zero4 text)
open MsgPlain (Ev Ms M0 run)
open CutPlain (frs)
open ClosePlain (putC getC codeC acrossC valid)
structure CfOk (c : Cf) : Prop where
  o1 : 1 ≤ c.out
  o2 : c.out ≤ 65536
  m1 : 1 ≤ c.msg
  m2 : c.msg ≤ 65536
  f1 : 1 ≤ c.frm
  f2 : c.frm ≤ 65536
structure Good (c : Cf) (l : Lg) (k : Nat) : Prop where
  few : Few c l k
  inn : In c l
  gm : l.got = l.ms.over
  op : l.sent = false → l.got = false ∧ l.wrong = 0
theorem Good.mono {c : Cf} {l : Lg} {k j : Nat} (h : Good c l k) (hj : k ≤ j) : Good c l j := ⟨h.few.mono hj, h.inn, h.gm, h.op⟩
theorem good_zero (c : Cf) (d : Nat) : Good c (L0 d) 0 := ⟨few_zero c d, in_zero c d, rfl, fun _ => ⟨rfl, rfl⟩⟩
theorem Good.reads {c : Cf} {l : Lg} {k : Nat} (h : Good c l k) (hg : l.got = false) (hw : l.wrong = 0) : Reads c l := by
  rcases h.inn with h1 | ⟨h1, _⟩
  · exact h1
  · rcases h1 with h1 | h1
    · rw [hg] at h1; cases h1
    · exact absurd hw h1
theorem good_keep {c : Cf} {l m : Lg} {k j : Nat} (h : Good c l k) (hk : Keep l m) (hf : Few c m j) (hs : m.sent = false → l.sent = false) : Good c m j :=
  ⟨hf, in_keep hk h.inn, by rw [hk.got, hk.ms]; exact h.gm, fun e => by rw [hk.got, hk.wrong]; exact h.op (hs e)⟩
theorem send_sent (c : Cf) (l : Lg) (op : Int) (t : List Nat) : (send c l op t).1.sent = l.sent := by
  unfold send
  split
  · exact (mv_keep c _ { l with rest := frs c.frm op t, said := l.said ++ [(op, t)] }).2.1
  · rfl
theorem ping_sent (c : Cf) (l : Lg) (d : List Nat) : (ping c l d).1.sent = l.sent := by
  unfold ping
  split
  · rfl
  · exact (control_keep c l 9 d).2.1
theorem take_sent (c : Cf) (l : Lg) (n : Int) : (takeN c l n).1.sent = l.sent := (mv_keep c _ { l with gone := l.gone ++ l.ring.take n.toNat, ring := l.ring.drop n.toNat }).2.1
theorem close_no (c : Cf) (l : Lg) (code : Int) (w : List Nat) (h : (close c l code w).1.sent = false) : l.sent = false := by
  unfold close at h
  split at h
  · exact h
  · rw [(control_keep c { l with sent := true, rest := [], last := (putC code w).1 } 8 (putC code w).1).2.1] at h
    cases h
theorem good_send {c : Cf} (hc : CfOk c) {l : Lg} {k : Nat} (h : Good c l k) (op : Int) (t : List Nat) (hs : ∀ y ∈ t, y < 256) : Good c (send c l op t).1 k :=
  good_keep h (send_keep c l op t) (few_send hc.f2 hc.f1 h.few op t hs) (fun e => by rw [send_sent] at e; exact e)
theorem good_ping {c : Cf} (hc : CfOk c) {l : Lg} {k : Nat} (h : Good c l k) (d : List Nat) (hs : ∀ y ∈ d, y < 256) : Good c (ping c l d).1 (k + 1) :=
  good_keep h (ping_keep c l d) (few_ping hc.f2 h.few d hs) (fun e => by rw [ping_sent] at e; exact e)
theorem good_close {c : Cf} (hc : CfOk c) {l : Lg} {k : Nat} (h : Good c l k) (code : Int) (w : List Nat) (hs : ∀ y ∈ w, y < 256) : Good c (close c l code w).1 k :=
  good_keep h (close_keep c l code w) (few_close hc.f2 h.few code w hs) (close_no c l code w)
theorem good_take {c : Cf} (hc : CfOk c) {l : Lg} {k : Nat} (h : Good c l k) (n : Int) : Good c (takeN c l n).1 k :=
  good_keep h (take_keep c l n) (few_take hc.f2 h.few n) (fun e => by rw [take_sent] at e; exact e)
theorem good_feed {c : Cf} (hc : CfOk c) {l : Lg} {k : Nat} (h : Good c l k) (b : List Nat) (hb : ∀ y ∈ b, y < 256) : Good c (feed c l b).1 k := by
  by_cases hx : l.got = true ∨ l.wrong ≠ 0
  · rw [feed_stop b hx]; exact h
  · have hg : l.got = false := by simpa using fun e => hx (.inl e)
    have hw : l.wrong = 0 := Classical.byContradiction fun e => hx (.inr e)
    have hr := h.reads hg hw
    obtain ⟨f1, f2, _, _, f5, _, f7, _⟩ := feed_in hr b hb
    refine ⟨few_feed hc.f2 h.few b (evs_small hr b hb), in_feed h.inn b hb, by rw [f1, f5], fun e => ?_⟩
    rw [f7] at e
    simp only [Bool.or_eq_false_iff, decide_eq_false_iff_not, Classical.not_not] at e
    exact ⟨f1.trans e.1.2, f2.trans e.2⟩
theorem Good.cases {c : Cf} {l : Lg} {k : Nat} (h : Good c l k) : (l.got = true ∨ l.wrong ≠ 0) ∨ (l.got = false ∧ l.wrong = 0 ∧ Reads c l) := by
  by_cases hx : l.got = true ∨ l.wrong ≠ 0
  · exact .inl hx
  · have hg : l.got = false := by simpa using fun e => hx (.inl e)
    have hw : l.wrong = 0 := Classical.byContradiction fun e => hx (.inr e)
    exact .inr ⟨hg, hw, h.reads hg hw⟩
theorem Good.free {c : Cf} {l : Lg} {k : Nat} (h : Good c l k) : free l = (!l.sent && l.rest.isEmpty) := by
  unfold LegPlain.free
  cases hs : l.sent with
  | true => rfl
  | false =>
    obtain ⟨h1, h2⟩ := h.op hs
    rw [h1, h2]; rfl
theorem Good.ctl_le {c : Cf} {l : Lg} {k : Nat} (h : Few c l k) : l.ctl.length ≤ k + 2 := by
  have h1 := few_sum l.ctl
  have h2 := h.pongs
  have h3 := h.others
  have h4 := toNat_le l.sent
  omega
theorem frs_len {most : Nat} (hm : 1 ≤ most) : ∀ (n : Nat) (op : Int) (t : List Nat), t.length ≤ n → (frs most op t).length ≤ t.length + 1
  | 0, op, t, h => by rw [CutPlain.frs_last (by omega)]; simp
  | n + 1, op, t, h => by
    by_cases h1 : t.length ≤ most
    · rw [CutPlain.frs_last h1]; simp
    · rw [CutPlain.frs_more hm h1, List.length_cons]
      have := frs_len hm n 0 (t.drop most) (by rw [List.length_drop]; omega)
      rw [List.length_drop] at this
      omega
theorem rest_le {c : Cf} {l : Lg} {k : Nat} (h : Few c l k) : l.rest.length ≤ 14 + 15 * c.msg := by
  have h1 : ∀ l : List Fr, l.length ≤ wts l := fun l => by
    induction l with
    | nil => exact Nat.le_refl _
    | cons f l ih => rw [wts_cons, List.length_cons]; unfold wt; omega
  exact Nat.le_trans (h1 _) h.rest
end LegPlain
