/- frame: the length that bytes begin with. -/
import Derived.Test.YtcelhondifaloaaDoorE
set_option maxRecDepth 100000
namespace Go.Proofs.YtcelhondifaloaaDoor
open Go.RowKit MaskPlain FramePlain Mas

/-- The length that bytes begin with, of a frame of that op. -/
def lenF (o : Nat) (bs : List Nat) : Nat × Nat × Nat :=
  if ctl (o : Int) = true ∧ 0 < bs.length ∧ 125 < bs.getD 0 0 % 128 then (0, 0, 91)
  else if (getL bs).2.2 = 81 then (0, 0, 91) else if (getL bs).2.2 = 80 then (0, 0, 90) else getL bs

set_option maxHeartbeats 2000000 in
theorem length_any (o : Nat) (v : Value) (bs : List Nat) (w : World) (hg : Globs w) (hv : SrcAt w v bs) (hsm : Small 256 bs) (hm : bs.length ≤ 1000000) :
    Calls Tryd.prog 24 #[.int .i64 (o : Int), v] w fun e w' => e = .returned (res3 (lenF o bs)) ∧ Sl (Below w.heap.size w w') := by
  have HG := Sl.mk hg
  have HV := Sl.mk hv
  have HSM := Sl.mk hsm
  obtain ⟨a0, cap, sb, so, hve, hcap, ha, hcell⟩ := hv
  obtain ⟨bl, hbl⟩ : ∃ bl, bs.length = bl := ⟨_, rfl⟩
  have HBL := Sl.mk hbl
  rw [hbl] at hve hcap ha
  subst hve
  have hv : Sl True := ⟨trivial⟩
  obtain ⟨c, hc⟩ : ∃ c, ctl (o : Int) = c := ⟨_, rfl⟩
  have C1 : ∀ W, Calls Tryd.prog 14 #[.int .i64 (o : Int)] W fun e w' => e = .returned (.bool c) ∧ W = w' := fun W => by rw [← hc]; exact control_any (o : Int) W
  have hwc : IntKind.i64.wrap (bl : Int) = (bl : Int) := by rw [IntKind.wrap_i64]; omega
  clear hg hwc
  cases c with
  | false =>
    have HLT : ¬ (ctl (o : Int) = true ∧ 0 < bs.length ∧ 125 < bs.getD 0 0 % 128) := fun h => by rw [hc] at h; exact absurd h.1 (by decide)
    go_enter Tryd.func24, Tryd.ntmps24
    go_wp2_with fail
    refine (C1 _).mono ?_
    rintro e w1 ⟨rfl, rfl⟩
    clear C1 hc hcell ha hcap hbl
    rcases get_codes bs with he | he | he
    · obtain ⟨n, j, hnj⟩ : ∃ n j, getL bs = (n, j, 0) := ⟨(getL bs).1, (getL bs).2.1, by rw [← he]⟩
      have HQ : Sl (lenF o bs = (n, j, 0)) := ⟨by unfold lenF; rw [if_neg HLT, hnj]; rfl⟩
      have C2 := fun W hW hS => get_ex (.slice a0 bl cap) bs n j 0 W hW hS hsm hm hnj
      rw [show ((0 : Nat) : Int) = 0 from rfl] at C2
      clear he hnj hm hsm hv HLT
      go_wp2_with fail
      refine (C2 _ HG.out HV.out).mono ?_
      rintro e w1 ⟨rfl, HX⟩
      go_wp2
      go_ret3
      exact ⟨by rw [HQ.out]; rfl, HX⟩
    · obtain ⟨n, j, hnj⟩ : ∃ n j, getL bs = (n, j, 80) := ⟨(getL bs).1, (getL bs).2.1, by rw [← he]⟩
      have HQ : Sl (lenF o bs = (0, 0, 90)) := ⟨by unfold lenF; rw [if_neg HLT, hnj]; rfl⟩
      have C2 := fun W hW hS => get_ex (.slice a0 bl cap) bs n j 80 W hW hS hsm hm hnj
      rw [show ((80 : Nat) : Int) = 80 from rfl] at C2
      clear he hnj hm hsm hv HLT
      go_wp2_with fail
      refine (C2 _ HG.out HV.out).mono ?_
      rintro e w1 ⟨rfl, HX⟩
      go_wp2
      go_ret3
      exact ⟨by rw [HQ.out]; rfl, HX⟩
    · obtain ⟨n, j, hnj⟩ : ∃ n j, getL bs = (n, j, 81) := ⟨(getL bs).1, (getL bs).2.1, by rw [← he]⟩
      have HQ : Sl (lenF o bs = (0, 0, 91)) := ⟨by unfold lenF; rw [if_neg HLT, hnj]; rfl⟩
      have C2 := fun W hW hS => get_ex (.slice a0 bl cap) bs n j 81 W hW hS hsm hm hnj
      rw [show ((81 : Nat) : Int) = 81 from rfl] at C2
      clear he hnj hm hsm hv HLT
      go_wp2_with fail
      refine (C2 _ HG.out HV.out).mono ?_
      rintro e w1 ⟨rfl, HX⟩
      go_wp2
      go_ret3
      exact ⟨by rw [HQ.out]; rfl, HX⟩
  | true =>
    by_cases h0 : 0 < bl
    · obtain rfl := ha h0
      have hc0 := hcell 0 (by omega)
      rw [Nat.add_zero] at hc0
      obtain ⟨x, hx⟩ : ∃ x, bs.getD 0 0 = x := ⟨_, rfl⟩
      rw [hx] at hc0
      have hx256 : x < 256 := by rw [← hx]; exact hsm.getD (by omega) 0
      have hand := andNot_128 x hx256
      obtain ⟨y, hy⟩ : ∃ y, x % 128 = y := ⟨_, rfl⟩
      rw [hy] at hand
      by_cases h5 : 125 < y
      · have h5' : ((y : Int) > 125) = True := eq_true (by omega)
        have HQ : Sl (lenF o bs = (0, 0, 91)) := ⟨by unfold lenF; rw [if_pos ⟨hc, by omega, by rw [hx, hy]; exact h5⟩]⟩
        clear hc hx hx256 h5 hm hsm hcell ha hcap hbl hy
        go_enter Tryd.func24, Tryd.ntmps24
        go_wp2_with fail
        refine (C1 _).mono ?_
        rintro e w1 ⟨rfl, rfl⟩
        go_wp2
        go_ret3
        exact ⟨by rw [HQ.out]; rfl, ⟨Below.refl _ _⟩⟩
      · have h5' : ((y : Int) > 125) = False := eq_false (by omega)
        have HLT : ¬ (ctl (o : Int) = true ∧ 0 < bs.length ∧ 125 < bs.getD 0 0 % 128) := fun h => by rw [hx, hy] at h; exact h5 h.2.2
        go_enter Tryd.func24, Tryd.ntmps24
        go_wp2_with fail
        refine (C1 _).mono ?_
        rintro e w1 ⟨rfl, rfl⟩
        clear C1 hc hcell ha hcap hbl hx hx256 h5 hy
        rcases get_codes bs with he | he | he
        · obtain ⟨n, j, hnj⟩ : ∃ n j, getL bs = (n, j, 0) := ⟨(getL bs).1, (getL bs).2.1, by rw [← he]⟩
          have HQ : Sl (lenF o bs = (n, j, 0)) := ⟨by unfold lenF; rw [if_neg HLT, hnj]; rfl⟩
          have C2 := fun W hW hS => get_ex (.slice (some ⟨sb, so, none⟩) bl cap) bs n j 0 W hW hS hsm hm hnj
          rw [show ((0 : Nat) : Int) = 0 from rfl] at C2
          clear he hnj hm hsm hv HLT
          go_wp2_with fail
          refine (C2 _ HG.out HV.out).mono ?_
          rintro e w1 ⟨rfl, HX⟩
          go_wp2
          go_ret3
          exact ⟨by rw [HQ.out]; rfl, HX⟩
        · obtain ⟨n, j, hnj⟩ : ∃ n j, getL bs = (n, j, 80) := ⟨(getL bs).1, (getL bs).2.1, by rw [← he]⟩
          have HQ : Sl (lenF o bs = (0, 0, 90)) := ⟨by unfold lenF; rw [if_neg HLT, hnj]; rfl⟩
          have C2 := fun W hW hS => get_ex (.slice (some ⟨sb, so, none⟩) bl cap) bs n j 80 W hW hS hsm hm hnj
          rw [show ((80 : Nat) : Int) = 80 from rfl] at C2
          clear he hnj hm hsm hv HLT
          go_wp2_with fail
          refine (C2 _ HG.out HV.out).mono ?_
          rintro e w1 ⟨rfl, HX⟩
          go_wp2
          go_ret3
          exact ⟨by rw [HQ.out]; rfl, HX⟩
        · obtain ⟨n, j, hnj⟩ : ∃ n j, getL bs = (n, j, 81) := ⟨(getL bs).1, (getL bs).2.1, by rw [← he]⟩
          have HQ : Sl (lenF o bs = (0, 0, 91)) := ⟨by unfold lenF; rw [if_neg HLT, hnj]; rfl⟩
          have C2 := fun W hW hS => get_ex (.slice (some ⟨sb, so, none⟩) bl cap) bs n j 81 W hW hS hsm hm hnj
          rw [show ((81 : Nat) : Int) = 81 from rfl] at C2
          clear he hnj hm hsm hv HLT
          go_wp2_with fail
          refine (C2 _ HG.out HV.out).mono ?_
          rintro e w1 ⟨rfl, HX⟩
          go_wp2
          go_ret3
          exact ⟨by rw [HQ.out]; rfl, HX⟩
    · obtain rfl : bl = 0 := by omega
      have HLT : ¬ (ctl (o : Int) = true ∧ 0 < bs.length ∧ 125 < bs.getD 0 0 % 128) := fun h => by omega
      go_enter Tryd.func24, Tryd.ntmps24
      go_wp2_with fail
      refine (C1 _).mono ?_
      rintro e w1 ⟨rfl, rfl⟩
      clear C1 hc hcell ha hcap hbl h0
      rcases get_codes bs with he | he | he
      · obtain ⟨n, j, hnj⟩ : ∃ n j, getL bs = (n, j, 0) := ⟨(getL bs).1, (getL bs).2.1, by rw [← he]⟩
        have HQ : Sl (lenF o bs = (n, j, 0)) := ⟨by unfold lenF; rw [if_neg HLT, hnj]; rfl⟩
        have C2 := fun W hW hS => get_ex (.slice a0 0 cap) bs n j 0 W hW hS hsm hm hnj
        rw [show ((0 : Nat) : Int) = 0 from rfl] at C2
        clear he hnj hm hsm hv HLT
        go_wp2_with fail
        refine (C2 _ HG.out HV.out).mono ?_
        rintro e w1 ⟨rfl, HX⟩
        go_wp2
        go_ret3
        exact ⟨by rw [HQ.out]; rfl, HX⟩
      · obtain ⟨n, j, hnj⟩ : ∃ n j, getL bs = (n, j, 80) := ⟨(getL bs).1, (getL bs).2.1, by rw [← he]⟩
        have HQ : Sl (lenF o bs = (0, 0, 90)) := ⟨by unfold lenF; rw [if_neg HLT, hnj]; rfl⟩
        have C2 := fun W hW hS => get_ex (.slice a0 0 cap) bs n j 80 W hW hS hsm hm hnj
        rw [show ((80 : Nat) : Int) = 80 from rfl] at C2
        clear he hnj hm hsm hv HLT
        go_wp2_with fail
        refine (C2 _ HG.out HV.out).mono ?_
        rintro e w1 ⟨rfl, HX⟩
        go_wp2
        go_ret3
        exact ⟨by rw [HQ.out]; rfl, HX⟩
      · obtain ⟨n, j, hnj⟩ : ∃ n j, getL bs = (n, j, 81) := ⟨(getL bs).1, (getL bs).2.1, by rw [← he]⟩
        have HQ : Sl (lenF o bs = (0, 0, 91)) := ⟨by unfold lenF; rw [if_neg HLT, hnj]; rfl⟩
        have C2 := fun W hW hS => get_ex (.slice a0 0 cap) bs n j 81 W hW hS hsm hm hnj
        rw [show ((81 : Nat) : Int) = 81 from rfl] at C2
        clear he hnj hm hsm hv HLT
        go_wp2_with fail
        refine (C2 _ HG.out HV.out).mono ?_
        rintro e w1 ⟨rfl, HX⟩
        go_wp2
        go_ret3
        exact ⟨by rw [HQ.out]; rfl, HX⟩

def fr0 : Array Value := #[.bool false, .int .i64 0, .bool false, .int .u8 0, .int .u8 0, .int .u8 0, .int .u8 0, .string { data := #[] }]
/-- A frame as a value. -/
def valF (f : Fr) : Value := .agg #[.bool f.fin, .int .i64 f.op, .bool f.masked, .int .u8 ((f.key.getD 0 0 : Nat) : Int), .int .u8 ((f.key.getD 1 0 : Nat) : Int), .int .u8 ((f.key.getD 2 0 : Nat) : Int), .int .u8 ((f.key.getD 3 0 : Nat) : Int), .string (strOf f.data)]
def resF (r : Fr × Nat × Nat) : Value := .tuple #[valF r.1, .int .i64 ((r.2.1 : Nat) : Int), .int .i64 ((r.2.2 : Nat) : Int)]
theorem fr_info {cs : Array Value} (h : cs.size = 8) : (Tryd.prog.info? 24).map (·.size) = some cs.size := by rw [h]; kernel_rfl
theorem ret_fr {fn : Func} {p u x : Tmp} (h : fn.results = #[.cell p 24, .tmp u, .tmp x]) (tmps : Array Value) (w : World) (g : Nat) (t : TypeId) (cs : Array Value) (fr : Nat × Nat)
    (hp : tmps.getD p undef = .pointer (some ⟨g, 0, none⟩)) (hg : w.heap[g]? = some (.cells cs t fr)) (hs : cs.size = 8) :
    (results fn tmps).run Tryd.prog w = .ok (.tuple #[.agg cs, tmps.getD u undef, tmps.getD x undef]) w := by
  have hi : (Tryd.prog.info? 24).map (·.size) = some cs.size := fr_info hs
  have hp' : tmps[p]?.getD undef = .pointer (some ⟨g, 0, none⟩) := by simpa using hp
  simp only [results, h]
  simp [Result.andThen, hp', asAddr, run_loadVar_row (P := Tryd.prog) w g t 24 cs fr _ hg Tryd.underlying24 rfl hi]
/-- The frame that stands from a place on, of a first byte that is known. -/
def fillF (fin : Bool) (op : Int) (m : Bool) (p n : Nat) (r : List Nat) : Fr × Nat × Nat :=
  if m then
    (if r.length < 4 + n then (Fr0, 0, 90) else (⟨fin, op, true, r.take 4, turn (r.take 4) 0 ((r.drop 4).take n)⟩, p + 4 + n, 0))
  else if r.length < n then (Fr0, 0, 90) else (⟨fin, op, false, zero4, r.take n⟩, p + n, 0)
theorem rest_fill (x y n k : Nat) (r : List Nat) : rest x y n k r = fillF (decide (128 ≤ x)) ((x % 16 : Nat) : Int) (decide (128 ≤ y)) (1 + k) n r := by
  unfold rest fillF
  by_cases h : 128 ≤ y
  · rw [if_pos h, if_pos (decide_eq_true h)]
  · rw [if_neg h, if_neg (show ¬ (decide (128 ≤ y) = true) from by rw [decide_eq_false h]; decide)]
end Go.Proofs.YtcelhondifaloaaDoor
