/- queue: what lies beside a queue; the example. -/
import Derived.Test.YtflnmjiopeoodaaQG
set_option maxRecDepth 100000
namespace Go.Proofs.Ytflnmjiopeoodaa.Que
open Go.RowKit Evt QueuePlain
open MsgPlain (Ev)

/-- A block that is none of a queue's own. -/
def Beside (W : World) (q : Nat) (v : Value) (k : Nat) (o : Obj) : Prop := W.heap[k]? = some o ∧ ¬ Mine q v k
theorem Beside.goes {W W' : World} {q k : Nat} {v v' : Value} {o : Obj} (h : Beside W q v k o) (g : Goes W W' q v v') : Beside W' q v' k o := by
  have hk := (Array.getElem?_eq_some_iff.1 h.1).1
  refine ⟨by rw [g.kept.block k hk h.2]; exact h.1, fun e => ?_⟩
  rcases g.mine k e with h1 | h1
  · exact h.2 h1
  · omega
theorem Beside.below {W W' : World} {q k : Nat} {v : Value} {o : Obj} (h : Beside W q v k o) (g : Below W.heap.size W W') : Beside W' q v k o := h.goes (Goes.below q v g)
theorem Qu.beside {w0 W V : World} {q : Nat} {v : Value} {count bytes' : Int} {l : List Ev} {o : Obj} (h : Qu w0 W q v count bytes' l) (hV : V.heap[W.heap.size]? = some o) : Beside V q v W.heap.size o :=
  ⟨hV, fun e => Nat.lt_irrefl _ (h.N.own e).2⟩
def Ea : Ev := ⟨1, 0, [97, 98, 99]⟩
def Eb : Ev := ⟨1, 0, [100, 101]⟩
def Ec : Ev := ⟨1, 0, [102]⟩
theorem ea_bytes : (⟨1, 0, bytes { data := #[97, 98, 99] }⟩ : Ev) = Ea := by kernel_rfl
theorem eb_bytes : (⟨1, 0, bytes { data := #[100, 101] }⟩ : Ev) = Eb := by kernel_rfl
theorem ec_bytes : (⟨1, 0, bytes { data := #[102] }⟩ : Ev) = Ec := by kernel_rfl
set_option maxHeartbeats 4000000 in
theorem awake_any (w : World) : Calls Try.prog 9 #[] w fun e w' => e = .returned (.bool true) ∧ Sl (Below w.heap.size w w') := by
  have N1 := new_yes w w 2 5 (by omega) (Below.refl _ _)
  obtain ⟨q, hq⟩ : ∃ q, w.heap.size = q := ⟨_, rfl⟩
  rw [hq] at N1
  have p1 : put 2 5 [] ⟨1, 0, bytes { data := #[97, 98, 99] }⟩ = ([Ea], true) := by rw [ea_bytes]; kernel_rfl
  have p2 : put 2 5 [Ea] ⟨1, 0, bytes { data := #[100, 101] }⟩ = ([Ea, Eb], true) := by rw [eb_bytes]; kernel_rfl
  have p3 : put 2 5 [Ea, Eb] ⟨1, 0, bytes { data := #[102] }⟩ = ([Ea, Eb], false) := by rw [ec_bytes]; kernel_rfl
  have p4 : put 2 5 [Eb] ⟨1, 0, bytes { data := #[102] }⟩ = ([Eb, Ec], true) := by rw [ec_bytes]; kernel_rfl
  have P1 := Sl.mk p1
  have P2 := Sl.mk p2
  have P3 := Sl.mk p3
  have P4 := Sl.mk p4
  have ha : ∀ l, evV (hd (Ea :: l)) = .agg #[.int .i64 1, .int .i64 0, .string { data := #[97, 98, 99] }] := fun l => by kernel_rfl
  have hb : ∀ l, evV (hd (Eb :: l)) = .agg #[.int .i64 1, .int .i64 0, .string { data := #[100, 101] }] := fun l => by kernel_rfl
  have HA := Sl.mk ha
  have HBB := Sl.mk hb
  have HQQ := Sl.mk hq
  clear p1 p2 p3 p4 ha hb
  go_enter Try.func9, Try.ntmps9
  go_wp2_with fail
  refine N1.mono ?_
  rintro e w1 ⟨rfl, HQw1, HBw1⟩
  clear N1
  clear hq
  have C2 := put_any 1 0 { data := #[97, 98, 99] } true HQw1.out (by decide) P1.out
  go_wp2_with fail
  refine C2.mono ?_
  rintro e w2 ⟨v2, rfl, HQw2, HGw2⟩
  clear C2
  have C3 := put_any 1 0 { data := #[100, 101] } true HQw2.out (by decide) P2.out
  go_wp2_with fail
  refine C3.mono ?_
  rintro e w3 ⟨v3, rfl, HQw3, HGw3⟩
  clear C3
  have C4 := put_any 1 0 { data := #[102] } false HQw3.out (by decide) P3.out
  go_wp2_with fail
  refine C4.mono ?_
  rintro e w4 ⟨v4, rfl, HQw4, HGw4⟩
  clear C4
  have C5 := take_any 1 0 { data := #[97, 98, 99] } true HQw4.out (HA.out _) rfl
  go_wp2_with fail
  refine C5.mono ?_
  rintro e w5 ⟨v5, rfl, HQw5, HGw5⟩
  clear C5
  obtain ⟨w60, hww60, HBw60, hbw60⟩ := box_ev w5
  obtain ⟨w6, hww6, HBw6, HCw6⟩ := set_ev hbw60 HBw60.out (Nat.le_refl _) #[.int .i64 1, .int .i64 0, .string { data := #[97, 98, 99] }]
  have HIw6 : (Try.prog.info? 32).map (·.size) = some (#[Value.int .i64 1, .int .i64 0, .string { data := #[97, 98, 99] }]).size := ev_info rfl
  go_upto_region 8 with (refine wpList_store_row rfl 32 (.tmp 6) (.tmp 33) rfl w5.heap.size #[.int .i64 1, .int .i64 0, .string { data := #[97, 98, 99] }] rfl rfl 32 #[.int .i64 0, .int .i64 0, .string { data := #[] }] hbw60 HIw6 rfl (ev_all _ _ _) ?_)
  (try rw [hww6])
  clear hww60 hww6 hbw60 HBw60 HIw6
  have HX6 := Sl.mk (HQw5.out.beside HCw6.out)
  have HQw6 := Sl.mk (HQw5.out.below HBw6.out)
  obtain ⟨x, hx⟩ : ∃ x, w5.heap.size = x := ⟨_, rfl⟩
  rw [hx] at HX6 ⊢
  clear hx HCw6 HBw6 HQw5 HGw5
  have C7 := put_any 1 0 { data := #[102] } true HQw6.out (by decide) P4.out
  go_wp2_with fail
  refine C7.mono ?_
  rintro e w7 ⟨v7, rfl, HQw7, HGw7⟩
  clear C7
  have HX7 := Sl.mk (HX6.out.goes HGw7.out)
  have C8 := peek_any 1 0 { data := #[100, 101] } true HQw7.out (HBB.out _) rfl
  go_wp2_with fail
  refine C8.mono ?_
  rintro e w8 ⟨rfl, HBw8⟩
  clear C8
  have HX8 := Sl.mk (HX7.out.below HBw8.out)
  have HQw8 := Sl.mk (HQw7.out.below HBw8.out)
  obtain ⟨w90, hww90, HBw90, hbw90⟩ := box_ev w8
  obtain ⟨w9, hww9, HBw9, HCw9⟩ := set_ev hbw90 HBw90.out (Nat.le_refl _) #[.int .i64 1, .int .i64 0, .string { data := #[100, 101] }]
  have HIw9 : (Try.prog.info? 32).map (·.size) = some (#[Value.int .i64 1, .int .i64 0, .string { data := #[100, 101] }]).size := ev_info rfl
  go_upto_region 10 with (refine wpList_store_row rfl 32 (.tmp 9) (.tmp 41) rfl w8.heap.size #[.int .i64 1, .int .i64 0, .string { data := #[100, 101] }] rfl rfl 32 #[.int .i64 0, .int .i64 0, .string { data := #[] }] hbw90 HIw9 rfl (ev_all _ _ _) ?_)
  (try rw [hww9])
  clear hww90 hww9 hbw90 HBw90 HIw9
  have HX9 := Sl.mk (HX8.out.below HBw9.out)
  have HQw9 := Sl.mk (HQw8.out.below HBw9.out)
  obtain ⟨-, -, d2⟩ := ev_cells HX9.out.1
  obtain ⟨-, -, e2⟩ := ev_cells HCw9.out
  have L9 := len_any (n := 2) rfl HQw9.out.N
  go_wp2_with fail
  refine L9.mono ?_
  rintro e w10 ⟨rfl, rfl⟩
  clear L9
  have S9 := size_any (n := 3) (l := [Eb, Ec]) HQw9.out.N
  go_wp2_with fail
  refine S9.mono ?_
  rintro e w11 ⟨rfl, rfl⟩
  clear S9
  have R9 := room_any 0 false HQw9.out rfl
  go_wp2_with fail
  refine R9.mono ?_
  rintro e w12 ⟨rfl, HB12⟩
  clear R9
  clear d2 e2
  go_wp2
  go_ret
  exact ⟨rfl, ⟨(HQw9.out.below HB12.out).N.L⟩⟩
end Go.Proofs.Ytflnmjiopeoodaa.Que
