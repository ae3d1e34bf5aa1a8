/- shake: ShakeBoth's walk. -/
import Derived.Test.YthlagngpllahkaaGreatDoorW1
import Derived.Test.YthlagngpllahkaaGreatDoorW7
set_option maxRecDepth 100000
namespace Go.Proofs.YthlagngpllahkaaGreatDoor
open Go.RowKit HeadPlain Nam

theorem run_app {a : Act} {o : Oper} {x y : Operand} {Z w1 : World} {v0 src v1 : Value} (ho : o.op = .call { callee := .builtin .append, args := #[x, y], argTypes := #[28, 28] }) (ht : o.type = 28) (hs : a.eval x = v0) (hx : a.eval y = src)
    (hap : (Builtin.append_ #[28, 28] 28 #[v0, src]).run Tryz.prog Z = .ok v1 w1) : (execOp a.eval o).run Tryz.prog Z = .ok (.value v1) w1 := by
  unfold execOp
  simp only [ho, ht, resolve, invoke, builtin, Sem.run_bind, Sem.run_pure, Result.andThen_ok, List.map_toArray, List.map_cons, List.map_nil, hs, hx, hap]
set_option maxHeartbeats 1000000 in
theorem both_bad_path (path host key : ByteArray) (v : Value) (at_ : Nat) (more : ByteArray) (w : World) (hg : GlobA w) (pathh : 1000 < path.size) :
    Calls Tryz.prog 7 #[.string path, .string host, .string key, v, .int .u8 at_, .string more] w fun e w' => e = .returned (.bool true) ∧ Sl (Below w.heap.size w w') := by
  have HG := Sl.mk hg
  have hpath : ((1000 : Int) < (path.size : Int)) = True := eq_true (by omega)
  clear hg pathh
  go_enter Tryz.func7, Tryz.ntmps7
  go_wp2_with fail
  refine (awake_ex (below0 w) HG.out).mono ?_
  rintro e w1 ⟨rfl, _, HB1⟩
  go_wp2_with fail
  refine (awake_ex HB1.out HG.out).mono ?_
  rintro e w3 ⟨rfl, _, HB3⟩
  go_wp2
  go_ret
  exact ⟨rfl, HB3⟩
set_option maxHeartbeats 1000000 in
theorem both_bad_host (path host key : ByteArray) (v : Value) (at_ : Nat) (more : ByteArray) (w : World) (hg : GlobA w) (pathh : path.size ≤ 1000) (hosth : 100 < host.size) :
    Calls Tryz.prog 7 #[.string path, .string host, .string key, v, .int .u8 at_, .string more] w fun e w' => e = .returned (.bool true) ∧ Sl (Below w.heap.size w w') := by
  have HG := Sl.mk hg
  have hpath : ((1000 : Int) < (path.size : Int)) = False := eq_false (by omega)
  have hhost : ((100 : Int) < (host.size : Int)) = True := eq_true (by omega)
  clear hg pathh hosth
  go_enter Tryz.func7, Tryz.ntmps7
  go_wp2_with fail
  refine (awake_ex (below0 w) HG.out).mono ?_
  rintro e w1 ⟨rfl, _, HB1⟩
  go_wp2_with fail
  refine (awake_ex HB1.out HG.out).mono ?_
  rintro e w3 ⟨rfl, _, HB3⟩
  go_wp2
  go_ret
  exact ⟨rfl, HB3⟩
set_option maxHeartbeats 1000000 in
theorem both_bad_key (path host key : ByteArray) (v : Value) (at_ : Nat) (more : ByteArray) (w : World) (hg : GlobA w) (pathh : path.size ≤ 1000) (hosth : host.size ≤ 100) (keyh : 100 < key.size) :
    Calls Tryz.prog 7 #[.string path, .string host, .string key, v, .int .u8 at_, .string more] w fun e w' => e = .returned (.bool true) ∧ Sl (Below w.heap.size w w') := by
  have HG := Sl.mk hg
  have hpath : ((1000 : Int) < (path.size : Int)) = False := eq_false (by omega)
  have hhost : ((100 : Int) < (host.size : Int)) = False := eq_false (by omega)
  have hkey : ((100 : Int) < (key.size : Int)) = True := eq_true (by omega)
  clear hg pathh hosth keyh
  go_enter Tryz.func7, Tryz.ntmps7
  go_wp2_with fail
  refine (awake_ex (below0 w) HG.out).mono ?_
  rintro e w1 ⟨rfl, _, HB1⟩
  go_wp2_with fail
  refine (awake_ex HB1.out HG.out).mono ?_
  rintro e w3 ⟨rfl, _, HB3⟩
  go_wp2
  go_ret
  exact ⟨rfl, HB3⟩
set_option maxHeartbeats 1000000 in
theorem both_bad_few (path host key : ByteArray) (v : Value) (l : List ByteArray) (at_ : Nat) (more : ByteArray) (w : World) (hg : GlobA w) (hv : StrA w v l) (hl : l.length ≤ maxLen) (hs : ∀ s ∈ l, s.size ≤ maxLen) (pathh : path.size ≤ 1000) (hosth : host.size ≤ 100) (keyh : key.size ≤ 100) (x : fewB l = false) :
    Calls Tryz.prog 7 #[.string path, .string host, .string key, v, .int .u8 at_, .string more] w fun e w' => e = .returned (.bool true) ∧ Sl (Below w.heap.size w w') := by
  have HG := Sl.mk hg
  have hpath : ((1000 : Int) < (path.size : Int)) = False := eq_false (by omega)
  have hhost : ((100 : Int) < (host.size : Int)) = False := eq_false (by omega)
  have hkey : ((100 : Int) < (key.size : Int)) = False := eq_false (by omega)
  have HFW : Sl (∀ V, Below w.heap.size w V → Calls Tryz.prog 17 #[v] V fun e w' => e = .returned (.bool false) ∧ V = w') := ⟨fun V hB => few_ex x (hv.below hB) hl hs⟩
  clear hg pathh hosth keyh x hv hl hs
  go_enter Tryz.func7, Tryz.ntmps7
  go_wp2_with fail
  refine (awake_ex (below0 w) HG.out).mono ?_
  rintro e w1 ⟨rfl, _, HB1⟩
  go_wp2_with fail
  refine (HFW.out _ HB1.out).mono ?_
  rintro e w2 ⟨rfl, rfl⟩
  go_wp2_with fail
  refine (awake_ex HB1.out HG.out).mono ?_
  rintro e w3 ⟨rfl, _, HB3⟩
  go_wp2
  go_ret
  exact ⟨rfl, HB3⟩
set_option maxHeartbeats 1000000 in
theorem both_bad_more (path host key : ByteArray) (v : Value) (l : List ByteArray) (at_ : Nat) (more : ByteArray) (w : World) (hg : GlobA w) (hv : StrA w v l) (hl : l.length ≤ maxLen) (hs : ∀ s ∈ l, s.size ≤ maxLen) (pathh : path.size ≤ 1000) (hosth : host.size ≤ 100) (keyh : key.size ≤ 100) (x : fewB l = true) (moreh : 100 < more.size) :
    Calls Tryz.prog 7 #[.string path, .string host, .string key, v, .int .u8 at_, .string more] w fun e w' => e = .returned (.bool true) ∧ Sl (Below w.heap.size w w') := by
  have HG := Sl.mk hg
  have hpath : ((1000 : Int) < (path.size : Int)) = False := eq_false (by omega)
  have hhost : ((100 : Int) < (host.size : Int)) = False := eq_false (by omega)
  have hkey : ((100 : Int) < (key.size : Int)) = False := eq_false (by omega)
  have HFW : Sl (∀ V, Below w.heap.size w V → Calls Tryz.prog 17 #[v] V fun e w' => e = .returned (.bool true) ∧ V = w') := ⟨fun V hB => few_ex x (hv.below hB) hl hs⟩
  have hmore : ((100 : Int) < (more.size : Int)) = True := eq_true (by omega)
  clear hg pathh hosth keyh x hv hl hs moreh
  go_enter Tryz.func7, Tryz.ntmps7
  go_wp2_with fail
  refine (awake_ex (below0 w) HG.out).mono ?_
  rintro e w1 ⟨rfl, _, HB1⟩
  go_wp2_with fail
  refine (HFW.out _ HB1.out).mono ?_
  rintro e w2 ⟨rfl, rfl⟩
  go_wp2_with fail
  refine (awake_ex HB1.out HG.out).mono ?_
  rintro e w3 ⟨rfl, _, HB3⟩
  go_wp2
  go_ret
  exact ⟨rfl, HB3⟩
set_option maxHeartbeats 2000000 in
theorem both_no (path host key : ByteArray) (v : Value) (l : List ByteArray) (at_ : Nat) (more : ByteArray) (w : World) (hg : GlobA w) (hv : StrA w v l) (h1 : path.size ≤ 1000) (h2 : host.size ≤ 100) (h3 : key.size ≤ 100) (hf : fewB l = true) (h4 : more.size ≤ 100) (hno : askOkB path host key l = false) :
    Calls Tryz.prog 7 #[.string path, .string host, .string key, v, .int .u8 at_, .string more] w fun e w' => e = .returned (.bool true) ∧ Sl (Below w.heap.size w w') := by
  have HG := Sl.mk hg
  obtain ⟨hf1, hf2⟩ := fewB_yes hf
  have HFW : Sl (∀ V, Below w.heap.size w V → Calls Tryz.prog 17 #[v] V fun e w' => e = .returned (.bool true) ∧ V = w') := ⟨fun V hB => few_ex hf (hv.below hB) (by unfold maxLen; omega) (fun s h => Nat.le_trans (hf1 s h) (by unfold maxLen; omega))⟩
  have hpath : ((1000 : Int) < (path.size : Int)) = False := eq_false (by omega)
  have hhost : ((100 : Int) < (host.size : Int)) = False := eq_false (by omega)
  have hkey : ((100 : Int) < (key.size : Int)) = False := eq_false (by omega)
  have hmore : ((100 : Int) < (more.size : Int)) = False := eq_false (by omega)
  have HXA : Sl (∀ V, Below w.heap.size w V → StrA (V.alloc (.cells #[] 9)) v l) := ⟨fun V hB => hv.below (hB.alloc hB.size _)⟩
  have HLA : Sl (l.length ≤ 30) := ⟨hf2⟩
  have HOK : Sl (AskOk path host key l) := ⟨⟨by omega, by omega, by omega, fun x hx => Nat.le_trans (hf1 x hx) (by omega)⟩⟩
  have HNO := Sl.mk hno
  clear hg hv hf hf1 hf2 h1 h2 h3 h4 hno
  go_enter Tryz.func7, Tryz.ntmps7
  go_wp2_with fail
  refine (awake_ex (below0 w) HG.out).mono ?_
  rintro e w1 ⟨rfl, _, HB1⟩
  go_wp2_with fail
  refine (HFW.out _ HB1.out).mono ?_
  rintro e w2 ⟨rfl, rfl⟩
  go_wp2_with (refine app_all (o := ⟨some 64, _, _, _, _, _⟩) rfl _ _ rfl w1.heap.size _ _ [] l rfl (own_lit w1) rfl (HXA.out _ HB1.out) (by have := HLA.out; simp; omega) (by rw [alloc_size]; omega) ?_; intro v3 w3 HO3 HG3; obtain ⟨HB3', HB3⟩ := app_below HB1.out (own_lit w1) HG3.out)
  rw [List.nil_append] at HO3
  refine (ask_any path host key l v3 w3 HOK.out (by have := HLA.out; omega) (HG.out.of HB3.out) HO3.out.strA).mono ?_
  rintro e w4 ⟨HA4, HB4'⟩
  have HB4 := Sl.mk (below_trans HB3.out HB4'.out)
  obtain rfl : e = .returned (.tuple #[.agg #[.string { data := #[] }, .string { data := #[] }, .string { data := #[] }, .slice none 0 0], .int .i64 71]) := by
    rcases HA4.out with ⟨h, _⟩ | ⟨_, h⟩
    · rw [HNO.out] at h; cases h
    · exact h
  clear HA4
  obtain ⟨w5, hw5⟩ : ∃ V, w4.alloc (.cells #[.string { data := #[] }, .string { data := #[] }, .string { data := #[] }, .slice none 0 0] 25) = V := ⟨_, rfl⟩
  have HB5 : Sl (Below w.heap.size w w5) := ⟨by rw [← hw5]; exact HB4.out.alloc HB4.out.size _⟩
  have HO5 : Sl (w5.heap[w4.heap.size]? = some (.cells #[.string { data := #[] }, .string { data := #[] }, .string { data := #[] }, .slice none 0 0] 25 (0, 0))) := ⟨by rw [← hw5]; exact alloc_new _ _ _ rfl⟩
  obtain ⟨⟨z0, z1, z2, z3⟩, ⟨f0, f1, f2, f3⟩, ⟨s0, s1, s2, s3⟩⟩ := head_zero HO5.out
  go_wp2
  go_ret
  exact ⟨rfl, HB5⟩
set_option maxHeartbeats 8000000 in
theorem both_yes (path host key : ByteArray) (v : Value) (l : List ByteArray) (at_ : Nat) (more : ByteArray) (w : World) (hg : GlobA w) (hv : StrA w v l) (h1 : path.size ≤ 1000) (h2 : host.size ≤ 100) (h3 : key.size ≤ 100) (hf : fewB l = true) (h4 : more.size ≤ 100) (hat : at_ < 256) (hyes : askOkB path host key l = true) :
    Calls Tryz.prog 7 #[.string path, .string host, .string key, v, .int .u8 at_, .string more] w fun e w' => e = .returned (.bool true) ∧ Sl (Below w.heap.size w w') := by
  have HG := Sl.mk hg
  obtain ⟨hf1, hf2⟩ := fewB_yes hf
  have HFW : Sl (∀ V, Below w.heap.size w V → Calls Tryz.prog 17 #[v] V fun e w' => e = .returned (.bool true) ∧ V = w') := ⟨fun V hB => few_ex hf (hv.below hB) (by unfold maxLen; omega) (fun s h => Nat.le_trans (hf1 s h) (by unfold maxLen; omega))⟩
  have hpath : ((1000 : Int) < (path.size : Int)) = False := eq_false (by omega)
  have hhost : ((100 : Int) < (host.size : Int)) = False := eq_false (by omega)
  have hkey : ((100 : Int) < (key.size : Int)) = False := eq_false (by omega)
  have hmore : ((100 : Int) < (more.size : Int)) = False := eq_false (by omega)
  have HXA : Sl (∀ V, Below w.heap.size w V → StrA (V.alloc (.cells #[] 9)) v l) := ⟨fun V hB => hv.below (hB.alloc hB.size _)⟩
  have HLA : Sl (l.length ≤ 30) := ⟨hf2⟩
  have HOK : Sl (AskOk path host key l) := ⟨⟨by omega, by omega, by omega, fun x hx => Nat.le_trans (hf1 x hx) (by omega)⟩⟩
  obtain ⟨hq1, hq2, hq3, hq4⟩ := ask_quest hyes
  have C1 : Sl (∀ V u, Below w.heap.size w V → StrA V u l → Calls Tryz.prog 28 #[.string path, .string host, .string key, u] V fun e w' => (∃ a c, e = .returned (.tuple #[.agg #[.string (askV path host key l).a, .string (askV path host key l).b, .string (askV path host key l).c, .slice a (askV path host key l).fs.length c], .int .i64 0]) ∧ Sl (FieldsAt w' (.slice a (askV path host key l).fs.length c) (askV path host key l).fs)) ∧ Sl (Below V.heap.size V w')) := ⟨fun V u hB hS => (ask_any path host key l u V HOK.out (by have := HLA.out; omega) (HG.out.of hB) hS).mono fun e w' ⟨h1, h2⟩ => by
    refine ⟨?_, h2⟩
    rcases h1.out with ⟨_, a, c, he, hF⟩ | ⟨h0, _⟩
    · exact ⟨a, c, he, ⟨hF⟩⟩
    · rw [hyes] at h0; cases h0⟩
  have C6 : Sl (∀ (p : ByteArray) V, Below w.heap.size w V → (p.size = 0 ∨ p ∈ l) → Calls Tryz.prog 22 #[.string key, .string p] V fun e w' => (∃ x y, e = .returned (.agg #[.string (grantV key p).a, .string (grantV key p).b, .string (grantV key p).c, .slice x (grantV key p).fs.length y]) ∧ Sl (FieldsAt w' (.slice x (grantV key p).fs.length y) (grantV key p).fs)) ∧ Sl (Below V.heap.size V w')) := ⟨fun p V hB hp => (answer_any key p V (HG.out.of hB) (by omega) (by rcases hp with h | h; omega; have := hf1 p h; omega)).mono fun e w' ⟨h1, h2⟩ => by
    obtain ⟨x, y, he, hF⟩ := h1.out
    exact ⟨⟨x, y, he, ⟨hF⟩⟩, h2⟩⟩
  have C7 : Sl (∀ p : ByteArray, (p.size = 0 ∨ p ∈ l) → chk (grantV key p) = 0) := ⟨fun p hp => grant_chk key p (by rcases hp with h | h; exact .inl h; exact .inr (hq4 p h)) (by rcases hp with h | h; omega; exact hf1 p h)⟩
  have C8 : Sl (∀ p : ByteArray, (p.size = 0 ∨ p ∈ l) → bytes p = [] ∨ bytes p ∈ l.map bytes) := ⟨fun p hp => by rcases hp with h | h; exact .inl ((bytes_nil_iff p).2 h); exact .inr (List.mem_map.2 ⟨p, h, rfl⟩)⟩
  have HKS : Sl (key.size ≤ 100000) := ⟨by omega⟩
  have HMR : Sl (more.size ≤ 100) := ⟨h4⟩
  obtain ⟨r, hr⟩ : ∃ r, askV path host key l = r := ⟨_, rfl⟩
  rw [hr] at C1 hq1 hq2
  have HQ := Sl.mk hq1
  have HCK0 := Sl.mk hq2
  have HRG : Sl (∀ V u s, s = strOf (text r.hd) ++ more → GlobA V → SrcS V u (bytes s) → Calls Tryz.prog 33 #[u] V fun e w' => (∃ (g : HdV) (a : Option Addr) (c : Nat), Sl (g.hd = r.hd) ∧ e = .returned (.tuple #[.agg #[.string g.a, .string g.b, .string g.c, .slice a g.fs.length c], .int .i64 ((text r.hd).length : Nat), .int .i64 0]) ∧ Sl (FieldsAt w' (.slice a g.fs.length c) g.fs)) ∧ Sl (Below V.heap.size V w')) := ⟨fun V u s hs hg hS => read_gen r hq2 V u s more hs HMR.out hg hS⟩
  have HTM : Sl ((strOf (text r.hd)).size ≤ 2048) := ⟨by rw [strOf_size]; exact (text_le _ hq2).2.2⟩
  have HSH : Sl (∀ V u, GlobA V → FieldsAt V u r.fs → Calls Tryz.prog 32 #[.agg #[.string r.a, .string r.b, .string r.c, u]] V fun e w' => (∃ x y, e = .returned (.tuple #[.slice x (text r.hd).length y, .int .i64 0]) ∧ Sl (SrcS w' (.slice x (text r.hd).length y) (text r.hd))) ∧ Sl (Below V.heap.size V w')) := ⟨fun V u hg hF => show_gen r hq2 V u hg hF⟩
  have HVB : Sl (∀ V, Below w.heap.size w V → StrA V v l) := ⟨fun V hB => hv.below hB⟩
  obtain ⟨T, hT⟩ : ∃ T, text r.hd = T := ⟨_, rfl⟩
  rw [hT] at HRG HTM HSH
  obtain ⟨S, hS⟩ : ∃ S, strOf T = S := ⟨_, rfl⟩
  have HS0 := Sl.mk hS
  rw [hS] at HRG HTM
  obtain ⟨M, hM⟩ : ∃ M, T.length = M := ⟨_, rfl⟩
  rw [hM] at HRG HSH
  have HML := Sl.mk hM
  have hM0 : ((M : Int) == (M : Int)) = true := by simp
  obtain ⟨vd, vc, vs, vo, rfl, hvc, hva, hvcell⟩ := hv
  have HVC := Sl.mk hvcell
  have HVA := Sl.mk hva
  clear hvc hva hvcell
  obtain ⟨n, hn⟩ : ∃ n, l.length = n := ⟨_, rfl⟩
  have HN := Sl.mk hn
  rw [hn] at HXA HFW HVB ⊢
  clear hg hf hf1 hf2 h1 h2 h3 h4 hyes hq1 hq2 hq3 hq4 hr hT hS hM hn
  go_enter Tryz.func7, Tryz.ntmps7
  go_wp2_with fail
  refine (awake_ex (below0 w) HG.out).mono ?_
  rintro e w1 ⟨rfl, _, HB1⟩
  go_wp2_with fail
  refine (HFW.out _ HB1.out).mono ?_
  rintro e w2 ⟨rfl, rfl⟩
  go_wp2_with (refine app_all (o := ⟨some 64, _, _, _, _, _⟩) rfl _ _ rfl w1.heap.size _ _ [] l rfl (own_lit w1) rfl (HXA.out _ HB1.out) (by have := HLA.out; simp; omega) (by rw [alloc_size]; omega) ?_; intro v3 w3 HO3 HG3; obtain ⟨HB3', HB3⟩ := app_below HB1.out (own_lit w1) HG3.out)
  rw [List.nil_append] at HO3
  refine (C1.out _ _ HB3.out HO3.out.strA).mono ?_
  rintro e w4 ⟨⟨a4, c4, rfl, HF4⟩, HE4⟩
  have HB4 := Sl.mk (below_trans HB3.out HE4.out)
  clear HE4 HO3 HG3 HB3 HB3' HB1
  obtain ⟨w5, hw5⟩ : ∃ V, w4.alloc (.cells #[.string r.a, .string r.b, .string r.c, .slice a4 r.fs.length c4] 25) = V := ⟨_, rfl⟩
  have HB5 : Sl (Below w.heap.size w w5) := ⟨by rw [← hw5]; exact HB4.out.alloc HB4.out.size _⟩
  have HF5 : Sl (FieldsAt w5 (.slice a4 r.fs.length c4) r.fs) := ⟨by rw [← hw5]; exact HF4.out.below ((Below.refl _ _).alloc (Nat.le_refl _) _)⟩
  have HX5 : Sl (w5.heap[w4.heap.size]? = some (.cells #[.string r.a, .string r.b, .string r.c, .slice a4 r.fs.length c4] 25 (0, 0))) := ⟨by rw [← hw5]; exact alloc_new _ _ _ rfl⟩
  obtain ⟨p0, p1, p2, p3⟩ := head_cells HX5.out
  go_wp2_with fail
  clear hw5 p0 p1 p2 p3 HF4 HB4 HX5
  refine (HSH.out _ _ (HG.out.of HB5.out) HF5.out).mono ?_
  rintro e w6 ⟨⟨a6, c6, rfl, HS6⟩, HE6⟩
  have HB6 := Sl.mk (below_trans HB5.out HE6.out)
  have cb0 := HS6.out.str
  rw [HS0.out] at cb0
  have hsz0 := HTM.out
  have hmr0 := HMR.out
  obtain ⟨U, hU⟩ : ∃ U, S ++ more = U := ⟨_, rfl⟩
  obtain ⟨cap7, w7, hc7, HS7, HE7⟩ := conv_str U w6
  have HB7 := Sl.mk (below_trans HB6.out HE7.out)

  clear HE7 HE6 HF5 HB5
  go_wp2_with fail
  clear hc7 cb0
  refine (HRG.out w7 _ U hU.symm (HG.out.of HB7.out) HS7.out.srcS).mono ?_
  rintro e w8 ⟨⟨g, a8, c8, HGH, rfl, HF8⟩, HE8⟩
  have HB8 := Sl.mk (below_trans HB7.out HE8.out)
  have HFWG := Sl.mk (fw_chk ((chk_of_hd HGH.out).trans HCK0.out))
  have HQG : Sl (quest keyB g.hd = .ok ⟨bytes path, bytes host, bytes key, [], l.map bytes⟩) := ⟨by rw [HGH.out]; exact HQ.out⟩
  clear HE8 HS7 HS6 HRG HSH HGH hU hsz0 HTM HS0 C1 HQ HCK0
  obtain ⟨w9, hw9⟩ : ∃ V, w8.alloc (.cells #[.string g.a, .string g.b, .string g.c, .slice a8 g.fs.length c8] 25) = V := ⟨_, rfl⟩
  have HB9 : Sl (Below w.heap.size w w9) := ⟨by rw [← hw9]; exact HB8.out.alloc HB8.out.size _⟩
  have HF9 : Sl (FieldsAt w9 (.slice a8 g.fs.length c8) g.fs) := ⟨by rw [← hw9]; exact HF8.out.below ((Below.refl _ _).alloc (Nat.le_refl _) _)⟩
  have HX9 : Sl (w9.heap[w8.heap.size]? = some (.cells #[.string g.a, .string g.b, .string g.c, .slice a8 g.fs.length c8] 25 (0, 0))) := ⟨by rw [← hw9]; exact alloc_new _ _ _ rfl⟩
  obtain ⟨p0, p1, p2, p3⟩ := head_cells HX9.out
  go_wp2_with fail
  clear hw9 p0 p1 p2 p3 HF8 HB8 HX9
  refine (question_any g _ w9 (HG.out.of HB9.out) HF9.out HFWG.out).mono ?_
  rintro e w10 ⟨HQ10, HE10⟩
  have HB10 := Sl.mk (below_trans HB9.out HE10.out)
  obtain ⟨a10, c10, n10, ls, rfl, HS10, HLS⟩ := quest_same HQ10.out HQG.out
  clear HQ10 HQG HE10 HFWG HF9 HB9
  obtain ⟨w11, hw11⟩ : ∃ V, w10.alloc (.cells #[.string path, .string host, .string key, .string { data := #[] }, .slice a10 n10 c10] 30) = V := ⟨_, rfl⟩
  have HB11 : Sl (Below w.heap.size w w11) := ⟨by rw [← hw11]; exact HB10.out.alloc HB10.out.size _⟩
  have HS11 : Sl (StrA w11 (.slice a10 n10 c10) ls) := ⟨by rw [← hw11]; exact HS10.out.below ((Below.refl _ _).alloc (Nat.le_refl _) _)⟩
  have HX11 : Sl (w11.heap[w10.heap.size]? = some (.cells #[.string path, .string host, .string key, .string { data := #[] }, .slice a10 n10 c10] 30 (0, 0))) := ⟨by rw [← hw11]; exact alloc_new _ _ _ rfl⟩
  obtain ⟨p0, p1, p2, p3, p4⟩ := offer_cells HX11.out
  go_wp2_with fail
  clear hw11 p0 p1 p2 p3 p4 HS10 HB10 HX11
  have HLN : Sl (ls.length ≤ 1000000) := ⟨by
    have h := congrArg List.length HLS.out
    rw [List.length_map, List.length_map] at h
    have := HLA.out
    omega⟩
  refine (same_true path host key { data := #[] } _ _ ls l w11 HS11.out (HVB.out _ HB11.out) HLS.out HLN.out).mono ?_
  rintro e w12 ⟨rfl, HE12⟩
  have HB12 := Sl.mk (below_trans HB11.out HE12.out)
  clear HE12 HS11 HLS HLN HB11
  by_cases h0 : n = 0
  · have hn0 : ((n : Int) > 0) = False := eq_false (by omega)
    have hn1 : ¬ 0 < n := by omega
    clear h0
    go_wp2_with fail
    refine (C6.out ({ data := #[] } : ByteArray) _ HB12.out (.inl rfl)).mono ?_
    rintro e wa ⟨⟨xa, ya, rfl, HFa⟩, HEa⟩
    have HBa := Sl.mk (below_trans HB12.out HEa.out)
    have HCa := Sl.mk (C7.out ({ data := #[] } : ByteArray) (.inl rfl))
    clear HEa
    have HRG : Sl (∀ V u s, s = strOf (text (grantV key ({ data := #[] } : ByteArray)).hd) ++ more → GlobA V → SrcS V u (bytes s) → Calls Tryz.prog 33 #[u] V fun e w' => (∃ (g : HdV) (a : Option Addr) (c : Nat), Sl (g.hd = (grantV key ({ data := #[] } : ByteArray)).hd) ∧ e = .returned (.tuple #[.agg #[.string g.a, .string g.b, .string g.c, .slice a g.fs.length c], .int .i64 ((text (grantV key ({ data := #[] } : ByteArray)).hd).length : Nat), .int .i64 0]) ∧ Sl (FieldsAt w' (.slice a g.fs.length c) g.fs)) ∧ Sl (Below V.heap.size V w')) := ⟨fun V u s hs hg hS => read_gen _ HCa.out V u s more hs HMR.out hg hS⟩
    have HTM : Sl ((strOf (text (grantV key ({ data := #[] } : ByteArray)).hd)).size ≤ 2048) := ⟨by rw [strOf_size]; exact (text_le _ HCa.out).2.2⟩
    have HSG : Sl (∀ V u, GlobA V → FieldsAt V u (grantV key ({ data := #[] } : ByteArray)).fs → Calls Tryz.prog 32 #[.agg #[.string (grantV key ({ data := #[] } : ByteArray)).a, .string (grantV key ({ data := #[] } : ByteArray)).b, .string (grantV key ({ data := #[] } : ByteArray)).c, u]] V fun e w' => (∃ x y, e = .returned (.tuple #[.slice x (text (grantV key ({ data := #[] } : ByteArray)).hd).length y, .int .i64 0]) ∧ Sl (SrcS w' (.slice x (text (grantV key ({ data := #[] } : ByteArray)).hd).length y) (text (grantV key ({ data := #[] } : ByteArray)).hd))) ∧ Sl (Below V.heap.size V w')) := ⟨fun V u hg hF => show_gen _ HCa.out V u hg hF⟩
    have HCK : Sl (∀ g : HdV, g.hd = (grantV key ({ data := #[] } : ByteArray)).hd → checkV g key l = some ({ data := #[] } : ByteArray)) := ⟨fun g hgh => checkV_some (by rw [hgh, grantV_hd]; exact check_grant accB _ _ _ (C8.out ({ data := #[] } : ByteArray) (.inl rfl)))⟩
    obtain ⟨T, hT⟩ : ∃ T, text (grantV key ({ data := #[] } : ByteArray)).hd = T := ⟨_, rfl⟩
    rw [hT] at HSG HRG HTM
    clear hT
    obtain ⟨S, hS⟩ : ∃ S, strOf T = S := ⟨_, rfl⟩
    have HSS := Sl.mk hS
    rw [hS] at HRG HTM
    clear hS
    obtain ⟨M, hM⟩ : ∃ M, T.length = M := ⟨_, rfl⟩
    rw [hM] at HSG HRG
    clear hM
    have hM1 : ((M : Int) == (M : Int)) = true := by simp
    go_wp2_with fail
    refine (HSG.out wa _ (HG.out.of HBa.out) HFa.out).mono ?_
    rintro e wb ⟨⟨xb, yb, rfl, HSb⟩, HEb⟩
    have HBb := Sl.mk (below_trans HBa.out HEb.out)
    clear HEb HFa HSG
    have cb := HSb.out.str
    rw [HSS.out] at cb
    clear HSb
    obtain ⟨U, hU⟩ : ∃ U, S ++ more = U := ⟨_, rfl⟩
    have hsz := HTM.out
    have hmr := HMR.out
    obtain ⟨capc, wc, hc, HSc, HEc⟩ := conv_str U wb
    have HBc := Sl.mk (below_trans HBb.out HEc.out)
    clear HEc
    go_wp2_with fail
    clear hc cb
    refine (HRG.out wc _ U hU.symm (HG.out.of HBc.out) HSc.out.srcS).mono ?_
    rintro e wd ⟨⟨g2, ad, cd, HGH, rfl, HFd⟩, HEd⟩
    have HBd := Sl.mk (below_trans HBc.out HEd.out)
    clear HEd HSc HRG hU
    have HCV := Sl.mk (HCK.out g2 HGH.out)
    have HFW2 := Sl.mk (fw_chk ((chk_of_hd HGH.out).trans HCa.out))
    clear HCK HGH
    obtain ⟨we, hwe⟩ : ∃ V, wd.alloc (.cells #[.string g2.a, .string g2.b, .string g2.c, .slice ad g2.fs.length cd] 25) = V := ⟨_, rfl⟩
    have HBe : Sl (Below w.heap.size w we) := ⟨by rw [← hwe]; exact HBd.out.alloc HBd.out.size _⟩
    have HFe : Sl (FieldsAt we (.slice ad g2.fs.length cd) g2.fs) := ⟨by rw [← hwe]; exact HFd.out.below ((Below.refl _ _).alloc (Nat.le_refl _) _)⟩
    have HXe : Sl (we.heap[wd.heap.size]? = some (.cells #[.string g2.a, .string g2.b, .string g2.c, .slice ad g2.fs.length cd] 25 (0, 0))) := ⟨by rw [← hwe]; exact alloc_new _ _ _ rfl⟩
    go_wp2
    clear hwe HFd HBd
    obtain ⟨R, hR⟩ : ∃ R, we.drew = R := ⟨_, rfl⟩
    have HBR : Sl (Below w.heap.size w R) := ⟨by rw [← hR]; exact HBe.out.drew⟩
    have HXR : Sl (R.heap[wd.heap.size]? = some (.cells #[.string g2.a, .string g2.b, .string g2.c, .slice ad g2.fs.length cd] 25 (0, 0))) := ⟨by rw [← hR]; exact HXe.out⟩
    have HFR : Sl (FieldsAt R (.slice ad g2.fs.length cd) g2.fs) := ⟨by rw [← hR]; exact HFe.out.below ((Below.refl _ _).drew)⟩
    have HSR : Below w.heap.size w R ∧ R.heap[wd.heap.size]? = some (.cells #[.string g2.a, .string g2.b, .string g2.c, .slice ad g2.fs.length cd] 25 (0, 0)) := ⟨HBR.out, HXR.out⟩
    have HOWN : Sl (∀ ty, ∃ v1 w1, (Builtin.append_ #[28, 28] ty #[.slice (some ⟨R.heap.size, 0, none⟩) 0 0, .slice vd n vc]).run Tryz.prog (R.alloc (.cells #[] 9)) = .ok v1 w1 ∧ OwnS w1 R.heap.size v1 ([] ++ l) ∧ (R.alloc (.cells #[] 9)).grownBy w1 (Value.slice (some ⟨R.heap.size, 0, none⟩) 0 0).ownBlock) := ⟨fun ty => add_all (own_lit R) (HXA.out R HBR.out) (by have := HLA.out; simp; omega) (by rw [alloc_size]; omega) ty⟩
    obtain ⟨v1, R2, hap, hown, hgr⟩ := HOWN.out 28
    obtain ⟨HBA', HBA⟩ := app_below HBR.out (own_lit R) hgr
    have HO1 := Sl.mk hown
    clear hown hgr HOWN
    have HSA : Below w.heap.size w (R.alloc (.cells #[] 9)) ∧ (R.alloc (.cells #[] 9)).heap[wd.heap.size]? = some (.cells #[.string g2.a, .string g2.b, .string g2.c, .slice ad g2.fs.length cd] 25 (0, 0)) := ⟨HBR.out.alloc HBR.out.size _, box_below HXR.out ((Below.refl _ _).alloc (Nat.le_refl _) _)⟩
    have HSB : Below w.heap.size w R2 ∧ R2.heap[wd.heap.size]? = some (.cells #[.string g2.a, .string g2.b, .string g2.c, .slice ad g2.fs.length cd] 25 (0, 0)) := ⟨HBA.out, box_below HXR.out HBA'.out⟩
    refine wp_region_noPanic ?_
    refine wp_region_held (S := fun V => Below w.heap.size w V ∧ V.heap[wd.heap.size]? = some (.cells #[.string g2.a, .string g2.b, .string g2.c, .slice ad g2.fs.length cd] 25 (0, 0))) (by kernel_rfl) ?_
    change wpAnyH _ _ _ _ _ _ _ _ we.drew
    rw [hR]
    clear hR
    refine heldTake (d := some 151) (op := Go.Op.load 25 (Go.Operand.tmp 25)) (g := none) 0 ?v0k1 rfl (by kernel_rfl) (by kernel_rfl) (by kernel_rfl) (by kernel_rfl) ?y0k1 HSR ?_
    case y0k1 => intro o ho w hS; obtain ⟨p0, p1, p2, p3⟩ := head_cells hS.2; simp only [execOp, ho]; go_simp; try rfl
    simp only [Act.put, List.setIfInBounds_toArray, List.set_cons_zero, List.set_cons_succ]
    refine heldTake (d := some 152) (op := Go.Op.move (Go.Operand.tmp 2)) (g := none) 1 ?v1k1 rfl (by kernel_rfl) (by kernel_rfl) (by kernel_rfl) (by kernel_rfl) ?y1k1 HSR ?_
    case y1k1 => intro o ho w _; simp only [execOp, ho]; go_simp; try rfl
    simp only [Act.put, List.setIfInBounds_toArray, List.set_cons_zero, List.set_cons_succ]
    refine heldTake (d := some 154) (op := Go.Op.move (Go.Operand.tmp 3)) (g := none) 3 ?v3k1 rfl (by kernel_rfl) (by kernel_rfl) (by kernel_rfl) (by kernel_rfl) ?y3k1 HSR ?_
    case y3k1 => intro o ho w _; simp only [execOp, ho]; go_simp; try rfl
    simp only [Act.put, List.setIfInBounds_toArray, List.set_cons_zero, List.set_cons_succ]
    refine heldRunT (d := some 153) (op := Go.Op.buildSlice 28 0 #[]) (g := none) (t := 28) 2 (.slice (some ⟨R.heap.size, 0, none⟩) 0 0) (R.alloc (.cells #[] 9)) rfl (by kernel_rfl) (by kernel_rfl) ?y2k1 HSA ?_
    case y2k1 => intro o ho ht; simp only [execOp, ho]; go_simp; try rfl
    simp only [Act.put, List.setIfInBounds_toArray, List.set_cons_zero, List.set_cons_succ]
    refine heldRunT (d := some 155) (op := Go.Op.call { callee := Go.Callee.builtin Go.Builtin.append, args := #[Go.Operand.tmp 153, Go.Operand.tmp 154], argTypes := #[28, 28] }) (g := none) (t := 28) 4 v1 R2 rfl (by kernel_rfl) (by kernel_rfl) ?y4k1 HSB ?_
    case y4k1 => intro o ho ht; exact run_app ho ht rfl rfl hap
    simp only [Act.put, List.setIfInBounds_toArray, List.set_cons_zero, List.set_cons_succ]
    clear hap
    refine heldCall (d := some 156) (op := Go.Op.call { callee := Go.Callee.value (Go.Operand.func 30), args := #[Go.Operand.tmp 151, Go.Operand.tmp 152, Go.Operand.tmp 155], argTypes := #[25, 9, 28] }) (g := none) 5 30 ?a5k1 rfl (by kernel_rfl) (by kernel_rfl) ?y5k1 ?_
    case y5k1 => intro o ho; simp only [execOp, ho]; go_simp; try rfl
    refine (check_shake g2 _ key l v1 R2 (some ({ data := #[] } : ByteArray)) HCV.out (HG.out.of HBA.out) (HFR.out.below HBA'.out) HFW2.out HKS.out HO1.out.strA (by have := HLA.out; omega)).mono ?_
    rintro e R3 ⟨rfl, HE3⟩
    have HB3 := Sl.mk (below_trans HBA.out HE3.out)
    have HS3 : Below w.heap.size w R3 ∧ R3.heap[wd.heap.size]? = some (.cells #[.string g2.a, .string g2.b, .string g2.c, .slice ad g2.fs.length cd] 25 (0, 0)) := ⟨HB3.out, box_below HSB.2 HE3.out⟩
    refine ⟨_, rfl, HS3, ?_⟩
    clear HSA HSB HSR HE3 HO1 HBA HBA'
    have hchk : chkV (some ({ data := #[] } : ByteArray)) = .tuple #[.string ({ data := #[] } : ByteArray), .int .i64 0] := rfl
    rw [hchk]
    simp only [Act.put, List.setIfInBounds_toArray, List.set_cons_zero, List.set_cons_succ]
    refine heldTake (d := some 150) (op := Go.Op.move (Go.Operand.tmp 156)) (g := none) 6 ?v6k1 rfl (by kernel_rfl) (by kernel_rfl) (by kernel_rfl) (by kernel_rfl) ?y6k1 HS3 ?_
    case y6k1 => intro o ho w _; simp only [execOp, ho]; go_simp; try rfl
    simp only [Act.put, List.setIfInBounds_toArray, List.set_cons_zero, List.set_cons_succ]
    refine heldTake (d := some 157) (op := Go.Op.extract (Go.Operand.tmp 150) 0) (g := none) 7 ?v7k1 rfl (by kernel_rfl) (by kernel_rfl) (by kernel_rfl) (by kernel_rfl) ?y7k1 HS3 ?_
    case y7k1 => intro o ho w _; simp only [execOp, ho]; go_simp; try rfl
    simp only [Act.put, List.setIfInBounds_toArray, List.set_cons_zero, List.set_cons_succ]
    refine heldTake (d := some 158) (op := Go.Op.extract (Go.Operand.tmp 150) 1) (g := none) 8 ?v8k1 rfl (by kernel_rfl) (by kernel_rfl) (by kernel_rfl) (by kernel_rfl) ?y8k1 HS3 ?_
    case y8k1 => intro o ho w _; simp only [execOp, ho]; go_simp; try rfl
    simp only [Act.put, List.setIfInBounds_toArray, List.set_cons_zero, List.set_cons_succ]
    refine heldTake (d := some 28) (op := Go.Op.assign (Go.Operand.tmp 157)) (g := none) 9 ?v9k1 rfl (by kernel_rfl) (by kernel_rfl) (by kernel_rfl) (by kernel_rfl) ?y9k1 HS3 ?_
    case y9k1 => intro o ho w _; simp only [execOp, ho]; go_simp; try rfl
    simp only [Act.put, List.setIfInBounds_toArray, List.set_cons_zero, List.set_cons_succ]
    refine heldTake (d := some 29) (op := Go.Op.assign (Go.Operand.tmp 158)) (g := none) 10 ?v10k1 rfl (by kernel_rfl) (by kernel_rfl) (by kernel_rfl) (by kernel_rfl) ?y10k1 HS3 ?_
    case y10k1 => intro o ho w _; simp only [execOp, ho]; go_simp; try rfl
    simp only [Act.put, List.setIfInBounds_toArray, List.set_cons_zero, List.set_cons_succ]
    refine wpAnyH_done (by kernel_rfl) ?_ _
    refine NoPanic.normal ?_
    go_wp2
    go_ret
    exact ⟨rfl, HB3⟩

  have hn0 : ((n : Int) > 0) = True := eq_true (by omega)
  have hn1 : 0 < n := by omega
  by_cases ha : at_ = 0
  · have ha0 : ((at_ : Int) > 0) = False := eq_false (by omega)
    have ha1 : ¬ 0 < at_ := by omega
    clear h0 ha
    go_wp2_with fail
    refine (C6.out ({ data := #[] } : ByteArray) _ HB12.out (.inl rfl)).mono ?_
    rintro e wa ⟨⟨xa, ya, rfl, HFa⟩, HEa⟩
    have HBa := Sl.mk (below_trans HB12.out HEa.out)
    have HCa := Sl.mk (C7.out ({ data := #[] } : ByteArray) (.inl rfl))
    clear HEa
    have HRG : Sl (∀ V u s, s = strOf (text (grantV key ({ data := #[] } : ByteArray)).hd) ++ more → GlobA V → SrcS V u (bytes s) → Calls Tryz.prog 33 #[u] V fun e w' => (∃ (g : HdV) (a : Option Addr) (c : Nat), Sl (g.hd = (grantV key ({ data := #[] } : ByteArray)).hd) ∧ e = .returned (.tuple #[.agg #[.string g.a, .string g.b, .string g.c, .slice a g.fs.length c], .int .i64 ((text (grantV key ({ data := #[] } : ByteArray)).hd).length : Nat), .int .i64 0]) ∧ Sl (FieldsAt w' (.slice a g.fs.length c) g.fs)) ∧ Sl (Below V.heap.size V w')) := ⟨fun V u s hs hg hS => read_gen _ HCa.out V u s more hs HMR.out hg hS⟩
    have HTM : Sl ((strOf (text (grantV key ({ data := #[] } : ByteArray)).hd)).size ≤ 2048) := ⟨by rw [strOf_size]; exact (text_le _ HCa.out).2.2⟩
    have HSG : Sl (∀ V u, GlobA V → FieldsAt V u (grantV key ({ data := #[] } : ByteArray)).fs → Calls Tryz.prog 32 #[.agg #[.string (grantV key ({ data := #[] } : ByteArray)).a, .string (grantV key ({ data := #[] } : ByteArray)).b, .string (grantV key ({ data := #[] } : ByteArray)).c, u]] V fun e w' => (∃ x y, e = .returned (.tuple #[.slice x (text (grantV key ({ data := #[] } : ByteArray)).hd).length y, .int .i64 0]) ∧ Sl (SrcS w' (.slice x (text (grantV key ({ data := #[] } : ByteArray)).hd).length y) (text (grantV key ({ data := #[] } : ByteArray)).hd))) ∧ Sl (Below V.heap.size V w')) := ⟨fun V u hg hF => show_gen _ HCa.out V u hg hF⟩
    have HCK : Sl (∀ g : HdV, g.hd = (grantV key ({ data := #[] } : ByteArray)).hd → checkV g key l = some ({ data := #[] } : ByteArray)) := ⟨fun g hgh => checkV_some (by rw [hgh, grantV_hd]; exact check_grant accB _ _ _ (C8.out ({ data := #[] } : ByteArray) (.inl rfl)))⟩
    obtain ⟨T, hT⟩ : ∃ T, text (grantV key ({ data := #[] } : ByteArray)).hd = T := ⟨_, rfl⟩
    rw [hT] at HSG HRG HTM
    clear hT
    obtain ⟨S, hS⟩ : ∃ S, strOf T = S := ⟨_, rfl⟩
    have HSS := Sl.mk hS
    rw [hS] at HRG HTM
    clear hS
    obtain ⟨M, hM⟩ : ∃ M, T.length = M := ⟨_, rfl⟩
    rw [hM] at HSG HRG
    clear hM
    have hM1 : ((M : Int) == (M : Int)) = true := by simp
    go_wp2_with fail
    refine (HSG.out wa _ (HG.out.of HBa.out) HFa.out).mono ?_
    rintro e wb ⟨⟨xb, yb, rfl, HSb⟩, HEb⟩
    have HBb := Sl.mk (below_trans HBa.out HEb.out)
    clear HEb HFa HSG
    have cb := HSb.out.str
    rw [HSS.out] at cb
    clear HSb
    obtain ⟨U, hU⟩ : ∃ U, S ++ more = U := ⟨_, rfl⟩
    have hsz := HTM.out
    have hmr := HMR.out
    obtain ⟨capc, wc, hc, HSc, HEc⟩ := conv_str U wb
    have HBc := Sl.mk (below_trans HBb.out HEc.out)
    clear HEc
    go_wp2_with fail
    clear hc cb
    refine (HRG.out wc _ U hU.symm (HG.out.of HBc.out) HSc.out.srcS).mono ?_
    rintro e wd ⟨⟨g2, ad, cd, HGH, rfl, HFd⟩, HEd⟩
    have HBd := Sl.mk (below_trans HBc.out HEd.out)
    clear HEd HSc HRG hU
    have HCV := Sl.mk (HCK.out g2 HGH.out)
    have HFW2 := Sl.mk (fw_chk ((chk_of_hd HGH.out).trans HCa.out))
    clear HCK HGH
    obtain ⟨we, hwe⟩ : ∃ V, wd.alloc (.cells #[.string g2.a, .string g2.b, .string g2.c, .slice ad g2.fs.length cd] 25) = V := ⟨_, rfl⟩
    have HBe : Sl (Below w.heap.size w we) := ⟨by rw [← hwe]; exact HBd.out.alloc HBd.out.size _⟩
    have HFe : Sl (FieldsAt we (.slice ad g2.fs.length cd) g2.fs) := ⟨by rw [← hwe]; exact HFd.out.below ((Below.refl _ _).alloc (Nat.le_refl _) _)⟩
    have HXe : Sl (we.heap[wd.heap.size]? = some (.cells #[.string g2.a, .string g2.b, .string g2.c, .slice ad g2.fs.length cd] 25 (0, 0))) := ⟨by rw [← hwe]; exact alloc_new _ _ _ rfl⟩
    go_wp2
    clear hwe HFd HBd
    obtain ⟨R, hR⟩ : ∃ R, we.drew = R := ⟨_, rfl⟩
    have HBR : Sl (Below w.heap.size w R) := ⟨by rw [← hR]; exact HBe.out.drew⟩
    have HXR : Sl (R.heap[wd.heap.size]? = some (.cells #[.string g2.a, .string g2.b, .string g2.c, .slice ad g2.fs.length cd] 25 (0, 0))) := ⟨by rw [← hR]; exact HXe.out⟩
    have HFR : Sl (FieldsAt R (.slice ad g2.fs.length cd) g2.fs) := ⟨by rw [← hR]; exact HFe.out.below ((Below.refl _ _).drew)⟩
    have HSR : Below w.heap.size w R ∧ R.heap[wd.heap.size]? = some (.cells #[.string g2.a, .string g2.b, .string g2.c, .slice ad g2.fs.length cd] 25 (0, 0)) := ⟨HBR.out, HXR.out⟩
    have HOWN : Sl (∀ ty, ∃ v1 w1, (Builtin.append_ #[28, 28] ty #[.slice (some ⟨R.heap.size, 0, none⟩) 0 0, .slice vd n vc]).run Tryz.prog (R.alloc (.cells #[] 9)) = .ok v1 w1 ∧ OwnS w1 R.heap.size v1 ([] ++ l) ∧ (R.alloc (.cells #[] 9)).grownBy w1 (Value.slice (some ⟨R.heap.size, 0, none⟩) 0 0).ownBlock) := ⟨fun ty => add_all (own_lit R) (HXA.out R HBR.out) (by have := HLA.out; simp; omega) (by rw [alloc_size]; omega) ty⟩
    obtain ⟨v1, R2, hap, hown, hgr⟩ := HOWN.out 28
    obtain ⟨HBA', HBA⟩ := app_below HBR.out (own_lit R) hgr
    have HO1 := Sl.mk hown
    clear hown hgr HOWN
    have HSA : Below w.heap.size w (R.alloc (.cells #[] 9)) ∧ (R.alloc (.cells #[] 9)).heap[wd.heap.size]? = some (.cells #[.string g2.a, .string g2.b, .string g2.c, .slice ad g2.fs.length cd] 25 (0, 0)) := ⟨HBR.out.alloc HBR.out.size _, box_below HXR.out ((Below.refl _ _).alloc (Nat.le_refl _) _)⟩
    have HSB : Below w.heap.size w R2 ∧ R2.heap[wd.heap.size]? = some (.cells #[.string g2.a, .string g2.b, .string g2.c, .slice ad g2.fs.length cd] 25 (0, 0)) := ⟨HBA.out, box_below HXR.out HBA'.out⟩
    refine wp_region_noPanic ?_
    refine wp_region_held (S := fun V => Below w.heap.size w V ∧ V.heap[wd.heap.size]? = some (.cells #[.string g2.a, .string g2.b, .string g2.c, .slice ad g2.fs.length cd] 25 (0, 0))) (by kernel_rfl) ?_
    change wpAnyH _ _ _ _ _ _ _ _ we.drew
    rw [hR]
    clear hR
    refine heldTake (d := some 151) (op := Go.Op.load 25 (Go.Operand.tmp 25)) (g := none) 0 ?v0k2 rfl (by kernel_rfl) (by kernel_rfl) (by kernel_rfl) (by kernel_rfl) ?y0k2 HSR ?_
    case y0k2 => intro o ho w hS; obtain ⟨p0, p1, p2, p3⟩ := head_cells hS.2; simp only [execOp, ho]; go_simp; try rfl
    simp only [Act.put, List.setIfInBounds_toArray, List.set_cons_zero, List.set_cons_succ]
    refine heldTake (d := some 152) (op := Go.Op.move (Go.Operand.tmp 2)) (g := none) 1 ?v1k2 rfl (by kernel_rfl) (by kernel_rfl) (by kernel_rfl) (by kernel_rfl) ?y1k2 HSR ?_
    case y1k2 => intro o ho w _; simp only [execOp, ho]; go_simp; try rfl
    simp only [Act.put, List.setIfInBounds_toArray, List.set_cons_zero, List.set_cons_succ]
    refine heldTake (d := some 154) (op := Go.Op.move (Go.Operand.tmp 3)) (g := none) 3 ?v3k2 rfl (by kernel_rfl) (by kernel_rfl) (by kernel_rfl) (by kernel_rfl) ?y3k2 HSR ?_
    case y3k2 => intro o ho w _; simp only [execOp, ho]; go_simp; try rfl
    simp only [Act.put, List.setIfInBounds_toArray, List.set_cons_zero, List.set_cons_succ]
    refine heldRunT (d := some 153) (op := Go.Op.buildSlice 28 0 #[]) (g := none) (t := 28) 2 (.slice (some ⟨R.heap.size, 0, none⟩) 0 0) (R.alloc (.cells #[] 9)) rfl (by kernel_rfl) (by kernel_rfl) ?y2k2 HSA ?_
    case y2k2 => intro o ho ht; simp only [execOp, ho]; go_simp; try rfl
    simp only [Act.put, List.setIfInBounds_toArray, List.set_cons_zero, List.set_cons_succ]
    refine heldRunT (d := some 155) (op := Go.Op.call { callee := Go.Callee.builtin Go.Builtin.append, args := #[Go.Operand.tmp 153, Go.Operand.tmp 154], argTypes := #[28, 28] }) (g := none) (t := 28) 4 v1 R2 rfl (by kernel_rfl) (by kernel_rfl) ?y4k2 HSB ?_
    case y4k2 => intro o ho ht; exact run_app ho ht rfl rfl hap
    simp only [Act.put, List.setIfInBounds_toArray, List.set_cons_zero, List.set_cons_succ]
    clear hap
    refine heldCall (d := some 156) (op := Go.Op.call { callee := Go.Callee.value (Go.Operand.func 30), args := #[Go.Operand.tmp 151, Go.Operand.tmp 152, Go.Operand.tmp 155], argTypes := #[25, 9, 28] }) (g := none) 5 30 ?a5k2 rfl (by kernel_rfl) (by kernel_rfl) ?y5k2 ?_
    case y5k2 => intro o ho; simp only [execOp, ho]; go_simp; try rfl
    refine (check_shake g2 _ key l v1 R2 (some ({ data := #[] } : ByteArray)) HCV.out (HG.out.of HBA.out) (HFR.out.below HBA'.out) HFW2.out HKS.out HO1.out.strA (by have := HLA.out; omega)).mono ?_
    rintro e R3 ⟨rfl, HE3⟩
    have HB3 := Sl.mk (below_trans HBA.out HE3.out)
    have HS3 : Below w.heap.size w R3 ∧ R3.heap[wd.heap.size]? = some (.cells #[.string g2.a, .string g2.b, .string g2.c, .slice ad g2.fs.length cd] 25 (0, 0)) := ⟨HB3.out, box_below HSB.2 HE3.out⟩
    refine ⟨_, rfl, HS3, ?_⟩
    clear HSA HSB HSR HE3 HO1 HBA HBA'
    have hchk : chkV (some ({ data := #[] } : ByteArray)) = .tuple #[.string ({ data := #[] } : ByteArray), .int .i64 0] := rfl
    rw [hchk]
    simp only [Act.put, List.setIfInBounds_toArray, List.set_cons_zero, List.set_cons_succ]
    refine heldTake (d := some 150) (op := Go.Op.move (Go.Operand.tmp 156)) (g := none) 6 ?v6k2 rfl (by kernel_rfl) (by kernel_rfl) (by kernel_rfl) (by kernel_rfl) ?y6k2 HS3 ?_
    case y6k2 => intro o ho w _; simp only [execOp, ho]; go_simp; try rfl
    simp only [Act.put, List.setIfInBounds_toArray, List.set_cons_zero, List.set_cons_succ]
    refine heldTake (d := some 157) (op := Go.Op.extract (Go.Operand.tmp 150) 0) (g := none) 7 ?v7k2 rfl (by kernel_rfl) (by kernel_rfl) (by kernel_rfl) (by kernel_rfl) ?y7k2 HS3 ?_
    case y7k2 => intro o ho w _; simp only [execOp, ho]; go_simp; try rfl
    simp only [Act.put, List.setIfInBounds_toArray, List.set_cons_zero, List.set_cons_succ]
    refine heldTake (d := some 158) (op := Go.Op.extract (Go.Operand.tmp 150) 1) (g := none) 8 ?v8k2 rfl (by kernel_rfl) (by kernel_rfl) (by kernel_rfl) (by kernel_rfl) ?y8k2 HS3 ?_
    case y8k2 => intro o ho w _; simp only [execOp, ho]; go_simp; try rfl
    simp only [Act.put, List.setIfInBounds_toArray, List.set_cons_zero, List.set_cons_succ]
    refine heldTake (d := some 28) (op := Go.Op.assign (Go.Operand.tmp 157)) (g := none) 9 ?v9k2 rfl (by kernel_rfl) (by kernel_rfl) (by kernel_rfl) (by kernel_rfl) ?y9k2 HS3 ?_
    case y9k2 => intro o ho w _; simp only [execOp, ho]; go_simp; try rfl
    simp only [Act.put, List.setIfInBounds_toArray, List.set_cons_zero, List.set_cons_succ]
    refine heldTake (d := some 29) (op := Go.Op.assign (Go.Operand.tmp 158)) (g := none) 10 ?v10k2 rfl (by kernel_rfl) (by kernel_rfl) (by kernel_rfl) (by kernel_rfl) ?y10k2 HS3 ?_
    case y10k2 => intro o ho w _; simp only [execOp, ho]; go_simp; try rfl
    simp only [Act.put, List.setIfInBounds_toArray, List.set_cons_zero, List.set_cons_succ]
    refine wpAnyH_done (by kernel_rfl) ?_ _
    refine NoPanic.normal ?_
    go_wp2
    go_ret
    exact ⟨rfl, HB3⟩

  have ha0 : ((at_ : Int) > 0) = True := eq_true (by omega)
  have ha1 : 0 < at_ := by omega
  obtain ⟨i, hi⟩ : ∃ i, at_ % n = i := ⟨_, rfl⟩
  have hi1 : i < n := by rw [← hi]; exact Nat.mod_lt _ hn1
  have hrem : Int.tmod (at_ : Int) (n : Int) = (i : Int) := by
    rw [← hi, Int.tmod_eq_emod_of_nonneg (by omega)]; exact (Int.natCast_emod _ _).symm
  obtain rfl := HVA.out (by rw [HN.out]; exact hn1)
  obtain ⟨p, hp⟩ : ∃ p, l.getD i ByteArray.empty = p := ⟨_, rfl⟩
  have HPM : Sl (p.size = 0 ∨ p ∈ l) := ⟨.inr (by rw [← hp]; exact getD_mem (by rw [HN.out]; exact hi1))⟩
  have e0 : w12.cell? ⟨vs, vo + i, none⟩ = some (.string p) := by
    have h1 := HVC.out i (by rw [HN.out]; exact hi1)
    rw [HB12.out.cell (p := ⟨vs, vo + i, none⟩) (block_lt_of_cell h1), h1, hp]
  have hi0 : (0 : Int) ≤ (i : Int) := by omega
  have hi2 : (i : Int) < (n : Int) := by omega
  have hn2 : ((n : Int) = 0) = False := eq_false (by omega)
  clear h0 ha hi hp
  go_wp2_with fail
  refine (C6.out p _ HB12.out HPM.out).mono ?_
  rintro e wa ⟨⟨xa, ya, rfl, HFa⟩, HEa⟩
  have HBa := Sl.mk (below_trans HB12.out HEa.out)
  have HCa := Sl.mk (C7.out p HPM.out)
  clear HEa
  have HRG : Sl (∀ V u s, s = strOf (text (grantV key p).hd) ++ more → GlobA V → SrcS V u (bytes s) → Calls Tryz.prog 33 #[u] V fun e w' => (∃ (g : HdV) (a : Option Addr) (c : Nat), Sl (g.hd = (grantV key p).hd) ∧ e = .returned (.tuple #[.agg #[.string g.a, .string g.b, .string g.c, .slice a g.fs.length c], .int .i64 ((text (grantV key p).hd).length : Nat), .int .i64 0]) ∧ Sl (FieldsAt w' (.slice a g.fs.length c) g.fs)) ∧ Sl (Below V.heap.size V w')) := ⟨fun V u s hs hg hS => read_gen _ HCa.out V u s more hs HMR.out hg hS⟩
  have HTM : Sl ((strOf (text (grantV key p).hd)).size ≤ 2048) := ⟨by rw [strOf_size]; exact (text_le _ HCa.out).2.2⟩
  have HSG : Sl (∀ V u, GlobA V → FieldsAt V u (grantV key p).fs → Calls Tryz.prog 32 #[.agg #[.string (grantV key p).a, .string (grantV key p).b, .string (grantV key p).c, u]] V fun e w' => (∃ x y, e = .returned (.tuple #[.slice x (text (grantV key p).hd).length y, .int .i64 0]) ∧ Sl (SrcS w' (.slice x (text (grantV key p).hd).length y) (text (grantV key p).hd))) ∧ Sl (Below V.heap.size V w')) := ⟨fun V u hg hF => show_gen _ HCa.out V u hg hF⟩
  have HCK : Sl (∀ g : HdV, g.hd = (grantV key p).hd → checkV g key l = some p) := ⟨fun g hgh => checkV_some (by rw [hgh, grantV_hd]; exact check_grant accB _ _ _ (C8.out p HPM.out))⟩
  obtain ⟨T, hT⟩ : ∃ T, text (grantV key p).hd = T := ⟨_, rfl⟩
  rw [hT] at HSG HRG HTM
  clear hT
  obtain ⟨S, hS⟩ : ∃ S, strOf T = S := ⟨_, rfl⟩
  have HSS := Sl.mk hS
  rw [hS] at HRG HTM
  clear hS
  obtain ⟨M, hM⟩ : ∃ M, T.length = M := ⟨_, rfl⟩
  rw [hM] at HSG HRG
  clear hM
  have hM1 : ((M : Int) == (M : Int)) = true := by simp
  go_wp2_with fail
  refine (HSG.out wa _ (HG.out.of HBa.out) HFa.out).mono ?_
  rintro e wb ⟨⟨xb, yb, rfl, HSb⟩, HEb⟩
  have HBb := Sl.mk (below_trans HBa.out HEb.out)
  clear HEb HFa HSG
  have cb := HSb.out.str
  rw [HSS.out] at cb
  clear HSb
  obtain ⟨U, hU⟩ : ∃ U, S ++ more = U := ⟨_, rfl⟩
  have hsz := HTM.out
  have hmr := HMR.out
  obtain ⟨capc, wc, hc, HSc, HEc⟩ := conv_str U wb
  have HBc := Sl.mk (below_trans HBb.out HEc.out)
  clear HEc
  go_wp2_with fail
  clear hc cb
  refine (HRG.out wc _ U hU.symm (HG.out.of HBc.out) HSc.out.srcS).mono ?_
  rintro e wd ⟨⟨g2, ad, cd, HGH, rfl, HFd⟩, HEd⟩
  have HBd := Sl.mk (below_trans HBc.out HEd.out)
  clear HEd HSc HRG hU
  have HCV := Sl.mk (HCK.out g2 HGH.out)
  have HFW2 := Sl.mk (fw_chk ((chk_of_hd HGH.out).trans HCa.out))
  clear HCK HGH
  obtain ⟨we, hwe⟩ : ∃ V, wd.alloc (.cells #[.string g2.a, .string g2.b, .string g2.c, .slice ad g2.fs.length cd] 25) = V := ⟨_, rfl⟩
  have HBe : Sl (Below w.heap.size w we) := ⟨by rw [← hwe]; exact HBd.out.alloc HBd.out.size _⟩
  have HFe : Sl (FieldsAt we (.slice ad g2.fs.length cd) g2.fs) := ⟨by rw [← hwe]; exact HFd.out.below ((Below.refl _ _).alloc (Nat.le_refl _) _)⟩
  have HXe : Sl (we.heap[wd.heap.size]? = some (.cells #[.string g2.a, .string g2.b, .string g2.c, .slice ad g2.fs.length cd] 25 (0, 0))) := ⟨by rw [← hwe]; exact alloc_new _ _ _ rfl⟩
  go_wp2
  clear hwe HFd HBd
  obtain ⟨R, hR⟩ : ∃ R, we.drew = R := ⟨_, rfl⟩
  have HBR : Sl (Below w.heap.size w R) := ⟨by rw [← hR]; exact HBe.out.drew⟩
  have HXR : Sl (R.heap[wd.heap.size]? = some (.cells #[.string g2.a, .string g2.b, .string g2.c, .slice ad g2.fs.length cd] 25 (0, 0))) := ⟨by rw [← hR]; exact HXe.out⟩
  have HFR : Sl (FieldsAt R (.slice ad g2.fs.length cd) g2.fs) := ⟨by rw [← hR]; exact HFe.out.below ((Below.refl _ _).drew)⟩
  have HSR : Below w.heap.size w R ∧ R.heap[wd.heap.size]? = some (.cells #[.string g2.a, .string g2.b, .string g2.c, .slice ad g2.fs.length cd] 25 (0, 0)) := ⟨HBR.out, HXR.out⟩
  have HOWN : Sl (∀ ty, ∃ v1 w1, (Builtin.append_ #[28, 28] ty #[.slice (some ⟨R.heap.size, 0, none⟩) 0 0, .slice (some ⟨vs, vo, none⟩) n vc]).run Tryz.prog (R.alloc (.cells #[] 9)) = .ok v1 w1 ∧ OwnS w1 R.heap.size v1 ([] ++ l) ∧ (R.alloc (.cells #[] 9)).grownBy w1 (Value.slice (some ⟨R.heap.size, 0, none⟩) 0 0).ownBlock) := ⟨fun ty => add_all (own_lit R) (HXA.out R HBR.out) (by have := HLA.out; simp; omega) (by rw [alloc_size]; omega) ty⟩
  obtain ⟨v1, R2, hap, hown, hgr⟩ := HOWN.out 28
  obtain ⟨HBA', HBA⟩ := app_below HBR.out (own_lit R) hgr
  have HO1 := Sl.mk hown
  clear hown hgr HOWN
  have HSA : Below w.heap.size w (R.alloc (.cells #[] 9)) ∧ (R.alloc (.cells #[] 9)).heap[wd.heap.size]? = some (.cells #[.string g2.a, .string g2.b, .string g2.c, .slice ad g2.fs.length cd] 25 (0, 0)) := ⟨HBR.out.alloc HBR.out.size _, box_below HXR.out ((Below.refl _ _).alloc (Nat.le_refl _) _)⟩
  have HSB : Below w.heap.size w R2 ∧ R2.heap[wd.heap.size]? = some (.cells #[.string g2.a, .string g2.b, .string g2.c, .slice ad g2.fs.length cd] 25 (0, 0)) := ⟨HBA.out, box_below HXR.out HBA'.out⟩
  refine wp_region_noPanic ?_
  refine wp_region_held (S := fun V => Below w.heap.size w V ∧ V.heap[wd.heap.size]? = some (.cells #[.string g2.a, .string g2.b, .string g2.c, .slice ad g2.fs.length cd] 25 (0, 0))) (by kernel_rfl) ?_
  change wpAnyH _ _ _ _ _ _ _ _ we.drew
  rw [hR]
  clear hR
  refine heldTake (d := some 151) (op := Go.Op.load 25 (Go.Operand.tmp 25)) (g := none) 0 ?v0k3 rfl (by kernel_rfl) (by kernel_rfl) (by kernel_rfl) (by kernel_rfl) ?y0k3 HSR ?_
  case y0k3 => intro o ho w hS; obtain ⟨p0, p1, p2, p3⟩ := head_cells hS.2; simp only [execOp, ho]; go_simp; try rfl
  simp only [Act.put, List.setIfInBounds_toArray, List.set_cons_zero, List.set_cons_succ]
  refine heldTake (d := some 152) (op := Go.Op.move (Go.Operand.tmp 2)) (g := none) 1 ?v1k3 rfl (by kernel_rfl) (by kernel_rfl) (by kernel_rfl) (by kernel_rfl) ?y1k3 HSR ?_
  case y1k3 => intro o ho w _; simp only [execOp, ho]; go_simp; try rfl
  simp only [Act.put, List.setIfInBounds_toArray, List.set_cons_zero, List.set_cons_succ]
  refine heldTake (d := some 154) (op := Go.Op.move (Go.Operand.tmp 3)) (g := none) 3 ?v3k3 rfl (by kernel_rfl) (by kernel_rfl) (by kernel_rfl) (by kernel_rfl) ?y3k3 HSR ?_
  case y3k3 => intro o ho w _; simp only [execOp, ho]; go_simp; try rfl
  simp only [Act.put, List.setIfInBounds_toArray, List.set_cons_zero, List.set_cons_succ]
  refine heldRunT (d := some 153) (op := Go.Op.buildSlice 28 0 #[]) (g := none) (t := 28) 2 (.slice (some ⟨R.heap.size, 0, none⟩) 0 0) (R.alloc (.cells #[] 9)) rfl (by kernel_rfl) (by kernel_rfl) ?y2k3 HSA ?_
  case y2k3 => intro o ho ht; simp only [execOp, ho]; go_simp; try rfl
  simp only [Act.put, List.setIfInBounds_toArray, List.set_cons_zero, List.set_cons_succ]
  refine heldRunT (d := some 155) (op := Go.Op.call { callee := Go.Callee.builtin Go.Builtin.append, args := #[Go.Operand.tmp 153, Go.Operand.tmp 154], argTypes := #[28, 28] }) (g := none) (t := 28) 4 v1 R2 rfl (by kernel_rfl) (by kernel_rfl) ?y4k3 HSB ?_
  case y4k3 => intro o ho ht; exact run_app ho ht rfl rfl hap
  simp only [Act.put, List.setIfInBounds_toArray, List.set_cons_zero, List.set_cons_succ]
  clear hap
  refine heldCall (d := some 156) (op := Go.Op.call { callee := Go.Callee.value (Go.Operand.func 30), args := #[Go.Operand.tmp 151, Go.Operand.tmp 152, Go.Operand.tmp 155], argTypes := #[25, 9, 28] }) (g := none) 5 30 ?a5k3 rfl (by kernel_rfl) (by kernel_rfl) ?y5k3 ?_
  case y5k3 => intro o ho; simp only [execOp, ho]; go_simp; try rfl
  refine (check_shake g2 _ key l v1 R2 (some p) HCV.out (HG.out.of HBA.out) (HFR.out.below HBA'.out) HFW2.out HKS.out HO1.out.strA (by have := HLA.out; omega)).mono ?_
  rintro e R3 ⟨rfl, HE3⟩
  have HB3 := Sl.mk (below_trans HBA.out HE3.out)
  have HS3 : Below w.heap.size w R3 ∧ R3.heap[wd.heap.size]? = some (.cells #[.string g2.a, .string g2.b, .string g2.c, .slice ad g2.fs.length cd] 25 (0, 0)) := ⟨HB3.out, box_below HSB.2 HE3.out⟩
  refine ⟨_, rfl, HS3, ?_⟩
  clear HSA HSB HSR HE3 HO1 HBA HBA'
  have hchk : chkV (some p) = .tuple #[.string p, .int .i64 0] := rfl
  rw [hchk]
  simp only [Act.put, List.setIfInBounds_toArray, List.set_cons_zero, List.set_cons_succ]
  refine heldTake (d := some 150) (op := Go.Op.move (Go.Operand.tmp 156)) (g := none) 6 ?v6k3 rfl (by kernel_rfl) (by kernel_rfl) (by kernel_rfl) (by kernel_rfl) ?y6k3 HS3 ?_
  case y6k3 => intro o ho w _; simp only [execOp, ho]; go_simp; try rfl
  simp only [Act.put, List.setIfInBounds_toArray, List.set_cons_zero, List.set_cons_succ]
  refine heldTake (d := some 157) (op := Go.Op.extract (Go.Operand.tmp 150) 0) (g := none) 7 ?v7k3 rfl (by kernel_rfl) (by kernel_rfl) (by kernel_rfl) (by kernel_rfl) ?y7k3 HS3 ?_
  case y7k3 => intro o ho w _; simp only [execOp, ho]; go_simp; try rfl
  simp only [Act.put, List.setIfInBounds_toArray, List.set_cons_zero, List.set_cons_succ]
  refine heldTake (d := some 158) (op := Go.Op.extract (Go.Operand.tmp 150) 1) (g := none) 8 ?v8k3 rfl (by kernel_rfl) (by kernel_rfl) (by kernel_rfl) (by kernel_rfl) ?y8k3 HS3 ?_
  case y8k3 => intro o ho w _; simp only [execOp, ho]; go_simp; try rfl
  simp only [Act.put, List.setIfInBounds_toArray, List.set_cons_zero, List.set_cons_succ]
  refine heldTake (d := some 28) (op := Go.Op.assign (Go.Operand.tmp 157)) (g := none) 9 ?v9k3 rfl (by kernel_rfl) (by kernel_rfl) (by kernel_rfl) (by kernel_rfl) ?y9k3 HS3 ?_
  case y9k3 => intro o ho w _; simp only [execOp, ho]; go_simp; try rfl
  simp only [Act.put, List.setIfInBounds_toArray, List.set_cons_zero, List.set_cons_succ]
  refine heldTake (d := some 29) (op := Go.Op.assign (Go.Operand.tmp 158)) (g := none) 10 ?v10k3 rfl (by kernel_rfl) (by kernel_rfl) (by kernel_rfl) (by kernel_rfl) ?y10k3 HS3 ?_
  case y10k3 => intro o ho w _; simp only [execOp, ho]; go_simp; try rfl
  simp only [Act.put, List.setIfInBounds_toArray, List.set_cons_zero, List.set_cons_succ]
  refine wpAnyH_done (by kernel_rfl) ?_ _
  refine NoPanic.normal ?_
  go_wp2
  go_ret
  exact ⟨rfl, HB3⟩

theorem both_walk (path host key : ByteArray) (v : Value) (l : List ByteArray) (at_ : Nat) (more : ByteArray) (w : World) (hg : GlobA w) (_ : path.size ≤ maxLen) (_ : host.size ≤ maxLen) (_ : key.size ≤ maxLen) (hv : StrA w v l) (hl : l.length ≤ maxLen) (hs : ∀ s ∈ l, s.size ≤ maxLen) (_ : more.size ≤ maxLen) (hat : at_ < 256) :
    Calls Tryz.prog 7 #[.string path, .string host, .string key, v, .int .u8 at_, .string more] w fun e w' => e = .returned (.bool true) ∧ Below w.heap.size w w' := by
  have fin : ∀ {e w'}, e = Ending.returned (.bool true) ∧ Sl (Below w.heap.size w w') → e = Ending.returned (.bool true) ∧ Below w.heap.size w w' := fun ⟨h1, h2⟩ => ⟨h1, h2.out⟩
  by_cases h1 : 1000 < path.size
  · exact (both_bad_path path host key v at_ more w hg h1).mono fun _ _ h => fin h
  by_cases h2 : 100 < host.size
  · exact (both_bad_host path host key v at_ more w hg (by omega) h2).mono fun _ _ h => fin h
  by_cases h3 : 100 < key.size
  · exact (both_bad_key path host key v at_ more w hg (by omega) (by omega) h3).mono fun _ _ h => fin h
  cases hf : fewB l with
  | false => exact (both_bad_few path host key v l at_ more w hg hv hl hs (by omega) (by omega) (by omega) hf).mono fun _ _ h => fin h
  | true =>
    by_cases h4 : 100 < more.size
    · exact (both_bad_more path host key v l at_ more w hg hv hl hs (by omega) (by omega) (by omega) hf h4).mono fun _ _ h => fin h
    cases ha : askOkB path host key l with
    | false => exact (both_no path host key v l at_ more w hg hv (by omega) (by omega) (by omega) hf (by omega) ha).mono fun _ _ h => fin h
    | true => exact (both_yes path host key v l at_ more w hg hv (by omega) (by omega) (by omega) hf (by omega) hat ha).mono fun _ _ h => fin h
end Go.Proofs.YthlagngpllahkaaGreatDoor
