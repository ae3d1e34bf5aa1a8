/- shake: ShakeAsk's walk. -/
import Derived.Test.YthlagngpllahkaaGreatDoorW18
set_option maxRecDepth 100000
namespace Go.Proofs.YthlagngpllahkaaGreatDoor
open Go.RowKit HeadPlain Nam

theorem askD_any (path host key : ByteArray) (l : List ByteArray) (v : Value) (w : World) (hp : path.size ≤ 2500) (hh : host.size ≤ 300) (hk : key.size ≤ 300) (hf : fewB l = true) (hv : StrA w v l) :
    Calls Tryz.prog 29 #[.string path, .string host, .string key, v] w fun e w' => Sl (AskDR w' path host key l e) ∧ Sl (Below w.heap.size w w') := by
  have no : (askB path host key = false ∨ l.length > 16 ∨ ¬ (l.map bytes).Nodup) → Calls Tryz.prog 29 #[.string path, .string host, .string key, v] w fun e w' => Sl (AskDR w' path host key l e) ∧ Sl (Below w.heap.size w w') := fun h => by
    have hq : askOkB path host key l = false := by
      unfold askOkB offerB
      rcases h with h | h | h
      · rw [h]; rfl
      · rw [decide_eq_false (show ¬ l.length ≤ 16 by omega)]; simp
      · rw [decide_eq_false h]; simp
    exact (askD_no path host key l v w hp hh hk hf hv h).mono fun e w' ⟨h1, h2⟩ => ⟨⟨.inr ⟨hq, h1⟩⟩, h2⟩
  by_cases hA : askB path host key = true
  · by_cases h16 : l.length ≤ 16
    · by_cases hnd : (l.map bytes).Nodup
      · exact askD_yes path host key l v w hp hh hk hf hv hA h16 hnd
      · exact no (.inr (.inr hnd))
    · exact no (.inr (.inl (by omega)))
  · exact no (.inl (by simpa using hA))
set_option maxHeartbeats 1000000 in
theorem ask_bad_path (path host key : ByteArray) (v : Value) (w : World) (hg : GlobA w) (hp : 2500 < path.size) :
    Calls Tryz.prog 5 #[.string path, .string host, .string key, v] w fun e w' => e = .returned (.bool true) ∧ Sl (Below w.heap.size w w') := by
  have HG := Sl.mk hg
  have hpath : ((2500 : Int) < (path.size : Int)) = True := eq_true (by omega)
  clear hg hp
  go_enter Tryz.func5, Tryz.ntmps5
  go_wp2_with fail
  refine (awake_ex (below0 w) HG.out).mono ?_
  rintro e w1 ⟨rfl, _, HB1⟩
  go_wp2_with fail
  refine (awake_ex HB1.out HG.out).mono ?_
  rintro e w3 ⟨rfl, _, HB3⟩
  go_wp2
  go_ret
  exact ⟨rfl, HB3⟩
set_option maxHeartbeats 1000000 in
theorem ask_bad_host (path host key : ByteArray) (v : Value) (w : World) (hg : GlobA w) (hp : path.size ≤ 2500) (hh : 300 < host.size) :
    Calls Tryz.prog 5 #[.string path, .string host, .string key, v] w fun e w' => e = .returned (.bool true) ∧ Sl (Below w.heap.size w w') := by
  have HG := Sl.mk hg
  have hpath : ((2500 : Int) < (path.size : Int)) = False := eq_false (by omega)
  have hhost : ((300 : Int) < (host.size : Int)) = True := eq_true (by omega)
  clear hg hp hh
  go_enter Tryz.func5, Tryz.ntmps5
  go_wp2_with fail
  refine (awake_ex (below0 w) HG.out).mono ?_
  rintro e w1 ⟨rfl, _, HB1⟩
  go_wp2_with fail
  refine (awake_ex HB1.out HG.out).mono ?_
  rintro e w3 ⟨rfl, _, HB3⟩
  go_wp2
  go_ret
  exact ⟨rfl, HB3⟩
set_option maxHeartbeats 1000000 in
theorem ask_bad_key (path host key : ByteArray) (v : Value) (w : World) (hg : GlobA w) (hp : path.size ≤ 2500) (hh : host.size ≤ 300) (hk : 300 < key.size) :
    Calls Tryz.prog 5 #[.string path, .string host, .string key, v] w fun e w' => e = .returned (.bool true) ∧ Sl (Below w.heap.size w w') := by
  have HG := Sl.mk hg
  have hpath : ((2500 : Int) < (path.size : Int)) = False := eq_false (by omega)
  have hhost : ((300 : Int) < (host.size : Int)) = False := eq_false (by omega)
  have hkey : ((300 : Int) < (key.size : Int)) = True := eq_true (by omega)
  clear hg hp hh hk
  go_enter Tryz.func5, Tryz.ntmps5
  go_wp2_with fail
  refine (awake_ex (below0 w) HG.out).mono ?_
  rintro e w1 ⟨rfl, _, HB1⟩
  go_wp2_with fail
  refine (awake_ex HB1.out HG.out).mono ?_
  rintro e w3 ⟨rfl, _, HB3⟩
  go_wp2
  go_ret
  exact ⟨rfl, HB3⟩
set_option maxHeartbeats 1000000 in
theorem ask_bad_few (path host key : ByteArray) (v : Value) (w : World) (hg : GlobA w) (l : List ByteArray) (hv : StrA w v l) (hl : l.length ≤ maxLen) (hs : ∀ s ∈ l, s.size ≤ maxLen) (hp : path.size ≤ 2500) (hh : host.size ≤ 300) (hk : key.size ≤ 300) (x : fewB l = false) :
    Calls Tryz.prog 5 #[.string path, .string host, .string key, v] w fun e w' => e = .returned (.bool true) ∧ Sl (Below w.heap.size w w') := by
  have HG := Sl.mk hg
  have hpath : ((2500 : Int) < (path.size : Int)) = False := eq_false (by omega)
  have hhost : ((300 : Int) < (host.size : Int)) = False := eq_false (by omega)
  have hkey : ((300 : Int) < (key.size : Int)) = False := eq_false (by omega)
  have HFW : Sl (∀ V, Below w.heap.size w V → Calls Tryz.prog 17 #[v] V fun e w' => e = .returned (.bool false) ∧ V = w') := ⟨fun V hB => few_ex x (hv.below hB) hl hs⟩
  clear hg hp hh hk x hv hl hs
  go_enter Tryz.func5, Tryz.ntmps5
  go_wp2_with fail
  refine (awake_ex (below0 w) HG.out).mono ?_
  rintro e w1 ⟨rfl, _, HB1⟩
  go_wp2_with fail
  refine (HFW.out _ HB1.out).mono ?_
  rintro e w2 ⟨rfl, rfl⟩
  go_wp2_with fail
  refine (awake_ex HB1.out HG.out).mono ?_
  rintro e w3 ⟨rfl, _, HB3⟩
  go_wp2
  go_ret
  exact ⟨rfl, HB3⟩
set_option maxHeartbeats 4000000 in
theorem ask_no' (path host key : ByteArray) (v : Value) (l : List ByteArray) (w : World) (hg : GlobA w) (hv : StrA w v l) (h1 : path.size ≤ 2500) (h2 : host.size ≤ 300) (h3 : key.size ≤ 300) (hf : fewB l = true) (hno : askOkB path host key l = false) :
    Calls Tryz.prog 5 #[.string path, .string host, .string key, v] w fun e w' => e = .returned (.bool true) ∧ Sl (Below w.heap.size w w') := by
  have HG := Sl.mk hg
  obtain ⟨hf1, hf2⟩ := fewB_yes hf
  have HFW : Sl (∀ V, Below w.heap.size w V → Calls Tryz.prog 17 #[v] V fun e w' => e = .returned (.bool true) ∧ V = w') := ⟨fun V hB => few_ex hf (hv.below hB) (by unfold maxLen; omega) (fun s h => Nat.le_trans (hf1 s h) (by unfold maxLen; omega))⟩
  have hpath : ((2500 : Int) < (path.size : Int)) = False := eq_false (by omega)
  have hhost : ((300 : Int) < (host.size : Int)) = False := eq_false (by omega)
  have hkey : ((300 : Int) < (key.size : Int)) = False := eq_false (by omega)
  have HXA : Sl (∀ V, Below w.heap.size w V → StrA (V.alloc (.cells #[] 9)) v l) := ⟨fun V hB => hv.below (hB.alloc hB.size _)⟩
  have HLA : Sl (l.length ≤ 30) := ⟨hf2⟩
  have ok : AskOk path host key l := ⟨by omega, by omega, by omega, fun x hx => Nat.le_trans (hf1 x hx) (by omega)⟩
  have C28 : Sl (∀ V u, Below w.heap.size w V → StrA V u l → Calls Tryz.prog 28 #[.string path, .string host, .string key, u] V fun e w' => e = .returned (.tuple #[.agg #[.string { data := #[] }, .string { data := #[] }, .string { data := #[] }, .slice none 0 0], .int .i64 71]) ∧ Sl (Below V.heap.size V w')) := ⟨fun V u hB hS => (ask_any path host key l u V ok (by omega) (hg.of hB) hS).mono fun e w' ⟨h1, h2⟩ => by
    refine ⟨?_, h2⟩
    rcases h1.out with ⟨h0, _⟩ | ⟨_, h0⟩
    · rw [hno] at h0; cases h0
    · exact h0⟩
  have C29 : Sl (∀ V, Below w.heap.size w V → Calls Tryz.prog 29 #[.string path, .string host, .string key, v] V fun e w' => e = .returned (.tuple #[.agg #[.string { data := #[] }, .string { data := #[] }, .string { data := #[] }, .slice none 0 0], .bool false]) ∧ Sl (Below V.heap.size V w')) := ⟨fun V hB => (askD_any path host key l v V h1 h2 h3 hf (hv.below hB)).mono fun e w' ⟨h1, h2⟩ => by
    refine ⟨?_, h2⟩
    rcases h1.out with ⟨h0, _⟩ | ⟨_, h0⟩
    · rw [hno] at h0; cases h0
    · exact h0⟩
  have C21 : Sl (∀ V, Calls Tryz.prog 21 #[.agg #[.string { data := #[] }, .string { data := #[] }, .string { data := #[] }, .slice none 0 0], .agg #[.string { data := #[] }, .string { data := #[] }, .string { data := #[] }, .slice none 0 0]] V fun e w' => e = .returned (.bool true) ∧ Sl (Below V.heap.size V w')) := ⟨fun V => (alike_any ⟨e0, e0, e0, []⟩ ⟨e0, e0, e0, []⟩ _ _ V (fields_nil V) (fields_nil V)).mono fun e w' ⟨h1, h2⟩ => ⟨by rw [h1, alike_iff.2 rfl], h2⟩⟩
  clear hg hv hf hf1 hf2 h1 h2 h3 hno ok
  go_enter Tryz.func5, Tryz.ntmps5
  go_wp2_with fail
  refine (awake_ex (below0 w) HG.out).mono ?_
  rintro e w1 ⟨rfl, _, HB1⟩
  go_wp2_with fail
  refine (HFW.out _ HB1.out).mono ?_
  rintro e w2 ⟨rfl, rfl⟩
  go_wp2_with (refine app_all (o := ⟨some 42, _, _, _, _, _⟩) rfl _ _ rfl w1.heap.size _ _ [] l rfl (own_lit w1) rfl (HXA.out _ HB1.out) (by have := HLA.out; simp; omega) (by rw [alloc_size]; omega) ?_; intro v3 w3 HO3 HG3; obtain ⟨HB3', HB3⟩ := app_below HB1.out (own_lit w1) HG3.out)
  rw [List.nil_append] at HO3
  refine (C28.out _ _ HB3.out HO3.out.strA).mono ?_
  rintro e w4 ⟨rfl, HE4⟩
  have HB4 := Sl.mk (below_trans HB3.out HE4.out)
  clear HE4 HO3 HG3 HB3 HB3' HB1 C28
  obtain ⟨w5, hw5⟩ : ∃ V, w4.alloc (.cells #[.string { data := #[] }, .string { data := #[] }, .string { data := #[] }, .slice none 0 0] 25) = V := ⟨_, rfl⟩
  have HE5 : Sl (Below w4.heap.size w4 w5) := ⟨by rw [← hw5]; exact (Below.refl _ _).alloc (Nat.le_refl _) _⟩
  have HB5 := Sl.mk (below_trans HB4.out HE5.out)
  have HX5 : Sl (w5.heap[w4.heap.size]? = some (.cells #[.string { data := #[] }, .string { data := #[] }, .string { data := #[] }, .slice none 0 0] 25 (0, 0))) := ⟨by rw [← hw5]; exact alloc_new _ _ _ rfl⟩
  obtain ⟨⟨z0, z1, z2, z3⟩, ⟨f0, f1, f2, f3⟩, ⟨s0, s1, s2, s3⟩⟩ := head_zero3 HX5.out
  clear HE5 HB4
  go_wp2_with fail
  clear hw5 z0 z1 z2 z3 f0 f1 f2 f3 s0 s1 s2 s3
  refine (C29.out _ HB5.out).mono ?_
  rintro e w6 ⟨rfl, HE6⟩
  have HB6 := Sl.mk (below_trans HB5.out HE6.out)
  have HX6 := Sl.mk (box_below HX5.out HE6.out)
  clear HE6 HB5 HX5 C29
  obtain ⟨w7, hw7⟩ : ∃ V, w6.alloc (.cells #[.string { data := #[] }, .string { data := #[] }, .string { data := #[] }, .slice none 0 0] 25) = V := ⟨_, rfl⟩
  have HE7 : Sl (Below w6.heap.size w6 w7) := ⟨by rw [← hw7]; exact (Below.refl _ _).alloc (Nat.le_refl _) _⟩
  have HB7 := Sl.mk (below_trans HB6.out HE7.out)
  have HX7 := Sl.mk (box_below HX6.out HE7.out)
  have HY7 : Sl (w7.heap[w6.heap.size]? = some (.cells #[.string { data := #[] }, .string { data := #[] }, .string { data := #[] }, .slice none 0 0] 25 (0, 0))) := ⟨by rw [← hw7]; exact alloc_new _ _ _ rfl⟩
  clear HE7 HX6 HB6
  obtain ⟨⟨z0, z1, z2, z3⟩, ⟨f0, f1, f2, f3⟩, ⟨s0, s1, s2, s3⟩⟩ := head_zero3 HX7.out
  obtain ⟨⟨y0, y1, y2, y3⟩, ⟨g0, g1, g2, g3⟩, ⟨t0, t1, t2, t3⟩⟩ := head_zero3 HY7.out
  go_wp2_with fail
  clear hw7 z0 z1 z2 z3 f0 f1 f2 f3 s0 s1 s2 s3 y0 y1 y2 y3 g0 g1 g2 g3 t0 t1 t2 t3
  refine (C21.out _).mono ?_
  rintro e w8 ⟨rfl, HE8⟩
  have HB8 := Sl.mk (below_trans HB7.out HE8.out)
  go_wp2
  go_ret
  exact ⟨rfl, HB8⟩
set_option maxHeartbeats 4000000 in
theorem ask_yes (path host key : ByteArray) (v : Value) (l : List ByteArray) (w : World) (hg : GlobA w) (hv : StrA w v l) (h1 : path.size ≤ 2500) (h2 : host.size ≤ 300) (h3 : key.size ≤ 300) (hf : fewB l = true) (hno : askOkB path host key l = true) :
    Calls Tryz.prog 5 #[.string path, .string host, .string key, v] w fun e w' => e = .returned (.bool true) ∧ Sl (Below w.heap.size w w') := by
  have HG := Sl.mk hg
  obtain ⟨hf1, hf2⟩ := fewB_yes hf
  have HFW : Sl (∀ V, Below w.heap.size w V → Calls Tryz.prog 17 #[v] V fun e w' => e = .returned (.bool true) ∧ V = w') := ⟨fun V hB => few_ex hf (hv.below hB) (by unfold maxLen; omega) (fun s h => Nat.le_trans (hf1 s h) (by unfold maxLen; omega))⟩
  have hpath : ((2500 : Int) < (path.size : Int)) = False := eq_false (by omega)
  have hhost : ((300 : Int) < (host.size : Int)) = False := eq_false (by omega)
  have hkey : ((300 : Int) < (key.size : Int)) = False := eq_false (by omega)
  have HXA : Sl (∀ V, Below w.heap.size w V → StrA (V.alloc (.cells #[] 9)) v l) := ⟨fun V hB => hv.below (hB.alloc hB.size _)⟩
  have HLA : Sl (l.length ≤ 30) := ⟨hf2⟩
  have ok : AskOk path host key l := ⟨by omega, by omega, by omega, fun x hx => Nat.le_trans (hf1 x hx) (by omega)⟩
  have C28 : Sl (∀ V u, Below w.heap.size w V → StrA V u l → Calls Tryz.prog 28 #[.string path, .string host, .string key, u] V fun e w' => (∃ a c, e = .returned (.tuple #[.agg #[.string (askV path host key l).a, .string (askV path host key l).b, .string (askV path host key l).c, .slice a (askV path host key l).fs.length c], .int .i64 0]) ∧ Sl (FieldsAt w' (.slice a (askV path host key l).fs.length c) (askV path host key l).fs)) ∧ Sl (Below V.heap.size V w')) := ⟨fun V u hB hS => (ask_any path host key l u V ok (by omega) (hg.of hB) hS).mono fun e w' ⟨h1, h2⟩ => by
    refine ⟨?_, h2⟩
    rcases h1.out with ⟨_, a, c, he, hF⟩ | ⟨h0, _⟩
    · exact ⟨a, c, he, ⟨hF⟩⟩
    · rw [hno] at h0; cases h0⟩
  have C29 : Sl (∀ V, Below w.heap.size w V → Calls Tryz.prog 29 #[.string path, .string host, .string key, v] V fun e w' => (∃ a c, e = .returned (.tuple #[.agg #[.string (askV path host key l).a, .string (askV path host key l).b, .string (askV path host key l).c, .slice a (askV path host key l).fs.length c], .bool true]) ∧ Sl (FieldsAt w' (.slice a (askV path host key l).fs.length c) (askV path host key l).fs)) ∧ Sl (Below V.heap.size V w')) := ⟨fun V hB => (askD_any path host key l v V h1 h2 h3 hf (hv.below hB)).mono fun e w' ⟨h1, h2⟩ => by
    refine ⟨?_, h2⟩
    rcases h1.out with ⟨_, a, c, he, hF⟩ | ⟨h0, _⟩
    · exact ⟨a, c, he, ⟨hF⟩⟩
    · rw [hno] at h0; cases h0⟩
  obtain ⟨r, hr⟩ : ∃ r, askV path host key l = r := ⟨_, rfl⟩
  rw [hr] at C28 C29
  clear hr
  have C21 : Sl (∀ V x y, FieldsAt V x r.fs → FieldsAt V y r.fs → Calls Tryz.prog 21 #[.agg #[.string r.a, .string r.b, .string r.c, x], .agg #[.string r.a, .string r.b, .string r.c, y]] V fun e w' => e = .returned (.bool true) ∧ Sl (Below V.heap.size V w')) := ⟨fun V x y hx hy => (alike_any r r x y V hx hy).mono fun e w' ⟨h1, h2⟩ => ⟨by rw [h1, alike_iff.2 rfl], h2⟩⟩
  clear hg hv hf hf1 hf2 h1 h2 h3 hno ok
  go_enter Tryz.func5, Tryz.ntmps5
  go_wp2_with fail
  refine (awake_ex (below0 w) HG.out).mono ?_
  rintro e w1 ⟨rfl, _, HB1⟩
  go_wp2_with fail
  refine (HFW.out _ HB1.out).mono ?_
  rintro e w2 ⟨rfl, rfl⟩
  go_wp2_with (refine app_all (o := ⟨some 42, _, _, _, _, _⟩) rfl _ _ rfl w1.heap.size _ _ [] l rfl (own_lit w1) rfl (HXA.out _ HB1.out) (by have := HLA.out; simp; omega) (by rw [alloc_size]; omega) ?_; intro v3 w3 HO3 HG3; obtain ⟨HB3', HB3⟩ := app_below HB1.out (own_lit w1) HG3.out)
  rw [List.nil_append] at HO3
  refine (C28.out _ _ HB3.out HO3.out.strA).mono ?_
  rintro e w4 ⟨⟨a4, c4, rfl, HF4⟩, HE4⟩
  have HB4 := Sl.mk (below_trans HB3.out HE4.out)
  clear HE4 HO3 HG3 HB3 HB3' HB1 C28
  obtain ⟨w5, hw5⟩ : ∃ V, w4.alloc (.cells #[.string r.a, .string r.b, .string r.c, .slice a4 r.fs.length c4] 25) = V := ⟨_, rfl⟩
  have HE5 : Sl (Below w4.heap.size w4 w5) := ⟨by rw [← hw5]; exact (Below.refl _ _).alloc (Nat.le_refl _) _⟩
  have HB5 := Sl.mk (below_trans HB4.out HE5.out)
  have HF5 := Sl.mk (HF4.out.below HE5.out)
  have HX5 : Sl (w5.heap[w4.heap.size]? = some (.cells #[.string r.a, .string r.b, .string r.c, .slice a4 r.fs.length c4] 25 (0, 0))) := ⟨by rw [← hw5]; exact alloc_new _ _ _ rfl⟩
  clear HE5 HF4 HB4
  go_wp2_with fail
  clear hw5
  refine (C29.out _ HB5.out).mono ?_
  rintro e w6 ⟨⟨a6, c6, rfl, HF6⟩, HE6⟩
  have HB6 := Sl.mk (below_trans HB5.out HE6.out)
  have HG6 := Sl.mk (HF5.out.below HE6.out)
  have HX6 := Sl.mk (box_below HX5.out HE6.out)
  clear HE6 HF5 HB5 HX5 C29
  obtain ⟨w7, hw7⟩ : ∃ V, w6.alloc (.cells #[.string r.a, .string r.b, .string r.c, .slice a6 r.fs.length c6] 25) = V := ⟨_, rfl⟩
  have HE7 : Sl (Below w6.heap.size w6 w7) := ⟨by rw [← hw7]; exact (Below.refl _ _).alloc (Nat.le_refl _) _⟩
  have HB7 := Sl.mk (below_trans HB6.out HE7.out)
  have HF7 := Sl.mk (HF6.out.below HE7.out)
  have HG7 := Sl.mk (HG6.out.below HE7.out)
  have HX7 := Sl.mk (box_below HX6.out HE7.out)
  have HY7 : Sl (w7.heap[w6.heap.size]? = some (.cells #[.string r.a, .string r.b, .string r.c, .slice a6 r.fs.length c6] 25 (0, 0))) := ⟨by rw [← hw7]; exact alloc_new _ _ _ rfl⟩
  clear HE7 HF6 HG6 HX6 HB6
  obtain ⟨p0, p1, p2, p3⟩ := head_cells HX7.out
  obtain ⟨q0, q1, q2, q3⟩ := head_cells HY7.out
  go_wp2_with fail
  clear hw7 p0 p1 p2 p3 q0 q1 q2 q3
  refine (C21.out _ _ _ HG7.out HF7.out).mono ?_
  rintro e w8 ⟨rfl, HE8⟩
  have HB8 := Sl.mk (below_trans HB7.out HE8.out)
  go_wp2
  go_ret
  exact ⟨rfl, HB8⟩
theorem ask_walk (path host key : ByteArray) (v : Value) (l : List ByteArray) (w : World) (hg : GlobA w) (_ : path.size ≤ maxLen) (_ : host.size ≤ maxLen) (_ : key.size ≤ maxLen) (hv : StrA w v l) (hl : l.length ≤ maxLen) (hs : ∀ s ∈ l, s.size ≤ maxLen) :
    Calls Tryz.prog 5 #[.string path, .string host, .string key, v] w fun e w' => e = .returned (.bool true) ∧ Below w.heap.size w w' := by
  have h : Calls Tryz.prog 5 #[.string path, .string host, .string key, v] w fun e w' => e = .returned (.bool true) ∧ Sl (Below w.heap.size w w') := by
    by_cases h1 : path.size ≤ 2500
    · by_cases h2 : host.size ≤ 300
      · by_cases h3 : key.size ≤ 300
        · cases hf : fewB l with
          | false => exact ask_bad_few path host key v w hg l hv hl hs h1 h2 h3 hf
          | true =>
            cases ho : askOkB path host key l with
            | false => exact ask_no' path host key v l w hg hv h1 h2 h3 hf ho
            | true => exact ask_yes path host key v l w hg hv h1 h2 h3 hf ho
        · exact ask_bad_key path host key v w hg h1 h2 (by omega)
      · exact ask_bad_host path host key v w hg h1 (by omega)
    · exact ask_bad_path path host key v w hg (by omega)
  exact h.mono fun _ _ ⟨h1, h2⟩ => ⟨h1, h2.out⟩
end Go.Proofs.YthlagngpllahkaaGreatDoor
