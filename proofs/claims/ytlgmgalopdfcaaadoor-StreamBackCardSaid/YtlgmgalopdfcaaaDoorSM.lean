/- stream: the document's Text: frames' bytes. -/
import Derived.Test.YtlgmgalopdfcaaaDoorSJ
import Derived.Test.YtlgmgalopdfcaaaDoorSH
set_option maxRecDepth 100000
namespace Go.Proofs.YtlgmgalopdfcaaaDoor
open Go.RowKit MaskPlain FramePlain StreamPlain Mas Fra

/-- Frames' bytes. -/
def texts (fs : List Fr) : List Nat := fs.flatMap text
theorem texts_cons (f : Fr) (fs : List Fr) : texts (f :: fs) = text f ++ texts fs := rfl
theorem texts_take (fs : List Fr) (j : Nat) (h : j < fs.length) : texts (fs.take (j + 1)) = texts (fs.take j) ++ text (fs.getD j Fr0) := by
  unfold texts
  rw [List.take_add_one, List.flatMap_append, List.getElem?_eq_getElem h, List.getD_eq_getElem?_getD, List.getElem?_eq_getElem h]
  simp
/-- A frame that StreamBack lets. -/
structure FrLet (f : Fr) (masked : Bool) : Prop where
  ok : FrOk f
  fm : form f = true
  dl : f.data.length ≤ 500
  ms : f.masked = masked
theorem FrLet.chk {f : Fr} {masked : Bool} (h : FrLet f masked) : chk f = 0 := chk_yes h.fm (by have := h.dl; omega)
theorem FrLet.small {f : Fr} {masked : Bool} (h : FrLet f masked) : Small 256 (text f) := text_small h.chk h.ok.ks h.ok.ds
theorem FrLet.le {f : Fr} {masked : Bool} (h : FrLet f masked) : (text f).length ≤ 600 := text_le h.ok.k4 h.dl
theorem texts_small {fs : List Fr} {masked : Bool} (h : ∀ f ∈ fs, FrLet f masked) : Small 256 (texts fs) := fun x hx => by
  obtain ⟨f, hf, hxf⟩ := List.mem_flatMap.1 hx
  exact (h f hf).small x hxf
theorem texts_le : ∀ {fs : List Fr} {masked : Bool}, (∀ f ∈ fs, FrLet f masked) → (texts fs).length ≤ 600 * fs.length
  | [], _, _ => Nat.le_refl _
  | f :: fs, masked, h => by
    rw [texts_cons, List.length_append, List.length_cons]
    have h1 := (h f (by simp)).le
    have h2 := texts_le (fs := fs) (masked := masked) (fun g hg => h g (by simp [hg]))
    omega
/-- Frames' bytes are these frames. -/
theorem all_texts : ∀ {fs : List Fr} {masked : Bool}, (∀ f ∈ fs, FrLet f masked) → all (texts fs) masked 65536 = (fs, 0, 0)
  | [], masked, _ => rfl
  | f :: fs, masked, h => by
    have h1 := h f (by simp)
    have h2 : ∀ g ∈ fs, FrLet g masked := fun g hg => h g (by simp [hg])
    rw [texts_cons, all_text h1.fm h1.ms h1.ok.k4 (by have := h1.dl; omega) (by omega) h1.small _ (texts_small h2), all_texts h2]
set_option maxHeartbeats 2000000 in
theorem reftexts_any (fs : List Fr) (masked : Bool) (v : Value) (w : World) (hv : FrsAt w v fs) (hf : ∀ f ∈ fs, FrLet f masked) (hl : fs.length ≤ 20) : Calls Tryd.prog 18 #[v] w fun e w' => e = .returned (.string (strOf (texts fs))) ∧ Sl (Below w.heap.size w w') := by
  obtain ⟨a, c, rfl⟩ := hv.slice
  have HV := Sl.mk hv
  have HF := Sl.mk hf
  obtain ⟨n, hn⟩ : ∃ n, fs.length = n := ⟨_, rfl⟩
  rw [hn] at HV ⊢
  have HN := Sl.mk hn
  rw [hn] at hl
  clear hv hf hn
  go_enter Tryd.func18, Tryd.ntmps18
  go_wp2
  go_loopw [3, 4] (fun y i wr => ∃ (k : Nat) (S0 : ByteArray), y = .string S0 ∧ i = .int .i64 (k : Int) ∧ k ≤ n ∧ Sl (S0 = strOf (texts (fs.take k))) ∧ Sl (Below w.heap.size w wr)) (fun _ i _ => n - (intOf i).toNat)
  case atStart => exact ⟨0, { data := #[] }, rfl, rfl, Nat.zero_le _, ⟨bytes_inj (by rw [bytes_strOf _ (fun x hx => by simp [texts] at hx)]; rfl)⟩, ⟨Below.refl _ _⟩⟩
  case round =>
    obtain ⟨k, S0, rfl, rfl, hkn, HS, HB⟩ := hrel
    by_cases hlt : k < n
    · have hq : ((k : Int) < (n : Int)) = True := eq_true (by omega)
      obtain ⟨sb, so, rfl⟩ := HV.out.cap.2 (by omega)
      have hlet : ∀ f ∈ fs.take (k + 1), FrLet f masked := fun f hf => HF.out f (List.mem_of_mem_take hf)
      have hkf : k < fs.length := by rw [HN.out]; exact hlt
      have h1 := HF.out (fs.getD k Fr0) (by rw [List.getD_eq_getElem?_getD, List.getElem?_eq_getElem hkf]; exact List.getElem_mem _)
      obtain ⟨fin, op, m, ka, kb, kc, kd, s, hf, hcv, hks⟩ := fr_parts h1.ok
      obtain ⟨o, rfl⟩ := Int.eq_ofNat_of_zero_le (form_op h1.fm (by rw [hf]))
      have hchk : chk ((⟨fin, (o:Int), m, [ka, kb, kc, kd], bytes s⟩ : Fr)) = 0 := by rw [← hf]; exact h1.chk
      have CT := fun W => reftext_any fin o m ka kb kc kd s W hks hchk
      rw [← hf] at CT
      have hz : S0.size ≤ 12000 := by
        rw [HS.out, strOf_size]
        have := texts_le (fs := fs.take k) (masked := masked) (fun f hf => HF.out f (List.mem_of_mem_take hf))
        rw [List.length_take] at this; omega
      have hz2 : (strOf (text (fs.getD k Fr0))).size ≤ 600 := by rw [strOf_size]; exact h1.le
      have HS' : Sl (S0 ++ strOf (text (fs.getD k Fr0)) = strOf (texts (fs.take (k + 1)))) := ⟨by rw [HS.out, texts_take fs k hkf, strOf_app]⟩
      obtain ⟨e0, e1, e2, e3, e4, e5, e6, e7⟩ := (HV.out.below HB.out).at8 k hkf hcv
      obtain ⟨ts, hts⟩ : ∃ ts, strOf (text (fs.getD k Fr0)) = ts := ⟨_, rfl⟩
      rw [hts] at CT hz2 HS'
      have hzz : S0.size + ts.size ≤ 1000000 := by omega
      clear hlet hkf h1 hf hcv hks hchk hts HS hz hz2
      go_wp2_with fail
      refine (CT wr).mono ?_
      rintro e w2 ⟨rfl, HX2⟩
      have HB2 : Sl (Below w.heap.size w w2) := ⟨HB.out.trans (HX2.out.mono HB.out.size)⟩
      clear CT e0 e1 e2 e3 e4 e5 e6 e7 HX2
      go_wp2
      exact ⟨⟨k + 1, S0 ++ ts, rfl, by go_num, by omega, HS', HB2⟩, by simp [intOf]; omega⟩
    · obtain rfl : k = n := by omega
      have hq : ((k : Int) < (k : Int)) = False := eq_false (by omega)
      rw [List.take_of_length_le (by rw [HN.out]; exact Nat.le_refl _)] at HS
      go_wp2
      go_ret
      exact ⟨by rw [← HS.out]; rfl, HB⟩
end Go.Proofs.YtlgmgalopdfcaaaDoor
