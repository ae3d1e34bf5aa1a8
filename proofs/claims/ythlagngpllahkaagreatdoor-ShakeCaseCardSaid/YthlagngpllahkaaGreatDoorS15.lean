/- shake: heads that may be shown: grants, refusals; awake. -/
import Derived.Test.YthlagngpllahkaaGreatDoorS14
set_option maxRecDepth 100000
namespace Go.Proofs.YthlagngpllahkaaGreatDoor
open Go.RowKit HeadPlain

theorem letter_plain (n : Nat) : 43 ≤ Bas.letter n ∧ Bas.letter n ≤ 122 := by
  unfold Bas.letter; (repeat' split) <;> omega
theorem enc_plain : ∀ l : List Nat, ∀ x ∈ Bas.enc l, 43 ≤ x ∧ x ≤ 122
  | [], x, hx => by cases hx
  | [a], x, hx => by
    simp only [Bas.enc, List.mem_cons, List.not_mem_nil, or_false] at hx
    rcases hx with rfl | rfl | rfl | rfl
    · exact letter_plain _
    · exact letter_plain _
    · decide
    · decide
  | [a, b], x, hx => by
    simp only [Bas.enc, List.mem_cons, List.not_mem_nil, or_false] at hx
    rcases hx with rfl | rfl | rfl | rfl
    · exact letter_plain _
    · exact letter_plain _
    · exact letter_plain _
    · decide
  | a :: b :: c :: r, x, hx => by
    simp only [Bas.enc, List.mem_cons] at hx
    rcases hx with rfl | rfl | rfl | rfl | hx
    · exact letter_plain _
    · exact letter_plain _
    · exact letter_plain _
    · exact letter_plain _
    · exact enc_plain r x hx
theorem acc_value (l : List Nat) : value (accB l) := by
  refine ⟨fun x hx => ?_, fun e => ?_, fun e => ?_⟩
  · have := enc_plain _ x hx; omega
  · have := enc_plain _ 32 (List.mem_of_mem_head? e); omega
  · have := enc_plain _ 32 (List.mem_of_mem_getLast? e); omega
theorem accB_length (l : List Nat) : (accB l).length = 28 := by unfold accB; rw [Bas.enc_length, sumB_length]
theorem mem_sum_le {α : Type} (f : α → Nat) : ∀ (l : List α) (x : α), x ∈ l → f x ≤ (l.map f).sum
  | a :: l, x, hx => by
    rw [List.map_cons, List.sum_cons]
    rcases List.mem_cons.1 hx with rfl | h
    · omega
    · have := mem_sum_le f l x h; omega
theorem fw_text {h : HdV} (hn : h.fs.length ≤ 60) (ht : (text h.hd).length ≤ 3000) : Fw h := by
  rw [text_length] at ht
  have hl : (line1 h.hd).length = h.a.size + h.b.size + h.c.size + 2 := by
    unfold line1 HdV.hd
    simp [bytes_length]
    omega
  refine ⟨hn, by omega, by omega, by omega, fun f hf => ?_⟩
  have h1 := mem_sum_le (fun f : List Nat × List Nat => (lineF f).length + 2) h.hd.fs (fN f) (List.mem_map.2 ⟨f, hf, rfl⟩)
  have h2 : (lineF (fN f)).length = f.1.size + f.2.size + 2 := by
    unfold lineF fN
    simp [bytes_length]
    omega
  omega
theorem fw_chk {h : HdV} (hc : chk h = 0) : Fw h := by
  obtain ⟨_, h1, h2⟩ := text_le h hc
  exact fw_text (by omega) (by omega)
theorem chk_zero {h : HdV} (hf : formB h.hd = true) (hn : h.fs.length ≤ 32) (ht : (text h.hd).length ≤ 2048) : chk h = 0 := by
  unfold chk
  rw [if_pos hf, if_neg (by omega)]
theorem hd_fs (h : HdV) : h.hd.fs.length = h.fs.length := List.length_map _
theorem grant_chk (key p : ByteArray) (hp : p.size = 0 ∨ token (bytes p) = true) (hs : p.size ≤ 300) : chk (grantV key p) = 0 := by
  have h1 := form_grant accB (bytes key) (bytes p) (acc_value _) (by rcases hp with h | h; exact .inl ((bytes_nil_iff p).2 h); exact .inr h)
  have h2 := grant_small accB (bytes key) (bytes p) (by rw [accB_length]; decide) (by rw [bytes_length]; exact hs)
  rw [← grantV_hd] at h1 h2
  exact chk_zero ((formB_iff _).2 h1) (by rw [← hd_fs]; exact h2.2) h2.1
theorem refuse_chk (status : Int) : chk (refuseV status) = 0 := by
  have h := refuse_form status
  rw [← refuseV_hd] at h
  exact chk_zero h.1 (by rw [← hd_fs]; exact h.2.2.1) h.2.1
theorem checkV_some {h : HdV} {key : ByteArray} {l : List ByteArray} {p : ByteArray} (e : checkH accB h.hd (bytes key) (l.map bytes) = some (bytes p)) : checkV h key l = some p := by
  rw [← checkV_plain] at e
  cases hc : checkV h key l with
  | none => rw [hc] at e; cases e
  | some q => rw [hc] at e; injection e with e; rw [bytes_inj e]
theorem checkV_none {h : HdV} {key : ByteArray} {l : List ByteArray} (e : checkH accB h.hd (bytes key) (l.map bytes) = none) : checkV h key l = none := by
  rw [← checkV_plain] at e
  cases hc : checkV h key l with
  | none => rfl
  | some q => rw [hc] at e; cases e
def exKey : ByteArray := { data := #[100, 71, 104, 108, 73, 72, 78, 104, 98, 88, 66, 115, 90, 83, 66, 117, 98, 50, 53, 106, 90, 81, 61, 61] }
def exPath : ByteArray := { data := #[47, 99, 104, 97, 116] }
def exHost : ByteArray := { data := #[97, 46, 98] }
def exChat : ByteArray := { data := #[99, 104, 97, 116] }
def exV2 : ByteArray := { data := #[118, 50] }
def exL : List ByteArray := [exChat, exV2]
theorem exKeyB : keyB (bytes exKey) = true := by kernel_rfl
theorem exSum : sumB (bytes exKey) = [179, 122, 79, 44, 192, 98, 79, 22, 144, 246, 70, 6, 207, 56, 89, 69, 178, 190, 196, 234] := by kernel_rfl
theorem exAcc : accS exKey = { data := #[115, 51, 112, 80, 76, 77, 66, 105, 84, 120, 97, 81, 57, 107, 89, 71, 122, 122, 104, 90, 82, 98, 75, 43, 120, 79, 111, 61] } := by
  unfold accS accB
  rw [exSum]
  kernel_rfl
theorem exAskB : askB exPath exHost exKey = true := by
  unfold askB
  rw [exKeyB, show (exHost.toList == []) = false from neq_nil (by decide)]
  kernel_rfl
theorem exOffer : offerB exL = true := by kernel_rfl
theorem exChk : chk (askV exPath exHost exKey exL) = 0 := by kernel_rfl
theorem exAskOk : askOkB exPath exHost exKey exL = true := by
  unfold askOkB; rw [exAskB, exOffer, exChk]; rfl
theorem exQuest : statV (askV exPath exHost exKey exL) = 0 ∧ offV (askV exPath exHost exKey exL) = ⟨bytes exPath, bytes exHost, bytes exKey, [], exL.map bytes⟩ := by
  refine stat_of ?_
  rw [askV_hd]
  exact quest_ask keyB _ _ _ _ rfl (by decide) exKeyB (by decide) (by decide) (by decide)
theorem exTell : (Nam.tell (getV (askV exPath exHost exKey exL).fs bProt)).length = 2 := by
  have := congrArg Off.prot exQuest.2
  have := congrArg List.length this
  simpa [offV, exL] using this
theorem exCheck : checkV (grantV exKey exV2) exKey exL = some exV2 := by
  refine checkV_some ?_
  rw [grantV_hd]
  exact check_grant accB _ _ _ (.inr (by decide))
theorem exOk : AskOk exPath exHost exKey exL := ⟨by decide, by decide, by decide, by decide⟩
end Go.Proofs.YthlagngpllahkaaGreatDoor
