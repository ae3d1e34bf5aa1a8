/- stream, plain and frames of the data: a frame's bytes are that frame. -/
import Derived.Test.YtlgmgalopdfcaaaDoorOpenFs
import Derived.Test.YtlgmgalopdfcaaaDoorFrD
set_option maxRecDepth 100000
namespace Go.Proofs.YtlgmgalopdfcaaaDoor
open Go.RowKit MaskPlain FramePlain StreamPlain Mas Fra

theorem fr_parts {f : Fr} (h : FrOk f) : ∃ fin op m, ∃ ka kb kc kd : Nat, ∃ s, f = (⟨fin, op, m, [ka, kb, kc, kd], bytes s⟩ : Fr) ∧ (cv f).toArray = #[.bool fin, .int .i64 op, .bool m, .int .u8 ((ka : Nat) : Int), .int .u8 ((kb : Nat) : Int), .int .u8 ((kc : Nat) : Int), .int .u8 ((kd : Nat) : Int), .string s] ∧ Small 256 [ka, kb, kc, kd] := by
  obtain ⟨fin, op, m, key, data⟩ := f
  obtain ⟨h1, h2, h3, _, _⟩ := h
  match key, h1 with
  | [ka, kb, kc, kd], _ => exact ⟨fin, op, m, ka, kb, kc, kd, strOf data, by rw [bytes_strOf data h3], rfl, h2⟩
theorem form_op {f : Fr} {op : Int} (h : form f = true) (ho : f.op = op) : 0 ≤ op := by
  have h1 := (form_cases h).1
  rw [ho] at h1
  omega
theorem text_le {f : Fr} (hk : f.key.length = 4) (hd : f.data.length ≤ 500) : (text f).length ≤ 600 := by
  have hn := text_length f (by omega) hk
  rw [hn]
  unfold size
  split <;> split <;> (try split) <;> omega
theorem text_size {f : Fr} (hk : f.key.length = 4) (hd : f.data.length ≤ 65536) : (text f).length = size f := text_length f (by omega) hk
/-- A frame's bytes are that frame, and what stands behind comes then. -/
theorem all_text {f : Fr} {masked : Bool} {most : Int} (hf : form f = true) (hm : f.masked = masked) (hk : f.key.length = 4) (hd : (f.data.length : Int) ≤ most) (hmo : most ≤ 65536) (hs : Small 256 (text f)) (more : List Nat) (hsm : Small 256 more) :
    all (text f ++ more) masked most = (f :: (all more masked most).1, (all more masked most).2) := by
  have h := one_text hf hm hk hd (by omega) more
  rw [all_step _ masked most (hs.append hsm), h, if_neg (by simp), if_neg (by simp), ← text_size hk (by omega), List.drop_left]
theorem all_text_one {f : Fr} {masked : Bool} (hf : form f = true) (hm : f.masked = masked) (hk : f.key.length = 4) (hd : f.data.length ≤ 500) (hs : Small 256 (text f)) : all ([] ++ text f) masked 65536 = ([f], 0, 0) := by
  have h := all_text (most := 65536) hf hm hk (by omega) (by omega) hs [] (fun x hx => by cases hx)
  rw [List.append_nil] at h
  rw [List.nil_append, h]
  rfl
end Go.Proofs.YtlgmgalopdfcaaaDoor
