/- shake: texts joined; the head that is asked by, plain. -/
import Derived.Test.YthlagngpllahkaaGreatDoorS6
set_option maxRecDepth 100000
namespace Go.Proofs.YthlagngpllahkaaGreatDoor
open Go.RowKit HeadPlain

/-- Texts, a comma and a blank between. -/
def joinS (l : List ByteArray) : ByteArray := ⟨(Lib.join (l.map (·.data.toList)) [44, 32]).toArray⟩
theorem commas_cons (t : List Nat) (r : List (List Nat)) : commas (t :: r) = t ++ r.flatMap fun x => 44 :: 32 :: x := by
  induction r generalizing t with
  | nil => simp [commas]
  | cons u r ih => rw [commas, ih u]; simp
theorem joinS_bytes (l : List ByteArray) : bytes (joinS l) = commas (l.map bytes) := by
  show ((Lib.join (l.map (·.data.toList)) [44, 32])).map (·.toNat) = _
  cases l with
  | nil => rfl
  | cons t r =>
    rw [List.map_cons, List.map_cons, commas_cons, Lib.join_cons, List.map_append]
    congr 1
    unfold Lib.joinTail
    induction r with
    | nil => rfl
    | cons u r ih =>
      simp only [List.map_cons, List.flatMap_cons, List.flatten_cons, List.map_append] at ih ⊢
      rw [ih]
      rfl
theorem joinS_size (l : List ByteArray) (b : Nat) (h : ∀ x ∈ l, x.size ≤ b) : (joinS l).size ≤ l.length * (b + 2) := by
  rw [← bytes_length, joinS_bytes]
  have := commas_length (l.map bytes) b (fun t ht => by
    obtain ⟨x, hx, rfl⟩ := List.mem_map.1 ht
    rw [bytes_length]; exact h x hx)
  rwa [List.length_map] at this
theorem join_any (l : List ByteArray) (v : Value) (W : World) (hv : StrA W v l) (hne : 0 < l.length) (hl : l.length ≤ 1000) (hs : ∀ x ∈ l, x.size ≤ 100000) :
    Calls Tryz.prog 54 #[v, .string { data := #[44, 32] }] W fun e w' => e = .returned (.string (joinS l)) ∧ Sl (Below W.heap.size W w') := by
  have hsz := joinS_size l 100000 hs
  obtain ⟨a, cap, sb, so, rfl, hc, ha, hcell⟩ := hv
  obtain rfl := ha hne
  have hlen : (Lib.join (l.map (·.data.toList)) ({ data := #[44, 32] } : ByteArray).data.toList).length ≤ 140737488355328 := by
    have e : (joinS l).size = (Lib.join (l.map (·.data.toList)) ({ data := #[44, 32] } : ByteArray).data.toList).length := by
      show (Lib.join (l.map (·.data.toList)) [44, 32]).toArray.size = _
      simp
    rw [← e]
    have := Nat.mul_le_mul_right 100002 hl
    omega
  exact (Tryz.strings_Join sb so cap l { data := #[44, 32] } W (fun j x hx => by
    have hj : j < l.length := (List.getElem?_eq_some_iff.1 hx).1
    have := hcell j hj
    rw [List.getD_eq_getElem?_getD, hx] at this
    exact this) (block_lt_of_cell (hcell 0 hne)) (by omega) hc hlen).mono fun _ _ ⟨h1, h2⟩ => ⟨h1, ⟨h2⟩⟩
/-- The head that is asked by. -/
def askF (host key : ByteArray) : List FV := [(bHost, host), (bUp, bWs), (bConn, bUp), (bKey, key), (bVer, b13)]
def askV (path host key : ByteArray) (l : List ByteArray) : HdV := ⟨bGET, path, bH11, askF host key ++ if l.length = 0 then [] else [(bProt, joinS l)]⟩
theorem askV_hd (path host key : ByteArray) (l : List ByteArray) : (askV path host key l).hd = askH (bytes path) (bytes host) (bytes key) (l.map bytes) := by
  unfold askV askH HdV.hd
  have e : (askF host key).map fN = [(sHost, bytes host), (sUp, sWs), (sConn, sUp), (sKey, bytes key), (sVer, s13)] := rfl
  by_cases h : l.length = 0
  · have : l = [] := List.eq_nil_of_length_eq_zero h
    subst this
    rfl
  · rw [if_neg h, if_neg (fun e => h (by simpa using congrArg List.length e)), List.map_append, e]
    have e2 : List.map fN [(bProt, joinS l)] = [(sProt, commas (l.map bytes))] := by
      show [(bytes bProt, bytes (joinS l))] = _
      rw [joinS_bytes]; rfl
    rw [e2]; rfl
structure AskOk (path host key : ByteArray) (l : List ByteArray) : Prop where
  p : path.size ≤ 3000
  h : host.size ≤ 3000
  k : key.size ≤ 3000
  s : ∀ x ∈ l, x.size ≤ 3000
theorem askF_ok {path host key : ByteArray} {l : List ByteArray} (o : AskOk path host key l) (hl : l.length ≤ 16) : ∀ f ∈ askF host key ++ [(bProt, joinS l)], f.1.size ≤ 100000 ∧ f.2.size ≤ 100000 := fun f hf => by
  have h1 := o.h
  have h2 := o.k
  have h3 := joinS_size l 3000 o.s
  have h4 := Nat.mul_le_mul_right 3002 hl
  simp only [askF, List.mem_append, List.mem_cons, List.not_mem_nil, or_false] at hf
  rcases hf with (rfl | rfl | rfl | rfl | rfl) | rfl
  · exact ⟨show bHost.size ≤ 100000 by decide, show host.size ≤ 100000 by omega⟩
  · exact ⟨show bUp.size ≤ 100000 by decide, show bWs.size ≤ 100000 by decide⟩
  · exact ⟨show bConn.size ≤ 100000 by decide, show bUp.size ≤ 100000 by decide⟩
  · exact ⟨show bKey.size ≤ 100000 by decide, show key.size ≤ 100000 by omega⟩
  · exact ⟨show bVer.size ≤ 100000 by decide, show b13.size ≤ 100000 by decide⟩
  · exact ⟨show bProt.size ≤ 100000 by decide, show (joinS l).size ≤ 100000 by omega⟩
theorem ask_text {path host key : ByteArray} {l : List ByteArray} (o : AskOk path host key l) (hl : l.length ≤ 16) : (text (askV path host key l).hd).length ≤ 1000000 := by
  have h1 := o.h
  have h2 := o.k
  have h5 := o.p
  have h3 := joinS_size l 3000 o.s
  have h4 := Nat.mul_le_mul_right 3002 hl
  rw [text_length]
  have hj : (commas (l.map bytes)).length ≤ 60000 := by rw [← joinS_bytes, bytes_length]; omega
  rw [askV_hd]
  unfold askH line1 lineF
  by_cases h0 : l.map bytes = []
  · rw [if_pos h0]
    simp [sGET, sH11, sHost, sUp, sWs, sConn, sKey, sVer, s13, bytes_length]
    omega
  · rw [if_neg h0]
    simp [sGET, sH11, sHost, sUp, sWs, sConn, sKey, sVer, s13, sProt, bytes_length]
    omega
/-- What Ask answers. -/
def askOkB (path host key : ByteArray) (l : List ByteArray) : Bool := askB path host key && (offerB l && decide (chk (askV path host key l) = 0))
def AskR (w' : World) (path host key : ByteArray) (l : List ByteArray) (e : Ending) : Prop :=
  (askOkB path host key l = true ∧ ∃ a c, e = .returned (.tuple #[.agg #[.string bGET, .string path, .string bH11, .slice a (askV path host key l).fs.length c], .int .i64 0]) ∧ FieldsAt w' (.slice a (askV path host key l).fs.length c) (askV path host key l).fs) ∨
  (askOkB path host key l = false ∧ e = .returned (.tuple #[.agg #[.string e0, .string e0, .string e0, .slice none 0 0], .int .i64 71]))
end Go.Proofs.YthlagngpllahkaaGreatDoor
