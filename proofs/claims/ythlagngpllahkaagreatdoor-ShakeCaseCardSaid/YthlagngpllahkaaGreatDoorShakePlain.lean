/- The handshake, plain: what a head asks for, what is asked by, what is granted, and what an answer grants; on bytes alone. How a key is answered (acc) and what a key is (kb) are left open. -/
import Derived.Test.YthlagngpllahkaaGreatDoorNamesPlain
namespace Go.Proofs.YthlagngpllahkaaGreatDoor
open HeadPlain

def sGET : List Nat := [71, 69, 84]
def sH11 : List Nat := [72, 84, 84, 80, 47, 49, 46, 49]
def sHost : List Nat := [72, 111, 115, 116]
def sUp : List Nat := [85, 112, 103, 114, 97, 100, 101]
def sWs : List Nat := [119, 101, 98, 115, 111, 99, 107, 101, 116]
def sConn : List Nat := [67, 111, 110, 110, 101, 99, 116, 105, 111, 110]
def sVer : List Nat := [83, 101, 99, 45, 87, 101, 98, 83, 111, 99, 107, 101, 116, 45, 86, 101, 114, 115, 105, 111, 110]
def s13 : List Nat := [49, 51]
def sKey : List Nat := [83, 101, 99, 45, 87, 101, 98, 83, 111, 99, 107, 101, 116, 45, 75, 101, 121]
def sProt : List Nat := [83, 101, 99, 45, 87, 101, 98, 83, 111, 99, 107, 101, 116, 45, 80, 114, 111, 116, 111, 99, 111, 108]
def sOrg : List Nat := [79, 114, 105, 103, 105, 110]
def s101 : List Nat := [49, 48, 49]
def sSwi : List Nat := [83, 119, 105, 116, 99, 104, 105, 110, 103, 32, 80, 114, 111, 116, 111, 99, 111, 108, 115]
def sAcc : List Nat := [83, 101, 99, 45, 87, 101, 98, 83, 111, 99, 107, 101, 116, 45, 65, 99, 99, 101, 112, 116]
def sExt : List Nat := [83, 101, 99, 45, 87, 101, 98, 83, 111, 99, 107, 101, 116, 45, 69, 120, 116, 101, 110, 115, 105, 111, 110, 115]
structure Off where
  path : List Nat
  host : List Nat
  key : List Nat
  origin : List Nat
  prot : List (List Nat)
/-- The one value that there is. -/
def oneL : List (List Nat) → Option (List Nat)
  | [x] => some x
  | _ => none
/-- What a head asks for, or the status. -/
def quest (kb : List Nat → Bool) (h : Hd) : Except Nat Off :=
  if h.a ≠ sGET then .error 405
  else if h.c ≠ sH11 ∨ h.b.head? ≠ some 47 then .error 400
  else match oneL (get h.fs sHost) with
    | none => .error 400
    | some host =>
      if host = [] then .error 400
      else if hasT sWs (get h.fs sUp) = false then .error 426
      else if hasT sUp (get h.fs sConn) = false then .error 400
      else if oneL (get h.fs sVer) ≠ some s13 then .error 426
      else match oneL (get h.fs sKey) with
        | none => .error 400
        | some key =>
          if kb key = false then .error 400
          else match toksAll (get h.fs sProt) with
            | none => .error 400
            | some l => if ¬ l.Nodup ∨ 16 < l.length ∨ 1 < (get h.fs sOrg).length then .error 400 else .ok ⟨h.b, host, key, (get h.fs sOrg).headD [], l⟩
/-- Tokens, a comma and a blank between. -/
def commas : List (List Nat) → List Nat
  | [] => []
  | [t] => t
  | t :: u :: r => t ++ 44 :: 32 :: commas (u :: r)
theorem toks_commas (ts : List (List Nat)) (h : ∀ t ∈ ts, token t = true) : toks (commas ts) = some ts := by
  match ts with
  | [] => exact toks_nil
  | [t] => exact toks_token (h t (by simp))
  | t :: u :: r =>
    rw [commas, toks_comma, toks_token (h t (by simp)), toks_front (by simp), toks_commas (u :: r) (fun x hx => h x (by simp [hx]))]
    simp [comb]
/-- The head that is asked by. -/
def askH (path host key : List Nat) (ts : List (List Nat)) : Hd :=
  ⟨sGET, path, sH11, [(sHost, host), (sUp, sWs), (sConn, sUp), (sKey, key), (sVer, s13)] ++ if ts = [] then [] else [(sProt, commas ts)]⟩
theorem toksAll_one' (x : List Nat) : toksAll [x] = toks x := by rw [toksAll, toksAll, comb_nil]
theorem quest_ask (kb : List Nat → Bool) (path host key : List Nat) (ts : List (List Nat)) (hp : path.head? = some 47) (hh : host ≠ []) (hk : kb key = true) (ht : ∀ t ∈ ts, token t = true) (hn : ts.Nodup) (hl : ts.length ≤ 16) :
    quest kb (askH path host key ts) = .ok ⟨path, host, key, [], ts⟩ := by
  have e1 : ∀ n, get (askH path host key ts).fs n = get [(sHost, host), (sUp, sWs), (sConn, sUp), (sKey, key), (sVer, s13)] n ++ get (if ts = [] then [] else [(sProt, commas ts)]) n := fun n => by
    unfold HeadPlain.get askH; rw [List.filter_append, List.map_append]
  have eP : toksAll (get (askH path host key ts).fs sProt) = some ts := by
    rw [e1, show get [(sHost, host), (sUp, sWs), (sConn, sUp), (sKey, key), (sVer, s13)] sProt = [] from rfl, List.nil_append]
    by_cases h0 : ts = []
    · subst h0; rfl
    · rw [if_neg h0, show get [(sProt, commas ts)] sProt = [commas ts] from rfl, toksAll_one', toks_commas ts ht]
  have eO : ∀ n, same sProt n = false → get (askH path host key ts).fs n = get [(sHost, host), (sUp, sWs), (sConn, sUp), (sKey, key), (sVer, s13)] n := fun n hn => by
    rw [e1]
    by_cases h0 : ts = []
    · rw [if_pos h0]; simp [HeadPlain.get]
    · rw [if_neg h0]; simp [HeadPlain.get, hn]
  have g1 : get (askH path host key ts).fs sHost = [host] := eO sHost rfl
  have g2 : get (askH path host key ts).fs sUp = [sWs] := eO sUp rfl
  have g3 : get (askH path host key ts).fs sConn = [sUp] := eO sConn rfl
  have g4 : get (askH path host key ts).fs sVer = [s13] := eO sVer rfl
  have g5 : get (askH path host key ts).fs sKey = [key] := eO sKey rfl
  have g6 : get (askH path host key ts).fs sOrg = [] := eO sOrg rfl
  have h1 : hasT sWs [sWs] = true := by decide
  have h2 : hasT sUp [sUp] = true := by decide
  unfold quest
  rw [g1, g2, g3, g4, g5, g6, eP, h1, h2]
  have a1 : (askH path host key ts).a = sGET := rfl
  have a2 : (askH path host key ts).c = sH11 := rfl
  have a3 : (askH path host key ts).b = path := rfl
  rw [a1, a2, a3]
  simp [oneL, hp, hh, hk, hn]
  omega
/-- The head that a question is granted by. -/
def grantH (acc : List Nat → List Nat) (key p : List Nat) : Hd :=
  ⟨sH11, s101, sSwi, [(sUp, sWs), (sConn, sUp), (sAcc, acc key)] ++ if p = [] then [] else [(sProt, p)]⟩
/-- The protocol that an answer grants. -/
def checkH (acc : List Nat → List Nat) (h : Hd) (key : List Nat) (ts : List (List Nat)) : Option (List Nat) :=
  if h.a = sH11 ∧ h.b = s101 ∧ hasT sWs (get h.fs sUp) = true ∧ hasT sUp (get h.fs sConn) = true ∧ oneL (get h.fs sAcc) = some (acc key) ∧ get h.fs sExt = [] then
    match get h.fs sProt with
    | [] => some []
    | [p] => if p ∈ ts then some p else none
    | _ => none
  else none
theorem check_grant (acc : List Nat → List Nat) (key p : List Nat) (ts : List (List Nat)) (h : p = [] ∨ p ∈ ts) : checkH acc (grantH acc key p) key ts = some p := by
  have e1 : ∀ n, get (grantH acc key p).fs n = get [(sUp, sWs), (sConn, sUp), (sAcc, acc key)] n ++ get (if p = [] then [] else [(sProt, p)]) n := fun n => by
    unfold HeadPlain.get grantH; rw [List.filter_append, List.map_append]
  have eO : ∀ n, same sProt n = false → get (grantH acc key p).fs n = get [(sUp, sWs), (sConn, sUp), (sAcc, acc key)] n := fun n hn => by
    rw [e1]
    by_cases h0 : p = []
    · rw [if_pos h0]; simp [HeadPlain.get]
    · rw [if_neg h0]; simp [HeadPlain.get, hn]
  have g2 : get (grantH acc key p).fs sUp = [sWs] := eO sUp rfl
  have g3 : get (grantH acc key p).fs sConn = [sUp] := eO sConn rfl
  have g4 : get (grantH acc key p).fs sAcc = [acc key] := eO sAcc rfl
  have g5 : get (grantH acc key p).fs sExt = [] := eO sExt rfl
  have h1 : hasT sWs [sWs] = true := by decide
  have h2 : hasT sUp [sUp] = true := by decide
  unfold checkH
  rw [g2, g3, g4, g5, if_pos ⟨rfl, rfl, h1, h2, rfl, rfl⟩, e1, show get [(sUp, sWs), (sConn, sUp), (sAcc, acc key)] sProt = [] from rfl, List.nil_append]
  by_cases h0 : p = []
  · subst h0; rfl
  · rw [if_neg h0, show get [(sProt, p)] sProt = [p] from rfl]
    show (if p ∈ ts then some p else none) = some p
    rw [if_pos (h.resolve_left h0)]
theorem value_token {l : List Nat} (h : token l = true) : value l := by
  have hm := token_not h
  unfold token at h
  rw [Bool.and_eq_true, List.all_eq_true] at h
  refine ⟨fun x hx => by have := tokB_range (h.2 x hx); omega, fun e => ?_, fun e => ?_⟩
  · exact (hm 32 (List.mem_of_mem_head? e)).2.1 rfl
  · exact (hm 32 (List.mem_of_mem_getLast? e)).2.1 rfl
theorem form_grant (acc : List Nat → List Nat) (key p : List Nat) (ha : value (acc key)) (hp : p = [] ∨ token p = true) : Form (grantH acc key p) := by
  rw [← formB_iff]
  have hv := (valueB_iff _).2 ha
  have e0 : formB (grantH acc key []) = true := by
    unfold formB grantH
    rw [if_pos rfl, List.append_nil]
    simp only [List.all_cons, List.all_nil, hv]
    decide
  by_cases h0 : p = []
  · subst h0; exact e0
  · have hv2 := (valueB_iff _).2 (value_token (hp.resolve_left h0))
    unfold formB grantH
    rw [if_neg h0]
    simp only [List.cons_append, List.nil_append, List.all_cons, List.all_nil, hv, hv2]
    decide
theorem text_length (h : Hd) : (text h).length = (line1 h).length + 4 + ((h.fs.map fun f => (lineF f).length + 2)).sum := by
  unfold text join
  simp only [List.length_append, List.length_flatMap, List.map_cons, List.sum_cons, List.map_map]
  have : (List.map ((fun l : List Nat => (l ++ [13, 10]).length) ∘ lineF) h.fs) = h.fs.map fun f => (lineF f).length + 2 := List.map_congr_left (fun f _ => by simp)
  simp [Function.comp_def]
  omega
theorem grant_small (acc : List Nat → List Nat) (key p : List Nat) (ha : (acc key).length ≤ 100) (hp : p.length ≤ 300) : (text (grantH acc key p)).length ≤ 2048 ∧ (grantH acc key p).fs.length ≤ 32 := by
  rw [text_length]
  unfold grantH line1 lineF
  by_cases h0 : p = []
  · rw [if_pos h0]
    simp [sH11, s101, sSwi, sUp, sWs, sConn, sAcc]
    omega
  · rw [if_neg h0]
    simp [sH11, s101, sSwi, sUp, sWs, sConn, sAcc, sProt]
    omega
/-- Names that differ in their letters' case. -/
theorem get_names {fs gs : List (List Nat × List Nat)} (hl : fs.length = gs.length) (h : ∀ i, i < fs.length → (gs.getD i ([], [])).2 = (fs.getD i ([], [])).2 ∧ ((gs.getD i ([], [])).1).map up = ((fs.getD i ([], [])).1).map up) (n : List Nat) : get gs n = get fs n := by
  induction fs generalizing gs with
  | nil => cases gs with
    | nil => rfl
    | cons g gs => simp at hl
  | cons f fs ih => cases gs with
    | nil => simp at hl
    | cons g gs =>
      have h0 := h 0 (by simp)
      simp at h0
      have hr := ih (gs := gs) (by simpa using hl) (fun i hi => by simpa using h (i + 1) (by simpa using hi))
      have hs : same g.1 n = same f.1 n := by unfold same; rw [h0.2]
      unfold HeadPlain.get at hr ⊢
      rw [List.filter_cons, List.filter_cons, hs]
      by_cases e : same f.1 n = true
      · rw [if_pos e, if_pos e, List.map_cons, List.map_cons, hr, h0.1]
      · rw [if_neg e, if_neg e, hr]
theorem quest_names (kb : List Nat → Bool) {h g : Hd} (ha : g.a = h.a) (hb : g.b = h.b) (hc : g.c = h.c) (hf : ∀ n, get g.fs n = get h.fs n) : quest kb g = quest kb h := by
  unfold quest
  rw [ha, hb, hc, hf, hf, hf, hf, hf, hf, hf]
theorem check_names (acc : List Nat → List Nat) {h g : Hd} (ha : g.a = h.a) (hb : g.b = h.b) (hf : ∀ n, get g.fs n = get h.fs n) (key : List Nat) (ts : List (List Nat)) : checkH acc g key ts = checkH acc h key ts := by
  unfold checkH
  rw [ha, hb, hf, hf, hf, hf, hf]
/-- A field of another name. -/
theorem get_more (fs : List (List Nat × List Nat)) (f : List Nat × List Nat) (k : Nat) (n : List Nat) (h : same f.1 n = false) : get (fs.take k ++ f :: fs.drop k) n = get fs n := by
  conv => rhs; rw [← List.take_append_drop k fs]
  unfold HeadPlain.get
  rw [List.filter_append, List.filter_append, List.filter_cons, h]
  rfl
theorem quest_more (kb : List Nat → Bool) (h : Hd) (f : List Nat × List Nat) (k : Nat) (hf : ∀ n ∈ [sHost, sUp, sConn, sVer, sKey, sProt, sOrg], same f.1 n = false) : quest kb ⟨h.a, h.b, h.c, h.fs.take k ++ f :: h.fs.drop k⟩ = quest kb h := by
  have g := fun n hn => get_more h.fs f k n (hf n hn)
  unfold quest
  simp only
  rw [g sHost (by simp), g sUp (by simp), g sConn (by simp), g sVer (by simp), g sKey (by simp), g sProt (by simp), g sOrg (by simp)]
theorem commas_snoc (l : List (List Nat)) (t : List Nat) : commas (l ++ [t]) = if l = [] then t else commas l ++ 44 :: 32 :: t := by
  match l with
  | [] => rfl
  | [a] => simp [commas]
  | a :: b :: r =>
    have h := commas_snoc (b :: r) t
    rw [if_neg (by simp)] at h ⊢
    rw [List.cons_append, List.cons_append, commas, commas, ← List.cons_append, h]
    simp
theorem commas_take (ts : List (List Nat)) (k : Nat) (hk : k < ts.length) : commas (ts.take (k + 1)) = if k = 0 then ts.getD k [] else commas (ts.take k) ++ 44 :: 32 :: ts.getD k [] := by
  have e : ts.take (k + 1) = ts.take k ++ [ts.getD k []] := by
    rw [List.take_succ_eq_append_getElem hk, List.getD_eq_getElem?_getD, List.getElem?_eq_getElem hk]; rfl
  have e2 : (ts.take k = []) ↔ k = 0 := by
    rw [List.take_eq_nil_iff]
    constructor
    · rintro (h | h)
      · exact h
      · subst h; simp at hk
    · exact .inl
  rw [e, commas_snoc]
  by_cases h : k = 0
  · rw [if_pos (e2.2 h), if_pos h]
  · rw [if_neg (fun x => h (e2.1 x)), if_neg h]
theorem commas_length (ts : List (List Nat)) (b : Nat) (h : ∀ t ∈ ts, t.length ≤ b) : (commas ts).length ≤ ts.length * (b + 2) := by
  match ts with
  | [] => simp [commas]
  | [t] => have := h t (by simp); simp [commas]; omega
  | t :: u :: r =>
    have h1 := commas_length (u :: r) b (fun x hx => h x (by simp [hx]))
    have h2 := h t (by simp)
    simp only [commas, List.length_append, List.length_cons] at h1 ⊢
    have e : (r.length + 1 + 1) * (b + 2) = (r.length + 1) * (b + 2) + (b + 2) := by rw [Nat.add_mul (r.length + 1) 1, Nat.one_mul]
    omega
def sClose : List Nat := [99, 108, 111, 115, 101]
def sLen : List Nat := [67, 111, 110, 116, 101, 110, 116, 45, 76, 101, 110, 103, 116, 104]
def sNull : List Nat := [48]
/-- A refusal's number and words. -/
def why (status : Int) : List Nat × List Nat :=
  if status = 403 then ([52, 48, 51], [70, 111, 114, 98, 105, 100, 100, 101, 110]) else
  if status = 404 then ([52, 48, 52], [78, 111, 116, 32, 70, 111, 117, 110, 100]) else
  if status = 405 then ([52, 48, 53], [77, 101, 116, 104, 111, 100, 32, 78, 111, 116, 32, 65, 108, 108, 111, 119, 101, 100]) else
  if status = 426 then ([52, 50, 54], [85, 112, 103, 114, 97, 100, 101, 32, 82, 101, 113, 117, 105, 114, 101, 100]) else
  if status = 502 then ([53, 48, 50], [66, 97, 100, 32, 71, 97, 116, 101, 119, 97, 121]) else
  if status = 503 then ([53, 48, 51], [83, 101, 114, 118, 105, 99, 101, 32, 85, 110, 97, 118, 97, 105, 108, 97, 98, 108, 101]) else
  if status = 504 then ([53, 48, 52], [71, 97, 116, 101, 119, 97, 121, 32, 84, 105, 109, 101, 111, 117, 116]) else
  ([52, 48, 48], [66, 97, 100, 32, 82, 101, 113, 117, 101, 115, 116])
/-- The head that a question is refused by. -/
def refuseH (status : Int) : Hd :=
  ⟨sH11, (why status).1, (why status).2, (if status = 426 then [(sUp, sWs), (sVer, s13)] else []) ++ [(sConn, sClose), (sLen, sNull)]⟩
theorem refuse_cases (status : Int) : status = 403 ∨ status = 404 ∨ status = 405 ∨ status = 426 ∨ status = 502 ∨ status = 503 ∨ status = 504 ∨
    (refuseH status = ⟨sH11, [52, 48, 48], [66, 97, 100, 32, 82, 101, 113, 117, 101, 115, 116], [(sConn, sClose), (sLen, sNull)]⟩ ∧ status ≠ 403 ∧ status ≠ 404 ∧ status ≠ 405 ∧ status ≠ 426 ∧ status ≠ 502 ∧ status ≠ 503 ∧ status ≠ 504) := by
  by_cases h1 : status = 403
  · exact .inl h1
  by_cases h2 : status = 404
  · exact .inr (.inl h2)
  by_cases h3 : status = 405
  · exact .inr (.inr (.inl h3))
  by_cases h4 : status = 426
  · exact .inr (.inr (.inr (.inl h4)))
  by_cases h5 : status = 502
  · exact .inr (.inr (.inr (.inr (.inl h5))))
  by_cases h6 : status = 503
  · exact .inr (.inr (.inr (.inr (.inr (.inl h6)))))
  by_cases h7 : status = 504
  · exact .inr (.inr (.inr (.inr (.inr (.inr (.inl h7))))))
  refine .inr (.inr (.inr (.inr (.inr (.inr (.inr ⟨?_, h1, h2, h3, h4, h5, h6, h7⟩))))))
  unfold refuseH why
  rw [if_neg h1, if_neg h2, if_neg h3, if_neg h4, if_neg h5, if_neg h6, if_neg h7, if_neg h4]
  rfl
theorem refuse_form (status : Int) : formB (refuseH status) = true ∧ (text (refuseH status)).length ≤ 2048 ∧ (refuseH status).fs.length ≤ 32 ∧ get (refuseH status).fs sConn = [sClose] ∧ (refuseH status).a ≠ sGET ∧ (refuseH status).b ≠ s101 := by
  rcases refuse_cases status with h | h | h | h | h | h | h | ⟨h, _⟩
  all_goals first | subst h | rw [h]
  all_goals decide
theorem refuse_quest (kb : List Nat → Bool) (status : Int) : quest kb (refuseH status) = .error 405 := by
  unfold quest; rw [if_pos (refuse_form status).2.2.2.2.1]
theorem refuse_check (acc : List Nat → List Nat) (status : Int) (key : List Nat) (ts : List (List Nat)) : checkH acc (refuseH status) key ts = none := by
  unfold checkH; rw [if_neg (fun h => (refuse_form status).2.2.2.2.2 h.2.1)]
/-- The number that digits are. -/
def numL (l : List Nat) : Int := l.foldl (fun (n : Int) (d : Nat) => 10 * n + ((d : Int) - 48)) 0
theorem refuse_number (status : Int) : numL (refuseH status).b = if status = 403 ∨ status = 404 ∨ status = 405 ∨ status = 426 ∨ status = 502 ∨ status = 503 ∨ status = 504 then status else 400 := by
  rcases refuse_cases status with h | h | h | h | h | h | h | ⟨h, h1, h2, h3, h4, h5, h6, h7⟩
  all_goals first | (subst h; decide) | skip
  rw [h, if_neg (by omega)]
  decide
end Go.Proofs.YthlagngpllahkaaGreatDoor
