/- leg, plain: which end goes out. -/
import Derived.Test.YtlahonjmfecikaaGreatDoorYl
namespace LegPlain
open FramePlain (Fr Fr0 form ctl zero4 text)
open StreamPlain (one all all_step one_err)
open MsgPlain (Ev Ms M0 run run_append run_cons run_stop bad)
open CutPlain (frs)
open ClosePlain (putC getC codeC acrossC valid)
def Err (e:Nat):Prop:=e=110∨e=111∨e=120∨e=121∨e=122
def Wrong (e:Nat):Prop:=e=91∨e=92∨e=100∨Err e
theorem step_errs (most:Int) {st:Ms} (h0:st.err=0) (f:Fr):(MsgPlain.step most st f).1.err=0∨Err (MsgPlain.step most st f).1.err:=by
 unfold MsgPlain.step Err
 by_cases a1:form f=false
 ·rw [if_pos a1];exact .inr (.inr (.inr (.inl rfl)))
 rw [if_neg a1]
 by_cases a2:f.op=9∨f.op=10
 ·rw [if_pos a2];exact .inl h0
 rw [if_neg a2]
 by_cases a3:f.op=8
 ·rw [if_pos a3]
  by_cases a4:(getC f.data).2.2=0
  ·rw [if_pos a4];exact .inl rfl
  ·rw [if_neg a4]
   rcases (ClosePlain.get_err (s:=f.data) rfl a4).2.2 with e | e
   ·exact .inr (.inl e)
   ·exact .inr (.inr (.inl e))
 rw [if_neg a3]
 by_cases a4:decide (f.op=0)≠st.begun
 ·rw [if_pos a4];exact .inr (.inr (.inr (.inl rfl)))
 rw [if_neg a4]
 rcases MsgPlain.more_err most f.fin (if st.begun=true then st.op else f.op) (st.text++f.data) with e | ⟨_,e | e⟩
 ·exact .inl e
 ·rw [e];exact .inr (.inr (.inr (.inr (.inl rfl))))
 ·rw [e];exact .inr (.inr (.inr (.inr (.inr rfl))))
theorem run_errs (most:Int):∀ (fs:List Fr) {st:Ms},(st.err=0∨Err st.err)→(run most st fs).1.err=0∨Err (run most st fs).1.err
 | [],_,h=>h
 | f :: fs,st,h=>by
   rw [run_cons]
   refine run_errs most fs ?_
   unfold MsgPlain.take
   split
   ·exact h
   ·next hx=>exact step_errs most (Classical.byContradiction fun e=>hx (.inl e)) f
theorem all_errs (masked:Bool) (most:Int):∀ (k:Nat) (s:List Nat),s.length≤k→(∀ y∈s,y<256)→(all s masked most).2.1=0∨(all s masked most).2.1=91∨(all s masked most).2.1=92∨(all s masked most).2.1=100
 | 0,s,h,hs=>by
   obtain rfl:s=[]:=List.eq_nil_of_length_eq_zero (by omega)
   exact .inl rfl
 | k+1,s,h,hs=>by
   rw [all_step s masked most hs]
   by_cases h1:(one s masked most).2.2=90
   ·rw [if_pos h1];exact .inl rfl
   rw [if_neg h1]
   by_cases h2:(one s masked most).2.2≠0
   ·rw [if_pos h2]
    rcases one_err s masked most with e | ⟨e,he,h⟩
    ·exact absurd e h2
    ·rw [he] at h1 ⊢
     rcases h with h | h | h | h
     ·exact absurd h h1
     ·exact .inr (.inl h)
     ·exact .inr (.inr (.inl h))
     ·exact .inr (.inr (.inr h))
   rw [if_neg h2]
   have h3:=StreamPlain.one_len hs (by omega:(one s masked most).2.2=0)
   exact all_errs masked most k (s.drop (one s masked most).2.1) (by rw [List.length_drop];omega) (fun y hy=>hs y (List.mem_of_mem_drop hy))
theorem errs_wrong {c:Cf} {l:Lg} (h:Reads c l) (b:List Nat) (hb:∀ y∈b,y<256) (he:errs c l b≠0):Wrong (errs c l b):=by
 have hs:∀ y∈l.buf++b,y<256:=fun y hy=>by
  rcases List.mem_append.1 hy with hy | hy
  ·exact h.small y hy
  ·exact hb y hy
 unfold errs at he ⊢
 by_cases h1:(came c l b).ms.err≠0
 ·rw [if_pos h1]
  rcases run_errs (c.msg:Int) (all (l.buf++b) c.masked (bound c:Int)).1 (.inl h.err) with e | e
  ·exact absurd e h1
  ·exact .inr (.inr (.inr e))
 rw [if_neg h1] at he ⊢
 split at he
 ·exact absurd rfl he
 ·next h2 =>
  rw [if_neg h2]
  rcases all_errs c.masked (bound c:Int) _ _ (Nat.le_refl _) hs with e | e | e | e
  ·exact absurd e he
  ·exact .inl e
  ·exact .inr (.inl e)
  ·exact .inr (.inr (.inl e))
structure Ends (l:Lg):Prop where
 no:l.sent=false→l.wrong=0∧l.got=false
 yes:l.sent=true→(l.wrong=0∧l.got=true∧∃ k,l.last=(putC (acrossC k) []).1)∨(Wrong l.wrong∧l.last=(putC (codeC (l.wrong:Int)) []).1)
theorem ends_zero (d:Nat):Ends (L0 d):=⟨fun _=>⟨rfl,rfl⟩,fun h=>(by cases h)⟩
theorem ends_keep {l m:Lg} (k:Keep l m) (h1:m.sent=l.sent) (h2:m.last=l.last) (h:Ends l):Ends m :=
 ⟨fun hs=>by rw [k.wrong,k.got];exact h.no (h1 ▸ hs),fun hs=>by rw [k.wrong,k.got,h2];exact h.yes (h1 ▸ hs)⟩
theorem send_ends {c:Cf} {l:Lg} (h:Ends l) (op:Int) (t:List Nat):Ends (send c l op t).1:=by
 refine ends_keep (send_keep c l op t) ?_ ?_ h<;>(unfold send;split)
 ·exact (mv_keep c _ {l with rest:=frs c.frm op t,said:=l.said++[(op,t)]}).2.1
 ·rfl
 ·exact (mv_keep c _ {l with rest:=frs c.frm op t,said:=l.said++[(op,t)]}).2.2.2
 ·rfl
theorem ping_ends {c:Cf} {l:Lg} (h:Ends l) (d:List Nat):Ends (ping c l d).1:=by
 refine ends_keep (ping_keep c l d) ?_ ?_ h<;>(unfold ping;split)
 ·rfl
 ·exact (control_keep c l 9 d).2.1
 ·rfl
 ·exact (control_keep c l 9 d).2.2
theorem take_ends {c:Cf} {l:Lg} (h:Ends l) (n:Int):Ends (takeN c l n).1:=ends_keep (take_keep c l n) (mv_keep c _ {l with gone:=l.gone++l.ring.take n.toNat,ring:=l.ring.drop n.toNat}).2.1 (mv_keep c _ {l with gone:=l.gone++l.ring.take n.toNat,ring:=l.ring.drop n.toNat}).2.2.2 h
theorem feed_ends {c:Cf} {l:Lg} (hi:In c l) (h:Ends l) (b:List Nat) (hb:∀ y∈b,y<256):Ends (feed c l b).1:=by
 rcases hi.symm with ⟨hst,_⟩ | hr
 ·rw [feed_stop b hst];exact h
 have hsn:l.sent=false:=by
  cases hs:l.sent with
  | false=>rfl
  | true =>
    rcases h.yes hs with ⟨_,e,_⟩ | ⟨e,_⟩
    ·exact absurd (e.symm.trans hr.got) (by decide)
    ·rw [hr.wrong] at e
     unfold Wrong Err at e
     omega
 obtain ⟨f1,f2,_,_,_,_,f7,f8⟩:=feed_in hr b hb
 rw [hsn,Bool.false_or] at f7
 obtain ⟨s1,s2,_⟩:=fold_sent c (evs c l b) (came c l b)
 have hs:∀ y∈l.buf++b,y<256:=fun y hy=>by
  rcases List.mem_append.1 hy with hy | hy
  ·exact hr.small y hy
  ·exact hb y hy
 have hov:(evs c l b).any (fun x=>decide (x.op=8))=(came c l b).ms.over:=run_over (by omega) _ hr.fit hr.err hr.over (all_small c.masked (bound c:Int) _ (l.buf++b) (Nat.le_refl _) hs)
 have hgo:¬ (l.got=true∨l.wrong≠0):=fun e=>by
  rcases e with e | e
  ·rw [hr.got] at e;cases e
  ·exact e hr.wrong
 have hs2:((evs c l b).foldl (react c) (came c l b)).sent=(came c l b).ms.over:=by rw [s1,hov];show (l.sent||_)=_;rw [hsn,Bool.false_or]
 by_cases he:errs c l b≠0
 ·have ho:(came c l b).ms.over=false:=by
   cases ho:(came c l b).ms.over with
   | false=>rfl
   | true =>
     have hd:=f8.over ho
     unfold errs at he
     rw [hd,if_neg (fun e=>e rfl),if_pos (show MsgPlain.done.over=true from rfl)] at he
     exact absurd rfl he
  rw [ho] at hs2
  refine ⟨fun e=>absurd (f7.symm.trans e) (by rw [decide_eq_true he,Bool.or_true];decide),fun _=>.inr ⟨by rw [f2];exact errs_wrong hr b hb he,?_⟩⟩
  rw [f2]
  unfold feed
  rw [if_neg hgo]
  show (if errs c l b≠0 then _ else _:Lg).last=_
  rw [if_pos he]
  exact (close_sent c {(evs c l b).foldl (react c) (came c l b) with wrong:=errs c l b} (codeC (errs c l b:Int)) (.inr (ClosePlain.code_valid _))).2 hs2
 ·have he0:errs c l b=0:=Classical.byContradiction he
  rw [decide_eq_false he,Bool.or_false] at f7
  refine ⟨fun e=>⟨f2.trans he0,f1.trans (f7.symm.trans e)⟩,fun e=>.inl ⟨f2.trans he0,f1.trans (f7.symm.trans e),?_⟩⟩
  obtain ⟨k,hk⟩:=s2 hsn (hs2.trans (f7.symm.trans e))
  refine ⟨k,?_⟩
  unfold feed
  rw [if_neg hgo]
  show (if errs c l b≠0 then _ else _:Lg).last=_
  rw [if_neg he]
  exact hk
def codeOf (d:List Nat):Nat:=if 2≤d.length then 256*d.getD 0 0+d.getD 1 0 else 0
theorem codeOf_put {n:Int} (h:valid n=true):codeOf (putC n []).1=n.toNat:=by
 rw [ClosePlain.put_yes h (Nat.zero_le _) rfl,List.append_nil]
 show 256*(n.toNat / 256)+n.toNat % 256=_
 omega
theorem end_code {l:Lg} (h:Ends l) (hs:l.sent=true):(l.wrong=0∧l.got=true∧codeOf l.last≠1005∧codeOf l.last≠1006∧codeOf l.last≠1015)∨(l.wrong≠0∧codeOf l.last=if l.wrong=122∨l.wrong=111 then 1007 else if l.wrong=92∨l.wrong=121 then 1009 else 1002):=by
 rcases h.yes hs with ⟨h1,h2,k,h3⟩ | ⟨h1,h2⟩
 ·refine .inl ⟨h1,h2,?_⟩
  rw [h3]
  rcases ClosePlain.across_valid k with e | e
  ·rw [e];decide
  ·rw [codeOf_put e]
   unfold valid at e
   simp only [Bool.or_eq_true,Bool.and_eq_true,decide_eq_true_eq] at e
   omega
 ·refine .inr ⟨fun e=>by rw [e] at h1;unfold Wrong Err at h1;omega,?_⟩
  rw [h2,codeOf_put (ClosePlain.code_valid _)]
  unfold Wrong Err at h1
  rcases h1 with e | e | e | e | e | e | e | e<;>(rw [e];decide)
end LegPlain
