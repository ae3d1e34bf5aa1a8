/- leg, plain: what went out is read off frame by frame. -/
import Derived.Test.YtlahonjmfecikaaGreatDoorLegFoldZ
namespace LegPlain
open FramePlain (Fr Fr0 form ctl zero4 text)
open CutPlain (frs)
open MsgPlain (Ev)
def stK (l:Lg) (k:Nat):Rd:=rdAll l.said ⟨[],[],false⟩ (dat (l.hist.take k))
theorem stK_zero (l:Lg):stK l 0=⟨[],[],false⟩:=rfl
theorem take_one {l:List Fr} {k:Nat} (hk:k<l.length):l.take (k+1)=l.take k++[l.getD k Fr0]:=by
 rw [List.take_add_one,List.getElem?_eq_getElem hk,List.getD_eq_getElem?_getD,List.getElem?_eq_getElem hk];rfl
theorem split_one {l:List Fr} {k:Nat} (hk:k<l.length):l=l.take k++([l.getD k Fr0]++l.drop (k+1)):=by
 rw [← List.append_assoc,← take_one hk,List.take_append_drop]
theorem stK_succ {l:Lg} {k:Nat} (hk:k<l.hist.length):stK l (k+1)=if (l.hist.getD k Fr0).op≤2 then rd1 l.said (stK l k) (core (l.hist.getD k Fr0)) else stK l k:=by
 unfold stK
 rw [take_one hk,dat_append,rdAll_append]
 by_cases h:(l.hist.getD k Fr0).op≤2
 ·rw [if_pos h,dat_one (by unfold isD;exact decide_eq_true h)];rfl
 ·rw [if_neg h,dat_none (by unfold isD;exact decide_eq_false h)];rfl
theorem stK_ok {most:Nat} {l:Lg} (ho:okAll most l.said ⟨[],[],false⟩ (dat l.hist)) {k:Nat} (hk:k<l.hist.length) (h:(l.hist.getD k Fr0).op≤2):ok1 most (stK l k) (core (l.hist.getD k Fr0)):=by
 rw [split_one hk,dat_append,dat_append,okAll_append,dat_one (by unfold isD;exact decide_eq_true h)] at ho
 exact ho.2.1
theorem stK_end {c:Cf} {l:Lg} (h:Ok c l) (hq:Quiet l) (hf:1≤c.frm):okAll c.frm l.said ⟨[],[],false⟩ (dat l.hist)∧(stK l l.hist.length=⟨l.said,[],false⟩∨(l.sent=true∧∃ g m v w b,l.said=g++[m]∧v++w=m.2∧stK l l.hist.length=⟨g,v,b⟩)):=by
 obtain ⟨h1,j,h2⟩:=said_dat h hq
 obtain ⟨k1,k2⟩:=rd_said hf l.said (fun m hm=>(h.said m hm).1) j
 rw [← h2] at k1 k2
 refine ⟨k1,?_⟩
 unfold stK
 rw [List.take_length]
 cases hs:l.sent with
 | false =>
   refine .inl ?_
   rw [h1 hs]
   exact (rd_flat hf l.said [] (fun m hm=>(h.said m hm).1) (fun i hi=>by simp [hi])).2
 | true =>
   rcases k2 with k2 | ⟨_,g,m,v,w,b,e1,e2,e3⟩
   ·exact .inl k2
   ·exact .inr ⟨rfl,g,m,v,w,b,e1,e2,e3⟩
theorem stK_len {c:Cf} {l:Lg} (h:∀ f∈l.hist,IsO c f):∀ k,k≤l.hist.length→(stK l k).data.length≤(max c.frm 125)*k∧(stK l k).got.length≤l.said.length∧(∀ y∈(stK l k).data,y<256)∧∀ m∈(stK l k).got,∀ y∈m.2,y<256
 | 0,_=>⟨by rw [stK_zero];exact Nat.zero_le _,Nat.zero_le _,fun y hy=>absurd hy List.not_mem_nil,fun y hy=>absurd hy List.not_mem_nil⟩
 | k+1,hk=>by
   obtain ⟨i1,i2,i3,i4⟩:=stK_len h k (by omega)
   have hm:l.hist.getD k Fr0∈l.hist:=by
    rw [List.getD_eq_getElem?_getD,List.getElem?_eq_getElem (by omega:k<l.hist.length)]
    exact List.getElem_mem _
   have hf:=h _ hm
   rw [stK_succ (by omega)]
   have hl:=hf.len
   rw [Nat.mul_succ]
   split
   ·unfold rd1 core
    have hs:∀ y∈(stK l k).data++(l.hist.getD k Fr0).data,y<256:=fun y hy=>by
     rcases List.mem_append.1 hy with hy | hy
     ·exact i3 y hy
     ·exact hf.small y hy
    split
    ·next h1 =>
     refine ⟨Nat.zero_le _,by rw [List.length_append];have:=h1.2;simp;omega,fun y hy=>absurd hy List.not_mem_nil,fun m hm=>?_⟩
     rcases List.mem_append.1 hm with hm | hm
     ·exact i4 m hm
     ·rw [List.mem_singleton] at hm
      rw [hm];exact hs
    ·exact ⟨by show ((stK l k).data++(l.hist.getD k Fr0).data).length≤_;rw [List.length_append];omega,i2,hs,i4⟩
   ·exact ⟨by omega,i2,i3,i4⟩
theorem end_last {c:Cf} {l:Lg} (h:Ok c l) (hq:Quiet l) {k:Nat} (hk:k<l.hist.length) (h8:(l.hist.getD k Fr0).op=8):k+1=l.hist.length∧l.sent=true:=by
 have hm:∀ {p:List Fr},NoE p→k<p.length→(p.getD k Fr0).op≠8:=fun {p} hn hk=>by
  refine hn _ ?_
  rw [List.getD_eq_getElem?_getD,List.getElem?_eq_getElem hk]
  exact List.getElem_mem _
 obtain ⟨s1,s2⟩:=said_end h hq
 cases hs:l.sent with
 | false=>exact absurd h8 (hm (s1 hs) hk)
 | true =>
   obtain ⟨p,x,e1,_,_,e4⟩:=s2 hs
   refine ⟨?_,rfl⟩
   rw [e1,List.length_append,List.length_singleton] at hk ⊢
   by_cases hp:k<p.length
   ·refine absurd ?_ (hm e4 hp)
    rw [e1,List.getD_eq_getElem?_getD,List.getElem?_append_left hp,← List.getD_eq_getElem?_getD] at h8
    exact h8
   ·omega
def evf (m:Int×List Nat):Ev:=⟨m.1,0,m.2⟩
theorem mv_said (c:Cf) (n:Nat) (l:Lg):(mv c n l).said=l.said:=(mv_keep c n l).2.2.1
theorem control_said (c:Cf) (l:Lg) (op:Int) (d:List Nat):(control c l op d).said=l.said:=mv_said c _ _
theorem send_said (c:Cf) (l:Lg) (op:Int) (t:List Nat):((send c l op t).2=true→(send c l op t).1.said=l.said++[(op,t)])∧((send c l op t).2=false→(send c l op t).1.said=l.said):=by
 unfold send
 split
 ·exact ⟨fun _=>mv_said c _ _,fun h=>by cases h⟩
 ·exact ⟨fun h=>(by cases h),fun _=>rfl⟩
theorem ping_said (c:Cf) (l:Lg) (d:List Nat):(ping c l d).1.said=l.said:=by
 unfold ping
 split
 ·rfl
 ·exact control_said c l 9 d
theorem close_said (c:Cf) (l:Lg) (code:Int) (w:List Nat):(close c l code w).1.said=l.said:=by
 unfold close
 split
 ·rfl
 ·exact control_said c _ 8 _
theorem pong_said (c:Cf) (l:Lg) (d:List Nat):(pong c l d).said=l.said:=by
 unfold pong
 split
 ·rfl
 ·split
  ·exact mv_said c _ _
  ·exact control_said c l 10 d
theorem react_said (c:Cf) (l:Lg) (x:Ev):(react c l x).said=l.said:=by
 unfold react
 split
 ·exact pong_said c l _
 ·split
  ·exact close_said c _ _ _
  ·rfl
theorem fold_said (c:Cf):∀ (xs:List Ev) (l:Lg),(xs.foldl (react c) l).said=l.said
 | [],_=>rfl
 | x :: xs,l=>(fold_said c xs (react c l x)).trans (react_said c l x)
theorem feed_said (c:Cf) (l:Lg) (b:List Nat):(feed c l b).1.said=l.said:=by
 unfold feed
 split
 ·rfl
 ·show (if errs c l b≠0 then fail c ((evs c l b).foldl (react c) (came c l b)) (errs c l b) else (evs c l b).foldl (react c) (came c l b)).said=_
  split
  ·unfold fail
   rw [close_said]
   exact fold_said c _ _
  ·exact fold_said c _ _
theorem take_said (c:Cf) (l:Lg) (n:Int):(takeN c l n).1.said=l.said:=mv_said c _ _
end LegPlain
