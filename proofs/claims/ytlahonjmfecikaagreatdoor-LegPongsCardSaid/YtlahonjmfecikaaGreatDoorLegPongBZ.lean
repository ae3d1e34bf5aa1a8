/- leg, plain: pings are answered, and how the pongs are found among the pings. -/
import Derived.Test.YtlahonjmfecikaaGreatDoorYl
namespace LegPlain
open FramePlain (Fr Fr0 form ctl zero4 text size text_length form_of headB byte0 lenB)
open StreamPlain (one all all_step one_text)
open MsgPlain (Ev Ms M0 run)
open CutPlain (frs)
def pingF7 (d:List Nat):Fr:=⟨true,9,true,zero4,d⟩
theorem ping_text7 {d:List Nat} (h:d.length≤125):text (pingF7 d)=137 :: (128+d.length) :: 0 :: 0 :: 0 :: 0 :: d:=by
 have hl:=FramePlain.lenB_low (n:=d.length) (by omega)
 have hn:=FramePlain.lenB_length (n:=d.length) (by omega)
 rw [if_neg (by omega),if_neg (by omega)] at hn
 obtain ⟨x,hx⟩:=List.length_eq_one_iff.1 hn
 have hx2:=hl.2 h
 rw [hx] at hx2
 have hx3:x=d.length:=hx2
 unfold text headB
 rw [if_pos (show (pingF7 d).masked=true from rfl),if_pos (show (pingF7 d).masked=true from rfl)]
 show byte0 (pingF7 d) :: ((lenB d.length).getD 0 0+128) :: (lenB d.length).drop 1++zero4++MaskPlain.turn zero4 0 d=_
 rw [hx,MaskPlain.turn_zero (show ∀ i,i<4→zero4.getD i 0=0 by decide),hx3]
 show 137 :: (d.length+128) :: ([]++zero4++d)=_
 rw [Nat.add_comm d.length 128];rfl
theorem ping_all7 {masked:Bool} (hm:masked=true) {most:Int} (hmo:125≤most) (hmo2:most≤9223372036854775807) {d:List Nat} (h:d.length≤125) (hs:∀ y∈d,y<256):all (text (pingF7 d)) masked most=([pingF7 d],0,0):=by
 have hform:form (pingF7 d)=true:=form_of ⟨.inr ⟨by show (8:Int)≤9;decide,by show (9:Int)≤10;decide,rfl,h⟩,.inl rfl⟩
 have hb:∀ y∈text (pingF7 d),y<256:=text_bytes hform (by show d.length≤_;omega) (by show ∀ y∈zero4,y<256;exact zero4_small) hs
 have ho:=one_text (masked:=masked) (most:=most) hform (by rw [hm];rfl) (show zero4.length=4 from rfl) (by show (d.length:Int)≤most;omega) hmo2 []
 rw [List.append_nil] at ho
 rw [all_step _ _ _ hb,ho,if_neg (show ¬ (0:Nat)=90 by decide),if_neg (show ¬ (0:Nat)≠0 by decide)]
 show (pingF7 d :: (all ((text (pingF7 d)).drop (size (pingF7 d))) masked most).1,_)=_
 rw [show (text (pingF7 d)).drop (size (pingF7 d))=[] from List.drop_of_length_le (by rw [text_length (pingF7 d) (by show d.length≤_;omega) rfl];exact Nat.le_refl _)]
 rfl
theorem feed_ping7 {c:Cf} (hm:c.masked=true) (hmo:c.msg≤65536) {l:Lg} (h:Reads c l) (hb:l.buf=[]) (hms:l.ms=M0) {d:List Nat} (hd:d.length≤125) (hs:∀ y∈d,y<256):feed c l (text (pingF7 d))=(pong c l d,[]):=by
 have ha:all (l.buf++text (pingF7 d)) c.masked (bound c:Int)=([pingF7 d],0,0):=by
  rw [hb,List.nil_append]
  exact ping_all7 hm (by unfold bound;omega) (by unfold bound;omega) hd hs
 have hst:MsgPlain.take (c.msg:Int) M0 (pingF7 d)=(M0,some ⟨9,0,d⟩):=by
  rw [MsgPlain.take_go _ rfl rfl]
  exact MsgPlain.step_ping (c.msg:Int) M0 (op:=9) (.inl rfl) zero4 true hd (.inl rfl)
 have hrun:run (c.msg:Int) l.ms [pingF7 d]=(M0,[⟨9,0,d⟩]):=by
  rw [hms,MsgPlain.run_one,hst];rfl
 have hc:came c l (text (pingF7 d))=l:=by
  unfold came
  rw [ha,hrun]
  simp only [if_true]
  rw [show (l.buf++text (pingF7 d)).drop ((l.buf++text (pingF7 d)).length-0)=[] from List.drop_of_length_le (by omega)]
  obtain ⟨x1,x2,x3,x4,x5,x6,x7,x8,x9,x10,x11,x12,x13,x14,x15⟩:=l
  have e1:x13=[]:=hb
  have e2:x14=0:=h.serr
  have e3:x15=M0:=hms
  subst e1 e2 e3
  rfl
 have he:evs c l (text (pingF7 d))=[⟨9,0,d⟩]:=by unfold evs;rw [ha,hrun]
 have her:errs c l (text (pingF7 d))=0:=by
  unfold errs
  rw [hc,if_neg (fun e=>e h.err),if_neg (by rw [h.over];decide)]
  exact h.serr
 unfold feed
 rw [if_neg (fun e=>e.elim (fun e=>absurd (e.symm.trans h.got) (by decide)) (fun e=>e h.wrong)),her,if_neg (fun e=>e rfl),he,hc]
 rfl
theorem con_all7 {l:List Fr} (h:dat l=[]):con l=l.map core:=by
 unfold con
 rw [List.filter_eq_self.2]
 intro f hf
 unfold dat at h
 have h:=List.map_eq_nil_iff.1 h
 cases hi:isD f with
 | false=>rfl
 | true =>
   have:f∈l.filter isD:=List.mem_filter.2 ⟨hf,hi⟩
   rw [h] at this
   cases this
def pgs7 (P:List (List Nat)):List (Bool×Int×List Nat):=P.map fun d=>(true,10,d)
structure Pg7 (c:Cf) (l:Lg) (ds:List (List Nat)):Prop where
 ok:Ok c l
 tail:l.tail.length≤14+max c.frm 125
 reads:Reads c l
 buf:l.buf=[]
 ms:l.ms=M0
 sent:l.sent=false
 rest:l.rest=[]
 one:l.ctl.length≤1
 pongs:∃ P:List (List Nat),l.hist.map core++l.ctl.map core=pgs7 P∧P.Sublist ds∧P.getLast? = ds.getLast?
theorem pg_zero7 (c:Cf) (d:Nat):Pg7 c (L0 d) []:=⟨ok_zero c d,Nat.zero_le _,reads_zero c d,rfl,rfl,rfl,rfl,Nat.zero_le _,[],rfl,List.Sublist.refl _,rfl⟩
theorem reads_keep7 {c:Cf} {l m:Lg} (k:Keep l m) (h:Reads c l):Reads c m:=⟨k.got.trans h.got,k.wrong.trans h.wrong,k.serr.trans h.serr,by rw [k.ms];exact h.err,by rw [k.ms];exact h.over,by rw [k.ms];exact h.fit,by rw [k.buf];exact h.left,by rw [k.buf];exact h.small⟩
theorem pg_move7 {c:Cf} (hf:c.frm≤65536) {l:Lg} {ds:List (List Nat)} (hok:Ok c (move c l)) (hi:Inv c l) (ht:l.tail.length≤14+max c.frm 125) (hr:Reads c l) (hb:l.buf=[]) (hms:l.ms=M0) (hs:l.sent=false) (hre:l.rest=[]) (h1:l.ctl.length≤1)
 (hp:∃ P:List (List Nat),l.hist.map core++l.ctl.map core=pgs7 P∧P.Sublist ds∧P.getLast? = ds.getLast?):Pg7 c (move c l) ds:=by
 obtain ⟨_,sm⟩:=move_inv hi
 obtain ⟨_,p2,k,p3⟩:=move_low hf hi.ctl hi.rest ht
 have hre2:(move c l).rest=[]:=by
  obtain ⟨k,hk⟩:=sm.rest
  rw [hk,hre,List.drop_nil]
 refine ⟨hok,p2,reads_keep7 (move_keep c l) hr,sm.buf.trans hb,sm.ms.trans hms,sm.sent.trans hs,hre2,by rw [p3,List.length_drop];omega,?_⟩
 obtain ⟨P,q1,q2,q3⟩:=hp
 refine ⟨P,?_,q2,q3⟩
 have hd:∀ f∈l.hist++l.ctl,isD f=false:=fun f hf=>by
  have:core f∈pgs7 P:=by
   rw [← q1,← List.map_append]
   exact List.mem_map.2 ⟨f,hf,rfl⟩
  obtain ⟨d,_,hd⟩:=List.mem_map.1 this
  have:f.op=10:=by
   have:=congrArg (fun x:Bool×Int×List Nat=>x.2.1) hd
   exact this.symm
  unfold isD
  rw [this];rfl
 have dz:∀ l:List Fr,(∀ f∈l,isD f=false)→dat l=[]:=fun l h=>by
  unfold dat
  rw [List.filter_eq_nil_iff.2 (fun f hf=>by rw [h f hf];decide)];rfl
 have d1:=dz l.hist (fun f hf=>hd f (List.mem_append.2 (.inl hf)))
 have d2:=dz l.ctl (fun f hf=>hd f (List.mem_append.2 (.inr hf)))
 have dd:=sm.dat
 rw [hre,hre2,d1,show dat []=[] from rfl,List.append_nil,List.append_nil] at dd
 have d3:=dz (move c l).ctl (fun f hf=>by rw [p3] at hf;exact hd f (List.mem_append.2 (.inr (List.mem_of_mem_drop hf))))
 have dc:=sm.con
 rw [con_all7 dd,con_all7 d3,con_all7 d1,con_all7 d2] at dc
 rw [dc];exact q1
theorem pong_pg7 {c:Cf} (hf:c.frm≤65536) {l:Lg} {ds:List (List Nat)} (h:Pg7 c l ds) {d:List Nat} (hd:d.length≤125) (hs:∀ y∈d,y<256):Pg7 c (pong c l d) (ds++[d]):=by
 have hok:=ok_pong h.ok d hd hs
 obtain ⟨P,q1,q2,q3⟩:=h.pongs
 have hsn:¬ l.sent=true:=by rw [h.sent];decide
 unfold pong at hok ⊢
 rw [if_neg hsn] at hok ⊢
 cases hc:l.ctl with
 | nil =>
   rw [hc] at hok q1
   rw [if_neg (by simp)] at hok ⊢
   unfold control at hok ⊢
   refine pg_move7 hf hok ⟨h.ok.inv.bytes,h.ok.inv.hist,fun f hf=>?_,h.ok.inv.rest,h.ok.inv.ring⟩ h.tail ⟨h.reads.got,h.reads.wrong,h.reads.serr,h.reads.err,h.reads.over,h.reads.fit,h.reads.left,h.reads.small⟩ h.buf h.ms h.sent h.rest (by show (l.ctl++[_]).length≤1;rw [hc];simp) ⟨P++[d],?_,q2.append (List.Sublist.refl _),?_⟩
   ·rcases List.mem_append.1 hf with hf | hf
    ·exact h.ok.inv.ctl f hf
    ·rw [List.mem_singleton] at hf
     rw [hf]
     exact ⟨rfl,.inr (.inr rfl),rfl,rfl,hd,hs⟩
   ·show l.hist.map core++(l.ctl++[ctlF 10 d]).map core=_
    rw [hc,List.nil_append]
    rw [List.map_nil,List.append_nil] at q1
    rw [q1];unfold pgs7;rw [List.map_append];rfl
   ·simp
 | cons f cs =>
   have hcs:cs=[]:=by
    have:=h.one
    rw [hc,List.length_cons] at this
    exact List.eq_nil_of_length_eq_zero (by omega)
   subst hcs
   rw [hc] at hok q1
   have hlast:=congrArg List.getLast? q1
   rw [List.map_cons,List.map_nil,List.getLast?_concat] at hlast
   rcases List.eq_nil_or_concat P with rfl | ⟨P0,x,rfl⟩
   ·cases hlast
   rw [List.concat_eq_append] at hlast q1 q2 q3
   unfold pgs7 at hlast q1
   rw [List.map_append,List.map_cons,List.map_nil,List.getLast?_concat] at hlast
   rw [List.map_append,List.map_cons,List.map_nil,List.map_cons,List.map_nil] at q1
   have hfx:core f=(true,10,x):=by injection hlast
   have hop:f.op=10:=congrArg (fun x:Bool×Int×List Nat=>x.2.1) hfx
   have hfin:f.fin=true:=congrArg (fun x:Bool×Int×List Nat=>x.1) hfx
   have q1:=List.append_inj_left' q1 rfl
   rw [if_pos (by simp [hop])] at hok ⊢
   have hre:repl d [f]=[{f with data:=d}]:=by unfold repl;rw [if_pos hop]
   rw [hre] at hok ⊢
   have hfc:=h.ok.inv.ctl f (by rw [hc];exact List.mem_cons_self)
   refine pg_move7 hf hok ⟨h.ok.inv.bytes,h.ok.inv.hist,fun g hg=>?_,h.ok.inv.rest,h.ok.inv.ring⟩ h.tail ⟨h.reads.got,h.reads.wrong,h.reads.serr,h.reads.err,h.reads.over,h.reads.fit,h.reads.left,h.reads.small⟩ h.buf h.ms h.sent h.rest (Nat.le_refl _) ⟨P0++[d],?_,(((List.sublist_append_left P0 [x]).trans q2).append (List.Sublist.refl [d])),?_⟩
   ·have hg:g∈[{f with data:=d}]:=hg
    rw [List.mem_singleton] at hg
    rw [hg]
    exact ⟨hfc.fin,.inr (.inr hop),hfc.masked,hfc.key,hd,hs⟩
   ·show l.hist.map core++[core {f with data:=d}]=_
    rw [q1];unfold pgs7;rw [List.map_append]
    show _++[(f.fin,f.op,d)]=_
    rw [hfin,hop];rfl
   ·simp
theorem take_pg7 {c:Cf} (hf:c.frm≤65536) {l:Lg} {ds:List (List Nat)} (h:Pg7 c l ds) (n:Int):Pg7 c (takeN c l n).1 ds:=by
 have hok:=ok_take h.ok n
 refine pg_move7 hf hok ⟨?_,h.ok.inv.hist,h.ok.inv.ctl,h.ok.inv.rest,?_⟩ h.tail ⟨h.reads.got,h.reads.wrong,h.reads.serr,h.reads.err,h.reads.over,h.reads.fit,h.reads.left,h.reads.small⟩ h.buf h.ms h.sent h.rest h.one h.pongs
 ·show l.gone++l.ring.take n.toNat++l.ring.drop n.toNat++l.tail=_
  rw [List.append_assoc l.gone,List.take_append_drop];exact h.ok.inv.bytes
 ·show (l.ring.drop n.toNat).length≤_
  rw [List.length_drop];have:=h.ok.inv.ring;omega
theorem sub_two7 {x y:List Nat} {P l:List (List Nat)} (h:(x :: P).Sublist (y :: l)) (hn:y≠x):(x :: P).Sublist l:=by
 cases h with
 | cons _ h=>exact h
 | cons_cons _ h=>exact absurd rfl hn
theorem sub_at7 {P l:List (List Nat)} {i a:Nat} (hi:i<P.length) (h:(P.drop i).Sublist (l.drop a)):a<l.length∧(l.getD a []≠P.getD i []→(P.drop i).Sublist (l.drop (a+1)))∧(l.getD a []=P.getD i []→(P.drop (i+1)).Sublist (l.drop (a+1))):=by
 have ha:a<l.length:=by
  have:=h.length_le
  rw [List.length_drop,List.length_drop] at this
  omega
 have e1:P.drop i=P.getD i [] :: P.drop (i+1):=by
  rw [List.drop_eq_getElem_cons hi,List.getD_eq_getElem?_getD,List.getElem?_eq_getElem hi];rfl
 have e2:l.drop a=l.getD a [] :: l.drop (a+1):=by
  rw [List.drop_eq_getElem_cons ha,List.getD_eq_getElem?_getD,List.getElem?_eq_getElem ha];rfl
 rw [e1,e2] at h
 refine ⟨ha,fun hn=>?_,fun he=>?_⟩
 ·rw [e1];exact sub_two7 h hn
 ·rw [he] at h
  exact List.cons_sublist_cons.1 h
theorem all_outK {c:Cf} (hf:c.frm≤65536) {k:Int} (hk:k≤9223372036854775807):∀ (fs:List Fr),(∀ f∈fs,IsO c f)→(∀ f∈fs,(f.data.length:Int)≤k)→all (fs.flatMap text) (!c.masked) k=(fs,0,0)∧∀ y∈fs.flatMap text,y<256
 | [],_,_=>⟨rfl,fun y hy=>absurd hy List.not_mem_nil⟩
 | f :: fs,h,hd=>by
   have hf1:=h f List.mem_cons_self
   obtain ⟨i1,i2⟩:=all_outK hf hk fs (fun g hg=>h g (List.mem_cons_of_mem _ hg)) (fun g hg=>hd g (List.mem_cons_of_mem _ hg))
   have hs:∀ y∈(f :: fs).flatMap text,y<256:=fun y hy=>by
    rw [List.flatMap_cons] at hy
    rcases List.mem_append.1 hy with hy | hy
    ·exact hf1.small' hf y hy
    ·exact i2 y hy
   have hl:=hf1.len
   have ho:=one_text (most:=k) hf1.form hf1.masked hf1.key (hd f List.mem_cons_self) hk (fs.flatMap text)
   refine ⟨?_,hs⟩
   rw [all_step _ _ _ hs,List.flatMap_cons,ho,if_neg (show ¬ (0:Nat)=90 by decide),if_neg (show ¬ (0:Nat)≠0 by decide)]
   show (f :: (all ((text f++fs.flatMap text).drop (FramePlain.size f)) (!c.masked) k).1,_)=_
   rw [show (text f++fs.flatMap text).drop (FramePlain.size f)=fs.flatMap text from by
    rw [← text_length f (by omega) hf1.key,List.drop_left],i1]
theorem pg_out {c:Cf} (hf:c.frm≤65536) {l:Lg} {ds:List (List Nat)} (h:Pg7 c l ds) (hq:Quiet l) (hd:∀ d∈ds,d.length≤125):all l.gone (!c.masked) 200=(l.hist,0,0)∧∃ P:List (List Nat),l.hist.length=P.length∧(∀ i,i<P.length→(l.hist.getD i Fr0).op=10∧(l.hist.getD i Fr0).data=P.getD i [])∧P.Sublist ds∧P.getLast? = ds.getLast?:=by
 obtain ⟨P,q1,q2,q3⟩:=h.pongs
 rw [hq.2.2.1,List.map_nil,List.append_nil] at q1
 have hl:l.hist.length=P.length:=by
  have:=congrArg List.length q1
  unfold pgs7 at this
  rwa [List.length_map,List.length_map] at this
 have hi:∀ i,i<P.length→(l.hist.getD i Fr0).op=10∧(l.hist.getD i Fr0).data=P.getD i []:=fun i hi=>by
  have h1:=congrArg (fun z:List (Bool×Int×List Nat)=>z[i]?) q1
  unfold pgs7 at h1
  simp only [List.getElem?_map] at h1
  rw [List.getD_eq_getElem?_getD,List.getD_eq_getElem?_getD,List.getElem?_eq_getElem hi]
  rw [List.getElem?_eq_getElem hi,List.getElem?_eq_getElem (by omega:i<l.hist.length)] at h1
  rw [List.getElem?_eq_getElem (by omega:i<l.hist.length)]
  have h2:core l.hist[i]=(true,10,P[i]):=by injection h1
  exact ⟨congrArg (fun z:Bool×Int×List Nat=>z.2.1) h2,congrArg (fun z:Bool×Int×List Nat=>z.2.2) h2⟩
 refine ⟨?_,P,hl,hi,q2,q3⟩
 have hb:=h.ok.inv.bytes
 rw [hq.1,hq.2.1,List.append_nil,List.append_nil] at hb
 rw [hb]
 refine (all_outK hf (by decide) l.hist h.ok.inv.hist (fun f hf2=>?_)).1
 obtain ⟨i,hi1,hi2⟩:=List.mem_iff_getElem.1 hf2
 have h3:=(hi i (by omega)).2
 rw [List.getD_eq_getElem?_getD,List.getElem?_eq_getElem hi1] at h3
 have h4:f.data=P.getD i []:=by rw [← hi2];exact h3
 rw [h4]
 have h5:P.getD i []∈P:=by
  rw [List.getD_eq_getElem?_getD,List.getElem?_eq_getElem (by omega:i<P.length)]
  exact List.getElem_mem _
 have:=hd _ (q2.subset h5)
 omega
theorem last_two {P ds:List (List Nat)} (h:P.getLast? = ds.getLast?):(P.length=0↔ds.length=0)∧(0<P.length→P.getD (P.length-1) []=ds.getD (ds.length-1) []):=by
 rw [List.getLast?_eq_getElem?,List.getLast?_eq_getElem?] at h
 refine ⟨⟨fun e=>?_,fun e=>?_⟩,fun _=>by rw [List.getD_eq_getElem?_getD,List.getD_eq_getElem?_getD,h]⟩
 ·rw [List.getElem?_eq_none (by omega)] at h
  have:=List.getElem?_eq_none_iff.1 h.symm
  omega
 ·rw [List.getElem?_eq_none (l:=ds) (by omega)] at h
  have:=List.getElem?_eq_none_iff.1 h
  omega
theorem pg_pend7 {c:Cf} {l:Lg} {ds:List (List Nat)} (h:Pg7 c l ds):pend l≤c.out+(14+max c.frm 125)+139:=by
 have h1:=h.ok.inv.ring
 have h2:=h.tail
 have h3:=wts_le (k:=125) l.ctl (fun f hf=>(h.ok.inv.ctl f hf).len)
 have h4:=h.one
 have h5:wts l.rest=0:=by rw [h.rest];rfl
 have h6:l.ctl.length*(14+125)≤1*(14+125):=Nat.mul_le_mul_right _ h4
 unfold pend
 omega
theorem take_ring {c:Cf} {l:Lg} {ds:List (List Nat)} (h:Pg7 c l ds):l.ring.length≤c.out:=h.ok.inv.ring
end LegPlain
