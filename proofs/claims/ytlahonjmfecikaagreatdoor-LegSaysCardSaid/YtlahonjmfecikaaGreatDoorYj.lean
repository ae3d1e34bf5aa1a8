/- The texts below, joined. -/
import Derived.Test.YtlahonjmfecikaaGreatDoorYi
import Derived.Deep.DeepCutAuto
import Derived.SliceStrings
import Derived.ProofKit
import Derived.ChangeArms
import Derived.OpenShut
import Derived.Lib.Split
import Derived.Lib.SlTrimSet
import Derived.Lib.TrimByte
import Derived.Shelf.Small.Strs
import Derived.Shelf.Small.Wraps
import Derived.Shelf.Strings.Search1
import Derived.Shelf.Strings.Search2
import Derived.Shelf.Strings.Search3
import Derived.Shelf.Strings.Prefix
import Derived.Test.YtlahonjmfecikaaGreatDoorProg
import Derived.WalkMore
import Derived.Lib.AppendStr
import Derived.WalkSmall
import Derived.OwnWalk
import Derived.Lib.BufferWrite
import Derived.Lib.UnsafeStr
import Derived.StillTailTactics
import Derived.Deep.Strs
import Derived.Maps.OwnSet
import Derived.Carry
set_option maxRecDepth 100000
set_option linter.unusedVariables false
set_option linter.unusedSimpArgs false
set_option maxRecDepth 100000
namespace Go.Proofs.YtlahonjmfecikaaGreatDoor.Leg
open Go.RowKit Stm
open FramePlain (Fr Fr0)
open LegPlain (Cf Lg)
open Msg (Kept MacS Mine)
open LegPlain (Inv Few CfOk Good came evs errs react bound feed fail Reads)
open FramePlain (text size chk form zero4)
open MsgPlain (Ev Ms M0 run Fit)
open StreamPlain (all)
open Evt
open Msg (Goes evO)
theorem errs_of {c:Cf} {l:Lg} {b:List Nat} (h:(came c l b).ms.err=0):errs c l b=if (came c l b).ms.over=true then 0 else (came c l b).serr:=by
 unfold errs
 rw [if_neg (fun e=>e h)]
theorem feed_go {c:Cf} {l:Lg} {b:List Nat} (h1:l.got=false) (h2:l.wrong=0):feed c l b=(if errs c l b≠0 then fail c ((evs c l b).foldl (react c) (came c l b)) (errs c l b) else (evs c l b).foldl (react c) (came c l b),(evs c l b).filter (fun x=>decide (x.op≠9))):=by
 unfold feed
 rw [if_neg (fun e=>e.elim (fun e=>by rw [h1] at e;cases e) (fun e=>e h2))]
theorem FL.poke {w0 W2 wr w':World} {L sb mb rb rp:Nat} {tv kv qv sv mv mp:Value} {A2:Nat→Prop} {B2:Nat} {c:Cf} {X:Lg} {vf:Value} {gs:List Fr} {told:Value} {T:List Ev} (h:FL w0 W2 wr L sb mb rb rp tv kv qv sv mv mp A2 B2 c X vf gs told T) {x:Nat} (hg:wr.grownBy w' (some x)) (h1:¬ All L rb rp sb mb tv kv qv sv mv mp x) (h2:told.ownBlock≠some x) (h3:vf.ownBlock≠some x) (h4:W2.heap.size≤x) (hW0:w0.heap.size≤W2.heap.size):FL w0 W2 w' L sb mb rb rp tv kv qv sv mv mp A2 B2 c X vf gs told T:=by
 have hk:Kept (fun j=>j=x) wr w':=Kept.grown hg (fun j e=>by injection e with e;exact e.symm)
 have hL:Below w0.heap.size w0 w':=hk.up h.leg.low (fun j e=>by omega) h.leg.low.size
 exact ⟨h.leg.stay hk (fun j e e2=>h1 (e2 ▸ e)) hL,h.goes.fresh hk (fun j e=>by omega),Cut.own_kept h.frs hk (fun j e e2=>h3 (e2 ▸ e)),h.fn,Cut.own_kept h.say hk (fun j e e2=>h2 (e2 ▸ e)),h.tn⟩
theorem take_bad {most:Int} {st st':Ms} {f:Fr} {x:Option Ev} (h0:st.err=0) (h:MsgPlain.take most st f=(st',x)) (he:st'.err≠0):x=none:=by
 cases ho:st.over with
 | true =>
   rw [MsgPlain.take_stop most (.inr ho)] at h
   injection h with h1 h2
   exact h2.symm
 | false =>
   rw [MsgPlain.take_go most h0 ho] at h
   refine Classical.byContradiction fun hx=>he ?_
   have:=MsgPlain.step_err (most:=most) (f:=f) h0 (by rw [h];exact hx)
   rw [h] at this;exact this
theorem take_some {most:Int} {st st':Ms} {f:Fr} {ev:Ev} (hf:Fit most st) (h0:st.err=0) (hs:∀ y∈f.data,y<256) (h:MsgPlain.take most st f=(st',some ev)):(ev.op=9→ev.data.length≤125)∧(∀ y∈ev.data,y<256)∧(ev.op=8→ev.code=1005∨ClosePlain.valid ev.code=true):=by
 have ho:st.over=false:=by
  cases ho:st.over with
  | false=>rfl
  | true =>
    rw [MsgPlain.take_stop most (.inr ho)] at h
    injection h with h1 h2
    cases h2
 rw [MsgPlain.take_go most h0 ho] at h
 have h1:=LegPlain.step_evs most hf hs ev (by rw [h];simp)
 exact ⟨h1.1,h1.2,LegPlain.step_code most (fun hb=>by rcases hf.op hb with e | e<;>omega) f ev (by rw [h])⟩
theorem run_take {most:Int} {gs:List Fr} {i:Nat} {st0 st st':Ms} {es:List Ev} {x:Option Ev} (hi:i<gs.length) (h:run most st0 (gs.take i)=(st,es)) (hr:MsgPlain.take most st (gs.getD i Fr0)=(st',x)):run most st0 (gs.take (i+1))=(st',es++x.toList):=by
 rw [Cut.fr_take gs i hi,MsgPlain.run_append,h]
 simp only [MsgPlain.run_one,hr]
theorem run_rest {most:Int} {gs:List Fr} {i:Nat} {st0 st:Ms} {es:List Ev} (h:run most st0 (gs.take i)=(st,es)) (hx:st.err≠0):run most st0 gs=(st,es):=by
 have e:gs=gs.take i++gs.drop i:=(List.take_append_drop i gs).symm
 rw [e,MsgPlain.run_append,h]
 simp only [MsgPlain.run_stop most (.inl hx),List.append_nil]
section
variable {w0 W W':World} {L sb mb rb rp:Nat} {tv kv qv:Value} {c:Cf} {l:Lg}
variable {sv mv mp:Value}
set_option maxHeartbeats 16000000 in
theorem lfeed_any {k:Nat} (h:LegF w0 W L sb mb rb rp tv kv qv sv mv mp c l) (hg:Mas.Globs w0) (hu:Utf.Globs w0) (hgd:LegPlain.Good c l k) (hk:k≤1000) (hc:CfOk c) (v:Value) (b:List Nat) (hv:SrcAt W v b) (hbs:Small 256 b) (hbl:b.length≤30000) :
 Calls Tryz.prog 20 #[.pointer (some ⟨L,0,none⟩),v] W fun e w'=>∃ tv' kv' qv' sv' mv' mp' rv,e=.returned rv∧Sl (OwnE w' W.heap.size rv (feed c l b).2)∧Sl (LegF w0 w' L sb mb rb rp tv' kv' qv' sv' mv' mp' c (feed c l b).1)∧Sl (FGoes W w' (All L rb rp sb mb tv kv qv sv mv mp) (All L rb rp sb mb tv' kv' qv' sv' mv' mp'))∧Sl (∀ j,rv.ownBlock=some j→¬ All L rb rp sb mb tv' kv' qv' sv' mv' mp' j):=by
 obtain ⟨a,cap,rfl⟩:∃ a cap,v=.slice a b.length cap:=by
  obtain ⟨a,cap,_,_,e,_⟩:=hv
  exact ⟨a,cap,e⟩
 obtain ⟨bl,hbl2⟩:∃ n,b.length=n:=⟨_,rfl⟩
 rw [hbl2] at hv ⊢
 have GT:=got_any h.A h.M
 have H:=Sl.mk h
 rcases hgd.cases with hst | ⟨hg0,hw0,hrd⟩
 ·have hres:feed c l b=(l,[]):=LegPlain.feed_stop b hst
  rw [hres]
  have HN:Sl (OwnE W W.heap.size (.slice none 0 0) []):=⟨ownE_nil _ _⟩
  obtain ⟨-,-,-,-,-,-,-,-,-,-,c10,-⟩:=h.A.cells
  cases ho:l.ms.over with
  | true =>
    rw [ho] at GT
    clear h hg hu hgd hk hc hv hbs hbl hbl2 hst hres ho c10
    go_enter Tryz.func20,Tryz.ntmps20
    go_wp2_with fail
    refine GT.mono ?_
    rintro e w1 ⟨rfl,rfl⟩
    clear GT
    go_wp2
    go_ret
    exact ⟨_,_,_,_,_,_,_,rfl,HN,H,⟨FGoes.refl _ _⟩,⟨fun j e=>by cases e⟩⟩
  | false =>
    rw [ho] at GT
    have hwr:l.wrong≠0:=by
     rcases hst with e | e
     ·rw [hgd.gm,ho] at e;cases e
     ·exact e
    have hq:(((l.wrong:Nat):Int) != 0)=true:=by simpa using hwr
    clear h hg hu hgd hk hc hv hbs hbl hbl2 hst hres ho hwr
    go_enter Tryz.func20,Tryz.ntmps20
    go_wp2_with fail
    refine GT.mono ?_
    rintro e w1 ⟨rfl,rfl⟩
    clear GT
    go_wp2
    go_ret
    exact ⟨_,_,_,_,_,_,_,rfl,HN,H,⟨FGoes.refl _ _⟩,⟨fun j e=>by cases e⟩⟩
 ·have hov:l.ms.over=false:=hrd.over
  rw [hov] at GT
  have hserr:=hrd.serr
  obtain ⟨gs,e0,lf,hall⟩:∃ gs e lf,all (l.buf++b) c.masked (bound c:Int)=(gs,e,lf):=⟨_,_,_,rfl⟩
  have hbuf:=(LegPlain.Reads.kept hrd).buf
  have hbd:bound c≤65536:=by unfold LegPlain.bound;have:=hc.m2;omega
  have hs0:StrmAt w0 W sb c.masked (bound c:Int) l.buf 0 sv:=by have:=h.S;rw [hserr] at this;exact this
  have FD:=Stm.feed_any hs0 hg a bl cap b hv hrd.small hbs (by omega) (by omega) gs e0 lf hall
  have hsm:Small 256 (l.buf++b):=Small.append (show Small 256 l.buf from hrd.small) hbs
  obtain ⟨hfr,-,hgl⟩:=StreamPlain.all_frs c.masked (bound c:Int) _ (l.buf++b) (Nat.le_refl _) hsm
  rw [hall] at hfr hgl
  simp only at hfr hgl
  rw [List.length_append] at hgl
  have HOK:Sl (∀ f∈gs,FrOk f):=⟨fun f hf=>by
   obtain ⟨a1,a2,a3,a4,a5⟩:=hfr f hf
   have:=FramePlain.form_cases a1
   exact ⟨a2,a3,a4,by unfold maxLen;omega,by rcases this.1 with e | e<;>omega⟩⟩
  have HDL:Sl (∀ f∈gs,f.data.length≤65536):=⟨fun f hf=>by have:=(hfr f hf).2.2.2.2;omega⟩
  obtain ⟨n,hn⟩:∃ n,gs.length=n:=⟨_,rfl⟩
  rw [hn] at hgl
  have HNL:Sl (n≤100000):=⟨by omega⟩
  have HN:=Sl.mk hn
  have hbu:(came c l b).buf=(l.buf++b).drop ((l.buf++b).length-lf):=by
   unfold LegPlain.came
   rw [hall]
   simp only
   by_cases h0:e0=0
   ·rw [if_pos h0]
   ·rw [if_neg h0]
    have:=StreamPlain.all_zero c.masked (bound c:Int) _ (l.buf++b) (Nat.le_refl _) hsm (by rw [hall];exact h0)
    rw [hall] at this
    have this:lf=0:=this
    rw [this,Nat.sub_zero,List.drop_length]
  have hse:(came c l b).serr=e0:=by unfold LegPlain.came;rw [hall]
  have hev:evs c l b=(run (c.msg:Int) l.ms gs).2:=by unfold LegPlain.evs;rw [hall]
  have hms:(came c l b).ms=(run (c.msg:Int) l.ms gs).1:=by unfold LegPlain.came;rw [hall]
  have HRES:=Sl.mk (feed_go (c:=c) (b:=b) hg0 hw0)
  have HEV:=Sl.mk hev
  have HMS:=Sl.mk hms
  have HSE:=Sl.mk hse
  have HBU:=Sl.mk hbu
  have HFW:Sl (Few c (came c l b) k):=⟨LegPlain.few_in hgd.few (LegPlain.ok_in hgd.few.ok ⟨rfl,rfl,rfl,rfl,rfl,rfl,rfl,rfl,rfl⟩) ⟨rfl,rfl,rfl,rfl⟩⟩
  have HFIT:=Sl.mk hrd.fit
  have HE0:=Sl.mk (And.intro hrd.err hov)
  have HP:Sl (Mas.Globs w0∧Utf.Globs w0∧k≤1000∧CfOk c):=⟨hg,hu,hk,hc⟩
  have HFITA:Sl (Fit (c.msg:Int) (run (c.msg:Int) l.ms gs).1):=⟨MsgPlain.fit_run (by omega) gs hrd.fit (fun f hf=>(hfr f hf).2.2.2.1)⟩
  obtain ⟨-,-,-,-,-,-,-,-,-,-,c10,-⟩:=h.A.cells
  have hq0:(((l.wrong:Nat):Int) != 0)=false:=by rw [hw0];rfl
  have HOWN:Sl (∀ j,(All L rb rp sb mb tv kv qv sv mv mp) j→j<W.heap.size):=⟨fun j e=>(h.own e).2⟩
  obtain ⟨-,-,c2,-⟩:=h.A.cells
  clear h hg hu hgd hk hc hv hbs hbl hbl2 hg0 hw0 hrd hov hserr hall hbuf hbd hs0 hsm hfr hgl hn hbu hse hev hms
  go_enter Tryz.func20,Tryz.ntmps20
  go_wp2_with fail
  refine GT.mono ?_
  rintro e w1 ⟨rfl,rfl⟩
  clear GT
  go_wp2_with fail
  refine FD.mono ?_
  rintro e w2 ⟨vf,sv2,rfl,HFR,HST,HTW,HSV⟩
  clear FD c10 hq0 c2
  obtain ⟨gsa,gca,hvf⟩:∃ a c,vf=.slice a n c:=by obtain ⟨a,c,e⟩:=HFR.out.slice;rw [HN.out] at e;exact ⟨a,c,e⟩
  subst hvf
  obtain ⟨hlf,hgo⟩:=H.out.fed (m:={came c l b with ms:=l.ms}) (by
   show StrmAt w0 w2 sb c.masked (bound c:Int) (came c l b).buf (came c l b).serr sv2
   rw [HBU.out,HSE.out];exact HST.out) HTW.out HSV.out rfl rfl rfl rfl rfl rfl rfl rfl
  have hsz:=hgo.kept.size
  have HF0:Sl (FL w0 w2 w2 L sb mb rb rp tv kv qv sv2 mv mp (All L rb rp sb mb tv kv qv sv2 mv mp) W.heap.size c {came c l b with ms:=l.ms} (.slice gsa n gca) gs (.slice none 0 0) []):=⟨⟨hlf,FGoes.refl _ _,HFR.out,fun j e e2=>by
   have hj:=(Cut.own_heap HFR.out e)
   rcases e2 with e2 | (e2 | e2) | e2
   ·have:=HOWN.out j (.inl e2);omega
   ·have:=HOWN.out j (.inr (.inl (.inl e2)));omega
   ·obtain ⟨-,cs,hcs⟩:=hj
    exact Msg.own_kind HST.out.O hcs (by decide) e2
   ·have:=HOWN.out j (.inr (.inr e2));omega,ownE_nil _ _,fun j e=>by cases e⟩⟩
  have HG1:=Sl.mk hgo
  have HSZ:=Sl.mk (And.intro hsz H.out.low.size)
  clear HFR HST HTW HSV hlf hgo hsz H HBU
  go_wp2
  go_loopw [6,7,33] (fun u6 u7 u33 wr=>∃ (i:Nat) (t1 k1 q1 m1 p1:Value) (ta:Option Addr) (tn tc:Nat) (st:Ms) (es:List Ev),u6=.int .i64 (e0:Int)∧u7=.slice ta tn tc∧u33=.int .i64 (i:Int)∧i≤n∧es.length≤i∧Sl (run (c.msg:Int) l.ms (gs.take i)=(st,es))∧Sl (st.err=0∧Fit (c.msg:Int) st)∧Sl (Few c (es.foldl (react c) (came c l b)) k) ∧
   Sl (FL w0 w2 wr L sb mb rb rp t1 k1 q1 sv2 m1 p1 (All L rb rp sb mb tv kv qv sv2 mv mp) W.heap.size c {es.foldl (react c) (came c l b) with ms:=st} (.slice gsa n gca) gs (.slice ta tn tc) (es.filter (fun x=>decide (x.op≠9))))) (fun _ _ u33 _=>n-(intOf u33).toNat)
  case atStart=>exact ⟨0,_,_,_,_,_,_,_,_,l.ms,[],rfl,rfl,rfl,Nat.zero_le _,Nat.le_refl _,⟨rfl⟩,⟨HE0.out.1,HFIT.out⟩,HFW,HF0⟩
  case round =>
   obtain ⟨i,t1,k1,q1,m1,p1,ta,tn,tc,st,es,rfl,rfl,rfl,hi,hel,HRUN,HERR,HFEW,HFL⟩:=hrel
   clear HF0
   have HEL:=Sl.mk hel
   clear hel
   by_cases hin:i<n
   ·have hlt:((i:Int)<(n:Int))=True:=eq_true (by omega)
    have HIN:=Sl.mk hin
    obtain ⟨sbk,so,rfl⟩:=HFL.out.frs.frs.cap.2 (by omega)
    obtain ⟨fin,op,m,ka,kb,kc,kd,s,hf,hcv,hks,hmem⟩:=Cut.fr_at HOK.out i (by rw [HN.out];exact hin)
    obtain ⟨a0,a1,a2,a3,a4,a5,a6,a7⟩:=HFL.out.frs.frs.at8 i (by rw [HN.out];exact hin) hcv
    have HSS:Sl (s.size≤100000):=⟨by
     have h:=HDL.out _ hmem
     rw [hf] at h
     have h2:(bytes s).length≤65536:=h
     rw [bytes_length] at h2
     omega⟩
    have HF:=Sl.mk hf
    have HKS:=Sl.mk hks
    clear hcv hmem hf hks hi hin
    obtain ⟨w6,hw6,HB6,HF6⟩:=Cut.laid_fv wr #[.bool fin,.int .i64 op,.bool m,.int .u8 ((ka:Nat):Int),.int .u8 ((kb:Nat):Int),.int .u8 ((kc:Nat):Int),.int .u8 ((kd:Nat):Int),.string s]
    have HIB:(Tryz.prog.info? 61).map (·.size)=some (#[.bool fin,.int .i64 op,.bool m,.int .u8 ((ka:Nat):Int),.int .u8 ((kb:Nat):Int),.int .u8 ((kc:Nat):Int),.int .u8 ((kd:Nat):Int),.string s]:Array Value).size:=Fra.box_size _ _ _ _ _ _ _ _
    go_upto_region 8 with (refine wpList_store_row rfl 61 (.tmp 9) (.tmp 36) rfl wr.heap.size #[.bool fin,.int .i64 op,.bool m,.int .u8 ((ka:Nat):Int),.int .u8 ((kb:Nat):Int),.int .u8 ((kc:Nat):Int),.int .u8 ((kd:Nat):Int),.string s] rfl rfl 61 #[.bool false,.int .i64 0,.bool false,.int .u8 0,.int .u8 0,.int .u8 0,.int .u8 0,.string {data:=#[]}] (Fra.bx_new wr _) HIB rfl (Fra.fr_all _ _ _ _ _ _ _ _) ?_)
    (try rw [hw6])
    clear hw6 HIB a0 a1 a2 a3 a4 a5 a6 a7
    have HFX:=Sl.mk (HFL.out.below HB6.out)
    have HMB:Sl (∀ j,Mine mb m1 p1 j→j<wr.heap.size∧j≠L):=⟨fun j e=>⟨(HFL.out.leg.M.m.own e).2,fun e2=>(HFL.out.leg.ap L (.inl rfl)).2.2 (e2 ▸ e)⟩⟩
    have HSZW:Sl (w2.heap.size≤wr.heap.size):=⟨HFL.out.goes.kept.size⟩
    clear HFL HB6
    obtain ⟨st',x,hr⟩:∃ st' x,MsgPlain.take (c.msg:Int) st (⟨fin,op,m,[ka,kb,kc,kd],bytes s⟩:Fr)=(st',x):=⟨_,_,rfl⟩
    have HR:=Sl.mk hr
    obtain ⟨oo,cc,tt,hxo⟩:=Msg.evO_any x
    obtain ⟨dd,hdd⟩:∃ d,x.isSome=d:=⟨_,rfl⟩
    obtain ⟨kk,hkk⟩:∃ k,(st'.err:Int)=k:=⟨_,rfl⟩
    have TK:Sl (∀ V,Below w6.heap.size w6 V→Calls Tryz.prog 52 #[.pointer (some ⟨mb,0,none⟩),(.agg #[.bool fin,.int .i64 op,.bool m,.int .u8 ((ka:Nat):Int),.int .u8 ((kb:Nat):Int),.int .u8 ((kc:Nat):Int),.int .u8 ((kd:Nat):Int),.string s])] V fun e w'=>∃ v' p',e=.returned (.tuple #[.agg #[.int .i64 oo,.int .i64 cc,.string tt],.bool dd,.int .i64 kk])∧Sl (FL w0 w2 w' L sb mb rb rp t1 k1 q1 sv2 v' p' (All L rb rp sb mb tv kv qv sv2 mv mp) W.heap.size c {es.foldl (react c) (came c l b) with ms:=st'} (.slice (some ⟨sbk,so,none⟩) n gca) gs (.slice ta tn tc) (es.filter (fun x=>decide (x.op≠9))))∧Sl (Goes V w' mb m1 p1 v' p')):=⟨fun V hV =>
     (Msg.take_ex (HFX.out.below hV).leg.M HP.out.2.1 fin op m ka kb kc kd s HKS.out HSS.out _ rfl st' x hr oo cc tt hxo dd hdd kk hkk).mono fun _ _ ⟨v',p',h1,h2,h3⟩=>⟨v',p',h1,⟨(HFX.out.below hV).took h2.out h3.out⟩,h3⟩⟩
    have HXO:=Sl.mk hxo
    have HDD:=Sl.mk hdd
    have HKK:=Sl.mk hkk
    clear hr hxo hdd hkk
    obtain ⟨-,-,-,c3,-⟩:=HFX.out.leg.A.cells
    have hlt6:=HFX.out.leg.A.lt
    have hq6:wr.heap.size<w6.heap.size:=(Array.getElem?_eq_some_iff.1 HF6.out).1
    obtain ⟨q9,hq9⟩:∃ q,wr.heap.size=q:=⟨_,rfl⟩
    rw [hq9] at HF6 hq6 ⊢
    go_frame
    go_cut [10,11,12] (fun s10 s11 s12 wx=>∃ (x0:Nat) (m2 p2:Value),s10=.pointer (some ⟨x0,0,none⟩)∧s11=.bool dd∧s12=.int .i64 kk∧Sl (wx.heap[x0]? = some (.cells #[.int .i64 oo,.int .i64 cc,.string tt] 52 (0,0))) ∧
     Sl (FL w0 w2 wx L sb mb rb rp t1 k1 q1 sv2 m2 p2 (All L rb rp sb mb tv kv qv sv2 mv mp) W.heap.size c {es.foldl (react c) (came c l b) with ms:=st'} (.slice (some ⟨sbk,so,none⟩) n gca) gs (.slice ta tn tc) (es.filter (fun x=>decide (x.op≠9))))∧Sl (¬ (All L rb rp sb mb t1 k1 q1 sv2 m2 p2) x0))
    case first =>
     obtain ⟨Rw,hRw⟩:∃ R,w6.drew=R:=⟨_,rfl⟩
     have HBR:Below w6.heap.size w6 Rw:=by rw [← hRw];exact (Below.refl _ _).drew
     refine wp_region_noPanic ?_
     refine wp_region_held (S:=fun V=>V.cell? ⟨L,3,none⟩=some (.pointer (some ⟨mb,0,none⟩))∧V.heap[q9]? = some (.cells #[.bool fin,.int .i64 op,.bool m,.int .u8 ((ka:Nat):Int),.int .u8 ((kb:Nat):Int),.int .u8 ((kc:Nat):Int),.int .u8 ((kd:Nat):Int),.string s] 61 (0,0))) (by kernel_rfl) ?_
     change wpAnyH _ _ _ _ _ _ _ _ w6.drew
     rw [hRw]
     clear hRw
     have HS0:Rw.cell? ⟨L,3,none⟩=some (.pointer (some ⟨mb,0,none⟩))∧Rw.heap[q9]? = some (.cells #[.bool fin,.int .i64 op,.bool m,.int .u8 ((ka:Nat):Int),.int .u8 ((kb:Nat):Int),.int .u8 ((kc:Nat):Int),.int .u8 ((kd:Nat):Int),.string s] 61 (0,0)):=⟨(HBR.cell (p:=⟨L,3,none⟩) hlt6).trans c3,below_key HF6.out HBR⟩
     refine heldTake (d:=some 38) (op:=.move (Operand.tmp 0)) (g:=none) 0 ?v0 rfl (by kernel_rfl) (by kernel_rfl) (by kernel_rfl) (by kernel_rfl) ?y0 HS0 ?_
     case y0=>intro o' ho W hS;simp only [execOp,ho];go_simp;try rfl
     simp only [Act.put,List.setIfInBounds_toArray,List.set_cons_zero,List.set_cons_succ]
     refine heldTake (d:=some 39) (op:=.nilCheck (Operand.tmp 38)) (g:=none) 1 ?v1 rfl (by kernel_rfl) (by kernel_rfl) (by kernel_rfl) (by kernel_rfl) ?y1 HS0 ?_
     case y1=>intro o' ho W hS;simp only [execOp,ho];go_simp;try rfl
     simp only [Act.put,List.setIfInBounds_toArray,List.set_cons_zero,List.set_cons_succ]
     refine heldTake (d:=some 40) (op:=.fieldAddr 80 (Operand.tmp 39) 3) (g:=none) 2 ?v2 rfl (by kernel_rfl) (by kernel_rfl) (by kernel_rfl) (by kernel_rfl) ?y2 HS0 ?_
     case y2=>intro o' ho W hS;simp only [execOp,ho];go_simp;try rfl
     simp only [Act.put,List.setIfInBounds_toArray,List.set_cons_zero,List.set_cons_succ]
     refine heldTake (d:=some 41) (op:=.load 78 (Operand.tmp 40)) (g:=none) 3 ?v3 rfl (by kernel_rfl) (by kernel_rfl) (by kernel_rfl) (by kernel_rfl) ?y3 HS0 ?_
     case y3=>intro o' ho W hS;have d3:=hS.1;simp only [execOp,ho];go_simp;try rfl
     simp only [Act.put,List.setIfInBounds_toArray,List.set_cons_zero,List.set_cons_succ]
     refine heldTake (d:=some 42) (op:=.load 61 (Operand.tmp 9)) (g:=none) 4 ((.agg #[.bool fin,.int .i64 op,.bool m,.int .u8 ((ka:Nat):Int),.int .u8 ((kb:Nat):Int),.int .u8 ((kc:Nat):Int),.int .u8 ((kd:Nat):Int),.string s])) rfl (by kernel_rfl) (by kernel_rfl) (by kernel_rfl) (by kernel_rfl) ?y4 HS0 ?_
     case y4=>intro o' ho W hS;exact Fra.loadbox ho (by rfl) hS.2
     simp only [Act.put,List.setIfInBounds_toArray,List.set_cons_zero,List.set_cons_succ]
     obtain ⟨A1,hA1⟩:∃ V,Rw.alloc (.cells #[.int .i64 0,.int .i64 0,.string {data:=#[]}] 52)=V:=⟨_,rfl⟩
     have HBA:Below Rw.heap.size Rw A1:=by rw [← hA1];exact (Below.refl _ _).alloc (Nat.le_refl _) _
     have HA1:A1.heap[Rw.heap.size]? = some (.cells #[.int .i64 0,.int .i64 0,.string {data:=#[]}] 52 (0,0)):=by rw [← hA1];exact alloc_new _ _ _ rfl
     have HSA:A1.cell? ⟨L,3,none⟩=some (.pointer (some ⟨mb,0,none⟩))∧A1.heap[q9]? = some (.cells #[.bool fin,.int .i64 op,.bool m,.int .u8 ((ka:Nat):Int),.int .u8 ((kb:Nat):Int),.int .u8 ((kc:Nat):Int),.int .u8 ((kd:Nat):Int),.string s] 61 (0,0)):=⟨(HBA.cell (p:=⟨L,3,none⟩) (Nat.lt_of_lt_of_le hlt6 HBR.size)).trans HS0.1,below_key HS0.2 HBA⟩
     have KEEP:∀ V w' v' p',Below w6.heap.size w6 V→Goes V w' mb m1 p1 v' p'→(∀ y o,w6.heap.size≤y∨y=q9∨y=L→V.heap[y]? = some o→w'.heap[y]? = some o):=fun V w' v' p' hV g y o hy he=>by
      rw [g.kept.block y (Array.getElem?_eq_some_iff.1 he).1 (fun e=>by
       have:=HMB.out y e
       omega)]
      exact he
     refine Fra.heldCA2 (di:=some 10) (dj:=some 43) (opi:=.alloc 52) (opj:=.call {callee:=Callee.value (Operand.func 52),args:=#[Operand.tmp 41,Operand.tmp 42],argTypes:=#[78,61]}) (ti:=0) (tj:=99) 10 5 (.pointer (some ⟨Rw.heap.size,0,none⟩)) A1 52 #[.pointer (some ⟨mb,0,none⟩),(.agg #[.bool fin,.int .i64 op,.bool m,.int .u8 ((ka:Nat):Int),.int .u8 ((kb:Nat):Int),.int .u8 ((kc:Nat):Int),.int .u8 ((kd:Nat):Int),.string s])] rfl rfl (by kernel_rfl) ?p3 ?q3 HSA ?l3 ?r3
     case p3=>intro o' ho ht;simp only [execOp,ho];go_simp;first | done | (rw [hA1];done) | rfl
     case q3=>intro o' ho ht;simp only [execOp,ho];go_simp;try rfl
     case l3 =>
      simp only [Act.put,List.setIfInBounds_toArray,List.set_cons_zero,List.set_cons_succ]
      refine heldCall (d:=some 43) (op:=.call {callee:=Callee.value (Operand.func 52),args:=#[Operand.tmp 41,Operand.tmp 42],argTypes:=#[78,61]}) (g:=none) 5 52 #[.pointer (some ⟨mb,0,none⟩),(.agg #[.bool fin,.int .i64 op,.bool m,.int .u8 ((ka:Nat):Int),.int .u8 ((kb:Nat):Int),.int .u8 ((kc:Nat):Int),.int .u8 ((kd:Nat):Int),.string s])] rfl (by kernel_rfl) (by kernel_rfl) ?y5l ?_
      case y5l=>intro o' ho;simp only [execOp,ho];go_simp;try rfl
      refine (TK.out A1 (HBR.trans (HBA.mono HBR.size))).mono ?_
      rintro e w7 ⟨v7,p7,rfl,HF7,HG7⟩
      have HX7:=KEEP A1 w7 v7 p7 (HBR.trans (HBA.mono HBR.size)) HG7.out Rw.heap.size _ (.inl HBR.size) HA1
      have HQ7:=KEEP A1 w7 v7 p7 (HBR.trans (HBA.mono HBR.size)) HG7.out q9 _ (.inr (.inl rfl)) HSA.2
      have HS7:w7.cell? ⟨L,3,none⟩=some (.pointer (some ⟨mb,0,none⟩))∧w7.heap[q9]? = some (.cells #[.bool fin,.int .i64 op,.bool m,.int .u8 ((ka:Nat):Int),.int .u8 ((kb:Nat):Int),.int .u8 ((kc:Nat):Int),.int .u8 ((kd:Nat):Int),.string s] 61 (0,0)):=⟨HF7.out.leg.A.cells.2.2.2.1,HQ7⟩
      refine ⟨_,rfl,HS7,?_⟩
      simp only [Act.put,List.setIfInBounds_toArray,List.set_cons_zero,List.set_cons_succ]
      have HN0:¬ (All L rb rp sb mb t1 k1 q1 sv2 v7 p7) Rw.heap.size:=fun e=>by
       have hA6:∀ j,(All L rb rp sb mb t1 k1 q1 sv2 m1 p1) j→j<w6.heap.size:=fun j e=>(HFX.out.leg.own e).2
       have hsz1:=HBR.size
       rcases e with e | e | e
       ·have:=hA6 _ (.inl e);omega
       ·have:=hA6 _ (.inr (.inl e));omega
       ·rcases HG7.out.mine _ e with e2 | e2
        ·have:=hA6 _ (.inr (.inr e2));omega
        ·have:A1.heap.size=Rw.heap.size+1:=by rw [← hA1,alloc_size]
         omega
      refine heldTake (d:=some 37) (op:=.move (Operand.tmp 43)) (g:=none) 6 ?v6tl rfl (by kernel_rfl) (by kernel_rfl) (by kernel_rfl) (by kernel_rfl) ?y6tl HS7 ?_
      case y6tl=>intro o' ho W hS;simp only [execOp,ho];go_simp;try rfl
      simp only [Act.put,List.setIfInBounds_toArray,List.set_cons_zero,List.set_cons_succ]
      refine heldTake (d:=some 44) (op:=.extract (Operand.tmp 37) 0) (g:=none) 7 ?v7tl rfl (by kernel_rfl) (by kernel_rfl) (by kernel_rfl) (by kernel_rfl) ?y7tl HS7 ?_
      case y7tl=>intro o' ho W hS;simp only [execOp,ho];go_simp;try rfl
      simp only [Act.put,List.setIfInBounds_toArray,List.set_cons_zero,List.set_cons_succ]
      refine heldTake (d:=some 45) (op:=.extract (Operand.tmp 37) 1) (g:=none) 8 ?v8tl rfl (by kernel_rfl) (by kernel_rfl) (by kernel_rfl) (by kernel_rfl) ?y8tl HS7 ?_
      case y8tl=>intro o' ho W hS;simp only [execOp,ho];go_simp;try rfl
      simp only [Act.put,List.setIfInBounds_toArray,List.set_cons_zero,List.set_cons_succ]
      refine heldTake (d:=some 46) (op:=.extract (Operand.tmp 37) 2) (g:=none) 9 ?v9tl rfl (by kernel_rfl) (by kernel_rfl) (by kernel_rfl) (by kernel_rfl) ?y9tl HS7 ?_
      case y9tl=>intro o' ho W hS;simp only [execOp,ho];go_simp;try rfl
      simp only [Act.put,List.setIfInBounds_toArray,List.set_cons_zero,List.set_cons_succ]
      obtain ⟨Z,hZ⟩:∃ V,w7.setRow Rw.heap.size #[.int .i64 oo,.int .i64 cc,.string tt]=V:=⟨_,rfl⟩
      have HGZ:w7.grownBy Z (some Rw.heap.size):=by rw [← hZ];exact grown_setRow _ _ _
      have HXZ:Z.heap[Rw.heap.size]? = some (.cells #[.int .i64 oo,.int .i64 cc,.string tt] 52 (0,0)):=by rw [← hZ];exact setRow_heap _ _ _ _ _ _ HX7
      have HFZ:=(HF7.out.poke HGZ HN0 (fun e=>by have:=evs_lt HFX.out.say e;have:=HBR.size;omega) (fun e=>by have:=frs_lt HFX.out.frs e;have:=HBR.size;omega) (by have:=HSZW.out;have:=HBR.size;omega) (Nat.le_trans HSZ.out.2 HSZ.out.1))
      have HSZ2:Z.cell? ⟨L,3,none⟩=some (.pointer (some ⟨mb,0,none⟩))∧Z.heap[q9]? = some (.cells #[.bool fin,.int .i64 op,.bool m,.int .u8 ((ka:Nat):Int),.int .u8 ((kb:Nat):Int),.int .u8 ((kc:Nat):Int),.int .u8 ((kd:Nat):Int),.string s] 61 (0,0)):=⟨HFZ.leg.A.cells.2.2.2.1,by
       rw [HGZ.block q9 (Array.getElem?_eq_some_iff.1 HS7.2).1 (fun e=>by injection e with e;have:=HBR.size;omega)];exact HS7.2⟩
      refine heldStore (d:=none) (op:=.store 52 (Operand.tmp 10) (Operand.tmp 44)) (g:=none) (t:=0) 11 Z rfl (by kernel_rfl) (by kernel_rfl) ?ystl HSZ2 ?_
      case ystl=>intro o' ho ht;rw [← hZ];exact Msg.store_ev ho rfl rfl HX7 rfl (Msg.ev_info rfl) (Msg.ev_all _ _ _)
      simp only [Act.put]
      refine heldTake (d:=some 11) (op:=.assign (Operand.tmp 45)) (g:=none) 12 ?v12tl rfl (by kernel_rfl) (by kernel_rfl) (by kernel_rfl) (by kernel_rfl) ?y12tl HSZ2 ?_
      case y12tl=>intro o' ho W hS;simp only [execOp,ho];go_simp;try rfl
      simp only [Act.put,List.setIfInBounds_toArray,List.set_cons_zero,List.set_cons_succ]
      refine heldTake (d:=some 12) (op:=.assign (Operand.tmp 46)) (g:=none) 13 ?v13tl rfl (by kernel_rfl) (by kernel_rfl) (by kernel_rfl) (by kernel_rfl) ?y13tl HSZ2 ?_
      case y13tl=>intro o' ho W hS;simp only [execOp,ho];go_simp;try rfl
      simp only [Act.put,List.setIfInBounds_toArray,List.set_cons_zero,List.set_cons_succ]
      refine wpAnyH_done (by kernel_rfl) ?_ _
      refine NoPanic.normal ?_
      (try go_wp2_with fail)
      go_meet
      exact ⟨_,v7,p7,rfl,rfl,rfl,⟨HXZ⟩,⟨HFZ⟩,⟨HN0⟩⟩
     case r3 =>
      refine (TK.out Rw HBR).mono ?_
      rintro e w7 ⟨v7,p7,rfl,HF7,HG7⟩
      have HQ7:=KEEP Rw w7 v7 p7 HBR HG7.out q9 _ (.inr (.inl rfl)) HS0.2
      have HS7:w7.cell? ⟨L,3,none⟩=some (.pointer (some ⟨mb,0,none⟩))∧w7.heap[q9]? = some (.cells #[.bool fin,.int .i64 op,.bool m,.int .u8 ((ka:Nat):Int),.int .u8 ((kb:Nat):Int),.int .u8 ((kc:Nat):Int),.int .u8 ((kd:Nat):Int),.string s] 61 (0,0)):=⟨HF7.out.leg.A.cells.2.2.2.1,HQ7⟩
      obtain ⟨A2',hA2⟩:∃ V,w7.alloc (.cells #[.int .i64 0,.int .i64 0,.string {data:=#[]}] 52)=V:=⟨_,rfl⟩
      have HBA2:Below w7.heap.size w7 A2':=by rw [← hA2];exact (Below.refl _ _).alloc (Nat.le_refl _) _
      have HA2:A2'.heap[w7.heap.size]? = some (.cells #[.int .i64 0,.int .i64 0,.string {data:=#[]}] 52 (0,0)):=by rw [← hA2];exact alloc_new _ _ _ rfl
      have HSA2:A2'.cell? ⟨L,3,none⟩=some (.pointer (some ⟨mb,0,none⟩))∧A2'.heap[q9]? = some (.cells #[.bool fin,.int .i64 op,.bool m,.int .u8 ((ka:Nat):Int),.int .u8 ((kb:Nat):Int),.int .u8 ((kc:Nat):Int),.int .u8 ((kd:Nat):Int),.string s] 61 (0,0)):=⟨(HF7.out.below HBA2).leg.A.cells.2.2.2.1,below_key HS7.2 HBA2⟩
      have hq97:q9<w7.heap.size:=(Array.getElem?_eq_some_iff.1 HS7.2).1
      refine ⟨_,rfl,HS7,?_⟩
      simp only [Act.put,List.setIfInBounds_toArray,List.set_cons_zero,List.set_cons_succ]
      refine heldTake (d:=some 37) (op:=.move (Operand.tmp 43)) (g:=none) 6 ?v6rr rfl (by kernel_rfl) (by kernel_rfl) (by kernel_rfl) (by kernel_rfl) ?y6rr HS7 ?_
      case y6rr=>intro o' ho W hS;simp only [execOp,ho];go_simp;try rfl
      simp only [Act.put,List.setIfInBounds_toArray,List.set_cons_zero,List.set_cons_succ]
      refine heldTake (d:=some 44) (op:=.extract (Operand.tmp 37) 0) (g:=none) 7 ?v7rr rfl (by kernel_rfl) (by kernel_rfl) (by kernel_rfl) (by kernel_rfl) ?y7rr HS7 ?_
      case y7rr=>intro o' ho W hS;simp only [execOp,ho];go_simp;try rfl
      simp only [Act.put,List.setIfInBounds_toArray,List.set_cons_zero,List.set_cons_succ]
      refine heldTake (d:=some 45) (op:=.extract (Operand.tmp 37) 1) (g:=none) 8 ?v8rr rfl (by kernel_rfl) (by kernel_rfl) (by kernel_rfl) (by kernel_rfl) ?y8rr HS7 ?_
      case y8rr=>intro o' ho W hS;simp only [execOp,ho];go_simp;try rfl
      simp only [Act.put,List.setIfInBounds_toArray,List.set_cons_zero,List.set_cons_succ]
      refine heldTake (d:=some 46) (op:=.extract (Operand.tmp 37) 2) (g:=none) 9 ?v9rr rfl (by kernel_rfl) (by kernel_rfl) (by kernel_rfl) (by kernel_rfl) ?y9rr HS7 ?_
      case y9rr=>intro o' ho W hS;simp only [execOp,ho];go_simp;try rfl
      simp only [Act.put,List.setIfInBounds_toArray,List.set_cons_zero,List.set_cons_succ]
      refine heldRunT (d:=some 10) (op:=.alloc 52) (g:=none) (t:=0) 10 (.pointer (some ⟨w7.heap.size,0,none⟩)) A2' rfl (by kernel_rfl) (by kernel_rfl) ?y10rr HSA2 ?_
      case y10rr=>intro o' ho _;simp only [execOp,ho];go_simp;first | done | (rw [hA2];done) | rfl
      simp only [Act.put,List.setIfInBounds_toArray,List.set_cons_zero,List.set_cons_succ]
      have HN0:¬ (All L rb rp sb mb t1 k1 q1 sv2 v7 p7) w7.heap.size:=fun e=>Nat.lt_irrefl _ (HF7.out.leg.own e).2
      obtain ⟨Z,hZ⟩:∃ V,A2'.setRow w7.heap.size #[.int .i64 oo,.int .i64 cc,.string tt]=V:=⟨_,rfl⟩
      have HGZ:A2'.grownBy Z (some w7.heap.size):=by rw [← hZ];exact grown_setRow _ _ _
      have HXZ:Z.heap[w7.heap.size]? = some (.cells #[.int .i64 oo,.int .i64 cc,.string tt] 52 (0,0)):=by rw [← hZ];exact setRow_heap _ _ _ _ _ _ HA2
      have HFZ:=(HF7.out.below (HBA2.trans (show Below w7.heap.size A2' Z from by rw [← hZ];exact below_setRow (Below.refl _ _) (Nat.le_refl _) _)))
      have HSZ2:Z.cell? ⟨L,3,none⟩=some (.pointer (some ⟨mb,0,none⟩))∧Z.heap[q9]? = some (.cells #[.bool fin,.int .i64 op,.bool m,.int .u8 ((ka:Nat):Int),.int .u8 ((kb:Nat):Int),.int .u8 ((kc:Nat):Int),.int .u8 ((kd:Nat):Int),.string s] 61 (0,0)):=⟨HFZ.leg.A.cells.2.2.2.1,by
       rw [HGZ.block q9 (Array.getElem?_eq_some_iff.1 HSA2.2).1 (fun e=>by injection e with e;have:=HBR.size;omega)];exact HSA2.2⟩
      refine heldStore (d:=none) (op:=.store 52 (Operand.tmp 10) (Operand.tmp 44)) (g:=none) (t:=0) 11 Z rfl (by kernel_rfl) (by kernel_rfl) ?ystr HSZ2 ?_
      case ystr=>intro o' ho ht;rw [← hZ];exact Msg.store_ev ho rfl rfl HA2 rfl (Msg.ev_info rfl) (Msg.ev_all _ _ _)
      simp only [Act.put]
      refine heldTake (d:=some 11) (op:=.assign (Operand.tmp 45)) (g:=none) 12 ?v12tr rfl (by kernel_rfl) (by kernel_rfl) (by kernel_rfl) (by kernel_rfl) ?y12tr HSZ2 ?_
      case y12tr=>intro o' ho W hS;simp only [execOp,ho];go_simp;try rfl
      simp only [Act.put,List.setIfInBounds_toArray,List.set_cons_zero,List.set_cons_succ]
      refine heldTake (d:=some 12) (op:=.assign (Operand.tmp 46)) (g:=none) 13 ?v13tr rfl (by kernel_rfl) (by kernel_rfl) (by kernel_rfl) (by kernel_rfl) ?y13tr HSZ2 ?_
      case y13tr=>intro o' ho W hS;simp only [execOp,ho];go_simp;try rfl
      simp only [Act.put,List.setIfInBounds_toArray,List.set_cons_zero,List.set_cons_succ]
      refine wpAnyH_done (by kernel_rfl) ?_ _
      refine NoPanic.normal ?_
      (try go_wp2_with fail)
      go_meet
      exact ⟨_,v7,p7,rfl,rfl,rfl,⟨HXZ⟩,⟨HFZ⟩,⟨HN0⟩⟩
    case rest =>
     obtain ⟨x0,m2,p2,rfl,rfl,rfl,HXZ,HFZ,HX0⟩:=hcut
     clear TK HFX HMB HF6 hlt6 hq6 hq9 c3
     obtain ⟨y0,y1,y2⟩:=Msg.ev_cells HXZ.out
     have HR2:Sl (MsgPlain.take (c.msg:Int) st (gs.getD i Fr0)=(st',x)):=⟨by rw [HF.out];exact HR.out⟩
     have HRUN2:Sl (run (c.msg:Int) l.ms (gs.take (i+1))=(st',es++x.toList)):=⟨run_take (by rw [HN.out];exact HIN.out) HRUN.out HR2.out⟩
     have HFIT2:Sl (Fit (c.msg:Int) st'):=⟨by
      have:=MsgPlain.fit_take (by omega:(0:Int)≤(c.msg:Int)) (f:=gs.getD i Fr0) HERR.out.2 (by rw [HF.out];exact bytes_small s)
      rw [HR2.out] at this;exact this⟩
     obtain rfl:=HKK.out
     clear HKK
     by_cases he:st'.err=0
     ·have hq:(((st'.err:Nat):Int) != 0)=false:=by rw [he];rfl
      have HER2:=Sl.mk (And.intro he HFIT2.out)
      have HEL2:=HEL.out
      cases x with
      | none =>
        obtain rfl:false=dd:=HDD.out
        have HRN:Sl (run (c.msg:Int) l.ms (gs.take (i+1))=(st',es)):=⟨by rw [HRUN2.out];simp⟩
        have HIN2:=HIN.out;have HNL2:=HNL.out
        clear he HR HR2 HRUN2 HFIT2 HXO HDD HXZ y0 y1 y2 HRUN HERR
        go_wp2
        exact ⟨⟨i+1,_,_,_,_,_,_,_,_,st',es,rfl,rfl,by go_num,by omega,by omega,HRN,HER2,HFEW,HFZ⟩,by simp [intOf];omega⟩
      | some ev =>
        obtain rfl:true=dd:=HDD.out
        obtain ⟨g1,g2,g3⟩:=take_some HERR.out.2 HERR.out.1 (by rw [HF.out];exact bytes_small s) HR2.out
        obtain (⟨eo,ec,ed⟩:Ev):=ev
        have hxx:(#[.int .i64 eo,.int .i64 ec,.string (strOf ed)]:Array Value)=#[.int .i64 oo,.int .i64 cc,.string tt]:=by
         have:=HXO.out
         injection this
        have hoo:eo=oo∧ec=cc∧strOf ed=tt:=by simpa using hxx
        obtain ⟨rfl,rfl,rfl⟩:=hoo
        have hbt:bytes (strOf ed)=ed:=bytes_strOf ed g2
        have HEV2:=lhear_any (HFZ.out.leg.A.inner (m:=es.foldl (react c) (came c l b)) rfl rfl rfl rfl rfl rfl rfl) HP.out.1 HFEW.out HP.out.2.2.1 HP.out.2.2.2 HP.out.2.1 eo ec (strOf ed) (fun e=>by rw [strOf_size];exact g1 e) g3
        rw [hbt] at HEV2
        have HFEW2:Sl (Few c ((es++[(⟨eo,ec,ed⟩:Ev)]).foldl (react c) (came c l b)) k):=⟨by
         rw [List.foldl_append]
         exact LegPlain.few_react HP.out.2.2.2.f2 HFEW.out (⟨eo,ec,ed⟩:Ev) g1 g2⟩
        have HRN:Sl (run (c.msg:Int) l.ms (gs.take (i+1))=(st',es++[(⟨eo,ec,ed⟩:Ev)])):=⟨by rw [HRUN2.out];rfl⟩
        have HIN2:=HIN.out;have HNL2:=HNL.out
        have HG2:=Sl.mk g2
        have hbx:x0<wc.heap.size:=(Array.getElem?_eq_some_iff.1 HXZ.out).1
        clear he HR HR2 HRUN2 HFIT2 HXO HDD HRUN HERR g1 g2 g3 hxx hbt
        go_wp2_with fail
        refine HEV2.mono ?_
        rintro e w8 ⟨t8,k8,q8,rfl,HA8,HG8⟩
        clear HEV2
        have hrk:=LegPlain.react_keep c (es.foldl (react c) (came c l b)) (⟨eo,ec,ed⟩:Ev)
        have HF8:=Sl.mk (HFZ.out.out (m:={react c (es.foldl (react c) (came c l b)) (⟨eo,ec,ed⟩:Ev) with ms:=st'}) (HA8.out.inner rfl rfl rfl rfl rfl rfl rfl) HG8.out hrk.2.1 hrk.2.2.1 rfl)
        by_cases h9:eo=9
        ·have hd9:decide (eo≠9)=false:=by rw [h9];rfl
         have HT8:Sl ((es++[(⟨eo,ec,ed⟩:Ev)]).filter (fun x=>decide (x.op≠9))=es.filter (fun x=>decide (x.op≠9))):=⟨by rw [List.filter_append];simp [h9]⟩
         have HF9:Sl (FL w0 w2 w8 L sb mb rb rp t8 k8 q8 sv2 m2 p2 (All L rb rp sb mb tv kv qv sv2 mv mp) W.heap.size c {(es++[(⟨eo,ec,ed⟩:Ev)]).foldl (react c) (came c l b) with ms:=st'} (.slice (some ⟨sbk,so,none⟩) n gca) gs (.slice ta tn tc) ((es++[(⟨eo,ec,ed⟩:Ev)]).filter (fun x=>decide (x.op≠9)))):=⟨by
          rw [HT8.out,List.foldl_append];exact HF8.out⟩
         rw [hd9]
         clear hrk HF8 HT8 HA8 HG8 HFZ HXZ y0 y1 y2 hd9 HG2
         go_wp2
         exact ⟨⟨i+1,_,_,_,_,_,_,_,_,st',_,rfl,rfl,by go_num,by omega,by rw [List.length_append,List.length_singleton];omega,HRN,HER2,HFEW2,HF9⟩,by simp [intOf];omega⟩
        ·have hd9:decide (eo≠9)=true:=decide_eq_true h9
         rw [hd9]
         have HXZ8:Sl (w8.heap[x0]? = some (.cells #[.int .i64 eo,.int .i64 ec,.string (strOf ed)] 52 (0,0))):=⟨by
          rw [HG8.out.kept.block x0 hbx (fun e=>HX0.out (.inl e))]
          exact HXZ.out⟩
         obtain ⟨y0,y1,y2⟩:=Msg.ev_cells HXZ8.out
         obtain ⟨X,hX⟩:∃ V,w8.alloc (.cells #[.int .i64 eo,.int .i64 ec,.string (strOf ed)] 52)=V:=⟨_,rfl⟩
         have HXB:Below w8.heap.size w8 X:=by rw [← hX];exact (Below.refl _ _).alloc (Nat.le_refl _) _
         have hXn:X.heap[w8.heap.size]? = some (.cells #[.int .i64 eo,.int .i64 ec,.string (strOf ed)] 52 (0,0)):=by rw [← hX];exact alloc_new _ _ _ rfl
         have hfl:(es.filter (fun x=>decide (x.op≠9))).length≤es.length:=List.length_filter_le _ _
         have hNL:=HNL.out
         obtain ⟨v1,w10,hap,hF9⟩:=(HF8.out.below HXB).add (evs_one (e:=(⟨eo,ec,ed⟩:Ev)) hXn rfl) (by omega) (Nat.le_trans HF8.out.goes.kept.size HXB.size) (Nat.le_trans HSZ.out.2 HSZ.out.1)
         obtain ⟨av,nv,cw,rfl⟩:∃ a n c,v1=.slice a n c:=by obtain ⟨a,c,h⟩:=hF9.say.slice;exact ⟨a,_,c,h⟩
         have HT8:Sl ((es++[(⟨eo,ec,ed⟩:Ev)]).filter (fun x=>decide (x.op≠9))=es.filter (fun x=>decide (x.op≠9))++[(⟨eo,ec,ed⟩:Ev)]):=⟨by rw [List.filter_append];simp [h9]⟩
         have HF9:Sl (FL w0 w2 w10 L sb mb rb rp t8 k8 q8 sv2 m2 p2 (All L rb rp sb mb tv kv qv sv2 mv mp) W.heap.size c {(es++[(⟨eo,ec,ed⟩:Ev)]).foldl (react c) (came c l b) with ms:=st'} (.slice (some ⟨sbk,so,none⟩) n gca) gs (.slice av nv cw) ((es++[(⟨eo,ec,ed⟩:Ev)]).filter (fun x=>decide (x.op≠9)))):=⟨by
          rw [HT8.out,List.foldl_append];exact hF9⟩
         clear hrk HF8 HT8 HA8 HG8 HFZ HXZ hd9 HG2 hF9 HXB hXn hfl hNL HXZ8
         go_wp2_with (at_builtin;refine Cut.wpList_appV rfl (.tmp 56) (.tmp 58) 47 47 rfl rfl _ _ (.slice av nv cw) w10 rfl rfl (by first | exact hap | (rw [hX];exact hap)) ?_)
         exact ⟨⟨i+1,_,_,_,_,_,_,_,_,st',_,rfl,rfl,by go_num,by omega,by rw [List.length_append,List.length_singleton];omega,HRN,HER2,HFEW2,HF9⟩,by simp [intOf];omega⟩
     ·have hq:(((st'.err:Nat):Int) != 0)=true:=by simpa using he
      obtain rfl:=take_bad HERR.out.1 HR2.out he
      have HSTE:=Sl.mk he
      have HRNN:Sl (run (c.msg:Int) l.ms gs=(st',es)):=⟨run_rest (by rw [HRUN2.out];simp) he⟩
      clear HRUN HERR
      have HRUN:=HRNN
      have HFL:=HFZ
      clear HRNN HFZ HR HR2 HRUN2 HFIT2 HXO HDD HXZ y0 y1 y2 he HEL HF HIN
      go_upto_region 14 with fail
      have HEVS:Sl (evs c l b=es):=⟨by rw [HEV.out,HRUN.out]⟩
      have HMSS:Sl ((came c l b).ms=st'):=⟨by rw [HMS.out,HRUN.out]⟩
      have HFD:=HRES.out
      rw [HEVS.out] at HFD
      have HXX:Sl ({es.foldl (react c) (came c l b) with ms:=st'}=es.foldl (react c) (came c l b)):=⟨by
       have:=(LegPlain.fold_keep c es (came c l b)).2.2.2.1
       rw [HMSS.out] at this
       obtain ⟨x,hx⟩:∃ x,es.foldl (react c) (came c l b)=x:=⟨_,rfl⟩
       rw [hx] at this ⊢
       rw [← this]⟩
      rw [HXX.out] at HFL
      have hne:(((st'.err:Nat):Int) != 0)=true:=by simpa using HSTE.out
      have GT2:=got_any HFL.out.leg.A HFL.out.leg.M
      rw [(LegPlain.fold_keep c es (came c l b)).2.2.2.1,HMSS.out] at GT2
      have hov:st'.over=false:=by
       cases hov:st'.over with
       | false=>rfl
       | true =>
         have:=HFITA.out.over
         rw [HRUN.out] at this
         have h2:st'.err=0:=by rw [show st'=MsgPlain.done from this hov];rfl
         exact absurd h2 HSTE.out
      rw [hov] at GT2
      have her:errs c l b=st'.err:=by
       unfold LegPlain.errs
       rw [HMSS.out,if_pos HSTE.out]
      rw [her,if_pos HSTE.out] at HFD
      replace HFD:=Sl.mk HFD
      clear her hov
      go_wp2_with fail
      refine GT2.mono ?_
      rintro e w8 ⟨rfl,rfl⟩
      clear GT2
      have FT:=lfail_any HFL.out.leg.A HP.out.1 HFEW.out HP.out.2.2.1 HP.out.2.2.2 HP.out.2.1 st'.err
      go_wp2_with fail
      refine FT.mono ?_
      rintro e w9 ⟨t9,k9,q9,rfl,HA9,HG9⟩
      clear FT
      have hkp:=LegPlain.close_keep c {es.foldl (react c) (came c l b) with wrong:=st'.err} (ClosePlain.codeC ((st'.err:Nat):Int)) []
      have HFZ:=Sl.mk (HFL.out.out HA9.out HG9.out hkp.buf hkp.serr hkp.ms)
      clear HA9 HG9 hkp HFL
      go_wp2
      go_ret
      rw [HFD.out]
      exact ⟨_,_,_,_,_,_,_,rfl,⟨own_mono HFZ.out.say HSZ.out.1⟩,⟨HFZ.out.leg⟩,⟨HG1.out.trans HFZ.out.goes⟩,⟨fun j e=>(HFZ.out.tn j e).1⟩⟩
   ·obtain rfl:i=n:=by omega
    have hlt:((i:Int)<(i:Int))=False:=eq_false (by omega)
    have HTK:Sl (gs.take i=gs):=⟨List.take_of_length_le (by rw [HN.out];exact Nat.le_refl _)⟩
    rw [HTK.out] at HRUN
    clear HTK hi hin
    go_upto_region 14 with fail
    have HEVS:Sl (evs c l b=es):=⟨by rw [HEV.out,HRUN.out]⟩
    have HMSS:Sl ((came c l b).ms=st):=⟨by rw [HMS.out,HRUN.out]⟩
    have HFD:=HRES.out
    rw [HEVS.out] at HFD
    have HXX:Sl ({es.foldl (react c) (came c l b) with ms:=st}=es.foldl (react c) (came c l b)):=⟨by
     have:=(LegPlain.fold_keep c es (came c l b)).2.2.2.1
     rw [HMSS.out] at this
     obtain ⟨x,hx⟩:∃ x,es.foldl (react c) (came c l b)=x:=⟨_,rfl⟩
     rw [hx] at this ⊢
     rw [← this]⟩
    rw [HXX.out] at HFL
    have HERE:Sl (errs c l b=if st.over=true then 0 else e0):=⟨by
     rw [errs_of (by rw [HMSS.out];exact HERR.out.1),HMSS.out,HSE.out]⟩
    by_cases he0:e0=0
    ·have hne:(((e0:Nat):Int) != 0)=false:=by rw [he0];rfl
     have her:errs c l b=0:=by rw [HERE.out,he0];split<;>rfl
     rw [her,if_neg (fun e=>e rfl)] at HFD
     replace HFD:=Sl.mk HFD
     clear her he0
     go_wp2
     go_ret
     rw [HFD.out]
     exact ⟨_,_,_,_,_,_,_,rfl,⟨own_mono HFL.out.say HSZ.out.1⟩,⟨HFL.out.leg⟩,⟨HG1.out.trans HFL.out.goes⟩,⟨fun j e=>(HFL.out.tn j e).1⟩⟩
    ·have hne:(((e0:Nat):Int) != 0)=true:=by simpa using he0
     have GT2:=got_any HFL.out.leg.A HFL.out.leg.M
     rw [(LegPlain.fold_keep c es (came c l b)).2.2.2.1,HMSS.out] at GT2
     cases hov:st.over with
     | true =>
       rw [hov] at GT2
       have her:errs c l b=0:=by rw [HERE.out,if_pos hov]
       rw [her,if_neg (fun e=>e rfl)] at HFD
       replace HFD:=Sl.mk HFD
       clear her he0 hov
       go_wp2_with fail
       refine GT2.mono ?_
       rintro e w8 ⟨rfl,rfl⟩
       clear GT2
       go_wp2
       go_ret
       rw [HFD.out]
       exact ⟨_,_,_,_,_,_,_,rfl,⟨own_mono HFL.out.say HSZ.out.1⟩,⟨HFL.out.leg⟩,⟨HG1.out.trans HFL.out.goes⟩,⟨fun j e=>(HFL.out.tn j e).1⟩⟩
     | false =>
       rw [hov] at GT2
       have her:errs c l b=e0:=by rw [HERE.out,if_neg (by rw [hov];decide)]
       rw [her,if_pos he0] at HFD
       replace HFD:=Sl.mk HFD
       clear her he0 hov
       go_wp2_with fail
       refine GT2.mono ?_
       rintro e w8 ⟨rfl,rfl⟩
       clear GT2
       have FT:=lfail_any HFL.out.leg.A HP.out.1 HFEW.out HP.out.2.2.1 HP.out.2.2.2 HP.out.2.1 e0
       go_wp2_with fail
       refine FT.mono ?_
       rintro e w9 ⟨t9,k9,q9,rfl,HA9,HG9⟩
       clear FT
       have hkp:=LegPlain.close_keep c {es.foldl (react c) (came c l b) with wrong:=e0} (ClosePlain.codeC ((e0:Nat):Int)) []
       have HFZ:=Sl.mk (HFL.out.out HA9.out HG9.out hkp.buf hkp.serr hkp.ms)
       clear HA9 HG9 hkp HFL
       go_wp2
       go_ret
       rw [HFD.out]
       exact ⟨_,_,_,_,_,_,_,rfl,⟨own_mono HFZ.out.say HSZ.out.1⟩,⟨HFZ.out.leg⟩,⟨HG1.out.trans HFZ.out.goes⟩,⟨fun j e=>(HFZ.out.tn j e).1⟩⟩
end
end Go.Proofs.YtlahonjmfecikaaGreatDoor.Leg
namespace HeadPlain
def four (l:List Nat):Bool:=l.take 4==[13,10,13,10]
def fnd:List Nat→Option Nat
 | []=>none
 | x :: r=>if four (x :: r)=true then some 0 else (fnd r).map (· + 1)
def join (ls:List (List Nat)):List Nat:=ls.flatMap fun l=>l++[13,10]
@[simp] theorem join_nil:join []=[]:=rfl
@[simp] theorem join_cons (l:List Nat) (ls:List (List Nat)):join (l :: ls)=l++13 :: 10 :: join ls:=by simp [join]
def lines:List Nat→List (List Nat)
 | []=>[]
 | [x]=>[[x]]
 | x :: y :: r=>if x=13∧y=10 then [] :: lines r else match lines (y :: r) with
   | []=>[[x]]
   | l :: ls=>(x :: l) :: ls
def cut (c:Nat):List Nat→Option (List Nat×List Nat)
 | []=>none
 | x :: r=>if x=c then some ([],r) else (cut c r).map fun p=>(x :: p.1,p.2)
def ltrim:List Nat→List Nat
 | []=>[]
 | x :: r=>if x=32∨x=9 then ltrim r else x :: r
def trim (l:List Nat):List Nat:=(ltrim (ltrim l).reverse).reverse
def plain (a:Nat) (l:List Nat):Prop:=∀ x∈l,a≤x∧x≤126
def value (l:List Nat):Prop:=plain 32 l∧l.head?≠some 32∧l.getLast?≠some 32
def marks:List Nat:=[33,35,36,37,38,39,42,43,45,46,94,95,96,124,126]
def tokB (x:Nat):Bool:=(97≤x&&x≤122)||(65≤x&&x≤90)||(48≤x&&x≤57)||marks.contains x
def token (l:List Nat):Bool:=!l.isEmpty&&l.all tokB
structure Hd where
 a:List Nat
 b:List Nat
 c:List Nat
 fs:List (List Nat×List Nat)
def line1 (h:Hd):List Nat:=h.a++32 :: (h.b++32 :: h.c)
def lineF (f:List Nat×List Nat):List Nat:=f.1++58 :: 32 :: f.2
def text (h:Hd):List Nat:=join (line1 h :: h.fs.map lineF)++[13,10]
def rd1 (l:List Nat):Option (List Nat×List Nat×List Nat):=(cut 32 l).bind fun p=>(cut 32 p.2).map fun q=>(p.1,q.1,q.2)
def rdF (l:List Nat):Option (List Nat×List Nat):=(cut 58 l).map fun p=>(p.1,trim p.2)
def rdFs:List (List Nat)→Option (List (List Nat×List Nat))
 | []=>some []
 | l :: ls=>(rdF l).bind fun f=>(rdFs ls).map fun fs=>f :: fs
def rdL:List (List Nat)→Option Hd
 | []=>none
 | l :: ls=>(rd1 l).bind fun p=>(rdFs ls).map fun fs=>⟨p.1,p.2.1,p.2.2,fs⟩
inductive Res where
 | more | long | form | ok (h:Hd) (n:Nat)
def rdAt (s:List Nat) (n:Nat):Option Hd:=rdL (lines (s.take (n+2)))
def plainB (a:Nat) (l:List Nat):Bool:=l.all fun x=>decide (a≤x∧x≤126)
def valueB (l:List Nat):Bool:=plainB 32 l&&(l.head? != some 32&&l.getLast? != some 32)
def formB (h:Hd):Bool:=(!h.a.isEmpty&&plainB 33 h.a)&&((!h.b.isEmpty&&plainB 33 h.b)&&(valueB h.c&&h.fs.all fun f=>token f.1&&valueB f.2))
def rd (s:List Nat):Res :=
 match fnd s with
 | none=>if 2048≤s.length then .long else .more
 | some n=>if 2048<n+4 then .long else match rdAt s n with
   | none=>.form
   | some h=>if formB h=true then (if 32<h.fs.length then .long else .ok h (n+4)) else .form
def up (x:Nat):Nat:=if 97≤x∧x≤122 then x-32 else x
def two (l:List Nat):Bool:=l.take 2==[13,10]
end HeadPlain
namespace RoutePlain
structure Rt where
 pre:List Nat
 pro:List Nat
 «to» : List Nat
deriving DecidableEq
def stem (p:List Nat):List Nat:=p.takeWhile (fun x=>x != 63)
theorem stem_cons (x:Nat) (l:List Nat):stem (x :: l)=if x=63 then [] else x :: stem l:=by
 unfold stem
 rw [List.takeWhile_cons]
 by_cases h:x=63<;>simp [h]
theorem stem_take (p:List Nat):stem p=p.take (stem p).length:=by
 induction p with
 | nil=>rfl
 | cons x l ih =>
   rw [stem_cons]
   split
   ·rfl
   ·rw [List.length_cons,List.take_succ_cons,← ih]
theorem stem_no (p:List Nat):∀ x∈stem p,x≠63:=by
 induction p with
 | nil=>exact fun x hx=>absurd hx List.not_mem_nil
 | cons y l ih =>
   intro x hx
   rw [stem_cons] at hx
   by_cases h:y=63
   ·rw [if_pos h] at hx;exact absurd hx List.not_mem_nil
   ·rw [if_neg h] at hx
    rcases List.mem_cons.1 hx with rfl | hx
    ·exact h
    ·exact ih x hx
theorem stem_at (p:List Nat) (h:(stem p).length<p.length):p.getD (stem p).length 0=63:=by
 induction p with
 | nil=>simp at h
 | cons x l ih =>
   rw [stem_cons] at h ⊢
   by_cases hx:x=63
   ·rw [if_pos hx] at h ⊢;simpa using hx
   ·rw [if_neg hx] at h ⊢
    rw [List.length_cons] at h ⊢
    have:=ih (by simpa using h)
    simpa using this
def below (p f:List Nat):Bool:=decide ((stem p).take f.length=f)&&(decide ((stem p).length=f.length)||decide ((stem p).getD f.length 0=47)||decide (f.getLast? = some 47))
def fits (p:List Nat) (ps:List (List Nat)) (r:Rt):Bool:=below p r.pre&&(decide (r.pro=[])||decide (r.pro∈ps))
def better (a b:Rt):Bool:=decide (a.pre.length<b.pre.length)||(decide (b.pre.length=a.pre.length)&&(decide (a.pro=[])&&decide (b.pro≠[])))
def step (p:List Nat) (ps:List (List Nat)) (o:Option Rt) (r:Rt):Option Rt :=
 if fits p ps r then (match o with
  | none=>some r
  | some a=>if better a r then some r else some a) else o
def pick (p:List Nat) (ps:List (List Nat)) (rs:List Rt):Option Rt:=rs.foldl (step p ps) none
end RoutePlain
set_option maxRecDepth 100000
namespace Go.Proofs.YtlahonjmfecikaaGreatDoor.Rou
open Go.RowKit Go.WideShapes Go.ChangeShapes
open RoutePlain (Rt)
structure Rb where
 pre:ByteArray
 pro:ByteArray
 dst:ByteArray
def Rb.rt (r:Rb):Rt:=⟨bytes r.pre,bytes r.pro,bytes r.dst⟩
def Rb0:Rb:=⟨ByteArray.empty,ByteArray.empty,ByteArray.empty⟩
def rc (r:Rb):List Value:=[.string r.pre,.string r.pro,.string r.dst]
def rcs (es:List Rb):List Value:=es.flatMap rc
theorem rc_some (e:Rb) (j:Nat) (hj:j<3):∃ u,(rc e)[j]? = some u:=⟨_,List.getElem?_eq_getElem (by simpa [rc] using hj)⟩
def OwnT (W:World) (base:Nat) (v:Value) (es:List Rb):Prop:=W.ownsRow base 72 3 v es.length (rcs es)
def RtsAt (W:World) (v:Value) (es:List Rb):Prop :=
 ∃ (a:Option Addr) (cap sb so:Nat),v=.slice a es.length cap∧es.length≤cap∧(0<es.length→a=some ⟨sb,so,none⟩)∧∀ i,i<es.length→∀ j,j<3→W.cell? ⟨sb,so+i*3+j,none⟩=(rc (es.getD i Rb0))[j]?
theorem RtsAt.below {w w':World} {v:Value} {es:List Rb} (h:RtsAt w v es) (hb:Below w.heap.size w w'):RtsAt w' v es:=by
 obtain ⟨a,cap,sb,so,h1,hc,h3,h4⟩:=h
 refine ⟨a,cap,sb,so,h1,hc,h3,fun i hi j hj=>?_⟩
 have g:=h4 i hi j hj
 obtain ⟨u,hu⟩:=rc_some (es.getD i Rb0) j hj
 rw [hu] at g ⊢
 have k0:=block_lt_of_cell g
 rw [hb.cell (p:=⟨sb,so+i*3+j,none⟩) k0];exact g
theorem RtsAt.grown {w w':World} {v:Value} {es:List Rb} {r:Option Nat} (h:RtsAt w v es) (hg:w.grownBy w' r) (hne:∀ g,v.ownBlock=some g→some g≠r):RtsAt w' v es:=by
 obtain ⟨a,cap,sb,so,rfl,hc,h3,h4⟩:=h
 refine ⟨a,cap,sb,so,rfl,hc,h3,fun i hi j hj=>?_⟩
 have g:=h4 i hi j hj
 obtain ⟨u,hu⟩:=rc_some (es.getD i Rb0) j hj
 rw [hu] at g ⊢
 have k0:sb<w.heap.size:=block_lt_of_cell g
 obtain rfl:=h3 (by omega)
 have hb:w'.heap[sb]? = w.heap[sb]?:=hg.block sb k0 (hne sb rfl)
 rw [World.cell?_of_block (w:=w) hb];exact g
theorem RtsAt.slice {W:World} {v:Value} {es:List Rb} (h:RtsAt W v es):∃ a c,v=.slice a es.length c:=by
 obtain ⟨a,c,_,_,rfl,_⟩:=h;exact ⟨a,c,rfl⟩
theorem RtsAt.cap {W:World} {a:Option Addr} {n cap:Nat} {es:List Rb} (h:RtsAt W (.slice a n cap) es):n=es.length∧n≤cap∧(0<n→∃ sb so,a=some ⟨sb,so,none⟩):=by
 obtain ⟨a',cap',sb',so',he,hc,h3,_⟩:=h
 injection he with e1 e2 e3
 refine ⟨e2,by omega,fun hp=>⟨sb',so',?_⟩⟩
 rw [e1];exact h3 (by omega)
theorem RtsAt.at3 {W:World} {sb so n cap:Nat} {es:List Rb} (h:RtsAt W (.slice (some ⟨sb,so,none⟩) n cap) es) (i:Nat) (hi:i<es.length) {a b c:ByteArray} (he:es.getD i Rb0=⟨a,b,c⟩) :
 W.cell? ⟨sb,so+i*3,none⟩=some (.string a)∧W.cell? ⟨sb,so+i*3+1,none⟩=some (.string b)∧W.cell? ⟨sb,so+i*3+2,none⟩=some (.string c):=by
 obtain ⟨a',cap',sb',so',hs,_,h3,h4⟩:=h
 injection hs with e1 e2 e3
 rw [h3 (by omega)] at e1
 injection e1 with e1
 injection e1 with e4 e5
 subst e4 e5
 have g:=h4 i hi
 rw [he] at g
 exact ⟨g 0 (by decide),g 1 (by decide),g 2 (by decide)⟩
theorem RtsAt.range {W:World} {sb so n cap:Nat} {es:List Rb} (h:RtsAt W (.slice (some ⟨sb,so,none⟩) n cap) es) (i:Nat) (hi:i<es.length):W.rangeAt sb (so+i*3) (rc (es.getD i Rb0)):=fun j u hu=>by
 obtain ⟨a,cap',sb',so',he,_,h3,h4⟩:=h
 injection he with e1 e2 e3
 rw [h3 (by omega)] at e1
 injection e1 with e1
 injection e1 with e4 e5
 subst e4 e5
 have hj:j<3:=by have:=(List.getElem?_eq_some_iff.1 hu).1;simpa [rc] using this
 rw [h4 i hi j hj];exact hu
theorem RtsAt.to {W:World} {a:Option Addr} {n cap k c:Nat} {es:List Rb} (h:RtsAt W (.slice a n cap) es) (hk:k≤n) (hc:k≤c):RtsAt W (.slice a k c) (es.take k):=by
 obtain ⟨a',c',sb,so,he,h1,h2,h3⟩:=h
 injection he with e1 e2 e3
 subst e1 e2 e3
 have hl:(es.take k).length=k:=by rw [List.length_take];omega
 refine ⟨a,c,sb,so,by rw [hl],by rw [hl];omega,fun hp=>h2 (by rw [hl] at hp;omega),fun i hi j hj=>?_⟩
 rw [hl] at hi
 rw [h3 i (by omega) j hj]
 congr 2
 rw [List.getD_eq_getElem?_getD,List.getD_eq_getElem?_getD,List.getElem?_take_of_lt hi]
def fromT (a:Option Addr) (k cap:Nat):Option Addr:=if cap=k then a else a.map (·.add (k*3))
theorem RtsAt.from {W:World} {a:Option Addr} {n cap k:Nat} {es:List Rb} (h:RtsAt W (.slice a n cap) es) (hk:k≤n):RtsAt W (.slice (fromT a k cap) (n-k) (cap-k)) (es.drop k):=by
 obtain ⟨a',c',sb,so,he,h1,h2,h3⟩:=h
 injection he with e1 e2 e3
 subst e1 e2 e3
 have hl:(es.drop k).length=es.length-k:=List.length_drop ..
 refine ⟨_,_,sb,so+k*3,by rw [hl],by rw [hl];omega,fun hp=>?_,fun i hi j hj=>?_⟩
 ·rw [hl] at hp
  unfold fromT
  rw [if_neg (by omega),h2 (by omega),Option.map_some,Addr.add_mid]
 ·rw [hl] at hi
  have h4:=h3 (k+i) (by omega) j hj
  rw [show so+(k+i)*3+j=so+k*3+i*3+j from by omega] at h4
  rw [h4]
  congr 2
  rw [List.getD_eq_getElem?_getD,List.getD_eq_getElem?_getD,List.getElem?_drop]
theorem OwnT.below {w w':World} {base:Nat} {v:Value} {l:List Rb} (h:OwnT w base v l) (hb:Below w.heap.size w w'):OwnT w' base v l:=own_below h hb
theorem OwnT.slice {W:World} {base:Nat} {v:Value} {l:List Rb} (h:OwnT W base v l):∃ a c,v=.slice a l.length c:=by
 obtain ⟨_,h2⟩:=h
 rcases h2 with ⟨rfl,hz⟩ | ⟨g,cap,cur,rfl,_⟩
 ·rw [hz];exact ⟨_,_,rfl⟩
 ·exact ⟨_,_,rfl⟩
theorem OwnT.heap {W:World} {base:Nat} {v:Value} {l:List Rb} (h:OwnT W base v l) {g:Nat} (hg:v.ownBlock=some g):base≤g∧∃ cs,W.heap[g]? = some (.cells cs 72 (0,0)):=by
 rcases h.2 with ⟨rfl,_⟩ | ⟨k,cap,cur,rfl,hb,hh,_⟩
 ·cases hg
 ·have:k=g:=by simpa [Value.ownBlock] using hg
  subst this
  exact ⟨hb,_,hh⟩
theorem OwnT.keeps {W W':World} {base B:Nat} {w0:World} {v:Value} {l:List Rb} (h:OwnT W base v l) (hB:Below B w0 W) (hg:W.grownBy W' v.ownBlock) (hb:B≤base) (hs:B≤W.heap.size):Below B w0 W' :=
 hB.grown hg hs (fun _ hk=>Nat.le_trans hb (h.heap hk).1)
theorem OwnT.kept {W W':World} {base:Nat} {v:Value} {l:List Rb} {r:Option Nat} (h:OwnT W base v l) (g:W.grownBy W' r) (hr:∀ k,r=some k→v.ownBlock≠some k):OwnT W' base v l:=by
 refine World.ownsRow.kept h g ?_
 rcases h.2 with ⟨rfl,_⟩ | ⟨k,cap,cur,rfl,_⟩
 ·exact .inl rfl
 ·exact .inr (fun e=>hr k e.symm (by simp [Value.ownBlock]))
theorem rts_one {W:World} {g:Nat} {e:Rb} {cs:Array Value} {t:TypeId} (h:W.heap[g]? = some (.cells cs t (0,0))) (hc:cs=(rc e).toArray):RtsAt W (.slice (some ⟨g,0,none⟩) 1 1) [e]:=by
 subst hc
 refine ⟨_,1,g,0,rfl,Nat.le_refl _,fun _=>rfl,fun i hi j hj=>?_⟩
 obtain rfl:i=0:=by simpa using hi
 rw [cell_of_row _ _ _ _ _ _ h,List.getElem?_toArray]
 congr 1;omega
theorem rt_info {cs:Array Value} (h:cs.size=3):(Tryz.prog.info? 72).map (·.size)=some cs.size:=by rw [h];kernel_rfl
theorem rt_all (a b c:ByteArray):(#[.string a,.string b,.string c]:Array Value).all (·.oneCell')=true:=by simp [Value.oneCell']
def same3 (a b c a' b' c':ByteArray):Bool:=(a.toList==a'.toList)&&((b.toList==b'.toList)&&(c.toList==c'.toList))
theorem eq_rt (a b c a' b' c':ByteArray) (W:World):(Op.equalIn 10000 72 (.agg #[.string a,.string b,.string c]) (.agg #[.string a',.string b',.string c'])).run Tryz.prog W=.ok (same3 a b c a' b' c') W:=by
 have hp:Tryz.prog.stoodInHeld 72=false:=by kernel_rfl
 have hu:Tryz.prog.underlying 72=some (.struct (Tryz.prog.fieldsOf 72)):=by kernel_rfl
 have hf : (Tryz.prog.fieldsOf 72).toList = [⟨"Prefix", 9, 0, false, "", "", 0⟩, ⟨"Protocol", 9, 1, false, "", "", 16⟩, ⟨"To", 9, 2, false, "", "", 32⟩] := by kernel_rfl
 rw [run_equalIn_struct W 9999 72 _ _ hu hp,hf]
 have e9:∀ (p q:ByteArray) (w:World),(Op.equalIn 9999 9 (.string p) (.string q)).run Tryz.prog w=.ok (p.toList==q.toList) w:=fun p q w=>run_equalIn_string w 9998 9 p q Tryz.underlying9
 have p0:∀ (o c:ByteArray) (s:ByteArray) (w:World),(part 9 #[.string o,.string c,.string s] 0).run Tryz.prog w=.ok (.string o) w:=fun o c s w=>by kernel_rfl
 have p1:∀ (o c:ByteArray) (s:ByteArray) (w:World),(part 9 #[.string o,.string c,.string s] 1).run Tryz.prog w=.ok (.string c) w:=fun o c s w=>by kernel_rfl
 have p2:∀ (o c:ByteArray) (s:ByteArray) (w:World),(part 9 #[.string o,.string c,.string s] 2).run Tryz.prog w=.ok (.string s) w:=fun o c s w=>by kernel_rfl
 have n0 : ("Prefix" ≠ "_") = True := eq_true (by decide)
 have n1 : ("Protocol" ≠ "_") = True := eq_true (by decide)
 have n2 : ("To" ≠ "_") = True := eq_true (by decide)
 unfold same3
 cases h0:(a.toList==a'.toList)<;>cases h1:(b.toList==b'.toList)<;>cases h2:(c.toList==c'.toList)<;>
  simp only [Op.eqFields,n0,n1,n2,if_true,Sem.run_bind,Sem.run_pure,Sem.run_ite,p0,p1,p2,e9,h0,h1,h2,Result.andThen_ok,Bool.not_true,Bool.not_false,Bool.false_eq_true,if_false,Bool.true_and,Bool.false_and,Bool.and_true]
theorem box_rt (W:World):∃ V,W.alloc (.cells #[.string {data:=#[]},.string {data:=#[]},.string {data:=#[]}] 72)=V∧Sl (Below W.heap.size W V)∧V.heap[W.heap.size]? = some (.cells #[.string {data:=#[]},.string {data:=#[]},.string {data:=#[]}] 72 (0,0)) :=
 ⟨_,rfl,⟨(Below.refl _ _).alloc (Nat.le_refl _) _⟩,alloc_new _ _ _ rfl⟩
theorem set_rt {W:World} {g:Nat} {B:Nat} {w0:World} {c0:Array Value} (h:W.heap[g]? = some (.cells c0 72 (0,0))) (hB:Below B w0 W) (hb:B≤g) (cs:Array Value):∃ V,W.setRow g cs=V∧Sl (Below B w0 V)∧Sl (V.heap[g]? = some (.cells cs 72 (0,0))) :=
 ⟨_,rfl,⟨below_setRow hB hb _⟩,⟨setRow_heap _ _ _ _ _ _ h⟩⟩
theorem rt_cells {W:World} {g:Nat} {a b c:ByteArray} {t:TypeId} (h:W.heap[g]? = some (.cells #[.string a,.string b,.string c] t (0,0))):W.cell? ⟨g,0,none⟩=some (.string a)∧W.cell? ⟨g,1,none⟩=some (.string b)∧W.cell? ⟨g,2,none⟩=some (.string c):=by
 refine ⟨?_,?_,?_⟩<;>(rw [cell_of_row _ _ _ _ _ _ h];rfl)
structure RbOk (r:Rb):Prop where
 p:r.pre.size≤maxLen
 q:r.pro.size≤maxLen
 t:r.dst.size≤maxLen
theorem list_of {α:Type} (d:α) (n:Nat) (p:Nat→α→Prop) (h:∀ i,i<n→∃ x,p i x):∃ l:List α,l.length=n∧∀ i,i<n→p i (l.getD i d):=by
 induction n with
 | zero=>exact ⟨[],rfl,fun i hi=>absurd hi (Nat.not_lt_zero _)⟩
 | succ n ih =>
   obtain ⟨l,hl,hp⟩:=ih (fun i hi=>h i (by omega))
   obtain ⟨x,hx⟩:=h n (by omega)
   refine ⟨l++[x],by simp [hl],fun i hi=>?_⟩
   by_cases hin:i<n
   ·have e:(l++[x]).getD i d=l.getD i d:=by
     simp only [List.getD_eq_getElem?_getD];rw [List.getElem?_append_left (by omega)]
    rw [e];exact hp i hin
   ·obtain rfl:i=n:=by omega
    have e:(l++[x]).getD i d=x:=by
     simp only [List.getD_eq_getElem?_getD];rw [List.getElem?_append_right (by omega)];simp [hl]
    rw [e];exact hx
end Go.Proofs.YtlahonjmfecikaaGreatDoor.Rou
set_option maxRecDepth 100000
namespace HeadPlain
open Go
def toN (l:List UInt8):List Nat:=l.map (·.toNat)
@[simp] theorem toN_length (l:List UInt8):(toN l).length=l.length:=by simp [toN]
def pos:Option Nat→Int
 | none=>-1
 | some i=>(i:Int)
def fst (c:Nat):List Nat→Option Nat
 | []=>none
 | x :: r=>if x=c then some 0 else (fst c r).map (· + 1)
theorem indexByte_mem (c:UInt8) (l:List UInt8):decide (Lib.indexByte l c<0)=!(toN l).contains c.toNat:=by
 induction l with
 | nil=>rfl
 | cons x r ih =>
   unfold Lib.indexByte
   have hge:=Lib.indexByte_ge r c
   rw [show toN (x :: r)=x.toNat :: toN r from rfl,List.contains_cons]
   by_cases h:x=c
   ·subst h;simp
   ·have h2:(x==c)=false:=by rw [beq_eq_false_iff_ne];exact h
    have h3:(c.toNat==x.toNat)=false:=by rw [beq_eq_false_iff_ne];exact fun e=>h (UInt8.toNat_inj.1 e.symm)
    rw [h2,if_neg (by simp),h3,Bool.false_or,← ih]
    by_cases h4:Lib.indexByte r c = -1
    ·rw [h4];rfl
    ·have h5:(Lib.indexByte r c == -1)=false:=by rw [beq_eq_false_iff_ne];exact h4
     rw [h5,if_neg (by simp)]
     congr 1
     rw [eq_iff_iff];omega
end HeadPlain
namespace Go.Proofs.YtlahonjmfecikaaGreatDoor
open Go.RowKit HeadPlain
def spans:List Value:=[.int .u8 97,.int .u8 122,.int .u8 65,.int .u8 90,.int .u8 48,.int .u8 57]
structure Globs (w:World):Prop where
 t:w.rangeAt 0 0 spans
 m:∃ m:Int,w.cell? ⟨2,0,none⟩=some (.int .i64 m)
theorem Globs.size {w:World} (h:Globs w):3≤w.heap.size:=by
 obtain ⟨m,hm⟩:=h.m
 have h1:(2:Nat)<w.heap.size:=block_lt_of_cell hm
 have h2:(0:Nat)<w.heap.size:=block_lt_of_cell (show w.cell? ⟨0,0+0,none⟩=_ from h.t 0 _ rfl)
 omega
theorem Globs.below {w w':World} {B:Nat} (h:Globs w) (hb:Below B w w') (hB:3≤B):Globs w' :=
 ⟨fun j v hv=>by rw [hb.cell (p:=⟨0,0+j,none⟩) (show 0<B by omega)];exact h.t j v hv,by
  obtain ⟨m,hm⟩:=h.m
  exact ⟨m,by rw [hb.cell (p:=⟨2,0,none⟩) (show 2<B by omega)];exact hm⟩⟩
theorem Globs.of {w0 w:World} (h:Globs w0) (hb:Below w0.heap.size w0 w):Globs w:=h.below hb h.size
def Still (w w':World):Prop:=∃ m,w'=w.drewN m
theorem Still.heap {w w':World} (h:Still w w'):w'.heap=w.heap:=by obtain ⟨m,rfl⟩:=h;rfl
theorem Still.below {w w':World} (h:Still w w'):Below w.heap.size w w':=by obtain ⟨m,rfl⟩:=h;exact ⟨rfl,rfl,rfl,Nat.le_refl _,fun _ _=>rfl⟩
theorem Still.refl (w:World):Still w w:=⟨0,rfl⟩
theorem Still.drewN {w w':World} (h:Still w w') (n:Nat):Still w (w'.drewN n):=by
 obtain ⟨m,rfl⟩:=h;exact ⟨m+n,World.drewN_drewN _ _ _⟩
theorem Still.trans {u v w:World} (h:Still u v) (k:Still v w):Still u w:=by
 obtain ⟨m,rfl⟩:=h;obtain ⟨n,rfl⟩:=k;exact ⟨m+n,World.drewN_drewN _ _ _⟩
end Go.Proofs.YtlahonjmfecikaaGreatDoor
namespace Go.Proofs.YtlahonjmfecikaaGreatDoor
open Go.RowKit HeadPlain
def spanB (c:Nat):Bool:=(97≤c&&c≤122)||(65≤c&&c≤90)||(48≤c&&c≤57)
theorem token_get (s:ByteArray):(bytes s).all tokB=true↔∀ j,j<s.size→tokB ((bytes s).getD j 0)=true:=by
 rw [List.all_eq_true]
 constructor
 ·intro h j hj
  rw [← bytes_length] at hj
  have:=h _ (List.getElem_mem hj)
  simpa [List.getD_eq_getElem?_getD,List.getElem?_eq_getElem hj] using this
 ·intro h x hx
  obtain ⟨j,hj,rfl⟩:=List.getElem_of_mem hx
  have:=h j (by rw [← bytes_length];exact hj)
  simpa [List.getD_eq_getElem?_getD,List.getElem?_eq_getElem hj] using this
theorem token_no {s:ByteArray} (k:Nat) (hk:k<s.size) (h:tokB ((bytes s).getD k 0)=false):token (bytes s)=false:=by
 rw [Bool.eq_false_iff]
 intro e
 unfold token at e
 rw [Bool.and_eq_true,token_get] at e
 have:=e.2 k hk
 rw [h] at this
 cases this
theorem token_yes {s:ByteArray} (h:∀ j,j<s.size→tokB ((bytes s).getD j 0)=true):token (bytes s)=decide (0<s.size):=by
 unfold token
 rw [(token_get s).2 h,Bool.and_true,← bytes_length]
 cases bytes s<;>simp
end Go.Proofs.YtlahonjmfecikaaGreatDoor
namespace Go.Proofs
open Go.Shelf
def Tryz.lays137_ren:Go.Shelf.Ren:=⟨fun | 137=>154 | 217=>168 | 266=>177 | n=>n,fun | 9=>9 | 5=>5 | 3=>3 | n=>n,fun | n=>n⟩
theorem Tryz.lays137:Go.Proofs.Lays.n137 Tryz.prog Tryz.lays137_ren:={
 mixed:=by kernel_rfl
 f137:=Tryz.func154.trans (congrArg some (by kernel_rfl))
 f217:=Tryz.func168.trans (congrArg some (by kernel_rfl))
 f266:=Tryz.func177.trans (congrArg some (by kernel_rfl))
 t3:=Tryz.underlying3
 a3:=Tryz.isAgg3
 z3:=Tryz.sizeOf3
 v3:=Tryz.zeroValue3
 t5:=Tryz.underlying5
 a5:=Tryz.isAgg5
 z5:=Tryz.sizeOf5
 v5:=Tryz.zeroValue5
 t9:=Tryz.underlying9
 a9:=Tryz.isAgg9
 z9:=Tryz.sizeOf9
 v9:=Tryz.zeroValue9}
open Go.RowKit in
theorem Tryz.strings_IndexByte (s:ByteArray) (c:Int) (w:World) :
 Calls Tryz.prog 154 #[.string s,.int .u8 c] w fun e w'=>e=.returned (.int .i64 (Lib.indexByte s.data.toList c.toNat.toUInt8))∧w'=w:=Any.strings_IndexByte Tryz.lays137 s c w
def Tryz.lays144_ren:Go.Shelf.Ren:=⟨fun | 144=>129 | 143=>153 | 219=>167 | 217=>168 | 225=>174 | 224=>175 | 267=>176 | 266=>177 | 314=>179 | n=>n,fun | 9=>9 | 4=>4 | 3=>3 | 5=>5 | 46=>150 | 146=>222 | 51=>26 | n=>n,fun | 1=>2 | n=>n⟩
theorem Tryz.lays144:Go.Proofs.Lays.n144 Tryz.prog Tryz.lays144_ren:={
 mixed:=by kernel_rfl
 f143:=Tryz.func153.trans (congrArg some (by kernel_rfl))
 f144:=Tryz.func129.trans (congrArg some (by kernel_rfl))
 f217:=Tryz.func168.trans (congrArg some (by kernel_rfl))
 f219:=Tryz.func167.trans (congrArg some (by kernel_rfl))
 f224:=Tryz.func175.trans (congrArg some (by kernel_rfl))
 f225:=Tryz.func174.trans (congrArg some (by kernel_rfl))
 f266:=Tryz.func177.trans (congrArg some (by kernel_rfl))
 f267:=Tryz.func176.trans (congrArg some (by kernel_rfl))
 f314:=Tryz.func179.trans (congrArg some (by kernel_rfl))
 t3:=Tryz.underlying3
 a3:=Tryz.isAgg3
 z3:=Tryz.sizeOf3
 v3:=Tryz.zeroValue3
 t4:=Tryz.underlying4
 a4:=Tryz.isAgg4
 z4:=Tryz.sizeOf4
 v4:=Tryz.zeroValue4
 t5:=Tryz.underlying5
 a5:=Tryz.isAgg5
 z5:=Tryz.sizeOf5
 v5:=Tryz.zeroValue5
 t9:=Tryz.underlying9
 a9:=Tryz.isAgg9
 z9:=Tryz.sizeOf9
 v9:=Tryz.zeroValue9
 t46:=Tryz.underlying150
 a46:=Tryz.isAgg150
 z46:=Tryz.sizeOf150
 v46:=Tryz.zeroValue150
 t51:=Tryz.underlying26
 a51:=Tryz.isAgg26
 z51:=Tryz.sizeOf26
 v51:=Tryz.zeroValue26
 t146:=Tryz.underlying222
 a146:=Tryz.isAgg222
 z146:=Tryz.sizeOf222
 v146:=Tryz.zeroValue222
 g1:=by kernel_rfl}
open Go.RowKit Go.Lib in
theorem Tryz.strings_Contains_one (s:ByteArray) (c:UInt8) (w:World) :
 Calls Tryz.prog 129 #[.string s,.string ⟨#[c]⟩] w fun e w'=>e=.returned (.bool (decide (0≤Lib.indexByte s.data.toList c)))∧w'=w:=Any.strings_Contains_one Tryz.lays144 s c w
def Tryz.lays99_ren:Go.Shelf.Ren:=⟨fun | 99=>127 | 206=>152 | n=>n,fun | 9=>9 | 4=>4 | 3=>3 | n=>n,fun | n=>n⟩
theorem Tryz.lays99:Go.Proofs.Lays.n99 Tryz.prog Tryz.lays99_ren:={
 mixed:=by kernel_rfl
 f99:=Tryz.func127.trans (congrArg some (by kernel_rfl))
 f206:=Tryz.func152.trans (congrArg some (by kernel_rfl))
 t3:=Tryz.underlying3
 a3:=Tryz.isAgg3
 z3:=Tryz.sizeOf3
 v3:=Tryz.zeroValue3
 t4:=Tryz.underlying4
 a4:=Tryz.isAgg4
 z4:=Tryz.sizeOf4
 v4:=Tryz.zeroValue4
 t9:=Tryz.underlying9
 a9:=Tryz.isAgg9
 z9:=Tryz.sizeOf9
 v9:=Tryz.zeroValue9}
open Go.RowKit Go.Lib in
theorem Tryz.strings_HasPrefix (s p:ByteArray) (w:World) :
 Calls Tryz.prog 127 #[.string s,.string p] w fun e w'=>e=.returned (.bool (Lib.hasPrefix s.data.toList p.data.toList))∧w'=w:=Any.strings_HasPrefix Tryz.lays99 s p w
end Go.Proofs
set_option maxRecDepth 100000
namespace Go.Proofs.YtlahonjmfecikaaGreatDoor
open Go.RowKit HeadPlain
theorem tokB_span (c:Nat):tokB c=(spanB c||marks.contains c):=rfl
theorem index_span (k:Nat) (hk:k<3) (W:World):(Instr.index 200 (.agg spans.toArray) (.int .i64 (k:Int))).run Tryz.prog W=.ok (.agg #[.int .u8 ((([97,65,48]:List Nat).getD k 0:Nat):Int),.int .u8 ((([122,90,57]:List Nat).getD k 0:Nat):Int)]) W:=by
 match k,hk with
 | 0,_=>show _=_;kernel_rfl
 | 1,_=>show _=_;kernel_rfl
 | 2,_=>show _=_;kernel_rfl
def spanTo (c k:Nat):Prop:=∀ j,j<k→¬ (([97,65,48]:List Nat).getD j 0≤c∧c≤([122,90,57]:List Nat).getD j 0)
theorem spanTo_three {c:Nat} (h:spanTo c 3):spanB c=false:=by
 have h0:=h 0 (by decide)
 have h1:=h 1 (by decide)
 have h2:=h 2 (by decide)
 simp only [List.getD_cons_zero,List.getD_cons_succ] at h0 h1 h2
 unfold spanB
 simp only [Bool.or_eq_false_iff,Bool.and_eq_false_iff,decide_eq_false_iff_not]
 omega
theorem span_hit {c k:Nat} (hk:k<3) (h:([97,65,48]:List Nat).getD k 0≤c∧c≤([122,90,57]:List Nat).getD k 0):spanB c=true:=by
 unfold spanB
 simp only [Bool.or_eq_true,Bool.and_eq_true,decide_eq_true_eq]
 match k,hk with
 | 0,_=>simp at h;omega
 | 1,_=>simp at h;omega
 | 2,_=>simp at h;omega
set_option maxHeartbeats 1000000 in
set_option maxRecDepth 100000 in
theorem token_any (s:ByteArray) (W:World) (hg:Globs W) (hs:s.size≤maxLen):Calls Tryz.prog 130 #[.string s] W fun e w'=>e=.returned (.bool (token (bytes s)))∧Sl (Below W.heap.size W w'):=by
 unfold maxLen at hs
 have HG:=Sl.mk hg
 clear hg
 have HI62:Sl ((Tryz.prog.info? 200).map (·.size)=some spans.length):=⟨by kernel_rfl⟩
 go_enter Tryz.func130,Tryz.ntmps130
 go_wp2
 go_step3
 go_wp2
 go_step3
 go_wp2
 go_loopw [8] (fun i wr=>∃ k:Nat,k≤s.size∧i=.int .i64 k∧Sl (Below W.heap.size W wr)∧Sl (∀ j,j<k→tokB ((bytes s).getD j 0)=true)) (fun i _=>s.size-(intOf i).toNat)
 case atStart=>exact ⟨0,by omega,rfl,⟨Below.refl _ _⟩,⟨fun j hj=>by omega⟩⟩
 case round =>
  rename World=>W0
  obtain ⟨k,hk,rfl,HB,HA⟩:=hrel
  by_cases hlt:k<s.size
  ·obtain ⟨c,hc⟩:∃ c,(s[k]'hlt).toNat=c:=⟨_,rfl⟩
   have HC:Sl ((bytes s).getD k 0=c):=⟨by rw [bytes_getD s k hlt,← hc];rfl⟩
   have HG2:Sl (Globs W0):=⟨HG.out.of HB.out⟩
   go_wp2_with (first | (refine wpList_load_mid rfl 200 (.global 0) rfl 0 0 rfl spans (.array 3 199) HG2.out.t Tryz.underlying200 rfl HI62.out ?_))
   have HIB:Sl (∀ V:World,Calls Tryz.prog 154 #[.string {data:=#[33,35,36,37,38,39,42,43,45,46,94,95,96,124,126]},.int .u8 (c:Int)] V fun e w'=>e=.returned (.int .i64 (Lib.indexByte [33,35,36,37,38,39,42,43,45,46,94,95,96,124,126] (c:Int).toNat.toUInt8))∧w'=V):=⟨fun V=>Tryz.strings_IndexByte _ _ V⟩
   obtain ⟨z,hz⟩:∃ z,Lib.indexByte [33,35,36,37,38,39,42,43,45,46,94,95,96,124,126] (c:Int).toNat.toUInt8=z:=⟨_,rfl⟩
   have hc256:c<256:=by rw [← hc];exact UInt8.toNat_lt _
   have HZ:Sl (decide (z<0)=!marks.contains c):=⟨by
    rw [← hz,indexByte_mem]
    rw [show ((c:Int).toNat.toUInt8).toNat=c from by rw [Int.toNat_natCast];exact UInt8.toNat_ofNat_of_lt' hc256]
    rfl⟩
   rw [hz] at HIB
   clear hz
   go_loopw [12] (fun i wr=>∃ m:Nat,m≤3∧i=.int .i64 m∧Sl (Below W.heap.size W wr)∧Sl (spanTo c m)) (fun i _=>3-(intOf i).toNat)
   case atStart=>exact ⟨0,by omega,rfl,HB,⟨fun j hj=>by omega⟩⟩
   case round =>
    obtain ⟨m,hm,rfl,HB2,HS⟩:=hrel
    by_cases hlm:m<3
    ·have hidx:=index_span m hlm
     obtain ⟨x,hx⟩:∃ x,([97,65,48]:List Nat).getD m 0=x:=⟨_,rfl⟩
     obtain ⟨y,hy⟩:∃ y,([122,90,57]:List Nat).getD m 0=y:=⟨_,rfl⟩
     have HXY:Sl (([97,65,48]:List Nat).getD m 0=x∧([122,90,57]:List Nat).getD m 0=y):=⟨hx,hy⟩
     rw [hx,hy] at hidx
     clear hx hy
     by_cases h1:x≤c
     ·have h1':decide ((x:Int)≤(c:Int))=true:=decide_eq_true (by omega)
      by_cases h2:c≤y
      ·have h2':decide ((c:Int)≤(y:Int))=true:=decide_eq_true (by omega)
       have HSP:Sl (spanB c=true):=⟨span_hit hlm (by rw [HXY.out.1,HXY.out.2];exact ⟨h1,h2⟩)⟩
       have HTK:Sl (tokB c=true):=⟨by rw [tokB_span,HSP.out];rfl⟩
       go_wp2
       go_quiet (fail)
       go_wp2
       refine ⟨⟨k+1,by omega,by go_num,⟨?_⟩,⟨fun j hj=>?_⟩⟩,by simp [intOf];omega⟩
       ·exact ((HB2.out.alloc HB2.out.size _).trans ((Still.below ⟨_,rfl⟩).mono (by rw [alloc_size];have:=HB2.out.size;omega)))
       ·by_cases e:j=k
        ·subst e;rw [HC.out];exact HTK.out
        ·exact HA.out j (by omega)
      ·have h2':decide ((c:Int)≤(y:Int))=false:=decide_eq_false (by omega)
       go_wp2
       go_quiet (fail)
       go_wp2
       refine ⟨⟨m+1,by omega,by go_num,⟨?_⟩,⟨fun j hj=>?_⟩⟩,by simp [intOf];omega⟩
       ·exact ((HB2.out.alloc HB2.out.size _).trans ((Still.below ⟨_,rfl⟩).mono (by rw [alloc_size];have:=HB2.out.size;omega)))
       ·by_cases e:j=m
        ·subst e;rw [HXY.out.1,HXY.out.2];omega
        ·exact HS.out j (by omega)
     ·have h1':decide ((x:Int)≤(c:Int))=false:=decide_eq_false (by omega)
      go_wp2
      go_quiet (fail)
      go_wp2
      refine ⟨⟨m+1,by omega,by go_num,⟨?_⟩,⟨fun j hj=>?_⟩⟩,by simp [intOf];omega⟩
      ·exact ((HB2.out.alloc HB2.out.size _).trans ((Still.below ⟨_,rfl⟩).mono (by rw [alloc_size];have:=HB2.out.size;omega)))
      ·by_cases e:j=m
       ·subst e;rw [HXY.out.1,HXY.out.2];omega
       ·exact HS.out j (by omega)
    ·have hge:((m:Int)<3)=False:=eq_false (by omega)
     have HSP:Sl (spanB c=false):=⟨by
      obtain rfl:m=3:=by omega
      exact spanTo_three HS.out⟩
     have HTK:Sl (tokB c=marks.contains c):=⟨by rw [tokB_span,HSP.out];rfl⟩
     by_cases hz0:z<0
     ·have HTF:Sl (tokB c=false):=⟨by
       have:=HZ.out
       rw [decide_eq_true hz0] at this
       rw [HTK.out]
       cases h:marks.contains c with
       | false=>rfl
       | true=>rw [h] at this;cases this⟩
      go_wp2_with fail
      refine (HIB.out _).mono ?_
      rintro e w2 ⟨rfl,rfl⟩
      go_wp2
      rw [Exit.noGoto_ret]
      go_ret
      exact ⟨ret_bool (token_no k hlt (by rw [HC.out];exact HTF.out)).symm,HB2⟩
     ·have HTF:Sl (tokB c=true):=⟨by
       have:=HZ.out
       rw [decide_eq_false hz0] at this
       rw [HTK.out]
       cases h:marks.contains c with
       | false=>rw [h] at this;cases this
       | true=>rfl⟩
      go_wp2_with fail
      refine (HIB.out _).mono ?_
      rintro e w2 ⟨rfl,rfl⟩
      go_wp2
      refine ⟨⟨k+1,by omega,by go_num,HB2,⟨fun j hj=>?_⟩⟩,by simp [intOf];omega⟩
      by_cases e:j=k
      ·subst e;rw [HC.out];exact HTF.out
      ·exact HA.out j (by omega)
  ·have hge:((k:Int)<(s.size:Int))=False:=eq_false (by omega)
   have HT:Sl (token (bytes s)=decide (0<s.size)):=⟨token_yes (fun j hj=>HA.out j (by omega))⟩
   have hq:(s.toList==[])=!decide (0<s.size):=by
    rw [beq_bytes,← bytes_length]
    cases h:bytes s<;>simp
   by_cases h0:0<s.size
   ·rw [decide_eq_true h0] at hq HT
    go_wp2
    rw [Exit.noGoto_ret]
    go_ret
    exact ⟨ret_bool (by rw [HT.out]),HB⟩
   ·rw [decide_eq_false h0] at hq HT
    go_wp2
    rw [Exit.noGoto_ret]
    go_ret
    exact ⟨ret_bool (by rw [HT.out]),HB⟩
end Go.Proofs.YtlahonjmfecikaaGreatDoor
namespace Go.Proofs.YtlahonjmfecikaaGreatDoor
open Go.RowKit HeadPlain
end Go.Proofs.YtlahonjmfecikaaGreatDoor
namespace Go.Proofs.YtlahonjmfecikaaGreatDoor
open Go.RowKit HeadPlain
abbrev FV:=ByteArray×ByteArray
def f0:FV:=(ByteArray.empty,ByteArray.empty)
def FAt (W:World) (b o:Nat) (x:FV):Prop :=
 W.cell? ⟨b,o,none⟩=some (.string x.1)∧W.cell? ⟨b,o+1,none⟩=some (.string x.2)∧x.1.size≤maxLen∧x.2.size≤maxLen
def FieldsAt (W:World) (v:Value) (l:List FV):Prop :=
 ∃ (a:Option Addr) (cap sb so:Nat),v=.slice a l.length cap∧l.length≤cap∧l.length≤maxLen∧(0<l.length→a=some ⟨sb,so,none⟩)∧∀ i,i<l.length→FAt W sb (so+i*2) (l.getD i f0)
theorem FieldsAt.below {w w':World} {v:Value} {l:List FV} (h:FieldsAt w v l) (hb:Below w.heap.size w w'):FieldsAt w' v l:=by
 obtain ⟨a,cap,sb,so,h1,hc,h2,h3,h4⟩:=h
 refine ⟨a,cap,sb,so,h1,hc,h2,h3,fun i hi=>?_⟩
 obtain ⟨g1,g2,g3,g4⟩:=h4 i hi
 have k0:=block_lt_of_cell g1
 exact ⟨by rw [hb.cell (p:=⟨sb,so+i*2,none⟩) k0];exact g1,by rw [hb.cell (p:=⟨sb,so+i*2+1,none⟩) k0];exact g2,g3,g4⟩
structure HdV where
 a:ByteArray
 b:ByteArray
 c:ByteArray
 fs:List FV
def fN (f:FV):List Nat×List Nat:=(bytes f.1,bytes f.2)
def HdV.hd (h:HdV):Hd:=⟨bytes h.a,bytes h.b,bytes h.c,h.fs.map fN⟩
def HdV.val (h:HdV) (v:Value):Value:=.agg #[.string h.a,.string h.b,.string h.c,v]
structure HdV.Fit (h:HdV):Prop where
 a:h.a.size≤maxLen
 b:h.b.size≤maxLen
 c:h.c.size≤maxLen
def told (h:HdV) (k:Nat):List Nat:=join (line1 h.hd :: ((h.fs.take k).map fN).map lineF)
end Go.Proofs.YtlahonjmfecikaaGreatDoor
namespace Go.Proofs.YtlahonjmfecikaaGreatDoor
open Go.RowKit HeadPlain
end Go.Proofs.YtlahonjmfecikaaGreatDoor
namespace Go.Proofs.YtlahonjmfecikaaGreatDoor
open Go.RowKit HeadPlain
def chk (h:HdV):Nat:=if formB h.hd=true then (if 32<h.fs.length∨2048<(text h.hd).length then 51 else 0) else 52
end Go.Proofs.YtlahonjmfecikaaGreatDoor
namespace Go.Proofs.YtlahonjmfecikaaGreatDoor
open Go.RowKit HeadPlain
theorem text_le (h:HdV) (hc:chk h=0):formB h.hd=true∧h.fs.length≤32∧(text h.hd).length≤2048:=by
 unfold chk at hc
 by_cases h1:formB h.hd=true
 ·rw [if_pos h1] at hc
  by_cases h2:32<h.fs.length∨2048<(text h.hd).length
  ·rw [if_pos h2] at hc;cases hc
  ·exact ⟨h1,by omega,by omega⟩
 ·rw [if_neg h1] at hc;cases hc
end Go.Proofs.YtlahonjmfecikaaGreatDoor
set_option maxRecDepth 100000
namespace Go.Proofs.YtlahonjmfecikaaGreatDoor.Rou
open Go.RowKit
open HeadPlain (toN)
open RoutePlain (Rt stem stem_cons stem_take stem_at below better)
theorem index_list (l:List UInt8):Lib.indexByte l 63=if (stem (l.map (·.toNat))).length<l.length then ((stem (l.map (·.toNat))).length:Int) else -1:=by
 induction l with
 | nil=>rfl
 | cons x r ih =>
   unfold Lib.indexByte
   rw [List.map_cons,stem_cons]
   by_cases h:x=63
   ·subst h;simp
   ·have h2:(x==63)=false:=by rw [beq_eq_false_iff_ne];exact h
    have h3:¬ x.toNat=63:=fun e=>h (UInt8.toNat_inj.1 e)
    rw [h2,if_neg (by simp),if_neg h3,ih,List.length_cons,List.length_cons]
    by_cases h4:(stem (r.map (·.toNat))).length<r.length
    ·rw [if_pos h4,if_pos (Nat.succ_lt_succ h4)]
     have:(((stem (r.map (·.toNat))).length:Int) == -1)=false:=by rw [beq_eq_false_iff_ne];omega
     rw [this];simp
    ·rw [if_neg h4,if_neg (fun h=>h4 (Nat.lt_of_succ_lt_succ h))];rfl
theorem head_slash (l:List UInt8):Lib.hasPrefix l [47]=decide ((l.map (·.toNat)).getD 0 0=47):=by
 unfold Lib.hasPrefix
 cases l with
 | nil=>rfl
 | cons x r =>
   rw [Bool.eq_iff_iff,List.isPrefixOf_iff_prefix,decide_eq_true_eq]
   simp only [List.map_cons,List.getD_cons_zero,List.cons_prefix_cons,List.nil_prefix,and_true]
   exact ⟨fun e=>by rw [← e];rfl,fun e=>(UInt8.toNat_inj.1 e).symm⟩
end Go.Proofs.YtlahonjmfecikaaGreatDoor.Rou
set_option maxRecDepth 100000
namespace Go.Proofs.YtlahonjmfecikaaGreatDoor.Rou
open Go.RowKit
open RoutePlain (Rt stem stem_cons stem_take stem_at below better)
theorem byte_at {s:ByteArray} {k c:Nat} (hk:k<s.size) (hc:(s[k]'hk).toNat=c):(bytes s).getD k 0=c:=by rw [bytes_getD s k hk,← hc];rfl
def seenB (l:List Nat):Bool:=l.all fun x=>decide (33≤x)&&decide (x≤126)
theorem seen_no {l:List Nat} {k:Nat} (hk:k<l.length) (h:¬ (33≤l.getD k 0∧l.getD k 0≤126)):seenB l=false:=by
 unfold seenB
 rw [List.all_eq_false]
 refine ⟨l.getD k 0,by rw [List.getD_eq_getElem?_getD,List.getElem?_eq_getElem hk];exact List.getElem_mem _,?_⟩
 simpa using h
theorem seen_yes {l:List Nat} (h:∀ k,k<l.length→33≤l.getD k 0∧l.getD k 0≤126):seenB l=true:=by
 unfold seenB
 rw [List.all_eq_true]
 intro x hx
 obtain ⟨k,hk,rfl⟩:=List.getElem_of_mem hx
 have:=h k hk
 rw [List.getD_eq_getElem?_getD,List.getElem?_eq_getElem hk] at this
 simpa using this
theorem seen_any (s:ByteArray) (W:World) (hs:s.size≤maxLen) (r:Bool) (hr:seenB (bytes s)=r):Calls Tryz.prog 128 #[.string s] W fun e w'=>e=.returned (.bool r)∧W=w':=by
 unfold maxLen at hs
 have HR:=Sl.mk hr
 clear hr
 go_enter Tryz.func128,Tryz.ntmps128
 go_wp2
 go_loopw [6] (fun i wr=>∃ k:Nat,k≤s.size∧i=.int .i64 k∧W=wr∧Sl (∀ j,j<k→33≤(bytes s).getD j 0∧(bytes s).getD j 0≤126)) (fun i _=>s.size-(intOf i).toNat)
 case atStart=>exact ⟨0,Nat.zero_le _,rfl,rfl,⟨fun j hj=>by omega⟩⟩
 case round =>
  obtain ⟨k,hk,rfl,rfl,HK⟩:=hrel
  by_cases hlt:k<s.size
  ·obtain ⟨c,hc⟩:∃ c,(s[k]'hlt).toNat=c:=⟨_,rfl⟩
   have HC:=Sl.mk (byte_at hlt hc)
   by_cases h1:c<33
   ·have h1':((c:Int)<33)=True:=eq_true (by omega)
    have HF:Sl (r=false):=⟨by rw [← HR.out];exact seen_no (k:=k) (by rw [bytes_length];exact hlt) (by rw [HC.out];omega)⟩
    go_wp2
    go_ret
    exact ⟨ret_bool HF.out.symm,rfl⟩
   ·have h1':((c:Int)<33)=False:=eq_false (by omega)
    by_cases h2:c>126
    ·have h2':((c:Int)>126)=True:=eq_true (by omega)
     have HF:Sl (r=false):=⟨by rw [← HR.out];exact seen_no (k:=k) (by rw [bytes_length];exact hlt) (by rw [HC.out];omega)⟩
     go_wp2
     go_ret
     exact ⟨ret_bool HF.out.symm,rfl⟩
    ·have h2':((c:Int)>126)=False:=eq_false (by omega)
     go_wp2
     refine ⟨⟨k+1,by omega,by go_num,trivial,⟨fun j hj=>?_⟩⟩,by simp [intOf];omega⟩
     by_cases e:j=k
     ·subst e;rw [HC.out];omega
     ·exact HK.out j (by omega)
  ·have hge:((k:Int)<(s.size:Int))=False:=eq_false (by omega)
   have HT:Sl (r=true):=⟨by rw [← HR.out];exact seen_yes (fun j hj=>HK.out j (by rw [bytes_length] at hj;omega))⟩
   go_wp2
   go_ret
   exact ⟨ret_bool HT.out.symm,rfl⟩
def plainB (l:List Nat):Bool:=seenB l&&decide (0<l.length)
end Go.Proofs.YtlahonjmfecikaaGreatDoor.Rou
set_option maxRecDepth 100000
namespace Go.Proofs.YtlahonjmfecikaaGreatDoor.Rou
open Go.RowKit
open HeadPlain (token)
open RoutePlain (Rt stem stem_cons stem_take stem_no stem_at below better)
theorem below_key {w w':World} {g:Nat} {o:Obj} (h:w.heap[g]? = some o) (k:Below w.heap.size w w'):w'.heap[g]? = some o:=by
 rw [k.block g (Array.getElem?_eq_some_iff.1 h).1];exact h
theorem nil_beq (s:ByteArray):(s.toList==([]:List UInt8))=decide (bytes s=[]):=beq_bytes s []
theorem nil_emp (s:ByteArray):s.toList.isEmpty=decide (bytes s=[]):=by rw [← nil_beq];cases s.toList<;>rfl
theorem nil_yes {s:ByteArray} (h:decide (bytes s=[])=true):(s.toList==([]:List UInt8))=true∧s.toList.isEmpty=true∧(s.toList=[])=True:=by
 refine ⟨by rw [nil_beq,h],by rw [nil_emp,h],eq_true ?_⟩
 have:=nil_beq s
 rw [h] at this
 exact eq_of_beq this
theorem nil_no {s:ByteArray} (h:decide (bytes s=[])=false):(s.toList==([]:List UInt8))=false∧s.toList.isEmpty=false∧(s.toList=[])=False:=by
 refine ⟨by rw [nil_beq,h],by rw [nil_emp,h],eq_false ?_⟩
 intro e
 have:=nil_beq s
 rw [h,e] at this
 cases this
theorem nil_str {s:ByteArray} (h:s.size=0):s={data:=#[]}:=ByteArray.ext (Array.eq_empty_of_size_eq_zero h)
theorem newClone_any (s:ByteArray) (w:World) (hm:s.size≤1000000):Calls Tryz.prog 91 #[.string s] w fun e w'=>e=.returned (.string s)∧Sl (Below w.heap.size w w'):=by
 by_cases h0:s.size=0
 ·obtain rfl:=nil_str h0
  clear h0 hm
  go_enter Tryz.func91,Tryz.ntmps91
  go_wp2
  go_ret
  exact ⟨rfl,⟨Below.refl _ _⟩⟩
 ·have hq:(((s.size:Nat):Int)==0)=false:=beq_eq_false_iff_ne.2 (by omega)
  have hi5:(Tryz.prog.info? 5).map (·.size)=some 1:=size5
  have hc5:Tryz.prog.cellsOf 5=1:=by kernel_rfl
  have mk:=make_u8 (s.size:Int) s.size rfl hm
  obtain ⟨M,hM⟩:∃ M,(u8s (zs s.size)).toArray=M:=⟨_,rfl⟩
  rw [hM] at mk
  have hMs:M.size=s.size:=by rw [← hM,List.size_toArray,u8s_length];simp [zs]
  obtain ⟨wa,hwa⟩:∃ w1,w.alloc (.cells M 5)=w1:=⟨_,rfl⟩
  have ha:wa.heap[w.heap.size]? = some (.cells M 5 (0,0)):=by rw [← hwa];exact alloc_new _ _ _ rfl
  have hmk:(Instr.makeSlice 49 (.int .i64 (s.size:Int)) (.int .i64 (s.size:Int))).run Tryz.prog w=.ok (.slice (some ⟨w.heap.size,0,none⟩) s.size s.size) wa:=by rw [← hwa];exact mk w
  have hcp:=Lib.run_copy_row_string (P:=Tryz.prog) wa 49 9 3 5 w.heap.size 0 s.size s.size s M 5 Tryz.underlying49 hi5 ha (Nat.le_refl _) (by omega)
  rw [List.take_zero,List.nil_append,List.drop_of_length_le (by rw [Array.length_toList];omega),List.append_nil] at hcp
  obtain ⟨wb,hwb⟩:∃ w1,wa.setRow w.heap.size (Lib.byteCells s.data.toList).toArray=w1:=⟨_,rfl⟩
  rw [hwb] at hcp
  have hb:wb.heap[w.heap.size]? = some (.cells (Lib.byteCells s.data.toList).toArray 5 (0,0)):=by rw [← hwb];exact setRow_heap _ _ M _ 5 (0,0) ha
  have hne:s.data.toList≠[]:=fun e=>h0 (by rw [Lib.size_eq,e];rfl)
  have hus:=Lib.run_unsafeString_row (P:=Tryz.prog) wb 176 3 9 5 Tryz.underlying176 hc5 w.heap.size s.size (by unfold World.shape?;rw [hb];simp [Lib.byteCells_length]) s.data.toList hne (by rw [← Lib.size_eq];omega) (by rw [← Lib.size_eq];omega)
   (fun j x hx=>by
    rw [Addr.add_mid,Nat.zero_add,cell_of_row _ _ _ _ _ _ hb,List.getElem?_toArray]
    simp [Lib.byteCells,hx])
  rw [← Lib.size_eq] at hus
  have HB:Sl (Below w.heap.size w (wb.freeze ⟨w.heap.size,0,none⟩ s.size)):=⟨by
   refine Lib.below_freeze (p:=⟨w.heap.size,0,none⟩) ?_ (Nat.le_refl _) _
   have h1:Below w.heap.size w wa:=by rw [← hwa];exact (Below.refl _ _).alloc (Nat.le_refl _) _
   refine h1.trans ?_
   rw [← hwb]
   exact ⟨rfl,rfl,rfl,by simp,fun k hk=>setRow_other _ _ _ _ (by omega)⟩⟩
  clear hwa hwb ha hb hM hMs mk hne
  go_enter Tryz.func91,Tryz.ntmps91
  go_wp2
  go_ret
  exact ⟨rfl,HB⟩
theorem clone_any (s:ByteArray) (w:World) (hm:s.size≤1000000):Calls Tryz.prog 59 #[.string s] w fun e w'=>e=.returned (.string s)∧Sl (Below w.heap.size w w'):=by
 have C:=newClone_any s w hm
 clear hm
 go_enter Tryz.func59,Tryz.ntmps59
 go_wp2_with fail
 refine C.mono ?_
 rintro e w1 ⟨rfl,HB⟩
 clear C
 go_wp2
 go_ret
 exact ⟨rfl,HB⟩
theorem box_of (W:World) (a b c:ByteArray):∃ V,W.alloc (.cells #[.string a,.string b,.string c] 72)=V∧Sl (Below W.heap.size W V)∧V.heap[W.heap.size]? = some (.cells #[.string a,.string b,.string c] 72 (0,0)) :=
 ⟨_,rfl,⟨(Below.refl _ _).alloc (Nat.le_refl _) _⟩,alloc_new _ _ _ rfl⟩
end Go.Proofs.YtlahonjmfecikaaGreatDoor.Rou
set_option maxRecDepth 100000
namespace Go.Proofs.YtlahonjmfecikaaGreatDoor.Rou
open Go.RowKit
open HeadPlain (token)
open RoutePlain (Rt stem stem_cons stem_take stem_no stem_at below better)
theorem has_mark (s:ByteArray):decide (0≤Lib.indexByte s.data.toList 63)=decide (63∈bytes s):=by
 rw [index_list]
 change decide (0≤if (stem (bytes s)).length<s.data.toList.length then ((stem (bytes s)).length:Int) else -1)=_
 have hl:s.data.toList.length=(bytes s).length:=by unfold bytes;rw [List.length_map]
 rw [hl]
 by_cases h:(stem (bytes s)).length<(bytes s).length
 ·rw [if_pos h,decide_eq_true (by omega),decide_eq_true]
  rw [← stem_at _ h,List.getD_eq_getElem?_getD,List.getElem?_eq_getElem h]
  exact List.getElem_mem _
 ·rw [if_neg h,decide_eq_false (by omega),decide_eq_false]
  intro hm
  have hs:stem (bytes s)=bytes s:=by rw [stem_take,List.take_of_length_le (by omega)]
  rw [← hs] at hm
  exact stem_no _ _ hm rfl
def okB (r:Rb):Bool:=(decide ((bytes r.pre).getD 0 0=47)&&(seenB (bytes r.pre)&&!decide (63∈bytes r.pre)))&&((decide (bytes r.pro=[])||token (bytes r.pro))&&(!decide (bytes r.dst=[])&&seenB (bytes r.dst)))
set_option maxHeartbeats 4000000 in
theorem maybe_any (a b c:ByteArray) (W:World) (hg:Globs W) (ha:a.size≤maxLen) (hb:b.size≤maxLen) (hc:c.size≤maxLen) (r:Bool) (hr:okB ⟨a,b,c⟩=r) :
 Calls Tryz.prog 98 #[.agg #[.string a,.string b,.string c]] W fun en w'=>en=.returned (.bool r)∧Sl (Below W.heap.size W w'):=by
 unfold okB at hr
 simp only at hr
 obtain ⟨wa,hwa,HBa,hx⟩:=box_of W a b c
 obtain ⟨g,hgg⟩:∃ g,W.heap.size=g:=⟨_,rfl⟩
 have HG0:Sl (g≤wa.heap.size):=⟨by rw [← hgg];exact HBa.out.size⟩
 have HGL:Sl (Globs wa):=⟨hg.of HBa.out⟩
 rw [hgg] at HBa hx ⊢
 have HX:=Sl.mk hx
 clear hx hg
 have P1:Sl (∀ V,Calls Tryz.prog 127 #[.string a,.string {data:=#[47]}] V fun e w'=>e=.returned (.bool (decide ((bytes a).getD 0 0=47)))∧V=w'):=⟨fun V=>(Tryz.strings_HasPrefix a {data:=#[47]} V).mono fun e w' ⟨h1,h2⟩=>⟨h1.trans (by rw [show ({data:=#[47]} : ByteArray).data.toList=[47] from rfl,head_slash];rfl),h2.symm⟩⟩
 have P2:Sl (∀ V r,seenB (bytes a)=r→Calls Tryz.prog 128 #[.string a] V fun e w'=>e=.returned (.bool r)∧V=w'):=⟨fun V r h=>seen_any a V ha r h⟩
 have P3:Sl (∀ V,Calls Tryz.prog 129 #[.string a,.string {data:=#[63]}] V fun e w'=>e=.returned (.bool (decide (63∈bytes a)))∧V=w'):=⟨fun V=>(Tryz.strings_Contains_one a 63 V).mono fun e w' ⟨h1,h2⟩=>⟨h1.trans (by rw [has_mark]),h2.symm⟩⟩
 have P5:Sl (∀ V,Globs V→Calls Tryz.prog 130 #[.string b] V fun e w'=>e=.returned (.bool (token (bytes b)))∧Sl (Below V.heap.size V w')):=⟨fun V h=>token_any b V h hb⟩
 have P7:Sl (∀ V r,seenB (bytes c)=r→Calls Tryz.prog 128 #[.string c] V fun e w'=>e=.returned (.bool r)∧V=w'):=⟨fun V r h=>seen_any c V hc r h⟩
 clear ha hb hc
 obtain ⟨p1,e1⟩:∃ p,decide ((bytes a).getD 0 0=47)=p:=⟨_,rfl⟩
 obtain ⟨p2,e2⟩:∃ p,seenB (bytes a)=p:=⟨_,rfl⟩
 obtain ⟨p3,e3⟩:∃ p,decide (63∈bytes a)=p:=⟨_,rfl⟩
 obtain ⟨p4,e4⟩:∃ p,decide (bytes b=[])=p:=⟨_,rfl⟩
 obtain ⟨p5,e5⟩:∃ p,token (bytes b)=p:=⟨_,rfl⟩
 obtain ⟨p6,e6⟩:∃ p,decide (bytes c=[])=p:=⟨_,rfl⟩
 obtain ⟨p7,e7⟩:∃ p,seenB (bytes c)=p:=⟨_,rfl⟩
 rw [e1] at P1 hr
 rw [e2] at hr
 have Q2:Sl (∀ V,Calls Tryz.prog 128 #[.string a] V fun e w'=>e=.returned (.bool p2)∧V=w'):=⟨fun V=>P2.out V p2 e2⟩
 rw [e3] at P3 hr
 rw [e5] at P5 hr
 rw [e4,e6,e7] at hr
 have Q7:Sl (∀ V,Calls Tryz.prog 128 #[.string c] V fun e w'=>e=.returned (.bool p7)∧V=w'):=⟨fun V=>P7.out V p7 e7⟩
 have E4:=Sl.mk e4
 have E6:=Sl.mk e6
 clear P2 P7 e1 e2 e3 e4 e5 e6 e7
 obtain ⟨q1,hq1⟩:∃ q,(p1&&(p2&&!p3))=q:=⟨_,rfl⟩
 obtain ⟨q2,hq2⟩:∃ q,(p4||p5)=q:=⟨_,rfl⟩
 rw [hq1,hq2] at hr
 have H1:=Sl.mk hq1
 have H2:=Sl.mk hq2
 have HR:=Sl.mk hr
 clear hq1 hq2 hr
 go_enter Tryz.func98,Tryz.ntmps98
 go_upto_region 1 with fail
 (try rw [hwa])
 (try rw [hgg])
 clear hwa hgg
 go_cut [3] (fun s3 wx=>s3=.bool q1∧wa=wx)
 case first =>
  obtain ⟨c0,c1,c2⟩:=rt_cells HX.out
  cases p1 with
  | false =>
    go_wp2_with fail
    refine (P1.out _).mono ?_
    rintro e w1 ⟨rfl,rfl⟩
    go_wp2_with fail
    go_meet
    exact ⟨by rw [← H1.out];rfl,rfl⟩
  | true =>
    go_wp2_with fail
    refine (P1.out _).mono ?_
    rintro e w1 ⟨rfl,rfl⟩
    cases p2 with
    | false =>
      go_wp2_with fail
      refine (Q2.out _).mono ?_
      rintro e w2 ⟨rfl,rfl⟩
      go_wp2_with fail
      go_meet
      exact ⟨by rw [← H1.out];rfl,rfl⟩
    | true =>
      go_wp2_with fail
      refine (Q2.out _).mono ?_
      rintro e w2 ⟨rfl,rfl⟩
      go_wp2_with fail
      refine (P3.out _).mono ?_
      rintro e w3 ⟨rfl,rfl⟩
      cases p3<;>(go_wp2_with fail;go_meet;exact ⟨by rw [← H1.out];rfl,rfl⟩)
 case rest =>
  obtain ⟨rfl,rfl⟩:=hcut
  clear P1 Q2 P3 H1
  go_upto_region 2 with fail
  go_cut [4] (fun s4 wx=>s4=.bool q2∧Sl (Below g W wx)∧Sl (wx.heap[g]? = some (.cells #[.string a,.string b,.string c] 72 (0,0))))
  case first =>
   obtain ⟨c0,c1,c2⟩:=rt_cells HX.out
   cases p4 with
   | true =>
     obtain ⟨n1,n2,n3⟩:=nil_yes E4.out
     go_wp2_with fail
     go_meet
     exact ⟨by rw [← H2.out];rfl,HBa,HX⟩
   | false =>
     obtain ⟨n1,n2,n3⟩:=nil_no E4.out
     go_wp2_with fail
     refine (P5.out _ HGL.out).mono ?_
     rintro e w4 ⟨rfl,HB4⟩
     go_wp2_with fail
     go_meet
     exact ⟨by rw [← H2.out];rfl,⟨HBa.out.trans (HB4.out.mono HG0.out)⟩,⟨below_key HX.out HB4.out⟩⟩
  case rest =>
   obtain ⟨rfl,HB5,HX5⟩:=hcut
   clear P5 H2 HX HBa HGL
   obtain ⟨c0,c1,c2⟩:=rt_cells HX5.out
   cases q1 with
   | false =>
     go_wp2
     go_ret
     exact ⟨ret_bool HR.out,HB5⟩
   | true =>
     cases q2 with
     | false =>
       go_wp2
       go_ret
       exact ⟨ret_bool HR.out,HB5⟩
     | true =>
       cases p6 with
       | true =>
         obtain ⟨n1,n2,n3⟩:=nil_yes E6.out
         go_wp2
         go_ret
         exact ⟨ret_bool HR.out,HB5⟩
       | false =>
         obtain ⟨n1,n2,n3⟩:=nil_no E6.out
         go_wp2_with fail
         refine (Q7.out _).mono ?_
         rintro e w6 ⟨rfl,rfl⟩
         go_wp2
         go_ret
         exact ⟨ret_bool HR.out,HB5⟩
theorem same_any (a b c d e f:ByteArray) (W:World) (g:Nat) (hg:W.heap[g]? = some (.cells #[.string d,.string e,.string f] 72 (0,0))) (r:Bool) (hr:same3 a b c d e f=r) :
 Calls Tryz.prog 97 #[.agg #[.string a,.string b,.string c],.pointer (some ⟨g,0,none⟩)] W fun en w'=>en=.returned (.bool r)∧Sl (Below W.heap.size W w'):=by
 have EQ:=eq_rt a b c d e f
 rw [hr] at EQ
 obtain ⟨wa,hwa,HBa,hx⟩:=box_of W a b c
 have HX:=Sl.mk hx
 have hg2:=below_key hg HBa.out
 obtain ⟨c0,c1,c2⟩:=rt_cells hg2
 obtain ⟨d0,d1,d2⟩:=rt_cells hx
 have hne:g≠W.heap.size:=Nat.ne_of_lt (Array.getElem?_eq_some_iff.1 hg).1
 clear hg hg2 hx
 go_enter Tryz.func97,Tryz.ntmps97
 go_upto_region 1 with fail
 (try rw [hwa])
 go_wp2
 go_ret
 exact ⟨rfl,HBa⟩
end Go.Proofs.YtlahonjmfecikaaGreatDoor.Rou
set_option maxRecDepth 100000
namespace Go.Proofs.YtlahonjmfecikaaGreatDoor.Nam
open Go.RowKit Go.Maps Go.ChangeMaps Go.MapKept
def lit (s:ByteArray):Lit:=.string s.data.toList
def Sd (l:List ByteArray):DataW Unit:=setOf (.agg []) (l.map lit)
def SetAt (w:World) (b:Nat) (l:List ByteArray):Prop:=w.ownsMap Tryz.prog 9 (unitElem (H:=Unit)) b l.length (Sd l)
theorem SetAt.below {w w':World} {b:Nat} {l:List ByteArray} (h:SetAt w b l) (hb:Below w.heap.size w w'):SetAt w' b l :=
 h.kept (grown_below hb none) (by simp)
def fewB (l:List ByteArray):Bool:=(l.all fun s=>decide (s.size≤300))&&decide (l.length≤30)
theorem getD_mem {l:List ByteArray} {k:Nat} (hk:k<l.length):l.getD k ByteArray.empty∈l:=by
 rw [List.getD_eq_getElem?_getD,List.getElem?_eq_getElem hk];exact List.getElem_mem _
set_option maxHeartbeats 800000 in
theorem few_any (l:List ByteArray) (v:Value) (W:World) (hv:StrA W v l) (hl:l.length≤maxLen) (hs:∀ s∈l,s.size≤maxLen):Calls Tryz.prog 36 #[v] W fun e w'=>e=.returned (.bool (fewB l))∧W=w':=by
 obtain ⟨ad,ca,sa,oa,rfl,hca,haa,hcell⟩:=hv
 unfold maxLen at hl hs
 have HA:=Sl.mk hcell
 have HAA:=Sl.mk haa
 have HSZ:=Sl.mk hs
 clear hcell haa hca hs
 obtain ⟨n,hn⟩:∃ n,l.length=n:=⟨_,rfl⟩
 have HN:=Sl.mk hn
 rw [hn] at hl ⊢
 clear hn
 go_enter Tryz.func36,Tryz.ntmps36
 go_wp2
 go_loop [3] (fun i=>∃ k:Nat,k≤n∧i=.int .i64 k∧Sl (∀ j,j<k→(l.getD j ByteArray.empty).size≤300)) (fun i=>n-(intOf i).toNat)
 case atStart=>exact ⟨0,Nat.zero_le _,rfl,⟨fun j hj=>by omega⟩⟩
 case round =>
  obtain ⟨k,hk,rfl,HE⟩:=hrel
  by_cases hlt:k<n
  ·obtain rfl:=HAA.out (by rw [HN.out];omega)
   obtain ⟨p,hp⟩:∃ p,l.getD k ByteArray.empty=p:=⟨_,rfl⟩
   have HP:=Sl.mk hp
   have hps:p.size≤2 ^ 63-1:=HSZ.out p (by rw [← hp];exact getD_mem (by rw [HN.out];exact hlt))
   have e0:W.cell? ⟨sa,oa+k,none⟩=some (.string p):=by rw [HA.out k (by rw [HN.out];omega),hp]
   have hk0:(0:Int)≤(k:Int):=by omega
   have hk1:(k:Int)<(n:Int):=by omega
   clear hp
   by_cases h3:p.size≤300
   ·have h3':((300:Int)<(p.size:Int))=False:=eq_false (by omega)
    go_wp2
    go_round
    case rel =>
     refine ⟨k+1,by omega,by go_num,⟨fun j hj=>?_⟩⟩
     by_cases e:j=k
     ·subst e;rw [HP.out];exact h3
     ·exact HE.out j (by omega)
    case measure=>simp [intOf];omega
   ·have h3':((300:Int)<(p.size:Int))=True:=eq_true (by omega)
    go_wp2
    go_ret
    refine ⟨ret_bool ?_,rfl⟩
    unfold fewB
    rw [show (l.all fun s=>decide (s.size≤300))=false from by
     rw [List.all_eq_false]
     exact ⟨p,by rw [← HP.out];exact getD_mem (by rw [HN.out];exact hlt),by simpa using h3⟩]
    rfl
  ·have hge:((k:Int)<(n:Int))=False:=eq_false (by omega)
   have HALL:Sl ((l.all fun s=>decide (s.size≤300))=true):=⟨by
    rw [List.all_eq_true]
    intro s hs
    obtain ⟨j,hj,rfl⟩:=List.mem_iff_getElem.1 hs
    have:=HE.out j (by rw [HN.out] at hj;omega)
    rw [List.getD_eq_getElem?_getD,List.getElem?_eq_getElem hj] at this
    exact decide_eq_true this⟩
   go_wp2
   go_ret
   refine ⟨ret_bool ?_,rfl⟩
   unfold fewB
   rw [HALL.out,Bool.true_and,HN.out,Bool.eq_iff_iff]
   simp
   omega
end Go.Proofs.YtlahonjmfecikaaGreatDoor.Nam
namespace Go.Proofs.YtlahonjmfecikaaGreatDoor
open Go.RowKit
end Go.Proofs.YtlahonjmfecikaaGreatDoor
set_option maxRecDepth 100000
namespace Go.Proofs.YtlahonjmfecikaaGreatDoor.Rou
open Go.RowKit
open HeadPlain (token)
open RoutePlain (Rt)
def oneOf (l:List Rb) (r:Rb):Bool:=l.any fun x=>same3 x.pre x.pro x.dst r.pre r.pro r.dst
theorem oneOf_hit {l:List Rb} {r:Rb} {k:Nat} (hk:k<l.length) (h:same3 (l.getD k Rb0).pre (l.getD k Rb0).pro (l.getD k Rb0).dst r.pre r.pro r.dst=true):oneOf l r=true:=by
 unfold oneOf
 rw [List.any_eq_true]
 exact ⟨_,by rw [List.getD_eq_getElem?_getD,List.getElem?_eq_getElem hk];exact List.getElem_mem _,h⟩
theorem oneOf_miss {l:List Rb} {r:Rb} (h:∀ k,k<l.length→same3 (l.getD k Rb0).pre (l.getD k Rb0).pro (l.getD k Rb0).dst r.pre r.pro r.dst=false):oneOf l r=false:=by
 unfold oneOf
 rw [List.any_eq_false]
 intro x hx
 obtain ⟨k,hk,rfl⟩:=List.getElem_of_mem hx
 have:=h k hk
 rw [List.getD_eq_getElem?_getD,List.getElem?_eq_getElem hk] at this
 rw [Bool.not_eq_true];exact this
def IdxT (b:Bool) (e:Ending):Prop:=∃ z:Int,e=.returned (.int .i64 z)∧decide (0≤z)=b
set_option maxHeartbeats 1000000 in
theorem rif_any (l:List Rb) (v:Value) (W:World) (hv:RtsAt W v l) (hl:l.length≤1000000) (d e f:ByteArray) (g:Nat) (hg:W.heap[g]? = some (.cells #[.string d,.string e,.string f] 72 (0,0))) (r:Bool) (hr:oneOf l ⟨d,e,f⟩=r) :
 Calls Tryz.prog 131 #[v,.func (.func 97) #[] #[.pointer (some ⟨g,0,none⟩)]] W fun en w'=>IdxT r en∧Sl (Below W.heap.size W w'):=by
 have HR:=Sl.mk hr
 have HGG:=Sl.mk hg
 obtain ⟨a,cap,rfl⟩:=hv.slice
 have HV:=Sl.mk hv
 obtain ⟨n,hn⟩:∃ n,l.length=n:=⟨_,rfl⟩
 have HN:=Sl.mk hn
 rw [hn] at HV hl ⊢
 clear hv hn hr hg
 go_enter Tryz.func131,Tryz.ntmps131
 go_wp2
 go_loopw [8] (fun i wr=>∃ k:Nat,k≤n∧i=.int .i64 k∧Sl (Below W.heap.size W wr)∧Sl (∀ j,j<k→same3 (l.getD j Rb0).pre (l.getD j Rb0).pro (l.getD j Rb0).dst d e f=false)) (fun i _=>n-(intOf i).toNat)
 case atStart=>exact ⟨0,Nat.zero_le _,rfl,⟨Below.refl _ _⟩,⟨fun j hj=>by omega⟩⟩
 case round =>
  obtain ⟨k,hk,rfl,HB,HA⟩:=hrel
  by_cases hlt:k<n
  ·have hq:((k:Int)<(n:Int))=True:=eq_true (by omega)
   have hkl:k<l.length:=by rw [HN.out];exact hlt
   obtain ⟨sb,so,rfl⟩:=HV.out.cap.2.2 (by omega)
   obtain ⟨x,y,z,he⟩:∃ x y z,l.getD k Rb0=⟨x,y,z⟩:=⟨_,_,_,rfl⟩
   have HE:=Sl.mk he
   obtain ⟨c0,c1,c2⟩:=(HV.out.below HB.out).at3 k hkl he
   obtain ⟨p,hp⟩:∃ p,same3 x y z d e f=p:=⟨_,rfl⟩
   have HP:=Sl.mk hp
   have HS:=same_any x y z d e f wr g (below_key HGG.out HB.out) p hp
   clear he hp
   go_wp2_with fail
   refine (HS).mono ?_
   rintro e w2 ⟨rfl,HB2⟩
   clear HS
   have HB3:Sl (Below W.heap.size W w2):=⟨HB.out.trans (HB2.out.mono HB.out.size)⟩
   cases p with
   | true =>
     have HH:Sl (r=true):=⟨by rw [← HR.out];exact oneOf_hit hkl (by rw [HE.out];exact HP.out)⟩
     go_wp2
     go_ret
     exact ⟨⟨_,rfl,by rw [HH.out];exact decide_eq_true (by omega)⟩,HB3⟩
   | false =>
     go_wp2
     refine ⟨⟨k+1,by omega,by go_num,HB3,⟨fun j hj=>?_⟩⟩,by simp [intOf];omega⟩
     by_cases e:j=k
     ·subst e;rw [HE.out];exact HP.out
     ·exact HA.out j (by omega)
  ·obtain rfl:k=n:=by omega
   have hge:((k:Int)<(k:Int))=False:=eq_false (by omega)
   have HH:Sl (r=false):=⟨by rw [← HR.out];exact oneOf_miss (fun j hj=>HA.out j (by rw [HN.out] at hj;exact hj))⟩
   go_wp2
   go_ret
   exact ⟨⟨_,rfl,by rw [HH.out];rfl⟩,HB⟩
theorem rcf_any (l:List Rb) (v:Value) (W:World) (hv:RtsAt W v l) (hl:l.length≤1000000) (d e f:ByteArray) (g:Nat) (hg:W.heap[g]? = some (.cells #[.string d,.string e,.string f] 72 (0,0))) (r:Bool) (hr:oneOf l ⟨d,e,f⟩=r) :
 Calls Tryz.prog 99 #[v,.func (.func 97) #[] #[.pointer (some ⟨g,0,none⟩)]] W fun en w'=>en=.returned (.bool r)∧Sl (Below W.heap.size W w'):=by
 have HX:=Sl.mk (rif_any l v W hv hl d e f g hg r hr)
 clear hv hr hg
 go_enter Tryz.func99,Tryz.ntmps99
 go_wp2_with fail
 refine HX.out.mono ?_
 rintro e w2 ⟨⟨z,rfl,hz⟩,HB2⟩
 have HZ:=Sl.mk hz
 clear hz HX
 go_wp2
 go_ret
 exact ⟨ret_bool HZ.out,HB2⟩
def okAt (l:List Rb) (i:Nat):Bool:=okB (l.getD i Rb0)&&!oneOf (l.take i) (l.getD i Rb0)
def okRs (l:List Rb):Bool:=decide (1≤l.length)&&(decide (l.length≤16)&&(List.range l.length).all (okAt l))
theorem okRs_no {l:List Rb} {k:Nat} (hk:k<l.length) (h:okAt l k=false):okRs l=false:=by
 unfold okRs
 rw [show (List.range l.length).all (okAt l)=false from by rw [List.all_eq_false];exact ⟨k,List.mem_range.2 hk,by rw [h];decide⟩,Bool.and_false,Bool.and_false]
theorem okRs_yes {l:List Rb} (h1:1≤l.length) (h2:l.length≤16) (h:∀ k,k<l.length→okAt l k=true):okRs l=true:=by
 unfold okRs
 rw [decide_eq_true h1,decide_eq_true h2,Bool.true_and,Bool.true_and,List.all_eq_true]
 exact fun k hk=>h k (List.mem_range.1 hk)
theorem okRs_few {l:List Rb} (h:¬ (1≤l.length∧l.length≤16)):okRs l=false:=by
 unfold okRs
 by_cases h1:1≤l.length
 ·rw [decide_eq_false (show ¬ l.length≤16 by omega),Bool.false_and,Bool.and_false]
 ·rw [decide_eq_false h1,Bool.false_and]
set_option maxHeartbeats 2000000 in
theorem allmay_any (l:List Rb) (v:Value) (W:World) (hg:Globs W) (hv:RtsAt W v l) (ok:∀ r∈l,RbOk r) (hl:l.length≤1000000) (r:Bool) (hr:okRs l=r) :
 Calls Tryz.prog 70 #[v] W fun en w'=>en=.returned (.bool r)∧Sl (Below W.heap.size W w'):=by
 have HR:=Sl.mk hr
 have HG:=Sl.mk hg
 have HOK:=Sl.mk ok
 obtain ⟨a,cap,rfl⟩:=hv.slice
 have HV:=Sl.mk hv
 obtain ⟨n,hn⟩:∃ n,l.length=n:=⟨_,rfl⟩
 have HN:=Sl.mk hn
 rw [hn] at HV hl ⊢
 have hcap:n≤cap:=HV.out.cap.2.1
 clear hv hn hr hg ok
 by_cases h1:n<1
 ·have h1':((n:Int)<1)=True:=eq_true (by omega)
  have HF:Sl (false=r):=⟨by rw [← HR.out];exact (okRs_few (by rw [HN.out];omega)).symm⟩
  go_enter Tryz.func70,Tryz.ntmps70
  go_wp2
  go_ret
  exact ⟨ret_bool HF.out,⟨Below.refl _ _⟩⟩
 have h1':((n:Int)<1)=False:=eq_false (by omega)
 by_cases h2:n>16
 ·have h2':((n:Int)>16)=True:=eq_true (by omega)
  have HF:Sl (false=r):=⟨by rw [← HR.out];exact (okRs_few (by rw [HN.out];omega)).symm⟩
  go_enter Tryz.func70,Tryz.ntmps70
  go_wp2
  go_ret
  exact ⟨ret_bool HF.out,⟨Below.refl _ _⟩⟩
 have h2':((n:Int)>16)=False:=eq_false (by omega)
 go_enter Tryz.func70,Tryz.ntmps70
 go_wp2
 go_loopw [16] (fun i wr=>∃ k:Nat,k≤n∧i=.int .i64 k∧Sl (Below W.heap.size W wr)∧Sl (∀ j,j<k→okAt l j=true)) (fun i _=>n-(intOf i).toNat)
 case atStart=>exact ⟨0,Nat.zero_le _,rfl,⟨Below.refl _ _⟩,⟨fun j hj=>by omega⟩⟩
 case round =>
  obtain ⟨k,hk,rfl,HB,HA⟩:=hrel
  by_cases hlt:k<n
  ·have hq:((k:Int)<(n:Int))=True:=eq_true (by omega)
   have hkl:k<l.length:=by rw [HN.out];exact hlt
   obtain ⟨sb,so,rfl⟩:=HV.out.cap.2.2 (by omega)
   obtain ⟨x,y,z,he⟩:∃ x y z,l.getD k Rb0=⟨x,y,z⟩:=⟨_,_,_,rfl⟩
   have HE:=Sl.mk he
   have hok:RbOk ⟨x,y,z⟩:=by
    rw [← he];refine HOK.out _ ?_
    rw [List.getD_eq_getElem?_getD,List.getElem?_eq_getElem hkl];exact List.getElem_mem _
   obtain ⟨c0,c1,c2⟩:=(HV.out.below HB.out).at3 k hkl he
   obtain ⟨wa,hwa,HBa,hx⟩:=box_rt wr
   obtain ⟨wb,hwb,HBb,HX⟩:=set_rt hx HBa.out (Nat.le_refl _) #[.string x,.string y,.string z]
   have HI:(Tryz.prog.info? 72).map (·.size)=some (#[Value.string x,.string y,.string z]:Array Value).size:=rt_info rfl
   have HB0:Sl (Below W.heap.size W wb):=⟨HB.out.trans (HBb.out.mono HB.out.size)⟩
   obtain ⟨p,hp⟩:∃ p,okB ⟨x,y,z⟩=p:=⟨_,rfl⟩
   have HP:=Sl.mk hp
   have MB:=Sl.mk (maybe_any x y z wb (HG.out.of HB0.out) hok.p hok.q hok.t p hp)
   obtain ⟨q,hq2⟩:∃ q,oneOf (l.take k) ⟨x,y,z⟩=q:=⟨_,rfl⟩
   have HQ:=Sl.mk hq2
   have HV2:=Sl.mk (HV.out.below HB0.out)
   have hk3:(k:Int)≤(cap:Int):=by omega
   have hk4:(0:Int)≤(k:Int):=by omega
   clear he hp hq2 hok
   go_upto_region 6 with (refine wpList_store_row rfl 72 (.tmp 4) (.tmp 20) rfl wr.heap.size #[.string x,.string y,.string z] rfl rfl 72 #[.string {data:=#[]},.string {data:=#[]},.string {data:=#[]}] hx HI rfl (rt_all _ _ _) ?_)
   (try rw [hwb])
   clear hwa hwb hx HBa HBb c0 c1 c2
   obtain ⟨g,hgg⟩:∃ g,wr.heap.size=g:=⟨_,rfl⟩
   rw [hgg] at HX
   (try rw [hgg])
   obtain ⟨d0,d1,d2⟩:=rt_cells HX.out
   go_wp2_with fail
   refine (MB.out).mono ?_
   rintro e w2 ⟨rfl,HB2⟩
   clear MB d0 d1 d2
   have HB3:Sl (Below W.heap.size W w2):=⟨HB0.out.trans (HB2.out.mono HB0.out.size)⟩
   cases p with
   | false =>
     have HF:Sl (false=r):=⟨by rw [← HR.out,okRs_no hkl (by unfold okAt;rw [HE.out,HP.out];rfl)]⟩
     go_wp2
     go_ret
     exact ⟨ret_bool HF.out,HB3⟩
   | true =>
     have HC:=Sl.mk (rcf_any (l.take k) (.slice (some ⟨sb,so,none⟩) k cap) w2 ((HV2.out.below HB2.out).to (Nat.le_of_lt hlt) (by omega)) (by rw [List.length_take];omega) x y z g (below_key HX.out HB2.out) q HQ.out)
     go_wp2_with fail
     refine (HC.out).mono ?_
     rintro e w4 ⟨rfl,HB4⟩
     clear HC
     have HB5:Sl (Below W.heap.size W w4):=⟨HB3.out.trans (HB4.out.mono HB3.out.size)⟩
     cases q with
     | true =>
       have HF:Sl (false=r):=⟨by rw [← HR.out,okRs_no hkl (by unfold okAt;rw [HE.out,HQ.out,Bool.not_true,Bool.and_false])]⟩
       go_wp2
       go_ret
       exact ⟨ret_bool HF.out,HB5⟩
     | false =>
       go_wp2
       refine ⟨⟨k+1,by omega,by go_num,HB5,⟨fun j hj=>?_⟩⟩,by simp [intOf];omega⟩
       by_cases e:j=k
       ·subst e;unfold okAt;rw [HE.out,HP.out,HQ.out];rfl
       ·exact HA.out j (by omega)
  ·obtain rfl:k=n:=by omega
   have hge:((k:Int)<(k:Int))=False:=eq_false (by omega)
   have HT:Sl (true=r):=⟨by rw [← HR.out,okRs_yes (by rw [HN.out];omega) (by rw [HN.out];omega) (fun j hj=>HA.out j (by rw [HN.out] at hj;exact hj))]⟩
   go_wp2
   go_ret
   exact ⟨ret_bool HT.out,HB⟩
end Go.Proofs.YtlahonjmfecikaaGreatDoor.Rou
set_option maxRecDepth 100000
namespace Go.Proofs.YtlahonjmfecikaaGreatDoor.Rou
open Go.RowKit
open HeadPlain (token)
open RoutePlain (Rt)
structure Sp where
 n:Int
 least:Int
 most:Int
def outB (s:Sp):Bool:=decide (s.n<s.least)||decide (s.most<s.n)
def sc (s:Sp):List Value:=[.int .i64 s.n,.int .i64 s.least,.int .i64 s.most]
def scs (l:List Sp):List Value:=l.flatMap sc
def Sp0:Sp:=⟨0,0,0⟩
theorem scs_get:∀ (es:List Sp) (i:Nat),i<es.length→∀ j,j<3→(scs es)[i*3+j]? = (sc (es.getD i Sp0))[j]?
 | [],i,hi,_,_=>by simp at hi
 | e :: es,0,_,j,hj=>by
   rw [show scs (e :: es)=sc e++scs es from rfl,Nat.zero_mul,Nat.zero_add,List.getElem?_append_left (by simpa [sc] using hj)];rfl
 | e :: es,i+1,hi,j,hj=>by
   rw [show scs (e :: es)=sc e++scs es from rfl,show (i+1)*3+j=i*3+j+3 from by omega,List.getElem?_append_right (by simp [sc])]
   have:=scs_get es i (by simpa using hi) j hj
   simpa [sc] using this
theorem sp_at {W:World} {g k:Nat} {l:List Sp} {t:TypeId} (h:W.heap[g]? = some (.cells (scs l).toArray t (0,0))) (hk:k<l.length) {n a b:Int} (he:l.getD k Sp0=⟨n,a,b⟩) :
 W.cell? ⟨g,0+k*3,none⟩=some (.int .i64 n)∧W.cell? ⟨g,0+k*3+1,none⟩=some (.int .i64 a)∧W.cell? ⟨g,0+k*3+2,none⟩=some (.int .i64 b):=by
 have key:∀ j,j<3→W.cell? ⟨g,0+k*3+j,none⟩=(sc ⟨n,a,b⟩)[j]?:=fun j hj=>by
  rw [Nat.zero_add,cell_of_row _ _ _ _ _ _ h,List.getElem?_toArray,scs_get l k hk j hj,he]
 exact ⟨key 0 (by decide),key 1 (by decide),key 2 (by decide)⟩
theorem outside_any (n a b:Int) (W:World) (r:Bool) (hr:outB ⟨n,a,b⟩=r):Calls Tryz.prog 69 #[.agg #[.int .i64 n,.int .i64 a,.int .i64 b]] W fun en w'=>en=.returned (.bool r)∧Sl (Below W.heap.size W w'):=by
 have HB:∀ o,Sl (Below W.heap.size W (W.alloc o)):=fun o=>⟨(Below.refl _ _).alloc (Nat.le_refl _) _⟩
 unfold outB at hr
 simp only at hr
 by_cases h1:n<a
 ·have h1':(n<a)=True:=eq_true h1
  have HR:Sl (true=r):=⟨by rw [← hr,decide_eq_true h1];rfl⟩
  clear hr h1
  go_enter Tryz.func69,Tryz.ntmps69
  go_wp2
  go_ret
  exact ⟨ret_bool HR.out,HB _⟩
 ·have h1':(n<a)=False:=eq_false h1
  have h1a:a≤n:=by omega
  have HR0:Sl (decide (b<n)=r):=⟨by rw [← hr,decide_eq_false h1];rfl⟩
  clear hr
  by_cases h2:b<n
  ·have h2':(n>b)=True:=eq_true h2
   have HR:Sl (true=r):=⟨by rw [← HR0.out,decide_eq_true h2]⟩
   clear h2 HR0
   go_enter Tryz.func69,Tryz.ntmps69
   go_wp2
   go_ret
   exact ⟨ret_bool HR.out,HB _⟩
  ·have h2':(n>b)=False:=eq_false h2
   have h2a:n≤b:=by omega
   have HR:Sl (false=r):=⟨by rw [← HR0.out,decide_eq_false h2]⟩
   clear h2 HR0
   go_enter Tryz.func69,Tryz.ntmps69
   go_wp2
   go_ret
   exact ⟨ret_bool HR.out,HB _⟩
set_option maxHeartbeats 1000000 in
theorem sif_any (l:List Sp) (W:World) (hl:l.length≤1000000) (g:Nat) (hg:W.heap[g]? = some (.cells (scs l).toArray 112 (0,0))) (r:Bool) (hr:l.any outB=r) :
 Calls Tryz.prog 100 #[.slice (some ⟨g,0,none⟩) l.length l.length,.func (.func 69) #[] #[]] W fun en w'=>IdxT r en∧Sl (Below W.heap.size W w'):=by
 have HR:=Sl.mk hr
 have HGG:=Sl.mk hg
 obtain ⟨n,hn⟩:∃ n,l.length=n:=⟨_,rfl⟩
 have HN:=Sl.mk hn
 rw [hn] at hl ⊢
 clear hn hr hg
 go_enter Tryz.func100,Tryz.ntmps100
 go_wp2
 go_loopw [8] (fun i wr=>∃ k:Nat,k≤n∧i=.int .i64 k∧Sl (Below W.heap.size W wr)∧Sl (∀ j,j<k→outB (l.getD j Sp0)=false)) (fun i _=>n-(intOf i).toNat)
 case atStart=>exact ⟨0,Nat.zero_le _,rfl,⟨Below.refl _ _⟩,⟨fun j hj=>by omega⟩⟩
 case round =>
  obtain ⟨k,hk,rfl,HB,HA⟩:=hrel
  by_cases hlt:k<n
  ·have hq:((k:Int)<(n:Int))=True:=eq_true (by omega)
   have hkl:k<l.length:=by rw [HN.out];exact hlt
   obtain ⟨x,y,z,he⟩:∃ x y z,l.getD k Sp0=⟨x,y,z⟩:=⟨_,_,_,rfl⟩
   have HE:=Sl.mk he
   obtain ⟨c0,c1,c2⟩:=sp_at (below_key HGG.out HB.out) hkl he
   rw [Nat.zero_add] at c0 c1 c2
   obtain ⟨p,hp⟩:∃ p,outB ⟨x,y,z⟩=p:=⟨_,rfl⟩
   have HP:=Sl.mk hp
   have HS:=outside_any x y z wr p hp
   clear he hp
   go_wp2_with fail
   refine (HS).mono ?_
   rintro e w2 ⟨rfl,HB2⟩
   clear HS
   have HB3:Sl (Below W.heap.size W w2):=⟨HB.out.trans (HB2.out.mono HB.out.size)⟩
   cases p with
   | true =>
     have HH:Sl (r=true):=⟨by
      rw [← HR.out,List.any_eq_true]
      exact ⟨l.getD k Sp0,by rw [List.getD_eq_getElem?_getD,List.getElem?_eq_getElem hkl];exact List.getElem_mem _,by rw [HE.out];exact HP.out⟩⟩
     go_wp2
     go_ret
     exact ⟨⟨_,rfl,by rw [HH.out];exact decide_eq_true (by omega)⟩,HB3⟩
   | false =>
     go_wp2
     refine ⟨⟨k+1,by omega,by go_num,HB3,⟨fun j hj=>?_⟩⟩,by simp [intOf];omega⟩
     by_cases e:j=k
     ·subst e;rw [HE.out];exact HP.out
     ·exact HA.out j (by omega)
  ·obtain rfl:k=n:=by omega
   have hge:((k:Int)<(k:Int))=False:=eq_false (by omega)
   have HH:Sl (r=false):=⟨by
    rw [← HR.out,List.any_eq_false]
    intro x hx
    obtain ⟨j,hj,rfl⟩:=List.getElem_of_mem hx
    have:=HA.out j (by rw [HN.out] at hj;exact hj)
    rw [List.getD_eq_getElem?_getD,List.getElem?_eq_getElem hj] at this
    rw [Bool.not_eq_true];exact this⟩
   go_wp2
   go_ret
   exact ⟨⟨_,rfl,by rw [HH.out];rfl⟩,HB⟩
theorem scf_any (l:List Sp) (W:World) (hl:l.length≤1000000) (g:Nat) (hg:W.heap[g]? = some (.cells (scs l).toArray 112 (0,0))) (r:Bool) (hr:l.any outB=r) :
 Calls Tryz.prog 71 #[.slice (some ⟨g,0,none⟩) l.length l.length,.func (.func 69) #[] #[]] W fun en w'=>en=.returned (.bool r)∧Sl (Below W.heap.size W w'):=by
 have HX:=Sl.mk (sif_any l W hl g hg r hr)
 clear hr hg
 go_enter Tryz.func71,Tryz.ntmps71
 go_wp2_with fail
 refine HX.out.mono ?_
 rintro e w2 ⟨⟨z,rfl,hz⟩,HB2⟩
 have HZ:=Sl.mk hz
 clear hz HX
 go_wp2
 go_ret
 exact ⟨ret_bool HZ.out,HB2⟩
def spansL (tb ms fr ct bs ot sh id po cl:Int):List Sp:=[⟨tb,1,64⟩,⟨ms,1,65536⟩,⟨fr,1,65536⟩,⟨ct,1,1024⟩,⟨bs,ms,4194304⟩,⟨ot,1,65536⟩,⟨sh,1,1073741824⟩,⟨id,1,1073741824⟩,⟨po,1,1073741824⟩,⟨cl,1,1073741824⟩]
theorem spans_any (a1:Option Addr) (n1 c1:Nat) (a2:Option Addr) (n2 c2:Nat) (tb ms fr ct bs ot sh id po cl:Int) (W:World) :
 Calls Tryz.prog 72 #[.agg #[.slice a1 n1 c1,.slice a2 n2 c2,.int .i64 tb,.int .i64 ms,.int .i64 fr,.int .i64 ct,.int .i64 bs,.int .i64 ot,.int .i64 sh,.int .i64 id,.int .i64 po,.int .i64 cl]] W fun en w'=>∃ g,en=.returned (.slice (some ⟨g,0,none⟩) 10 10)∧Sl (w'.heap[g]? = some (.cells (scs (spansL tb ms fr ct bs ot sh id po cl)).toArray 112 (0,0)))∧Sl (Below W.heap.size W w'):=by
 go_enter Tryz.func72,Tryz.ntmps72
 go_wp2
 go_ret
 exact ⟨_,rfl,⟨alloc_new _ _ _ (by rw [alloc_size])⟩,⟨((Below.refl _ _).alloc (Nat.le_refl _) _).alloc (by rw [alloc_size];omega) _⟩⟩
def checkB (rs:List Rb) (no:Nat) (tb ms fr ct bs ot sh id po cl:Int):Bool:=okRs rs&&(decide (no≤16)&&!(spansL tb ms fr ct bs ot sh id po cl).any outB)
def errOf (b:Bool):Int:=if b=true then 0 else 150
theorem cfg_box (W:World) (cs:Array Value):∃ V,W.alloc (.cells cs 25)=V∧Sl (Below W.heap.size W V)∧V.heap[W.heap.size]? = some (.cells cs 25 (0,0)) :=
 ⟨_,rfl,⟨(Below.refl _ _).alloc (Nat.le_refl _) _⟩,alloc_new _ _ _ rfl⟩
theorem cell_at {W:World} {g:Nat} {cs:Array Value} {t:TypeId} (h:W.heap[g]? = some (.cells cs t (0,0))) (i:Nat) (v:Value) (hi:cs[i]? = some v):W.cell? ⟨g,i,none⟩=some v:=by rw [cell_of_row _ _ _ _ _ _ h];exact hi
set_option maxHeartbeats 4000000 in
theorem check_any (rs:List Rb) (a1:Option Addr) (n1 c1:Nat) (a2:Option Addr) (n2 c2:Nat) (tb ms fr ct bs ot sh id po cl:Int) (W:World) (hg:Globs W) (hv:RtsAt W (.slice a1 n1 c1) rs) (ok:∀ r∈rs,RbOk r) (hl:rs.length≤1000000) (r:Bool) (hr:checkB rs n2 tb ms fr ct bs ot sh id po cl=r) :
 Calls Tryz.prog 37 #[.agg #[.slice a1 n1 c1,.slice a2 n2 c2,.int .i64 tb,.int .i64 ms,.int .i64 fr,.int .i64 ct,.int .i64 bs,.int .i64 ot,.int .i64 sh,.int .i64 id,.int .i64 po,.int .i64 cl]] W fun en w'=>en=.returned (.int .i64 (errOf r))∧Sl (Below W.heap.size W w'):=by
 unfold checkB at hr
 obtain ⟨wa,hwa,HBa,hx⟩:=cfg_box W #[.slice a1 n1 c1,.slice a2 n2 c2,.int .i64 tb,.int .i64 ms,.int .i64 fr,.int .i64 ct,.int .i64 bs,.int .i64 ot,.int .i64 sh,.int .i64 id,.int .i64 po,.int .i64 cl]
 obtain ⟨g,hgg⟩:∃ g,W.heap.size=g:=⟨_,rfl⟩
 have HG1:=Sl.mk (hg.of HBa.out)
 have HV1:=Sl.mk (hv.below HBa.out)
 obtain ⟨p,hp⟩:∃ p,okRs rs=p:=⟨_,rfl⟩
 have AM:=Sl.mk (allmay_any rs (.slice a1 n1 c1) wa HG1.out HV1.out ok hl p hp)
 have SP:Sl (∀ V,Calls Tryz.prog 72 #[.agg #[.slice a1 n1 c1,.slice a2 n2 c2,.int .i64 tb,.int .i64 ms,.int .i64 fr,.int .i64 ct,.int .i64 bs,.int .i64 ot,.int .i64 sh,.int .i64 id,.int .i64 po,.int .i64 cl]] V fun en w'=>∃ g,en=.returned (.slice (some ⟨g,0,none⟩) 10 10)∧Sl (w'.heap[g]? = some (.cells (scs (spansL tb ms fr ct bs ot sh id po cl)).toArray 112 (0,0)))∧Sl (Below V.heap.size V w')):=⟨fun V=>spans_any a1 n1 c1 a2 n2 c2 tb ms fr ct bs ot sh id po cl V⟩
 obtain ⟨L,hL⟩:∃ L,spansL tb ms fr ct bs ot sh id po cl=L:=⟨_,rfl⟩
 have HLL:Sl (L.length=10):=⟨by rw [← hL];rfl⟩
 rw [hL] at SP hr
 rw [hp] at hr
 obtain ⟨q,hq⟩:∃ q,L.any outB=q:=⟨_,rfl⟩
 have HQ:=Sl.mk hq
 rw [hq] at hr
 have HR:=Sl.mk hr
 rw [hgg] at HBa hx ⊢
 have HX:=Sl.mk hx
 have HLT:Sl (g≤wa.heap.size):=⟨by rw [← hgg];exact HBa.out.size⟩
 clear hr hq hL hp hg hv ok HG1 HV1 hx
 go_enter Tryz.func37,Tryz.ntmps37
 go_upto_region 1 with fail
 (try rw [hwa])
 (try rw [hgg])
 clear hwa hgg
 have c0:=cell_at HX.out 0 _ rfl
 have d1:=cell_at HX.out 1 _ rfl
 go_wp2_with fail
 refine (AM.out).mono ?_
 rintro e w2 ⟨rfl,HB2⟩
 clear AM c0 d1
 have HX2:=Sl.mk (below_key HX.out HB2.out)
 have HB3:Sl (Below g W w2):=⟨HBa.out.trans (HB2.out.mono HLT.out)⟩
 have k0:=cell_at HX2.out 0 _ rfl
 have k1:=cell_at HX2.out 1 _ rfl
 have k2:=cell_at HX2.out 2 _ rfl
 have k3:=cell_at HX2.out 3 _ rfl
 have k4:=cell_at HX2.out 4 _ rfl
 have k5:=cell_at HX2.out 5 _ rfl
 have k6:=cell_at HX2.out 6 _ rfl
 have k7:=cell_at HX2.out 7 _ rfl
 have k8:=cell_at HX2.out 8 _ rfl
 have k9:=cell_at HX2.out 9 _ rfl
 have k10:=cell_at HX2.out 10 _ rfl
 have k11:=cell_at HX2.out 11 _ rfl
 cases p with
 | false =>
   have HF:Sl (errOf r=150):=⟨by rw [← HR.out];rfl⟩
   go_wp2
   go_ret
   exact ⟨ret_int HF.out.symm,HB3⟩
 | true =>
   by_cases hn:n2>16
   ·have hn':((n2:Int)>16)=True:=eq_true (by omega)
    have HF:Sl (errOf r=150):=⟨by rw [← HR.out,decide_eq_false (by omega)];rfl⟩
    go_wp2
    go_ret
    exact ⟨ret_int HF.out.symm,HB3⟩
   ·have hn':((n2:Int)>16)=False:=eq_false (by omega)
    have HR2:Sl ((!q)=r):=⟨by rw [← HR.out,decide_eq_true (by omega),Bool.true_and,Bool.true_and]⟩
    clear hn
    go_wp2_with fail
    refine (SP.out _).mono ?_
    rintro e w3 ⟨x,rfl,HS3,HB4⟩
    clear SP
    have HB5:Sl (Below g W w3):=⟨HB3.out.trans (HB4.out.mono (Nat.le_trans HLT.out HB2.out.size))⟩
    have SC:=Sl.mk (scf_any L w3 (by rw [HLL.out];omega) x HS3.out q HQ.out)
    rw [HLL.out] at SC
    go_wp2_with fail
    refine (SC.out).mono ?_
    rintro e w4 ⟨rfl,HB6⟩
    clear SC
    have HB7:Sl (Below g W w4):=⟨HB5.out.trans (HB6.out.mono (Nat.le_trans (Nat.le_trans HLT.out HB2.out.size) HB4.out.size))⟩
    cases q with
    | true =>
      have HF:Sl (errOf r=150):=⟨by rw [← HR2.out];rfl⟩
      go_wp2
      go_ret
      exact ⟨ret_int HF.out.symm,HB7⟩
    | false =>
      have HF:Sl (errOf r=0):=⟨by rw [← HR2.out];rfl⟩
      go_wp2
      go_ret
      exact ⟨ret_int HF.out.symm,HB7⟩
end Go.Proofs.YtlahonjmfecikaaGreatDoor.Rou
set_option maxRecDepth 100000
namespace Go.Proofs.YtlahonjmfecikaaGreatDoor.Leg
open Go.RowKit Stm
open FramePlain (Fr Fr0)
open LegPlain (Cf Lg)
open Msg (Kept MacS Mine)
open LegPlain (Inv CfOk Good came evs errs react bound feed fail L0)
open MsgPlain (Ev Ms M0)
theorem leg_box (W:World) (cs:Array Value):∃ V,W.alloc (.cells cs 80)=V∧Below W.heap.size W V∧V.heap[W.heap.size]? = some (.cells cs 80 (0,0)) :=
 ⟨_,rfl,(Below.refl _ _).alloc (Nat.le_refl _) _,alloc_new _ _ _ rfl⟩
theorem set_kept (W:World) (L i:Nat) (u:Value):Kept (fun j=>j=L) W (W.setCell ⟨L,i,none⟩ u):=Kept.grown (grown_setCell W L i u) (fun j e=>by injection e with e;exact e.symm)
set_option maxHeartbeats 8000000 in
theorem lnew_yes (rs:List Rou.Rb) (a1:Option Addr) (n1 c1:Nat) (a2:Option Addr) (n2 c2:Nat) (tb ct bs sh id po cl:Int) (c:Cf) (d:Nat) (hd:d<4294967296) (w0 W:World) (hB:Below w0.heap.size w0 W) (hg:_root_.Go.Proofs.YtlahonjmfecikaaGreatDoor.Globs W) (hv:Rou.RtsAt W (.slice a1 n1 c1) rs) (ok:∀ r∈rs,Rou.RbOk r) (hl:rs.length≤1000000) (hc:CfOk c) (hr:Rou.checkB rs n2 tb (c.msg:Int) (c.frm:Int) ct bs (c.out:Int) sh id po cl=true) :
 Calls Tryz.prog 13 #[.agg #[.slice a1 n1 c1,.slice a2 n2 c2,.int .i64 tb,.int .i64 (c.msg:Int),.int .i64 (c.frm:Int),.int .i64 ct,.int .i64 bs,.int .i64 (c.out:Int),.int .i64 sh,.int .i64 id,.int .i64 po,.int .i64 cl],.bool c.masked,.int .u32 (d:Int)] W fun e w'=>∃ L sb mb rb rp,e=.returned (.tuple #[.pointer (some ⟨L,0,none⟩),.int .i64 0])∧Sl (LegF w0 w' L sb mb rb rp (.slice none 0 0) (.slice none 0 0) (.slice none 0 0) (.slice none 0 0) (.slice none 0 0) (.pointer none) c (L0 d))∧Sl (Below W.heap.size W w')∧Sl (W.heap.size≤L∧W.heap.size≤sb∧W.heap.size≤mb∧W.heap.size≤rb∧W.heap.size≤rp):=by
 obtain ⟨wa,hwa,HBa,hx⟩:=Rou.cfg_box W #[.slice a1 n1 c1,.slice a2 n2 c2,.int .i64 tb,.int .i64 (c.msg:Int),.int .i64 (c.frm:Int),.int .i64 ct,.int .i64 bs,.int .i64 (c.out:Int),.int .i64 sh,.int .i64 id,.int .i64 po,.int .i64 cl]
 have CK:=Rou.check_any rs a1 n1 c1 a2 n2 c2 tb (c.msg:Int) (c.frm:Int) ct bs (c.out:Int) sh id po cl wa (hg.of HBa.out) (hv.below HBa.out) ok hl true hr
 obtain ⟨g,hgg⟩:∃ g,W.heap.size=g:=⟨_,rfl⟩
 have HLW:Sl (w0.heap.size≤g):=⟨by rw [← hgg];exact hB.size⟩
 have HBW:=Sl.mk hB
 rw [hgg] at HBa hx ⊢
 have HLT:Sl (g≤wa.heap.size):=⟨by rw [← hgg];exact HBa.out.size⟩
 have HX:=Sl.mk hx
 have HC:=Sl.mk hc
 have HD:=Sl.mk hd
 have k0:=Rou.cell_at hx 0 _ rfl
 have k1:=Rou.cell_at hx 1 _ rfl
 have k2:=Rou.cell_at hx 2 _ rfl
 have k3:=Rou.cell_at hx 3 _ rfl
 have k4:=Rou.cell_at hx 4 _ rfl
 have k5:=Rou.cell_at hx 5 _ rfl
 have k6:=Rou.cell_at hx 6 _ rfl
 have k7:=Rou.cell_at hx 7 _ rfl
 have k8:=Rou.cell_at hx 8 _ rfl
 have k9:=Rou.cell_at hx 9 _ rfl
 have k10:=Rou.cell_at hx 10 _ rfl
 have k11:=Rou.cell_at hx 11 _ rfl
 clear hg hv ok hl hr hx hB hc hd
 go_enter Tryz.func13,Tryz.ntmps13
 go_upto_region 1 with fail
 (try rw [hwa])
 (try rw [hgg])
 clear hwa hgg
 go_wp2_with fail
 refine CK.mono ?_
 rintro e wb ⟨rfl,HB2⟩
 clear CK
 have HXb:=Sl.mk (below_key HX.out HB2.out)
 have HGb:Sl (g<wb.heap.size):=⟨(Array.getElem?_eq_some_iff.1 HXb.out).1⟩
 clear HX
 clear k0 k1 k2 k3 k4 k5 k6 k7 k8 k9 k10 k11
 have k3:=Rou.cell_at HXb.out 3 _ rfl
 have k4:=Rou.cell_at HXb.out 4 _ rfl
 obtain ⟨w1,hw1,HB3,hL⟩:=leg_box wb #[.int .i64 (c.msg:Int),.int .i64 (c.frm:Int),.pointer none,.pointer none,.pointer none,.slice none 0 0,.slice none 0 0,.slice none 0 0,.bool (!c.masked),.int .u32 (d:Int),.int .i64 0,.bool false]
 obtain ⟨L,hLL⟩:∃ L,wb.heap.size=L:=⟨_,rfl⟩
 rw [hLL] at HB3 hL HGb
 have HBL:Sl (Below g W wb):=⟨HBa.out.trans (HB2.out.mono HLT.out)⟩
 have HB1:Sl (Below g W w1):=⟨HBL.out.trans (HB3.mono (Nat.le_of_lt HGb.out))⟩
 have HX1:=Sl.mk (below_key HXb.out (hLL ▸ HB3))
 have HL1:=Sl.mk hL
 have HLs:Sl (L<w1.heap.size):=⟨(Array.getElem?_eq_some_iff.1 hL).1⟩
 clear HXb HBa HB2 HLT HB3 hL HBL
 go_upto_region 4 with fail
 (try rw [hw1])
 (try rw [hLL])
 clear hw1 hLL k3 k4
 have k3:=Rou.cell_at HX1.out 3 _ rfl
 have hfz:w1.frozen? ⟨L,2,none⟩=false:=frozen_of_row _ _ _ _ _ HL1.out
 have hmx:(max 125 (c.msg:Int))=(bound c:Int):=by unfold LegPlain.bound;omega
 have SN:=Stm.new_yes c.masked (bound c:Int) w0 w1 (HBW.out.trans (HB1.out.mono HLW.out)) (by unfold LegPlain.bound;have:=HC.out.m2;omega)
 have l0:=Rou.cell_at HL1.out 2 _ rfl
 go_wp2_with fail
 refine SN.mono ?_
 rintro e w2 ⟨rfl,HS2,HB2⟩
 clear SN k3 hfz l0
 obtain ⟨sb,hsb⟩:∃ b,w1.heap.size=b:=⟨_,rfl⟩
 rw [hsb] at HS2 HB2 HLs ⊢
 have HXC:Sl (w2.heap[g]? = _):=⟨below_key HX1.out (hsb ▸ HB2.out)⟩
 have HLC:Sl (w2.heap[L]? = _):=⟨below_key HL1.out (hsb ▸ HB2.out)⟩
 have hfz:w2.frozen? ⟨L,2,none⟩=false:=frozen_of_row _ _ _ _ _ HLC.out
 have l0:=Rou.cell_at HLC.out 2 _ rfl
 obtain ⟨V2,hV2⟩:∃ V,w2.setCell ⟨L,2,none⟩ (.pointer (some ⟨sb,0,none⟩))=V:=⟨_,rfl⟩
 have HK2:Sl (Kept (fun j=>j=L) w2 V2):=⟨by rw [← hV2];exact set_kept _ _ _ _⟩
 have HLV:Sl (V2.heap[L]? = some (.cells #[.int .i64 (c.msg:Int),.int .i64 (c.frm:Int),.pointer (some ⟨sb,0,none⟩),.pointer none,.pointer none,.slice none 0 0,.slice none 0 0,.slice none 0 0,.bool (!c.masked),.int .u32 (d:Int),.int .i64 0,.bool false] 80 (0,0))):=⟨by rw [← hV2,heap_setCell_same _ _ _ _ _ _ HLC.out];rfl⟩
 have HXV:Sl (V2.heap[g]? = _):=⟨(HK2.out.block g (Array.getElem?_eq_some_iff.1 HXC.out).1 (fun e=>by have:=HGb.out;omega)).trans HXC.out⟩
 have HB3:Sl (Below g W V2):=⟨HK2.out.up (HB1.out.trans (HB2.out.mono (by have:=HGb.out;have:=HLs.out;omega))) (fun j e=>by have:=HGb.out;omega) (by have:=HGb.out;have:=HLs.out;have:=HB2.out.size;rw [hsb] at this;omega)⟩
 have HSs:Sl (sb<w2.heap.size):=⟨HS2.out.lt⟩
 clear HX1 HL1 HB1 HB2 HXC HLC
 go_upto_region 5 with fail
 (try rw [hV2])
 clear hV2 hfz l0
 have k3:=Rou.cell_at HXV.out 3 _ rfl
 have hLow2:Below w0.heap.size w0 V2:=HBW.out.trans (HB3.out.mono HLW.out)
 have hV2s:w2.heap.size≤V2.heap.size:=HK2.out.size
 have MN:=Msg.new_yes (c.msg:Int) w0 V2 hLow2 (by have:=HC.out.m1;have:=HC.out.m2;omega)
 have HS3:Sl (StrmAt w0 V2 sb c.masked (bound c:Int) [] 0 (.slice none 0 0)):=⟨Cut.strm_kept HS2.out HK2.out (fun e=>by have:=HLs.out;omega) (fun g e=>by cases e) hLow2⟩
 clear HS2 HK2
 go_wp2_with fail
 refine MN.mono ?_
 rintro e w3 ⟨rfl,HM3,HB4⟩
 clear MN k3
 obtain ⟨mb,hmb⟩:∃ b,V2.heap.size=b:=⟨_,rfl⟩
 have HMs:Sl (sb<mb):=⟨by have:=HSs.out;omega⟩
 have HS4:Sl (StrmAt w0 w3 sb c.masked (bound c:Int) [] 0 (.slice none 0 0)):=⟨HS3.out.below HB4.out⟩
 have HLC:=Sl.mk (below_key HLV.out HB4.out)
 have HXC:=Sl.mk (below_key HXV.out HB4.out)
 rw [hmb] at HM3 HB4 hV2s ⊢
 have hfz:w3.frozen? ⟨L,3,none⟩=false:=frozen_of_row _ _ _ _ _ HLC.out
 have l0:=Rou.cell_at HLC.out 3 _ rfl
 obtain ⟨V3,hV3⟩:∃ V,w3.setCell ⟨L,3,none⟩ (.pointer (some ⟨mb,0,none⟩))=V:=⟨_,rfl⟩
 have HK3:Sl (Kept (fun j=>j=L) w3 V3):=⟨by rw [← hV3];exact set_kept _ _ _ _⟩
 have HLW3:Sl (V3.heap[L]? = some (.cells #[.int .i64 (c.msg:Int),.int .i64 (c.frm:Int),.pointer (some ⟨sb,0,none⟩),.pointer (some ⟨mb,0,none⟩),.pointer none,.slice none 0 0,.slice none 0 0,.slice none 0 0,.bool (!c.masked),.int .u32 (d:Int),.int .i64 0,.bool false] 80 (0,0))):=⟨by rw [← hV3,heap_setCell_same _ _ _ _ _ _ HLC.out];rfl⟩
 have HXW3:=Sl.mk ((HK3.out.block g (Array.getElem?_eq_some_iff.1 HXC.out).1 (fun e=>by have:=HGb.out;omega)).trans HXC.out)
 have HMl:Sl (mb<w3.heap.size):=⟨(HM3.out.m.own (.inl rfl)).2⟩
 have HB5:Sl (Below g W V3):=⟨HK3.out.up (HB3.out.trans (HB4.out.mono (by have:=HGb.out;have:=HLs.out;have:=HMs.out;omega))) (fun j e=>by have:=HGb.out;omega) (by have:=HGb.out;have:=HLs.out;have:=HMs.out;have:=HMl.out;omega)⟩
 have hLow3:Below w0.heap.size w0 V3:=HBW.out.trans (HB5.out.mono HLW.out)
 have HS5:Sl (StrmAt w0 V3 sb c.masked (bound c:Int) [] 0 (.slice none 0 0)):=⟨Cut.strm_kept HS4.out HK3.out (fun e=>by have:=HLs.out;omega) (fun g e=>by cases e) hLow3⟩
 have HM5:Sl (MacS w0 V3 mb (c.msg:Int) M0 (.slice none 0 0) (.pointer none)):=⟨HM3.out.apart HK3.out (fun k e e2=>by have:=Msg.mine_zero e;have:=HLs.out;have:=HMs.out;omega) hLow3⟩
 have HMv:Sl (mb<V3.heap.size):=⟨(HM5.out.m.own (.inl rfl)).2⟩
 clear HLV HXV HS3 HS4 HM3 HB4 HLC HXC HK3 hmb hV2s hLow2
 go_upto_region 6 with fail
 (try rw [hV3])
 clear hV3 hfz l0
 have k7:=Rou.cell_at HXW3.out 7 _ rfl
 have RN:=Rng.new_ex w0 V3 c.out HC.out.o1 HC.out.o2 hLow3
 clear hLow3
 go_wp2_with fail
 refine RN.mono ?_
 rintro e w4 ⟨rfl,HR4,HB6,-⟩
 clear RN k7
 have HLC:=Sl.mk (below_key HLW3.out HB6.out)
 have HS6:Sl (StrmAt w0 w4 sb c.masked (bound c:Int) [] 0 (.slice none 0 0)):=⟨HS5.out.below HB6.out⟩
 have HM6:Sl (MacS w0 w4 mb (c.msg:Int) M0 (.slice none 0 0) (.pointer none)):=⟨HM5.out.below HB6.out⟩
 obtain ⟨rp,hrp⟩:∃ b,V3.heap.size=b:=⟨_,rfl⟩
 rw [hrp] at HR4 HB6 HMv ⊢
 have hfz:w4.frozen? ⟨L,4,none⟩=false:=frozen_of_row _ _ _ _ _ HLC.out
 have l0:=Rou.cell_at HLC.out 4 _ rfl
 obtain ⟨V4,hV4⟩:∃ V,w4.setCell ⟨L,4,none⟩ (.pointer (some ⟨(rp+1),0,none⟩))=V:=⟨_,rfl⟩
 have HK4:Sl (Kept (fun j=>j=L) w4 V4):=⟨by rw [← hV4];exact set_kept _ _ _ _⟩
 have HLW4:Sl (V4.heap[L]? = some (.cells #[.int .i64 (c.msg:Int),.int .i64 (c.frm:Int),.pointer (some ⟨sb,0,none⟩),.pointer (some ⟨mb,0,none⟩),.pointer (some ⟨(rp+1),0,none⟩),.slice none 0 0,.slice none 0 0,.slice none 0 0,.bool (!c.masked),.int .u32 (d:Int),.int .i64 0,.bool false] 80 (0,0))):=⟨by rw [← hV4,heap_setCell_same _ _ _ _ _ _ HLC.out];rfl⟩
 have HB7:Sl (Below g W V4):=⟨HK4.out.up (HB5.out.trans (HB6.out.mono (by have:=HGb.out;have:=HLs.out;have:=HMs.out;have:=HMv.out;omega))) (fun j e=>by have:=HGb.out;omega) (by have:=HGb.out;have:=HLs.out;have:=HMs.out;have:=HMv.out;have:=HR4.out.blt;omega)⟩
 have HFN:Sl (LegF w0 V4 L sb mb (rp+1) rp (.slice none 0 0) (.slice none 0 0) (.slice none 0 0) (.slice none 0 0) (.slice none 0 0) (.pointer none) c (L0 d)):=by
  have hLow4:Below w0.heap.size w0 V4:=HBW.out.trans (HB7.out.mono HLW.out)
  have a1:=HGb.out
  have a2:=HLs.out
  have a3:=HMs.out
  have a4:=HMv.out
  have a5:=HLW.out
  refine ⟨⟨HLW4.out,ring_same HR4.out (HK4.out.block (rp+1) HR4.out.blt (fun e=>by omega)) (HK4.out.block rp HR4.out.plt (fun e=>by omega)),tail_nil _ _,frow_nil _ _,frow_nil _ _,⟨by omega,by omega,by omega⟩,fun k e=>(by cases e),fun k e=>(by cases e),HD.out,hLow4⟩,?_,?_,fun k e=>?_,fun k e=>?_⟩
  ·exact Cut.strm_kept HS6.out HK4.out (fun e=>by omega) (fun g e=>by cases e) hLow4
  ·exact HM6.out.apart HK4.out (fun k e e2=>by have:=Msg.mine_zero e;omega) hLow4
  ·refine ⟨fun e2=>?_,fun e2=>(by cases e2),fun e2=>?_⟩
   ·rcases e with e | e | e | e | e | e
    ·omega
    ·omega
    ·omega
    ·cases e
    ·cases e
    ·cases e
   ·have:=Msg.mine_zero e2
    rcases e with e | e | e | e | e | e
    ·omega
    ·omega
    ·omega
    ·cases e
    ·cases e
    ·cases e
  ·have:=Msg.mine_zero e
   exact ⟨by omega,fun e2=>(by cases e2)⟩
 have HGE:Sl (g≤L∧g≤sb∧g≤mb∧g≤rp+1∧g≤rp):=⟨by
  have a1:=HGb.out
  have a2:=HLs.out
  have a3:=HMs.out
  have a4:=HMv.out
  omega⟩
 clear HS5 HS6 HM5 HM6 HK4 HLC HLW3 HLW4 HXW3 HR4 HB6
 go_wp2
 (try rw [hV4])
 go_ret2
 exact ⟨_,_,_,_,_,rfl,HFN,HB7,HGE⟩
end Go.Proofs.YtlahonjmfecikaaGreatDoor.Leg
