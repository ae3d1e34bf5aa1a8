/- leg: what went out stays behind each act; LegEnds' walk. -/
import Derived.Test.YtlahonjmfecikaaGreatDoorYl
import Derived.Test.YtlahonjmfecikaaGreatDoorLegEndZ
set_option maxRecDepth 100000
set_option linter.unusedVariables false
set_option linter.unusedSimpArgs false
namespace Go.Proofs.YtlahonjmfecikaaGreatDoor.Leg
open Go.RowKit Stm
open FramePlain (Fr Fr0)
open LegPlain (Cf Lg)
open Msg (Kept MacS Mine)
open LegPlain (Inv Few CfOk Good came evs errs react bound feed fail L0 takeN pend wts)
open MsgPlain (Ev Ms M0 run)
open Evt
theorem index_run1 {W:World} {ev:Operand→Value} {o:Oper} {x:Operand} {s:ByteArray} {L:List Nat} {l:Nat} (ho:o.op=.index 9 x (.const (.int .i64 1))) (hx:ev x=.string s) (hev:ev (.const (.int .i64 1))=.int .i64 1) (hs:bytes s=L∧1<L.length) (hl:L.getD 1 0=l) :
 (execOp ev o).run Tryz.prog W=.ok (.value (.int .u8 (l:Int))) W:=by
 obtain ⟨hs1,hs2⟩:=hs
 have hz:1<s.size:=by rw [← bytes_length,hs1];exact hs2
 have hb:=bytes_getD s 1 hz
 rw [hs1,hl] at hb
 subst hb
 simp only [execOp,ho,hx,hev]
 go_simp
 rw [dif_pos (show (1:Int)<(s.size:Int) by omega)]
 rfl
set_option maxHeartbeats 16000000 in
theorem ends_walk (a b o:Nat) (masked:Bool) (d:Nat) (va:Value) (xs:List Ac) (w:World) (hg:G3 w) (ha:a<256) (hb:b<256) (ho:o<256) (hd:d<4294967296) (hva:ActsAt w va xs) (hok:∀ x∈xs,AcOk x) (hlm:xs.length≤maxLen):Calls Tryz.prog 5 #[.agg #[.int .u8 (a:Int),.int .u8 (b:Int),.int .u8 (o:Int)],.bool masked,.int .u32 (d:Int),va] w fun e w'=>e=.returned (.bool true)∧Below w.heap.size w w':=by
 obtain ⟨i1,h1⟩:∃ i:Int,((1+a:Nat):Int)=i:=⟨_,rfl⟩
 obtain ⟨i2,h2⟩:∃ i:Int,((1+b:Nat):Int)=i:=⟨_,rfl⟩
 obtain ⟨i3,h3⟩:∃ i:Int,((1+o:Nat):Int)=i:=⟨_,rfl⟩
 obtain ⟨x1,e1⟩:∃ i:Int,(a:Int)=i:=⟨_,rfl⟩
 obtain ⟨x2,e2⟩:∃ i:Int,(b:Int)=i:=⟨_,rfl⟩
 obtain ⟨x3,e3⟩:∃ i:Int,(o:Int)=i:=⟨_,rfl⟩
 rw [e1,e2,e3]
 have CF:Sl (∀ V,Calls Tryz.prog 19 #[.int .u8 x1,.int .u8 x2,.int .u8 x3] V fun e w'=>∃ g,e=.returned (.agg #[.slice (some ⟨g,0,none⟩) 1 1,.slice none 0 0,.int .i64 4,.int .i64 i1,.int .i64 i2,.int .i64 3,.int .i64 300,.int .i64 i3,.int .i64 5,.int .i64 9,.int .i64 3,.int .i64 4])∧Sl (w'.heap[g]? = some (.cells #[.string {data:=#[47]},.string {data:=#[]},.string {data:=#[120]}] 72 (0,0))∧V.heap.size≤g)∧Sl (Below V.heap.size V w')):=⟨fun V=>cfg_L ha hb ho h1 h2 h3 e1 e2 e3 V⟩
 have NW:Sl (∀ V g,Below w.heap.size w V→Rou.RtsAt V (.slice (some ⟨g,0,none⟩) 1 1) [rb1]→Calls Tryz.prog 13 #[.agg #[.slice (some ⟨g,0,none⟩) 1 1,.slice none 0 0,.int .i64 4,.int .i64 i1,.int .i64 i2,.int .i64 3,.int .i64 300,.int .i64 i3,.int .i64 5,.int .i64 9,.int .i64 3,.int .i64 4],.bool masked,.int .u32 (d:Int)] V fun e w'=>∃ L S,e=.returned (.tuple #[.pointer (some ⟨L,0,none⟩),.int .i64 0])∧Sl (LegH w w' L S (cfL a b o masked) (L0 d) 0)∧Sl (Below V.heap.size V w')∧Sl (∀ j,S j→V.heap.size≤j)):=⟨fun V g hV hv=>new_L ha hb ho h1 h2 h3 masked d (by omega) rfl hg hV hv⟩
 have HG:=Sl.mk hg
 obtain ⟨ad,cap,sb,so,rfl,_,had,hcell⟩:=hva
 obtain ⟨n,hn⟩:∃ n,xs.length=n:=⟨_,rfl⟩
 have HN:=Sl.mk hn
 rw [hn] at had hlm ⊢
 clear hg h1 h2 h3 e1 e2 e3 hn hok
 go_enter Tryz.func5,Tryz.ntmps5
 go_upto_region 1 with fail
 obtain ⟨w0,hw0⟩:∃ V,w.alloc (.cells #[.int .u8 x1,.int .u8 x2,.int .u8 x3] 45)=V:=⟨_,rfl⟩
 have HB0:Sl (Below w.heap.size w w0):=⟨by rw [← hw0];exact (Below.refl _ _).alloc (Nat.le_refl _) _⟩
 have HZ0:w0.heap[w.heap.size]? = some (.cells #[.int .u8 x1,.int .u8 x2,.int .u8 x3] 45 (0,0)):=by rw [← hw0];exact alloc_new _ _ _ rfl
 (try rw [hw0])
 have z0:=Rou.cell_at HZ0 0 _ rfl
 have z1:=Rou.cell_at HZ0 1 _ rfl
 have z2:=Rou.cell_at HZ0 2 _ rfl
 clear hw0 HZ0
 have CF0:=CF.out w0
 go_wp2_with fail
 refine CF0.mono ?_
 rintro e w1 ⟨g,rfl,HV,HB1⟩
 clear CF0 z0 z1 z2 CF
 have NW1:=NW.out w1 g (HB0.out.trans (HB1.out.mono HB0.out.size)) (rts_one HV.out.1)
 clear NW HV HB0 HB1
 go_wp2_with fail
 refine NW1.mono ?_
 rintro e w2 ⟨L,S,rfl,HL2,HB3,HS⟩
 clear NW1 HB3 HS
 have AW1:=awake_any w2 HG.out HL2.out.low
 go_wp2_with fail
 refine AW1.mono ?_
 rintro e w3 ⟨rfl,HB6⟩
 clear AW1
 have HL3:=Sl.mk (HL2.out.below HB6.out)
 clear HL2 HB6
 go_wp2
 go_loopw [11,12,13] (fun u11 u12 u13 wr=>∃ (i:Nat) (m:Lg) (S1:Nat→Prop),u11=.string (strOf m.gone)∧u12=.int .i64 (i:Int)∧i≤n∧i≤30∧Sl (m.gone.length≤300*i∧LegPlain.Ends m)∧Sl (LegH w wr L S1 (cfL a b o masked) m i)) (fun _ u12 _ _=>30-(intOf u12).toNat)
 case atStart=>exact ⟨0,L0 d,S,by rw [show (L0 d).gone=[] from rfl,Cut.strOf_nil],rfl,Nat.zero_le _,Nat.zero_le _,⟨Nat.zero_le _,LegPlain.ends_zero d⟩,HL3⟩
 case round =>
  obtain ⟨i,m,S1,rfl,rfl,hi,hi40,HEM,HL⟩:=hrel
  clear HL3
  have HI40:=Sl.mk hi40
  by_cases hin:i<n
  ·have hlt:((i:Int)<(n:Int))=True:=eq_true (by omega)
   have hltb:decide ((i:Int)<(n:Int))=true:=decide_eq_true (by omega)
   by_cases h40:i<30
   ·have hlt2:((i:Int)<30)=True:=eq_true (by omega)
    have hlt2b:decide ((i:Int)<30)=true:=decide_eq_true (by omega)
    have hltn:(i:Int)<(n:Int):=by omega
    obtain rfl:=had (by omega)
    obtain ⟨kind,op,code,num,s,hact⟩:∃ kind op code num s,xs.getD i Ac0=⟨kind,op,code,num,s⟩:=⟨_,_,_,_,_,rfl⟩
    obtain ⟨f0,f1,f2,f3,f4⟩:=acts_at hcell HL.out.low i (by rw [HN.out];exact hin) hact
    obtain ⟨w4,hw4⟩:∃ V,wr.alloc (.cells #[.int .i64 kind,.int .i64 op,.int .i64 code,.int .i64 num,.string s] 40)=V:=⟨_,rfl⟩
    have hB4:Below wr.heap.size wr w4:=by rw [← hw4];exact (Below.refl _ _).alloc (Nat.le_refl _) _
    have hX4:w4.heap[wr.heap.size]? = some (.cells #[.int .i64 kind,.int .i64 op,.int .i64 code,.int .i64 num,.string s] 40 (0,0)):=by rw [← hw4];exact alloc_new _ _ _ rfl
    have HL4:=Sl.mk (HL.out.below hB4)
    obtain ⟨xb,hxb⟩:∃ x,wr.heap.size=x:=⟨_,rfl⟩
    rw [hxb] at hX4
    obtain ⟨b0,b1,b2,b3,b4⟩:=act_cells hX4
    have HX4:=Sl.mk hX4
    obtain ⟨fw,hfw⟩:∃ r,decide (s.size≤300)=r:=⟨_,rfl⟩
    have FW:=few_any kind op code num s w4 fw hfw
    clear HL hB4 hX4 hact
    go_upto_region 9 with fail
    (try rw [hw4])
    (try rw [hxb])
    clear hw4 hxb f0 f1 f2 f3 f4
    go_wp2_with fail
    refine FW.mono ?_
    rintro e w5 ⟨rfl,HB5⟩
    clear FW b0 b1 b2 b3 b4
    have HL5:=Sl.mk (HL4.out.below HB5.out)
    have HX5:=Sl.mk (below_key HX4.out HB5.out)
    clear HL4 HX4 HB5
    cases fw with
    | false =>
      clear hfw
      have HL8:=Sl.mk (HL5.out.mono (Nat.le_succ _) (by have:=HI40.out;omega))
      have HEN:Sl (m.gone.length≤300*(i+1)∧LegPlain.Ends m):=⟨by have:=HEM.out.1;omega,HEM.out.2⟩
      go_wp2
      exact ⟨⟨i+1,m,S1,rfl,by go_num,by omega,by omega,HEN,HL8⟩,by simp [intOf];omega⟩
    | true =>
      have hs300:s.size≤300:=of_decide_eq_true hfw
      obtain ⟨b0,b1,b2,b3,b4⟩:=act_cells HX5.out
      clear hfw HX5
      by_cases h3:kind=3
      ·subst h3
       have HL8:=Sl.mk (HL5.out.mono (Nat.le_succ _) (by have:=HI40.out;omega))
       have HEN:Sl (m.gone.length≤300*(i+1)∧LegPlain.Ends m):=⟨by have:=HEM.out.1;omega,HEM.out.2⟩
       go_wp2
       exact ⟨⟨i+1,m,S1,rfl,by go_num,by omega,by omega,HEN,HL8⟩,by simp [intOf];omega⟩
      ·have q3:(kind==3)=false:=by simp [h3]
       by_cases h0:kind=0
       ·subst h0
        obtain ⟨cp,w6,hconv,HS6,HX6⟩:=conv_str s w5
        have HL6:=Sl.mk (HL5.out.below HX6.out)
        obtain ⟨m',hm'⟩:∃ x,(feed (cfL a b o masked) m (bytes s)).1=x:=⟨_,rfl⟩
        have T:=feed_ex HL6.out _ _ HS6.out (bytes_small s) (by rw [bytes_length];omega) m' _ (Prod.ext hm' rfl)
        have HGN:Sl (m'.gone=m.gone):=⟨by rw [← hm'];exact feed_gone (cfL a b o masked) m (bytes s)⟩
        have HEN:Sl (m'.gone.length≤300*(i+1)∧LegPlain.Ends m'):=⟨by rw [HGN.out];have:=HEM.out.1;omega,by rw [← hm'];exact LegPlain.feed_ends HL5.out.good.inn HEM.out.2 (bytes s) (bytes_small s)⟩
        clear hm' HS6 HX6 HEM
        go_wp2_with fail
        refine T.mono ?_
        rintro e w7 ⟨S7,rv,rfl,-,HL7,HG7,-⟩
        clear T hconv HL5 HL6
        have HL8:=Sl.mk (HL7.out.mono (Nat.le_succ _) (by have:=HI40.out;omega))
        go_wp2
        exact ⟨⟨i+1,m',S7,by rw [HGN.out],by go_num,by omega,by omega,HEN,HL8⟩,by simp [intOf];omega⟩
       by_cases h1:kind=1
       ·subst h1
        obtain ⟨m',hm'⟩:∃ x,(LegPlain.send (cfL a b o masked) m op (bytes s)).1=x:=⟨_,rfl⟩
        have T:=send_ex HL5.out op 0 s m' _ (Prod.ext hm' rfl)
        have HGN:Sl (m'.gone=m.gone):=⟨by rw [← hm'];exact send_gone (cfL a b o masked) m op (bytes s)⟩
        have HEN:Sl (m'.gone.length≤300*(i+1)∧LegPlain.Ends m'):=⟨by rw [HGN.out];have:=HEM.out.1;omega,by rw [← hm'];exact LegPlain.send_ends HEM.out.2 op (bytes s)⟩
        clear hm' HEM
        go_wp2_with fail
        refine T.mono ?_
        rintro e w7 ⟨S7,rfl,HL7,HG7⟩
        clear T HL5
        have HL8:=Sl.mk (HL7.out.mono (Nat.le_succ _) (by have:=HI40.out;omega))
        go_wp2
        exact ⟨⟨i+1,m',S7,by rw [HGN.out],by go_num,by omega,by omega,HEN,HL8⟩,by simp [intOf];omega⟩
       by_cases h2:kind=2
       ·subst h2
        obtain ⟨m',hm'⟩:∃ x,(LegPlain.ping (cfL a b o masked) m (bytes s)).1=x:=⟨_,rfl⟩
        have T:=ping_ex HL5.out s (by omega) (by have:=HI40.out;omega) m' _ (Prod.ext hm' rfl)
        have HGN:Sl (m'.gone=m.gone):=⟨by rw [← hm'];exact ping_gone (cfL a b o masked) m (bytes s)⟩
        have HEN:Sl (m'.gone.length≤300*(i+1)∧LegPlain.Ends m'):=⟨by rw [HGN.out];have:=HEM.out.1;omega,by rw [← hm'];exact LegPlain.ping_ends HEM.out.2 (bytes s)⟩
        clear hm' HEM
        go_wp2_with fail
        refine T.mono ?_
        rintro e w7 ⟨S7,rfl,HL7,HG7⟩
        clear T HL5
        have HL8:=HL7
        go_wp2
        exact ⟨⟨i+1,m',S7,by rw [HGN.out],by go_num,by omega,by omega,HEN,HL8⟩,by simp [intOf];omega⟩
       by_cases h4:kind=4
       ·subst h4
        obtain ⟨tl,htl⟩:∃ t,m.ring.take num.toNat=t:=⟨_,rfl⟩
        obtain ⟨q,hq⟩:∃ q,tl.length=q:=⟨_,rfl⟩
        obtain ⟨m',hm'⟩:∃ x,(takeN (cfL a b o masked) m num).1=x:=⟨_,rfl⟩
        have T:=take_ex HL5.out num tl htl q hq m' hm'
        have hgn:m'.gone=m.gone++tl:=by rw [← hm',← htl];exact mv_gone _ _ _
        have htl2:tl.length≤300:=by
         have h1:m.ring.length≤1+o:=LegPlain.ring_le HL5.out.good.few.ok
         rw [← htl,List.length_take];omega
        have HGN:Sl (strOf m'.gone=strOf m.gone++strOf tl):=⟨by rw [hgn,Fra.strOf_app]⟩
        have HEN:Sl (m'.gone.length≤300*(i+1)∧LegPlain.Ends m'):=⟨by rw [hgn,List.length_append];have:=HEM.out.1;omega,by rw [← hm'];exact LegPlain.take_ends HEM.out.2 num⟩
        have HQ:=Sl.mk hq
        have AD:∀ V,(Op.stringOp .add (strOf m.gone) (strOf tl)).run Tryz.prog V=.ok (.string (strOf m.gone++strOf tl)) V:=fun V=>run_string_add_sum _ _ _ (by
         have:=HEM.out.1
         rw [strOf_size,strOf_size];omega)
        clear hm' hgn htl htl2 hq HEM
        go_wp2_with fail
        refine T.mono ?_
        rintro e w7 ⟨S7,rfl,HR7,HL7,HG7⟩
        clear T HL5
        have HL8:=Sl.mk (HL7.out.mono (Nat.le_succ _) (by have:=HI40.out;omega))
        have CV:=HR7.out.str HQ.out
        have AD7:=AD w7
        clear AD HR7
        go_wp2
        exact ⟨⟨i+1,m',S7,by rw [HGN.out],by go_num,by omega,by omega,HEN,HL8⟩,by simp [intOf];omega⟩
       have q0:(kind==0)=false:=by simp [h0]
       have q1:(kind==1)=false:=by simp [h1]
       have q2:(kind==2)=false:=by simp [h2]
       have q4:(kind==4)=false:=by simp [h4]
       have HL8:=Sl.mk (HL5.out.mono (Nat.le_succ _) (by have:=HI40.out;omega))
       have HEN:Sl (m.gone.length≤300*(i+1)∧LegPlain.Ends m):=⟨by have:=HEM.out.1;omega,HEM.out.2⟩
       clear h0 h1 h2 h4
       go_wp2
       exact ⟨⟨i+1,m,S1,rfl,by go_num,by omega,by omega,HEN,HL8⟩,by simp [intOf];omega⟩
   ·have hlt2:((i:Int)<30)=False:=eq_false (by omega)
    have hlt2b:decide ((i:Int)<30)=false:=decide_eq_false (by omega)
    have HPD:pend m≤100000:=by
     have h1:=HL.out.good.few.pend
     have e1:(cfL a b o masked).out=1+o:=rfl
     have e2:(cfL a b o masked).frm=1+b:=rfl
     have e3:(cfL a b o masked).msg=1+a:=rfl
     rw [e1,e2,e3] at h1
     omega
    have HPD2:Sl (pend m≤20000):=⟨by
     have h1:=HL.out.good.few.pend
     have e1:(cfL a b o masked).out=1+o:=rfl
     have e2:(cfL a b o masked).frm=1+b:=rfl
     have e3:(cfL a b o masked).msg=1+a:=rfl
     rw [e1,e2,e3] at h1
     omega⟩
    have OT:=out2_any HL.out HPD
    clear HPD HL
    go_wp2_with fail
    refine OT.mono ?_
    rintro e w4 ⟨m2,s2,S2,rfl,HL2,HG2,HD⟩
    clear OT HG2
    have HGO:Sl (m2.gone=m.gone++s2):=⟨HD.out.2.1.gone⟩
    have hln:m2.gone.length≤100000:=by
     rw [HGO.out,List.length_append]
     have:=HEM.out.1;have:=HD.out.2.2;have:=HPD2.out;omega
    have hsm:Small 256 m2.gone:=fun y hy=>gone_small HL2.out.cf.f2 HL2.out.good.few.ok y (List.mem_append_left _ hy)
    obtain ⟨SB,hSB⟩:∃ z,strOf m.gone++strOf s2=z:=⟨_,rfl⟩
    have hSB2:SB=strOf m2.gone:=by rw [← hSB,HGO.out,Fra.strOf_app]
    have AD:(Op.stringOp .add (strOf m.gone) (strOf s2)).run Tryz.prog w4=.ok (.string SB) w4:=by
     rw [← hSB]
     exact run_string_add_sum _ _ _ (by
      rw [strOf_size,strOf_size]
      rw [HGO.out,List.length_append] at hln;omega)
    have HALL:StreamPlain.all (bytes SB) (!masked) 65536=(m2.hist,0,0):=by
     rw [hSB2,bytes_strOf _ hsm]
     exact LegPlain.said_all HL2.out.cf.f2 HL2.out.good.few.ok HD.out.1
    have RA:=Stm.refall_any SB (!masked) 65536 w4 (by rw [hSB2,strOf_size];exact hln) (by decide) m2.hist 0 0 HALL
    have HED:Sl (LegPlain.Ends m2):=⟨LegPlain.ends_keep HD.out.2.1.keep HD.out.2.1.sent HD.out.2.1.last HEM.out.2⟩
    have HOK:=Sl.mk (hist_ok HL2.out.cf.f2 HL2.out.good.few.ok)
    have HSE:Sl (m2.sent=true→∃ p x,m2.hist=p++[x]∧x.op=8∧x.data=m2.last):=⟨fun hs=>by
     obtain ⟨p,x,e1,e2,e3,_⟩:=(LegPlain.said_end HL2.out.good.few.ok HD.out.1).2 hs
     exact ⟨p,x,e1,e2,e3⟩⟩
    have HHL:Sl (m2.hist.length≤100000):=⟨by
     have h1:=(StreamPlain.all_frs (!masked) 65536 _ (bytes SB) (Nat.le_refl _) (bytes_small SB)).2.2
     rw [HALL,hSB2,bytes_strOf _ hsm] at h1
     simp only at h1
     omega⟩
    clear HALL hSB hSB2 hln hsm HGO HD HEM HPD2
    go_wp2_with fail
    refine RA.mono ?_
    rintro e w5 ⟨vf,rfl,HF,HB5⟩
    clear RA AD
    have HL3:=Sl.mk (HL2.out.below HB5.out)
    clear HL2 HB5
    obtain ⟨nf,hnf⟩:∃ z,m2.hist.length=z:=⟨_,rfl⟩
    obtain ⟨fa,fc,rfl⟩:∃ a c,vf=.slice a nf c:=by obtain ⟨a,c,e⟩:=HF.out.slice;rw [hnf] at e;exact ⟨a,c,e⟩
    have HNF:=Sl.mk hnf
    clear hnf
    cases hst:m2.sent with
    | false =>
      have ST:=sent_ex HL3.out false hst
      have WR:=wrong_ex HL3.out 0 (by rw [(HED.out.no hst).1];rfl)
      have GT:=got_ex HL3.out false (HED.out.no hst).2
      clear hst
      go_wp2_with fail
      refine ST.mono ?_
      rintro e w6 ⟨rfl,rfl⟩
      clear ST
      go_wp2_with fail
      refine WR.mono ?_
      rintro e w6 ⟨rfl,rfl⟩
      clear WR
      go_wp2_with fail
      refine GT.mono ?_
      rintro e w6 ⟨rfl,rfl⟩
      clear GT
      go_wp2
      go_ret
      exact ⟨rfl,HL3.out.low⟩
    | true =>
      have HST:=Sl.mk hst
      have ST:=sent_ex HL3.out true hst
      obtain ⟨p,x,hp,hx8,hxd⟩:=HSE.out hst
      obtain ⟨np,hnp⟩:∃ z,p.length=z:=⟨_,rfl⟩
      have hnf2:nf=np+1:=by rw [← HNF.out,hp,List.length_append,hnp];rfl
      have hgx:m2.hist.getD np Fr0=x:=by rw [hp,List.getD_eq_getElem?_getD,List.getElem?_append_right (by omega),hnp,Nat.sub_self];rfl
      obtain ⟨fb,fo,rfl⟩:=HF.out.frs.cap.2 (by omega)
      obtain ⟨fin,fop,fm,ka,kb,kc,kd,ds,hf1,hcv,-,-⟩:=Cut.fr_at HOK.out np (by rw [HNF.out];omega)
      obtain ⟨-,a1,-,-,-,-,-,a7⟩:=HF.out.frs.at8 np (by rw [HNF.out];omega) hcv
      rw [hgx] at hf1
      have hop:fop=8:=by rw [hf1] at hx8;exact hx8
      subst hop
      have HDS:Sl (bytes ds=m2.last):=⟨by rw [← hxd,hf1]⟩
      have hn1:IntKind.i64.wrap ((nf:Int)-1)=(np:Int):=by rw [IntKind.wrap_i64];have:=HHL.out;have:=HNF.out;omega
      have hn2:((nf:Int)==0)=false:=by simp;omega
      have hn4:(np:Int)<(nf:Int):=by omega
      have hn5:np<nf:=by omega
      have hn6:(0:Int)≤(np:Int):=by omega
      obtain ⟨cz,hcz0⟩:∃ z,LegPlain.codeOf m2.last=z:=⟨_,rfl⟩
      have HCZ:=Sl.mk hcz0
      clear hst hp hx8 hxd hnp hgx hf1 hcv HF hcz0 HSE HOK hnf2
      go_wp2_with fail
      refine ST.mono ?_
      rintro e w6 ⟨rfl,rfl⟩
      clear ST
      by_cases h2:2≤ds.size
      ·have hg2:decide ((ds.size:Int)≥2)=true:=decide_eq_true (by omega)
       have hg3:((ds.size:Int)≥2)=True:=eq_true (by omega)
       have hg4:((2:Int)≤(ds.size:Int))=True:=eq_true (by omega)
       have hll:m2.last.length=ds.size:=by rw [← HDS.out,bytes_length]
       obtain ⟨d0,hd0⟩:∃ z,m2.last.getD 0 0=z:=⟨_,rfl⟩
       obtain ⟨d1,hd1⟩:∃ z,m2.last.getD 1 0=z:=⟨_,rfl⟩
       have l0:d0<256:=by rw [← hd0,← HDS.out];exact LegPlain.getD_small (bytes_small ds) 0
       have l1:d1<256:=by rw [← hd1,← HDS.out];exact LegPlain.getD_small (bytes_small ds) 1
       have hczv:cz=256*d0+d1:=by
        rw [← HCZ.out];unfold LegPlain.codeOf;rw [if_pos (by omega),hd0,hd1]
       have hw0:IntKind.i64.wrap (d0:Int)=(d0:Int):=by rw [IntKind.wrap_i64];omega
       have hw1:IntKind.i64.wrap (256*(d0:Int))=256*(d0:Int):=by rw [IntKind.wrap_i64];omega
       have hw2:IntKind.i64.wrap (d1:Int)=(d1:Int):=by rw [IntKind.wrap_i64];omega
       have hw3:IntKind.i64.wrap (256*(d0:Int)+(d1:Int))=(cz:Int):=by rw [IntKind.wrap_i64];omega
       clear hczv
       go_upto_region 28 with fail
       obtain ⟨Rw,hRw⟩:∃ R,w5.drew=R:=⟨_,rfl⟩
       have HBR:Below w5.heap.size w5 Rw:=by rw [← hRw];exact (Below.refl _ _).drew
       refine wp_region_noPanic ?_
       refine wp_region_held (S:=fun _=>True) (by kernel_rfl) ?_
       change wpAnyH _ _ _ _ _ _ _ _ w5.drew
       rw [hRw]
       clear hRw
       have HS0:True:=trivial
       refine heldTake (d:=some 143) (op:=.move (Operand.tmp 17)) (g:=none) 0 ?v0za rfl (by kernel_rfl) (by kernel_rfl) (by kernel_rfl) (by kernel_rfl) ?y0za HS0 ?_
       case y0za=>intro o' ho W hS;simp only [execOp,ho];go_simp;try rfl
       simp only [Act.put,List.setIfInBounds_toArray,List.set_cons_zero,List.set_cons_succ]
       refine heldTake (d:=some 144) (op:=.index 9 (Operand.tmp 143) (Operand.const (Value.int IntKind.i64 0))) (g:=none) 1 (.int .u8 (d0:Int)) rfl (by kernel_rfl) (by kernel_rfl) (by kernel_rfl) (by kernel_rfl) ?y1za HS0 ?_
       case y1za=>intro o' ho W hS;exact (Fra.index_run (L:=m2.last) ho (by rfl) (by rfl) ⟨HDS.out,by omega⟩ hd0)
       simp only [Act.put,List.setIfInBounds_toArray,List.set_cons_zero,List.set_cons_succ]
       refine heldTake (d:=some 145) (op:=.convert 5 3 (Operand.tmp 144)) (g:=none) 2 (.int .i64 (d0:Int)) rfl (by kernel_rfl) (by kernel_rfl) (by kernel_rfl) (by kernel_rfl) ?y2za HS0 ?_
       case y2za=>intro o' ho W hS;exact (by simp only [execOp,ho];go_simp;first | done | exact hw0 | rw [hw0] | (simpa using hw0))
       simp only [Act.put,List.setIfInBounds_toArray,List.set_cons_zero,List.set_cons_succ]
       refine heldTake (d:=some 146) (op:=.binOp BinOp.mul 3 (Operand.const (Value.int IntKind.i64 256)) (Operand.tmp 145) 3) (g:=none) 3 (.int .i64 (256*(d0:Int))) rfl (by kernel_rfl) (by kernel_rfl) (by kernel_rfl) (by kernel_rfl) ?y3za HS0 ?_
       case y3za=>intro o' ho W hS;exact (by simp only [execOp,ho];go_simp;first | done | exact hw1 | rw [hw1] | (simpa using hw1))
       simp only [Act.put,List.setIfInBounds_toArray,List.set_cons_zero,List.set_cons_succ]
       refine heldTake (d:=some 147) (op:=.move (Operand.tmp 17)) (g:=none) 4 ?v4za rfl (by kernel_rfl) (by kernel_rfl) (by kernel_rfl) (by kernel_rfl) ?y4za HS0 ?_
       case y4za=>intro o' ho W hS;simp only [execOp,ho];go_simp;try rfl
       simp only [Act.put,List.setIfInBounds_toArray,List.set_cons_zero,List.set_cons_succ]
       refine heldTake (d:=some 148) (op:=.index 9 (Operand.tmp 147) (Operand.const (Value.int IntKind.i64 1))) (g:=none) 5 (.int .u8 (d1:Int)) rfl (by kernel_rfl) (by kernel_rfl) (by kernel_rfl) (by kernel_rfl) ?y5za HS0 ?_
       case y5za=>intro o' ho W hS;exact (index_run1 (L:=m2.last) ho (by rfl) (by rfl) ⟨HDS.out,by omega⟩ hd1)
       simp only [Act.put,List.setIfInBounds_toArray,List.set_cons_zero,List.set_cons_succ]
       refine heldTake (d:=some 149) (op:=.convert 5 3 (Operand.tmp 148)) (g:=none) 6 (.int .i64 (d1:Int)) rfl (by kernel_rfl) (by kernel_rfl) (by kernel_rfl) (by kernel_rfl) ?y6za HS0 ?_
       case y6za=>intro o' ho W hS;exact (by simp only [execOp,ho];go_simp;first | done | exact hw2 | rw [hw2] | (simpa using hw2))
       simp only [Act.put,List.setIfInBounds_toArray,List.set_cons_zero,List.set_cons_succ]
       refine heldTake (d:=some 150) (op:=.binOp BinOp.add 3 (Operand.tmp 146) (Operand.tmp 149) 3) (g:=none) 7 (.int .i64 (cz:Int)) rfl (by kernel_rfl) (by kernel_rfl) (by kernel_rfl) (by kernel_rfl) ?y7za HS0 ?_
       case y7za=>intro o' ho W hS;exact (by simp only [execOp,ho];go_simp;first | done | exact hw3 | rw [hw3] | (simpa using hw3))
       simp only [Act.put,List.setIfInBounds_toArray,List.set_cons_zero,List.set_cons_succ]
       refine heldTake (d:=some 18) (op:=.assign (Operand.tmp 150)) (g:=none) 8 (.int .i64 (cz:Int)) rfl (by kernel_rfl) (by kernel_rfl) (by kernel_rfl) (by kernel_rfl) ?y8za HS0 ?_
       case y8za=>intro o' ho W hS;exact (by simp only [execOp,ho];go_simp;try rfl)
       simp only [Act.put,List.setIfInBounds_toArray,List.set_cons_zero,List.set_cons_succ]
       refine wpAnyH_done (by kernel_rfl) ?_ _
       refine NoPanic.normal ?_
       (try go_frame)
       have HL3:=Sl.mk (HL3.out.below HBR)
       clear hd0 hd1 l0 l1 hw0 hw1 hw2 hw3 hll h2 HS0
       rcases LegPlain.end_code HED.out HST.out with ⟨w1,w2,w3,w4,w5⟩ | ⟨w1,w2⟩
       ·have WR:=wrong_ex HL3.out 0 (by rw [w1];rfl)
        have GT:=got_ex HL3.out true w2
        have n1:((cz:Int) != 1005)=true:=by simp;rw [← HCZ.out];omega
        have n2:((cz:Int) != 1006)=true:=by simp;rw [← HCZ.out];omega
        have n3:((cz:Int) != 1015)=true:=by simp;rw [← HCZ.out];omega
        clear w1 w2 w3 w4 w5
        go_wp2_with fail
        refine WR.mono ?_
        rintro e w7 ⟨rfl,rfl⟩
        clear WR
        go_wp2_with fail
        refine GT.mono ?_
        rintro e w7 ⟨rfl,rfl⟩
        clear GT
        go_wp2
        go_ret
        exact ⟨rfl,HL3.out.low⟩
       ·obtain ⟨wz,hwz⟩:∃ z:Int,(m2.wrong:Int)=z:=⟨_,rfl⟩
        have WR:=wrong_ex HL3.out wz hwz
        have e0:(wz==0)=false:=by simp;omega
        rw [HCZ.out] at w2
        by_cases k1:m2.wrong=122∨m2.wrong=111
        ·rw [if_pos k1] at w2
         have hcz:((cz:Int)==1007)=true:=by simp;omega
         by_cases k2:m2.wrong=122
         ·have e1:(wz==122)=true:=by simp;omega
          clear w1 w2 k1 k2 hwz
          go_wp2_with fail
          refine WR.mono ?_
          rintro e w7 ⟨rfl,rfl⟩
          clear WR
          go_wp2
          go_ret
          exact ⟨rfl,HL3.out.low⟩
         ·have e1:(wz==122)=false:=by simp;omega
          have e2:(wz==111)=true:=by simp;omega
          clear w1 w2 k1 k2 hwz
          go_wp2_with fail
          refine WR.mono ?_
          rintro e w7 ⟨rfl,rfl⟩
          clear WR
          go_wp2
          go_ret
          exact ⟨rfl,HL3.out.low⟩
        ·rw [if_neg k1] at w2
         have e1:(wz==122)=false:=by simp;omega
         have e2:(wz==111)=false:=by simp;omega
         by_cases k3:m2.wrong=92∨m2.wrong=121
         ·rw [if_pos k3] at w2
          have hcz:((cz:Int)==1009)=true:=by simp;omega
          by_cases k2:m2.wrong=92
          ·have e3:(wz==92)=true:=by simp;omega
           clear w1 w2 k1 k2 k3 hwz
           go_wp2_with fail
           refine WR.mono ?_
           rintro e w7 ⟨rfl,rfl⟩
           clear WR
           go_wp2
           go_ret
           exact ⟨rfl,HL3.out.low⟩
          ·have e3:(wz==92)=false:=by simp;omega
           have e4:(wz==121)=true:=by simp;omega
           clear w1 w2 k1 k2 k3 hwz
           go_wp2_with fail
           refine WR.mono ?_
           rintro e w7 ⟨rfl,rfl⟩
           clear WR
           go_wp2
           go_ret
           exact ⟨rfl,HL3.out.low⟩
         ·rw [if_neg k3] at w2
          have hcz:((cz:Int)==1002)=true:=by simp;omega
          have e3:(wz==92)=false:=by simp;omega
          have e4:(wz==121)=false:=by simp;omega
          clear w1 w2 k1 k3 hwz
          go_wp2_with fail
          refine WR.mono ?_
          rintro e w7 ⟨rfl,rfl⟩
          clear WR
          go_wp2
          go_ret
          exact ⟨rfl,HL3.out.low⟩
      ·have hg2:decide ((ds.size:Int)≥2)=false:=decide_eq_false (by omega)
       have hg3:((ds.size:Int)≥2)=False:=eq_false (by omega)
       have hg4:((2:Int)≤(ds.size:Int))=False:=eq_false (by omega)
       have hz:cz=0:=by
        rw [← HCZ.out];unfold LegPlain.codeOf
        rw [if_neg (by rw [← HDS.out,bytes_length];exact h2)]
       clear h2
       rcases LegPlain.end_code HED.out HST.out with ⟨w1,w2,-,-,-⟩ | ⟨w1,w2⟩
       ·have WR:=wrong_ex HL3.out 0 (by rw [w1];rfl)
        have GT:=got_ex HL3.out true w2
        clear w1 w2 hz
        go_wp2_with fail
        refine WR.mono ?_
        rintro e w7 ⟨rfl,rfl⟩
        clear WR
        go_wp2_with fail
        refine GT.mono ?_
        rintro e w7 ⟨rfl,rfl⟩
        clear GT
        go_wp2
        go_ret
        exact ⟨rfl,HL3.out.low⟩
       ·exfalso
        rw [HCZ.out,hz] at w2
        split at w2
        ·omega
        ·split at w2<;>omega
  ·have hlt:((i:Int)<(n:Int))=False:=eq_false (by omega)
   have hltb:decide ((i:Int)<(n:Int))=false:=decide_eq_false (by omega)
   have HPD:pend m≤100000:=by
    have h1:=HL.out.good.few.pend
    have e1:(cfL a b o masked).out=1+o:=rfl
    have e2:(cfL a b o masked).frm=1+b:=rfl
    have e3:(cfL a b o masked).msg=1+a:=rfl
    rw [e1,e2,e3] at h1
    omega
   have HPD2:Sl (pend m≤20000):=⟨by
    have h1:=HL.out.good.few.pend
    have e1:(cfL a b o masked).out=1+o:=rfl
    have e2:(cfL a b o masked).frm=1+b:=rfl
    have e3:(cfL a b o masked).msg=1+a:=rfl
    rw [e1,e2,e3] at h1
    omega⟩
   have OT:=out2_any HL.out HPD
   clear HPD HL
   go_wp2_with fail
   refine OT.mono ?_
   rintro e w4 ⟨m2,s2,S2,rfl,HL2,HG2,HD⟩
   clear OT HG2
   have HGO:Sl (m2.gone=m.gone++s2):=⟨HD.out.2.1.gone⟩
   have hln:m2.gone.length≤100000:=by
    rw [HGO.out,List.length_append]
    have:=HEM.out.1;have:=HD.out.2.2;have:=HPD2.out;omega
   have hsm:Small 256 m2.gone:=fun y hy=>gone_small HL2.out.cf.f2 HL2.out.good.few.ok y (List.mem_append_left _ hy)
   obtain ⟨SB,hSB⟩:∃ z,strOf m.gone++strOf s2=z:=⟨_,rfl⟩
   have hSB2:SB=strOf m2.gone:=by rw [← hSB,HGO.out,Fra.strOf_app]
   have AD:(Op.stringOp .add (strOf m.gone) (strOf s2)).run Tryz.prog w4=.ok (.string SB) w4:=by
    rw [← hSB]
    exact run_string_add_sum _ _ _ (by
     rw [strOf_size,strOf_size]
     rw [HGO.out,List.length_append] at hln;omega)
   have HALL:StreamPlain.all (bytes SB) (!masked) 65536=(m2.hist,0,0):=by
    rw [hSB2,bytes_strOf _ hsm]
    exact LegPlain.said_all HL2.out.cf.f2 HL2.out.good.few.ok HD.out.1
   have RA:=Stm.refall_any SB (!masked) 65536 w4 (by rw [hSB2,strOf_size];exact hln) (by decide) m2.hist 0 0 HALL
   have HED:Sl (LegPlain.Ends m2):=⟨LegPlain.ends_keep HD.out.2.1.keep HD.out.2.1.sent HD.out.2.1.last HEM.out.2⟩
   have HOK:=Sl.mk (hist_ok HL2.out.cf.f2 HL2.out.good.few.ok)
   have HSE:Sl (m2.sent=true→∃ p x,m2.hist=p++[x]∧x.op=8∧x.data=m2.last):=⟨fun hs=>by
    obtain ⟨p,x,e1,e2,e3,_⟩:=(LegPlain.said_end HL2.out.good.few.ok HD.out.1).2 hs
    exact ⟨p,x,e1,e2,e3⟩⟩
   have HHL:Sl (m2.hist.length≤100000):=⟨by
    have h1:=(StreamPlain.all_frs (!masked) 65536 _ (bytes SB) (Nat.le_refl _) (bytes_small SB)).2.2
    rw [HALL,hSB2,bytes_strOf _ hsm] at h1
    simp only at h1
    omega⟩
   clear HALL hSB hSB2 hln hsm HGO HD HEM HPD2
   go_wp2_with fail
   refine RA.mono ?_
   rintro e w5 ⟨vf,rfl,HF,HB5⟩
   clear RA AD
   have HL3:=Sl.mk (HL2.out.below HB5.out)
   clear HL2 HB5
   obtain ⟨nf,hnf⟩:∃ z,m2.hist.length=z:=⟨_,rfl⟩
   obtain ⟨fa,fc,rfl⟩:∃ a c,vf=.slice a nf c:=by obtain ⟨a,c,e⟩:=HF.out.slice;rw [hnf] at e;exact ⟨a,c,e⟩
   have HNF:=Sl.mk hnf
   clear hnf
   cases hst:m2.sent with
   | false =>
     have ST:=sent_ex HL3.out false hst
     have WR:=wrong_ex HL3.out 0 (by rw [(HED.out.no hst).1];rfl)
     have GT:=got_ex HL3.out false (HED.out.no hst).2
     clear hst
     go_wp2_with fail
     refine ST.mono ?_
     rintro e w6 ⟨rfl,rfl⟩
     clear ST
     go_wp2_with fail
     refine WR.mono ?_
     rintro e w6 ⟨rfl,rfl⟩
     clear WR
     go_wp2_with fail
     refine GT.mono ?_
     rintro e w6 ⟨rfl,rfl⟩
     clear GT
     go_wp2
     go_ret
     exact ⟨rfl,HL3.out.low⟩
   | true =>
     have HST:=Sl.mk hst
     have ST:=sent_ex HL3.out true hst
     obtain ⟨p,x,hp,hx8,hxd⟩:=HSE.out hst
     obtain ⟨np,hnp⟩:∃ z,p.length=z:=⟨_,rfl⟩
     have hnf2:nf=np+1:=by rw [← HNF.out,hp,List.length_append,hnp];rfl
     have hgx:m2.hist.getD np Fr0=x:=by rw [hp,List.getD_eq_getElem?_getD,List.getElem?_append_right (by omega),hnp,Nat.sub_self];rfl
     obtain ⟨fb,fo,rfl⟩:=HF.out.frs.cap.2 (by omega)
     obtain ⟨fin,fop,fm,ka,kb,kc,kd,ds,hf1,hcv,-,-⟩:=Cut.fr_at HOK.out np (by rw [HNF.out];omega)
     obtain ⟨-,a1,-,-,-,-,-,a7⟩:=HF.out.frs.at8 np (by rw [HNF.out];omega) hcv
     rw [hgx] at hf1
     have hop:fop=8:=by rw [hf1] at hx8;exact hx8
     subst hop
     have HDS:Sl (bytes ds=m2.last):=⟨by rw [← hxd,hf1]⟩
     have hn1:IntKind.i64.wrap ((nf:Int)-1)=(np:Int):=by rw [IntKind.wrap_i64];have:=HHL.out;have:=HNF.out;omega
     have hn2:((nf:Int)==0)=false:=by simp;omega
     have hn4:(np:Int)<(nf:Int):=by omega
     have hn5:np<nf:=by omega
     have hn6:(0:Int)≤(np:Int):=by omega
     obtain ⟨cz,hcz0⟩:∃ z,LegPlain.codeOf m2.last=z:=⟨_,rfl⟩
     have HCZ:=Sl.mk hcz0
     clear hst hp hx8 hxd hnp hgx hf1 hcv HF hcz0 HSE HOK hnf2
     go_wp2_with fail
     refine ST.mono ?_
     rintro e w6 ⟨rfl,rfl⟩
     clear ST
     by_cases h2:2≤ds.size
     ·have hg2:decide ((ds.size:Int)≥2)=true:=decide_eq_true (by omega)
      have hg3:((ds.size:Int)≥2)=True:=eq_true (by omega)
      have hg4:((2:Int)≤(ds.size:Int))=True:=eq_true (by omega)
      have hll:m2.last.length=ds.size:=by rw [← HDS.out,bytes_length]
      obtain ⟨d0,hd0⟩:∃ z,m2.last.getD 0 0=z:=⟨_,rfl⟩
      obtain ⟨d1,hd1⟩:∃ z,m2.last.getD 1 0=z:=⟨_,rfl⟩
      have l0:d0<256:=by rw [← hd0,← HDS.out];exact LegPlain.getD_small (bytes_small ds) 0
      have l1:d1<256:=by rw [← hd1,← HDS.out];exact LegPlain.getD_small (bytes_small ds) 1
      have hczv:cz=256*d0+d1:=by
       rw [← HCZ.out];unfold LegPlain.codeOf;rw [if_pos (by omega),hd0,hd1]
      have hw0:IntKind.i64.wrap (d0:Int)=(d0:Int):=by rw [IntKind.wrap_i64];omega
      have hw1:IntKind.i64.wrap (256*(d0:Int))=256*(d0:Int):=by rw [IntKind.wrap_i64];omega
      have hw2:IntKind.i64.wrap (d1:Int)=(d1:Int):=by rw [IntKind.wrap_i64];omega
      have hw3:IntKind.i64.wrap (256*(d0:Int)+(d1:Int))=(cz:Int):=by rw [IntKind.wrap_i64];omega
      clear hczv
      go_upto_region 28 with fail
      obtain ⟨Rw,hRw⟩:∃ R,w5.drew=R:=⟨_,rfl⟩
      have HBR:Below w5.heap.size w5 Rw:=by rw [← hRw];exact (Below.refl _ _).drew
      refine wp_region_noPanic ?_
      refine wp_region_held (S:=fun _=>True) (by kernel_rfl) ?_
      change wpAnyH _ _ _ _ _ _ _ _ w5.drew
      rw [hRw]
      clear hRw
      have HS0:True:=trivial
      refine heldTake (d:=some 143) (op:=.move (Operand.tmp 17)) (g:=none) 0 ?v0zb rfl (by kernel_rfl) (by kernel_rfl) (by kernel_rfl) (by kernel_rfl) ?y0zb HS0 ?_
      case y0zb=>intro o' ho W hS;simp only [execOp,ho];go_simp;try rfl
      simp only [Act.put,List.setIfInBounds_toArray,List.set_cons_zero,List.set_cons_succ]
      refine heldTake (d:=some 144) (op:=.index 9 (Operand.tmp 143) (Operand.const (Value.int IntKind.i64 0))) (g:=none) 1 (.int .u8 (d0:Int)) rfl (by kernel_rfl) (by kernel_rfl) (by kernel_rfl) (by kernel_rfl) ?y1zb HS0 ?_
      case y1zb=>intro o' ho W hS;exact (Fra.index_run (L:=m2.last) ho (by rfl) (by rfl) ⟨HDS.out,by omega⟩ hd0)
      simp only [Act.put,List.setIfInBounds_toArray,List.set_cons_zero,List.set_cons_succ]
      refine heldTake (d:=some 145) (op:=.convert 5 3 (Operand.tmp 144)) (g:=none) 2 (.int .i64 (d0:Int)) rfl (by kernel_rfl) (by kernel_rfl) (by kernel_rfl) (by kernel_rfl) ?y2zb HS0 ?_
      case y2zb=>intro o' ho W hS;exact (by simp only [execOp,ho];go_simp;first | done | exact hw0 | rw [hw0] | (simpa using hw0))
      simp only [Act.put,List.setIfInBounds_toArray,List.set_cons_zero,List.set_cons_succ]
      refine heldTake (d:=some 146) (op:=.binOp BinOp.mul 3 (Operand.const (Value.int IntKind.i64 256)) (Operand.tmp 145) 3) (g:=none) 3 (.int .i64 (256*(d0:Int))) rfl (by kernel_rfl) (by kernel_rfl) (by kernel_rfl) (by kernel_rfl) ?y3zb HS0 ?_
      case y3zb=>intro o' ho W hS;exact (by simp only [execOp,ho];go_simp;first | done | exact hw1 | rw [hw1] | (simpa using hw1))
      simp only [Act.put,List.setIfInBounds_toArray,List.set_cons_zero,List.set_cons_succ]
      refine heldTake (d:=some 147) (op:=.move (Operand.tmp 17)) (g:=none) 4 ?v4zb rfl (by kernel_rfl) (by kernel_rfl) (by kernel_rfl) (by kernel_rfl) ?y4zb HS0 ?_
      case y4zb=>intro o' ho W hS;simp only [execOp,ho];go_simp;try rfl
      simp only [Act.put,List.setIfInBounds_toArray,List.set_cons_zero,List.set_cons_succ]
      refine heldTake (d:=some 148) (op:=.index 9 (Operand.tmp 147) (Operand.const (Value.int IntKind.i64 1))) (g:=none) 5 (.int .u8 (d1:Int)) rfl (by kernel_rfl) (by kernel_rfl) (by kernel_rfl) (by kernel_rfl) ?y5zb HS0 ?_
      case y5zb=>intro o' ho W hS;exact (index_run1 (L:=m2.last) ho (by rfl) (by rfl) ⟨HDS.out,by omega⟩ hd1)
      simp only [Act.put,List.setIfInBounds_toArray,List.set_cons_zero,List.set_cons_succ]
      refine heldTake (d:=some 149) (op:=.convert 5 3 (Operand.tmp 148)) (g:=none) 6 (.int .i64 (d1:Int)) rfl (by kernel_rfl) (by kernel_rfl) (by kernel_rfl) (by kernel_rfl) ?y6zb HS0 ?_
      case y6zb=>intro o' ho W hS;exact (by simp only [execOp,ho];go_simp;first | done | exact hw2 | rw [hw2] | (simpa using hw2))
      simp only [Act.put,List.setIfInBounds_toArray,List.set_cons_zero,List.set_cons_succ]
      refine heldTake (d:=some 150) (op:=.binOp BinOp.add 3 (Operand.tmp 146) (Operand.tmp 149) 3) (g:=none) 7 (.int .i64 (cz:Int)) rfl (by kernel_rfl) (by kernel_rfl) (by kernel_rfl) (by kernel_rfl) ?y7zb HS0 ?_
      case y7zb=>intro o' ho W hS;exact (by simp only [execOp,ho];go_simp;first | done | exact hw3 | rw [hw3] | (simpa using hw3))
      simp only [Act.put,List.setIfInBounds_toArray,List.set_cons_zero,List.set_cons_succ]
      refine heldTake (d:=some 18) (op:=.assign (Operand.tmp 150)) (g:=none) 8 (.int .i64 (cz:Int)) rfl (by kernel_rfl) (by kernel_rfl) (by kernel_rfl) (by kernel_rfl) ?y8zb HS0 ?_
      case y8zb=>intro o' ho W hS;exact (by simp only [execOp,ho];go_simp;try rfl)
      simp only [Act.put,List.setIfInBounds_toArray,List.set_cons_zero,List.set_cons_succ]
      refine wpAnyH_done (by kernel_rfl) ?_ _
      refine NoPanic.normal ?_
      (try go_frame)
      have HL3:=Sl.mk (HL3.out.below HBR)
      clear hd0 hd1 l0 l1 hw0 hw1 hw2 hw3 hll h2 HS0
      rcases LegPlain.end_code HED.out HST.out with ⟨w1,w2,w3,w4,w5⟩ | ⟨w1,w2⟩
      ·have WR:=wrong_ex HL3.out 0 (by rw [w1];rfl)
       have GT:=got_ex HL3.out true w2
       have n1:((cz:Int) != 1005)=true:=by simp;rw [← HCZ.out];omega
       have n2:((cz:Int) != 1006)=true:=by simp;rw [← HCZ.out];omega
       have n3:((cz:Int) != 1015)=true:=by simp;rw [← HCZ.out];omega
       clear w1 w2 w3 w4 w5
       go_wp2_with fail
       refine WR.mono ?_
       rintro e w7 ⟨rfl,rfl⟩
       clear WR
       go_wp2_with fail
       refine GT.mono ?_
       rintro e w7 ⟨rfl,rfl⟩
       clear GT
       go_wp2
       go_ret
       exact ⟨rfl,HL3.out.low⟩
      ·obtain ⟨wz,hwz⟩:∃ z:Int,(m2.wrong:Int)=z:=⟨_,rfl⟩
       have WR:=wrong_ex HL3.out wz hwz
       have e0:(wz==0)=false:=by simp;omega
       rw [HCZ.out] at w2
       by_cases k1:m2.wrong=122∨m2.wrong=111
       ·rw [if_pos k1] at w2
        have hcz:((cz:Int)==1007)=true:=by simp;omega
        by_cases k2:m2.wrong=122
        ·have e1:(wz==122)=true:=by simp;omega
         clear w1 w2 k1 k2 hwz
         go_wp2_with fail
         refine WR.mono ?_
         rintro e w7 ⟨rfl,rfl⟩
         clear WR
         go_wp2
         go_ret
         exact ⟨rfl,HL3.out.low⟩
        ·have e1:(wz==122)=false:=by simp;omega
         have e2:(wz==111)=true:=by simp;omega
         clear w1 w2 k1 k2 hwz
         go_wp2_with fail
         refine WR.mono ?_
         rintro e w7 ⟨rfl,rfl⟩
         clear WR
         go_wp2
         go_ret
         exact ⟨rfl,HL3.out.low⟩
       ·rw [if_neg k1] at w2
        have e1:(wz==122)=false:=by simp;omega
        have e2:(wz==111)=false:=by simp;omega
        by_cases k3:m2.wrong=92∨m2.wrong=121
        ·rw [if_pos k3] at w2
         have hcz:((cz:Int)==1009)=true:=by simp;omega
         by_cases k2:m2.wrong=92
         ·have e3:(wz==92)=true:=by simp;omega
          clear w1 w2 k1 k2 k3 hwz
          go_wp2_with fail
          refine WR.mono ?_
          rintro e w7 ⟨rfl,rfl⟩
          clear WR
          go_wp2
          go_ret
          exact ⟨rfl,HL3.out.low⟩
         ·have e3:(wz==92)=false:=by simp;omega
          have e4:(wz==121)=true:=by simp;omega
          clear w1 w2 k1 k2 k3 hwz
          go_wp2_with fail
          refine WR.mono ?_
          rintro e w7 ⟨rfl,rfl⟩
          clear WR
          go_wp2
          go_ret
          exact ⟨rfl,HL3.out.low⟩
        ·rw [if_neg k3] at w2
         have hcz:((cz:Int)==1002)=true:=by simp;omega
         have e3:(wz==92)=false:=by simp;omega
         have e4:(wz==121)=false:=by simp;omega
         clear w1 w2 k1 k3 hwz
         go_wp2_with fail
         refine WR.mono ?_
         rintro e w7 ⟨rfl,rfl⟩
         clear WR
         go_wp2
         go_ret
         exact ⟨rfl,HL3.out.low⟩
     ·have hg2:decide ((ds.size:Int)≥2)=false:=decide_eq_false (by omega)
      have hg3:((ds.size:Int)≥2)=False:=eq_false (by omega)
      have hg4:((2:Int)≤(ds.size:Int))=False:=eq_false (by omega)
      have hz:cz=0:=by
       rw [← HCZ.out];unfold LegPlain.codeOf
       rw [if_neg (by rw [← HDS.out,bytes_length];exact h2)]
      clear h2
      rcases LegPlain.end_code HED.out HST.out with ⟨w1,w2,-,-,-⟩ | ⟨w1,w2⟩
      ·have WR:=wrong_ex HL3.out 0 (by rw [w1];rfl)
       have GT:=got_ex HL3.out true w2
       clear w1 w2 hz
       go_wp2_with fail
       refine WR.mono ?_
       rintro e w7 ⟨rfl,rfl⟩
       clear WR
       go_wp2_with fail
       refine GT.mono ?_
       rintro e w7 ⟨rfl,rfl⟩
       clear GT
       go_wp2
       go_ret
       exact ⟨rfl,HL3.out.low⟩
      ·exfalso
       rw [HCZ.out,hz] at w2
       split at w2
       ·omega
       ·split at w2<;>omega
end Go.Proofs.YtlahonjmfecikaaGreatDoor.Leg
