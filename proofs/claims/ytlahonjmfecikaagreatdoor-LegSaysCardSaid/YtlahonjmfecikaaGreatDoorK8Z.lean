/- leg: LegSays' walk. -/
import Derived.Test.YtlahonjmfecikaaGreatDoorYl
import Derived.Test.YtlahonjmfecikaaGreatDoorLegToldZ
set_option maxRecDepth 100000
set_option linter.unusedVariables false
set_option linter.unusedSimpArgs false
namespace Go.Proofs.YtlahonjmfecikaaGreatDoor.Leg
open Go.RowKit Stm
open FramePlain (Fr Fr0)
open LegPlain (Cf Lg)
open Msg (Kept MacS Mine)
open LegPlain (Inv Few CfOk Good came evs errs react bound feed fail L0 takeN pend wts evf stK Rd rd1)
open MsgPlain (Ev Ms M0 run)
open Evt
structure RS (w wr:World) (L cb:Nat) (X:Obj) (S:Nat→Prop) (c:Cf) (l:Lg) (k:Nat) (v:Value) (ws:List Ev):Prop where
 A:LegH w wr L S c l k
 C:wr.heap[cb]? = some X
 cc:∀ j,S j→j≠cb
 cge:w.heap.size≤cb
 V:OwnE wr w.heap.size v ws
 vv:∀ j,v.ownBlock=some j→¬ S j∧j≠cb
section
variable {w wr w':World} {L cb:Nat} {X:Obj} {S S':Nat→Prop} {c:Cf} {l l':Lg} {k k':Nat} {v v':Value} {ws ws':List Ev}
theorem RS.lt (h:RS w wr L cb X S c l k v ws):cb<wr.heap.size:=(Array.getElem?_eq_some_iff.1 h.C).1
theorem RS.below (h:RS w wr L cb X S c l k v ws) (b:Below wr.heap.size wr w'):RS w w' L cb X S c l k v ws :=
 ⟨h.A.below b,below_key h.C b,h.cc,h.cge,h.V.below b,h.vv⟩
theorem RS.mono (h:RS w wr L cb X S c l k v ws) (hj:k≤k') (hk:k'≤1000):RS w wr L cb X S c l k' v ws :=
 ⟨h.A.mono hj hk,h.C,h.cc,h.cge,h.V,h.vv⟩
theorem RS.step (h:RS w wr L cb X S c l k v ws) (hA:LegH w w' L S' c l' k') (g:FGoes wr w' S S'):RS w w' L cb X S' c l' k' v ws where
 A:=hA
 C:=by rw [g.kept.block cb h.lt (fun e=>h.cc cb e rfl)];exact h.C
 cc:=fun j e e2=>g.apart (T:=fun j=>j=cb) (fun j e3 e4=>h.cc j e3 e4) (fun j e=>e ▸ h.lt) j e e2
 cge:=h.cge
 V:=Cut.own_kept h.V g.kept (fun j e=>(h.vv j e).1)
 vv:=fun j e=>⟨fun e2=>g.apart (T:=fun j=>v.ownBlock=some j) (fun j e3 e4=>(h.vv j e4).1 e3) (fun j e=>evs_lt h.V e) j e2 e,(h.vv j e).2⟩
theorem RS.told (h:RS w wr L cb X S c l k v ws) (hO:OwnE w' w.heap.size v' ws') (g:wr.grownBy w' v.ownBlock) (hu:v'.ownBlock=v.ownBlock∨v'.ownBlock=some wr.heap.size):RS w w' L cb X S c l k v' ws':=by
 have hk:Kept (fun j=>v.ownBlock=some j) wr w':=Kept.grown g (fun j e=>e)
 have hL:Below w.heap.size w w':=hk.up h.A.low (fun j e=>(h.V.heap e).1) h.A.low.size
 refine ⟨h.A.stay hk (fun j e e2=>(h.vv j e2).1 e) hL,by rw [hk.block cb h.lt (fun e=>(h.vv cb e).2 rfl)];exact h.C,h.cc,h.cge,hO,fun j e=>?_⟩
 rcases hu with h1 | h1
 ·exact h.vv j (h1 ▸ e)
 ·rw [h1] at e;injection e with e;subst e
  exact ⟨fun e2=>Nat.lt_irrefl _ (h.A.own e2).2,fun e2=>by have:=h.lt;omega⟩
end
theorem dat_pref {v w t:List Nat} (h:v++w=t) (hs:Small 256 t):v.length≤(strOf t).size∧(strOf t).extract 0 v.length=strOf v:=by
 have hv:Small 256 v:=fun y hy=>hs y (by rw [← h];exact List.mem_append_left _ hy)
 refine ⟨by rw [strOf_size,← h,List.length_append];omega,bytes_inj ?_⟩
 rw [bytes_strOf v hv,bytes_extract,List.drop_zero,bytes_strOf t hs,← h,List.take_left]
set_option maxHeartbeats 16000000 in
theorem says_walk (a b o:Nat) (masked:Bool) (d:Nat) (va:Value) (xs:List Ac) (w:World) (hg:G3 w) (ha:a<256) (hb:b<256) (ho:o<256) (hd:d<4294967296) (hva:ActsAt w va xs) (hok:∀ x∈xs,AcOk x) (hlm:xs.length≤maxLen):Calls Tryz.prog 4 #[.agg #[.int .u8 (a:Int),.int .u8 (b:Int),.int .u8 (o:Int)],.bool masked,.int .u32 (d:Int),va] w fun e w'=>e=.returned (.bool true)∧Below w.heap.size w w':=by
 obtain ⟨i1,h1⟩:∃ i:Int,((1+a:Nat):Int)=i:=⟨_,rfl⟩
 obtain ⟨i2,h2⟩:∃ i:Int,((1+b:Nat):Int)=i:=⟨_,rfl⟩
 obtain ⟨i3,h3⟩:∃ i:Int,((1+o:Nat):Int)=i:=⟨_,rfl⟩
 obtain ⟨x1,e1⟩:∃ i:Int,(a:Int)=i:=⟨_,rfl⟩
 obtain ⟨x2,e2⟩:∃ i:Int,(b:Int)=i:=⟨_,rfl⟩
 obtain ⟨x3,e3⟩:∃ i:Int,(o:Int)=i:=⟨_,rfl⟩
 rw [e1,e2,e3]
 have CF:Sl (∀ V,Calls Tryz.prog 19 #[.int .u8 x1,.int .u8 x2,.int .u8 x3] V fun e w'=>∃ g,e=.returned (.agg #[.slice (some ⟨g,0,none⟩) 1 1,.slice none 0 0,.int .i64 4,.int .i64 i1,.int .i64 i2,.int .i64 3,.int .i64 300,.int .i64 i3,.int .i64 5,.int .i64 9,.int .i64 3,.int .i64 4])∧Sl (w'.heap[g]? = some (.cells #[.string {data:=#[47]},.string {data:=#[]},.string {data:=#[120]}] 72 (0,0))∧V.heap.size≤g)∧Sl (Below V.heap.size V w')):=⟨fun V=>cfg_L ha hb ho h1 h2 h3 e1 e2 e3 V⟩
 have NW:Sl (∀ V g,Below w.heap.size w V→Rou.RtsAt V (.slice (some ⟨g,0,none⟩) 1 1) [rb1]→Calls Tryz.prog 13 #[.agg #[.slice (some ⟨g,0,none⟩) 1 1,.slice none 0 0,.int .i64 4,.int .i64 i1,.int .i64 i2,.int .i64 3,.int .i64 300,.int .i64 i3,.int .i64 5,.int .i64 9,.int .i64 3,.int .i64 4],.bool masked,.int .u32 (d:Int)] V fun e w'=>∃ L S,e=.returned (.tuple #[.pointer (some ⟨L,0,none⟩),.int .i64 0])∧Sl (LegH w w' L S (cfL a b o masked) (L0 d) 0)∧Sl (Below V.heap.size V w')∧Sl (∀ j,S j→V.heap.size≤j)):=⟨fun V g hV hv=>new_L ha hb ho h1 h2 h3 masked d (by omega) rfl hg hV hv⟩
 have HG:=Sl.mk hg
 have HI2:Sl (((1+b:Nat):Int)=i2):=⟨h2⟩
 obtain ⟨ad,cap,sb,so,rfl,_,had,hcell⟩:=hva
 obtain ⟨n,hn⟩:∃ n,xs.length=n:=⟨_,rfl⟩
 have HN:=Sl.mk hn
 rw [hn] at had hlm ⊢
 clear hg h1 h2 h3 e1 e2 e3 hn hok
 go_enter Tryz.func4,Tryz.ntmps4
 go_upto_region 1 with fail
 obtain ⟨w0,hw0⟩:∃ V,w.alloc (.cells #[.int .u8 x1,.int .u8 x2,.int .u8 x3] 45)=V:=⟨_,rfl⟩
 have HB0:Sl (Below w.heap.size w w0):=⟨by rw [← hw0];exact (Below.refl _ _).alloc (Nat.le_refl _) _⟩
 have HZ0:w0.heap[w.heap.size]? = some (.cells #[.int .u8 x1,.int .u8 x2,.int .u8 x3] 45 (0,0)):=by rw [← hw0];exact alloc_new _ _ _ rfl
 (try rw [hw0])
 have z0:=Rou.cell_at HZ0 0 _ rfl
 have z1:=Rou.cell_at HZ0 1 _ rfl
 have z2:=Rou.cell_at HZ0 2 _ rfl
 clear hw0 HZ0
 have CF0:=CF.out w0
 go_wp2_with fail
 refine CF0.mono ?_
 rintro e w1 ⟨g,rfl,HV,HB1⟩
 clear CF0 z0 z1 z2
 obtain ⟨X1,hX1⟩:∃ V,w1.alloc (.cells #[.slice (some ⟨g,0,none⟩) 1 1,.slice none 0 0,.int .i64 4,.int .i64 i1,.int .i64 i2,.int .i64 3,.int .i64 300,.int .i64 i3,.int .i64 5,.int .i64 9,.int .i64 3,.int .i64 4] 25)=V:=⟨_,rfl⟩
 have hXB:Below w1.heap.size w1 X1:=by rw [← hX1];exact (Below.refl _ _).alloc (Nat.le_refl _) _
 have hXC:X1.heap[w1.heap.size]? = some (.cells #[.slice (some ⟨g,0,none⟩) 1 1,.slice none 0 0,.int .i64 4,.int .i64 i1,.int .i64 i2,.int .i64 3,.int .i64 300,.int .i64 i3,.int .i64 5,.int .i64 9,.int .i64 3,.int .i64 4] 25 (0,0)):=by rw [← hX1];exact alloc_new _ _ _ rfl
 obtain ⟨cb,hcb⟩:∃ b,w1.heap.size=b:=⟨_,rfl⟩
 have HRT:Sl (Rou.RtsAt X1 (.slice (some ⟨g,0,none⟩) 1 1) [rb1]):=⟨rts_one (below_key HV.out.1 hXB)⟩
 have HB01:Sl (Below w.heap.size w w1):=⟨HB0.out.trans (HB1.out.mono HB0.out.size)⟩
 have HB2:Sl (Below w.heap.size w X1):=⟨HB01.out.trans (hXB.mono HB01.out.size)⟩
 have HGE:Sl (w.heap.size≤cb):=⟨by rw [← hcb];exact HB01.out.size⟩
 have HXC:=Sl.mk hXC
 clear CF HV HB1 HB0 HB01 hXB
 rw [hcb] at HXC hXC
 have k0:=Rou.cell_at hXC 0 _ rfl
 have k1:=Rou.cell_at hXC 1 _ rfl
 have k2:=Rou.cell_at hXC 2 _ rfl
 have k3:=Rou.cell_at hXC 3 _ rfl
 have k4:=Rou.cell_at hXC 4 _ rfl
 have k5:=Rou.cell_at hXC 5 _ rfl
 have k6:=Rou.cell_at hXC 6 _ rfl
 have k7:=Rou.cell_at hXC 7 _ rfl
 have k8:=Rou.cell_at hXC 8 _ rfl
 have k9:=Rou.cell_at hXC 9 _ rfl
 have k10:=Rou.cell_at hXC 10 _ rfl
 have k11:=Rou.cell_at hXC 11 _ rfl
 go_upto_region 2 with fail
 (try rw [hX1])
 (try rw [hcb])
 clear hX1 hcb hXC
 have NW1:=NW.out X1 g HB2.out HRT.out
 go_wp2_with fail
 refine NW1.mono ?_
 rintro e w2 ⟨L,S,rfl,HL2,HB3,HS⟩
 clear NW1
 clear k0 k1 k2 k3 k4 k5 k6 k7 k8 k9 k10 k11
 have HCB2:Sl (w2.heap[cb]? = some (.cells #[.slice (some ⟨g,0,none⟩) 1 1,.slice none 0 0,.int .i64 4,.int .i64 i1,.int .i64 i2,.int .i64 3,.int .i64 300,.int .i64 i3,.int .i64 5,.int .i64 9,.int .i64 3,.int .i64 4] 25 (0,0))∧∀ j,S j→j≠cb):=⟨below_key HXC.out HB3.out,fun j e e2=>by have:=HS.out j e;have:=(Array.getElem?_eq_some_iff.1 HXC.out).1;omega⟩
 clear HB2 HB3 HRT NW HXC HS
 have AW1:=awake_any w2 HG.out HL2.out.low
 go_wp2_with fail
 refine AW1.mono ?_
 rintro e w3 ⟨rfl,HB6⟩
 clear AW1
 have HL3:=Sl.mk (HL2.out.below HB6.out)
 have HCB3:Sl (w3.heap[cb]? = some (.cells #[.slice (some ⟨g,0,none⟩) 1 1,.slice none 0 0,.int .i64 4,.int .i64 i1,.int .i64 i2,.int .i64 3,.int .i64 300,.int .i64 i3,.int .i64 5,.int .i64 9,.int .i64 3,.int .i64 4] 25 (0,0))∧∀ j,S j→j≠cb):=⟨below_key HCB2.out.1 HB6.out,HCB2.out.2⟩
 clear HL2 HCB2 HB6
 obtain ⟨w4,hw4⟩:∃ V,w3.alloc (.cells #[] 52)=V:=⟨_,rfl⟩
 have B4:Below w3.heap.size w3 w4:=by rw [← hw4];exact (Below.refl _ _).alloc (Nat.le_refl _) _
 have O4:OwnE w4 w.heap.size (.slice (some ⟨w3.heap.size,0,none⟩) 0 0) []:=by rw [← hw4];exact ownE_made w3 _ HL3.out.low.size
 have HRS0:Sl (RS w w4 L cb (.cells #[.slice (some ⟨g,0,none⟩) 1 1,.slice none 0 0,.int .i64 4,.int .i64 i1,.int .i64 i2,.int .i64 3,.int .i64 300,.int .i64 i3,.int .i64 5,.int .i64 9,.int .i64 3,.int .i64 4] 25 (0,0)) S (cfL a b o masked) (L0 d) 0 (.slice (some ⟨w3.heap.size,0,none⟩) 0 0) ((L0 d).said.map evf)):=⟨HL3.out.below B4,below_key HCB3.out.1 B4,HCB3.out.2,HGE.out,O4,fun j e=>by
  obtain rfl:w3.heap.size=j:=by simpa [Value.ownBlock] using e
  exact ⟨fun e2=>Nat.lt_irrefl _ (HL3.out.own e2).2,fun e2=>by have:=(Array.getElem?_eq_some_iff.1 HCB3.out.1).1;omega⟩⟩
 clear B4 O4 HL3 HCB3
 go_upto_region 6 with fail
 (try rw [hw4])
 clear hw4
 go_wp2
 go_loopw [12,13,14,15] (fun u12 u13 u14 u15 wr=>∃ (i:Nat) (m:Lg) (S1:Nat→Prop) (va:Option Addr) (vn vc:Nat),u12=.slice va vn vc∧u13=.string (strOf m.gone)∧u14=.int .i64 (i:Int)∧i≤n∧i≤30∧Sl (m.gone.length≤300*i∧m.said.length≤i)∧Sl (RS w wr L cb (.cells #[.slice (some ⟨g,0,none⟩) 1 1,.slice none 0 0,.int .i64 4,.int .i64 i1,.int .i64 i2,.int .i64 3,.int .i64 300,.int .i64 i3,.int .i64 5,.int .i64 9,.int .i64 3,.int .i64 4] 25 (0,0)) S1 (cfL a b o masked) m i (.slice va vn vc) (m.said.map evf))) (fun _ _ u14 _ _=>30-(intOf u14).toNat)
 case atStart=>exact ⟨0,L0 d,S,_,_,_,rfl,by rw [show (L0 d).gone=[] from rfl,Cut.strOf_nil],rfl,Nat.zero_le _,Nat.zero_le _,⟨Nat.zero_le _,Nat.zero_le _⟩,HRS0⟩
 case round =>
  obtain ⟨i,m,S1,va,vn,vc,rfl,rfl,rfl,hi,hi40,HEM,HR⟩:=hrel
  clear HRS0
  have HI40:=Sl.mk hi40
  by_cases hgo:i<n∧i<30
  ·obtain ⟨hin,h40⟩:=hgo
   have hlt:((i:Int)<(n:Int))=True:=eq_true (by omega)
   have hltb:decide ((i:Int)<(n:Int))=true:=decide_eq_true (by omega)
   have hlt2:((i:Int)<30)=True:=eq_true (by omega)
   have hlt2b:decide ((i:Int)<30)=true:=decide_eq_true (by omega)
   have hltn:(i:Int)<(n:Int):=by omega
   obtain rfl:=had (by omega)
   obtain ⟨kind,op,code,num,s,hact⟩:∃ kind op code num s,xs.getD i Ac0=⟨kind,op,code,num,s⟩:=⟨_,_,_,_,_,rfl⟩
   obtain ⟨f0,f1,f2,f3,f4⟩:=acts_at hcell HR.out.A.low i (by rw [HN.out];exact hin) hact
   obtain ⟨w4,hw4⟩:∃ V,wr.alloc (.cells #[.int .i64 kind,.int .i64 op,.int .i64 code,.int .i64 num,.string s] 40)=V:=⟨_,rfl⟩
   have hB4:Below wr.heap.size wr w4:=by rw [← hw4];exact (Below.refl _ _).alloc (Nat.le_refl _) _
   have hX4:w4.heap[wr.heap.size]? = some (.cells #[.int .i64 kind,.int .i64 op,.int .i64 code,.int .i64 num,.string s] 40 (0,0)):=by rw [← hw4];exact alloc_new _ _ _ rfl
   have HXS:Sl (∀ j,S1 j→j≠wr.heap.size):=⟨fun j e e2=>by have:=(HR.out.A.own e).2;omega⟩
   have HR4:=Sl.mk (HR.out.below hB4)
   obtain ⟨xb,hxb⟩:∃ x,wr.heap.size=x:=⟨_,rfl⟩
   rw [hxb] at hX4 HXS
   obtain ⟨b0,b1,b2,b3,b4⟩:=act_cells hX4
   have HX4:=Sl.mk hX4
   obtain ⟨fw,hfw⟩:∃ r,decide (s.size≤300)=r:=⟨_,rfl⟩
   have FW:=few_any kind op code num s w4 fw hfw
   clear HR hB4 hX4 hact
   go_upto_region 10 with fail
   (try rw [hw4])
   (try rw [hxb])
   clear hw4 hxb f0 f1 f2 f3 f4
   go_wp2_with fail
   refine FW.mono ?_
   rintro e w5 ⟨rfl,HB5⟩
   clear FW b0 b1 b2 b3 b4
   have HR5:=Sl.mk (HR4.out.below HB5.out)
   have HX5:=Sl.mk (below_key HX4.out HB5.out)
   clear HR4 HX4 HB5
   cases fw with
   | false =>
     clear hfw
     have HR8:=Sl.mk (HR5.out.mono (Nat.le_succ _) (by have:=HI40.out;omega))
     have HEN:Sl (m.gone.length≤300*(i+1)∧m.said.length≤i+1):=⟨by have:=HEM.out.1;omega,by have:=HEM.out.2;omega⟩
     clear HR5
     go_wp2
     exact ⟨⟨i+1,m,S1,va,vn,vc,rfl,rfl,by go_num,by omega,by omega,HEN,HR8⟩,by simp [intOf];omega⟩
   | true =>
     have hs300:s.size≤300:=of_decide_eq_true hfw
     obtain ⟨b0,b1,b2,b3,b4⟩:=act_cells HX5.out
     clear hfw
     by_cases h0:kind=0
     ·subst h0
      obtain ⟨cp,w6,hconv,HS6,HX6⟩:=conv_str s w5
      have HR6:=Sl.mk (HR5.out.below HX6.out)
      obtain ⟨m',hm'⟩:∃ x,(feed (cfL a b o masked) m (bytes s)).1=x:=⟨_,rfl⟩
      have T:=feed_ex HR6.out.A _ _ HS6.out (bytes_small s) (by rw [bytes_length];omega) m' _ (Prod.ext hm' rfl)
      have HGN:Sl (m'.gone=m.gone):=⟨by rw [← hm'];exact feed_gone (cfL a b o masked) m (bytes s)⟩
      have HSN:Sl (m'.said=m.said):=⟨by rw [← hm'];exact LegPlain.feed_said (cfL a b o masked) m (bytes s)⟩
      have HEN:Sl (m'.gone.length≤300*(i+1)∧m'.said.length≤i+1):=⟨by rw [HGN.out];have:=HEM.out.1;omega,by rw [HSN.out];have:=HEM.out.2;omega⟩
      clear hm' HS6 HX6 HEM
      go_wp2_with fail
      refine T.mono ?_
      rintro e w7 ⟨S7,rv,rfl,-,HL7,HG7,-⟩
      clear T hconv HR5
      have HR8:Sl (RS w w7 L cb (.cells #[.slice (some ⟨g,0,none⟩) 1 1,.slice none 0 0,.int .i64 4,.int .i64 i1,.int .i64 i2,.int .i64 3,.int .i64 300,.int .i64 i3,.int .i64 5,.int .i64 9,.int .i64 3,.int .i64 4] 25 (0,0)) S7 (cfL a b o masked) m' (i+1) (.slice va vn vc) (m'.said.map evf)):=⟨by rw [HSN.out];exact (HR6.out.step HL7.out HG7.out).mono (Nat.le_succ _) (by have:=HI40.out;omega)⟩
      clear HR6 HL7 HG7
      go_wp2
      exact ⟨⟨i+1,m',S7,va,vn,vc,rfl,by rw [HGN.out],by go_num,by omega,by omega,HEN,HR8⟩,by simp [intOf];omega⟩
     by_cases h1:kind=1
     ·subst h1
      obtain ⟨m',hm'⟩:∃ x,(LegPlain.send (cfL a b o masked) m op (bytes s)).1=x:=⟨_,rfl⟩
      obtain ⟨r,hr⟩:∃ x,(LegPlain.send (cfL a b o masked) m op (bytes s)).2=x:=⟨_,rfl⟩
      have T:=send_ex HR5.out.A op 0 s m' r (Prod.ext hm' hr)
      obtain ⟨hsy,hsn⟩:=LegPlain.send_said (cfL a b o masked) m op (bytes s)
      rw [hm',hr] at hsy hsn
      have HGN:Sl (m'.gone=m.gone):=⟨by rw [← hm'];exact send_gone (cfL a b o masked) m op (bytes s)⟩
      clear hm' hr
      cases r with
      | false =>
        have HSN:Sl (m'.said=m.said):=⟨hsn rfl⟩
        have HEN:Sl (m'.gone.length≤300*(i+1)∧m'.said.length≤i+1):=⟨by rw [HGN.out];have:=HEM.out.1;omega,by rw [HSN.out];have:=HEM.out.2;omega⟩
        clear hsy hsn HEM
        go_wp2_with fail
        refine T.mono ?_
        rintro e w7 ⟨S7,rfl,HL7,HG7⟩
        clear T
        have HR8:Sl (RS w w7 L cb (.cells #[.slice (some ⟨g,0,none⟩) 1 1,.slice none 0 0,.int .i64 4,.int .i64 i1,.int .i64 i2,.int .i64 3,.int .i64 300,.int .i64 i3,.int .i64 5,.int .i64 9,.int .i64 3,.int .i64 4] 25 (0,0)) S7 (cfL a b o masked) m' (i+1) (.slice va vn vc) (m'.said.map evf)):=⟨by rw [HSN.out];exact (HR5.out.step HL7.out HG7.out).mono (Nat.le_succ _) (by have:=HI40.out;omega)⟩
        clear HR5 HL7 HG7
        go_wp2
        exact ⟨⟨i+1,m',S7,va,vn,vc,rfl,by rw [HGN.out],by go_num,by omega,by omega,HEN,HR8⟩,by simp [intOf];omega⟩
      | true =>
        have HSN:Sl (m'.said=m.said++[(op,bytes s)]):=⟨hsy rfl⟩
        have HEN:Sl (m'.gone.length≤300*(i+1)∧m'.said.length≤i+1):=⟨by rw [HGN.out];have:=HEM.out.1;omega,by rw [HSN.out,List.length_append];have:=HEM.out.2;simp;omega⟩
        have HVL:Sl ((m.said.map evf).length+1≤1000000):=⟨by rw [List.length_map];have:=HEM.out.2;have:=HI40.out;omega⟩
        clear hsy hsn HEM
        go_wp2_with fail
        refine T.mono ?_
        rintro e w7 ⟨S7,rfl,HL7,HG7⟩
        clear T b0 b1 b2 b3 b4
        have hX7:w7.heap[xb]? = some (.cells #[.int .i64 1,.int .i64 op,.int .i64 code,.int .i64 num,.string s] 40 (0,0)):=by
         rw [HG7.out.kept.block xb (Array.getElem?_eq_some_iff.1 HX5.out).1 (fun e=>HXS.out xb e rfl)];exact HX5.out
        obtain ⟨b0,b1,b2,b3,b4⟩:=act_cells hX7
        have HR7:=Sl.mk ((HR5.out.step HL7.out HG7.out).mono (Nat.le_succ _) (by have:=HI40.out;omega))
        clear HR5 HL7 HG7 HX5 HXS hX7
        obtain ⟨w8,hw8⟩:∃ V,w7.alloc (.cells #[.int .i64 op,.int .i64 0,.string s] 52)=V:=⟨_,rfl⟩
        have hB8:Below w7.heap.size w7 w8:=by rw [← hw8];exact (Below.refl _ _).alloc (Nat.le_refl _) _
        have hX8:w8.heap[w7.heap.size]? = some (.cells #[.int .i64 op,.int .i64 0,.string s] 52 (0,0)):=by rw [← hw8];exact alloc_new _ _ _ rfl
        have HRS8:=HR7.out.below hB8
        obtain ⟨v9,w9,hap9,hO9,hG9,hu9⟩:=add_evs HRS8.V (evs_one (e:=⟨op,0,bytes s⟩) hX8 (by unfold Evt.ec;rw [strOf_bytes])) (by simpa using HVL.out) HRS8.A.low.size
        have hRS9:=HRS8.told hO9 hG9 hu9
        obtain ⟨wa,wn,wc,rfl⟩:∃ a n c,v9=.slice a n c:=by obtain ⟨a,c,e⟩:=hO9.slice;exact ⟨a,_,c,e⟩
        have HR8:Sl (RS w w9 L cb (.cells #[.slice (some ⟨g,0,none⟩) 1 1,.slice none 0 0,.int .i64 4,.int .i64 i1,.int .i64 i2,.int .i64 3,.int .i64 300,.int .i64 i3,.int .i64 5,.int .i64 9,.int .i64 3,.int .i64 4] 25 (0,0)) S7 (cfL a b o masked) m' (i+1) (.slice wa wn wc) (m'.said.map evf)):=⟨by rw [HSN.out,List.map_append];exact hRS9⟩
        clear HR7 hB8 hX8 HRS8 hO9 hG9 hu9 hRS9 HVL
        go_wp2_with (at_builtin;refine Cut.wpList_appV rfl (.tmp 84) (.tmp 90) 47 47 rfl rfl _ _ (.slice wa wn wc) w9 rfl rfl (by first | exact hap9 | (rw [hw8];exact hap9)) ?_)
        clear hap9 hw8 b0 b1 b2 b3 b4
        go_wp2
        exact ⟨⟨i+1,m',S7,wa,wn,wc,rfl,by rw [HGN.out],by go_num,by omega,by omega,HEN,HR8⟩,by simp [intOf];omega⟩
     by_cases h2:kind=2
     ·subst h2
      obtain ⟨m',hm'⟩:∃ x,(LegPlain.ping (cfL a b o masked) m (bytes s)).1=x:=⟨_,rfl⟩
      have T:=ping_ex HR5.out.A s (by omega) (by have:=HI40.out;omega) m' _ (Prod.ext hm' rfl)
      have HGN:Sl (m'.gone=m.gone):=⟨by rw [← hm'];exact ping_gone (cfL a b o masked) m (bytes s)⟩
      have HSN:Sl (m'.said=m.said):=⟨by rw [← hm'];exact LegPlain.ping_said (cfL a b o masked) m (bytes s)⟩
      have HEN:Sl (m'.gone.length≤300*(i+1)∧m'.said.length≤i+1):=⟨by rw [HGN.out];have:=HEM.out.1;omega,by rw [HSN.out];have:=HEM.out.2;omega⟩
      clear hm' HEM
      go_wp2_with fail
      refine T.mono ?_
      rintro e w7 ⟨S7,rfl,HL7,HG7⟩
      clear T
      have HR8:Sl (RS w w7 L cb (.cells #[.slice (some ⟨g,0,none⟩) 1 1,.slice none 0 0,.int .i64 4,.int .i64 i1,.int .i64 i2,.int .i64 3,.int .i64 300,.int .i64 i3,.int .i64 5,.int .i64 9,.int .i64 3,.int .i64 4] 25 (0,0)) S7 (cfL a b o masked) m' (i+1) (.slice va vn vc) (m'.said.map evf)):=⟨by rw [HSN.out];exact (HR5.out.step HL7.out HG7.out)⟩
      clear HR5 HL7 HG7
      go_wp2
      exact ⟨⟨i+1,m',S7,va,vn,vc,rfl,by rw [HGN.out],by go_num,by omega,by omega,HEN,HR8⟩,by simp [intOf];omega⟩
     by_cases h3:kind=3
     ·subst h3
      obtain ⟨m',hm'⟩:∃ x,(LegPlain.close (cfL a b o masked) m code (bytes s)).1=x:=⟨_,rfl⟩
      have T:=close_ex HR5.out.A code s m' _ (Prod.ext hm' rfl)
      have HGN:Sl (m'.gone=m.gone):=⟨by rw [← hm'];exact close_gone (cfL a b o masked) m code (bytes s)⟩
      have HSN:Sl (m'.said=m.said):=⟨by rw [← hm'];exact LegPlain.close_said (cfL a b o masked) m code (bytes s)⟩
      have HEN:Sl (m'.gone.length≤300*(i+1)∧m'.said.length≤i+1):=⟨by rw [HGN.out];have:=HEM.out.1;omega,by rw [HSN.out];have:=HEM.out.2;omega⟩
      clear hm' HEM
      go_wp2_with fail
      refine T.mono ?_
      rintro e w7 ⟨S7,rfl,HL7,HG7⟩
      clear T
      have HR8:Sl (RS w w7 L cb (.cells #[.slice (some ⟨g,0,none⟩) 1 1,.slice none 0 0,.int .i64 4,.int .i64 i1,.int .i64 i2,.int .i64 3,.int .i64 300,.int .i64 i3,.int .i64 5,.int .i64 9,.int .i64 3,.int .i64 4] 25 (0,0)) S7 (cfL a b o masked) m' (i+1) (.slice va vn vc) (m'.said.map evf)):=⟨by rw [HSN.out];exact (HR5.out.step HL7.out HG7.out).mono (Nat.le_succ _) (by have:=HI40.out;omega)⟩
      clear HR5 HL7 HG7
      go_wp2
      exact ⟨⟨i+1,m',S7,va,vn,vc,rfl,by rw [HGN.out],by go_num,by omega,by omega,HEN,HR8⟩,by simp [intOf];omega⟩
     by_cases h4:kind=4
     ·subst h4
      obtain ⟨tl,htl⟩:∃ t,m.ring.take num.toNat=t:=⟨_,rfl⟩
      obtain ⟨q,hq⟩:∃ q,tl.length=q:=⟨_,rfl⟩
      obtain ⟨m',hm'⟩:∃ x,(takeN (cfL a b o masked) m num).1=x:=⟨_,rfl⟩
      have T:=take_ex HR5.out.A num tl htl q hq m' hm'
      have hgn:m'.gone=m.gone++tl:=by rw [← hm',← htl];exact mv_gone _ _ _
      have htl2:tl.length≤300:=by
       have h1:m.ring.length≤1+o:=LegPlain.ring_le HR5.out.A.good.few.ok
       rw [← htl,List.length_take];omega
      have HGN:Sl (strOf m'.gone=strOf m.gone++strOf tl):=⟨by rw [hgn,Fra.strOf_app]⟩
      have HSN:Sl (m'.said=m.said):=⟨by rw [← hm'];exact LegPlain.take_said (cfL a b o masked) m num⟩
      have HEN:Sl (m'.gone.length≤300*(i+1)∧m'.said.length≤i+1):=⟨by rw [hgn,List.length_append];have:=HEM.out.1;omega,by rw [HSN.out];have:=HEM.out.2;omega⟩
      have HQ:=Sl.mk hq
      have AD:∀ V,(Op.stringOp .add (strOf m.gone) (strOf tl)).run Tryz.prog V=.ok (.string (strOf m.gone++strOf tl)) V:=fun V=>run_string_add_sum _ _ _ (by
       have:=HEM.out.1
       rw [strOf_size,strOf_size];omega)
      clear hm' hgn htl htl2 hq HEM
      go_wp2_with fail
      refine T.mono ?_
      rintro e w7 ⟨S7,rfl,HR7,HL7,HG7⟩
      clear T
      have HR8:Sl (RS w w7 L cb (.cells #[.slice (some ⟨g,0,none⟩) 1 1,.slice none 0 0,.int .i64 4,.int .i64 i1,.int .i64 i2,.int .i64 3,.int .i64 300,.int .i64 i3,.int .i64 5,.int .i64 9,.int .i64 3,.int .i64 4] 25 (0,0)) S7 (cfL a b o masked) m' (i+1) (.slice va vn vc) (m'.said.map evf)):=⟨by rw [HSN.out];exact (HR5.out.step HL7.out HG7.out).mono (Nat.le_succ _) (by have:=HI40.out;omega)⟩
      clear HR5 HL7 HG7
      have CV:=HR7.out.str HQ.out
      have AD7:=AD w7
      clear AD HR7
      go_wp2
      exact ⟨⟨i+1,m',S7,va,vn,vc,rfl,by rw [HGN.out],by go_num,by omega,by omega,HEN,HR8⟩,by simp [intOf];omega⟩
     have q0:(kind==0)=false:=by simp [h0]
     have q1:(kind==1)=false:=by simp [h1]
     have q2:(kind==2)=false:=by simp [h2]
     have q3:(kind==3)=false:=by simp [h3]
     have q4:(kind==4)=false:=by simp [h4]
     clear h0 h1 h2 h3 h4
     have HR8:=Sl.mk (HR5.out.mono (Nat.le_succ _) (by have:=HI40.out;omega))
     have HEN:Sl (m.gone.length≤300*(i+1)∧m.said.length≤i+1):=⟨by have:=HEM.out.1;omega,by have:=HEM.out.2;omega⟩
     clear HR5
     go_wp2
     exact ⟨⟨i+1,m,S1,va,vn,vc,rfl,rfl,by go_num,by omega,by omega,HEN,HR8⟩,by simp [intOf];omega⟩
  ·have hx:(((i:Int)<(n:Int))=True∧decide ((i:Int)<(n:Int))=true∧((i:Int)<30)=False∧decide ((i:Int)<30)=false)∨(((i:Int)<(n:Int))=False∧decide ((i:Int)<(n:Int))=false):=by
    by_cases hin:i<n
    ·exact .inl ⟨eq_true (by omega),decide_eq_true (by omega),eq_false (by omega),decide_eq_false (by omega)⟩
    ·exact .inr ⟨eq_false (by omega),decide_eq_false (by omega)⟩
   clear hgo
   rcases hx with ⟨c1,c2,c3,c4⟩ | ⟨c1,c2⟩
   all_goals
    have HPD:pend m≤100000:=by
     have h1:=HR.out.A.good.few.pend
     have e1:(cfL a b o masked).out=1+o:=rfl
     have e2:(cfL a b o masked).frm=1+b:=rfl
     have e3:(cfL a b o masked).msg=1+a:=rfl
     rw [e1,e2,e3] at h1
     omega
    have HPD2:Sl (pend m≤20000):=⟨by
     have h1:=HR.out.A.good.few.pend
     have e1:(cfL a b o masked).out=1+o:=rfl
     have e2:(cfL a b o masked).frm=1+b:=rfl
     have e3:(cfL a b o masked).msg=1+a:=rfl
     rw [e1,e2,e3] at h1
     omega⟩
    have OT:=out2_any HR.out.A HPD
    clear HPD
    go_wp2_with fail
    refine OT.mono ?_
    rintro e w4 ⟨m2,s2,S2,rfl,HL2,HG2,HD⟩
    clear OT
    have HR2:Sl (RS w w4 L cb (.cells #[.slice (some ⟨g,0,none⟩) 1 1,.slice none 0 0,.int .i64 4,.int .i64 i1,.int .i64 i2,.int .i64 3,.int .i64 300,.int .i64 i3,.int .i64 5,.int .i64 9,.int .i64 3,.int .i64 4] 25 (0,0)) S2 (cfL a b o masked) m2 i (.slice va vn vc) (m2.said.map evf)):=⟨by rw [HD.out.2.1.said];exact HR.out.step HL2.out HG2.out⟩
    clear HR HL2 HG2
    have HSD:Sl (m2.said.length≤30):=⟨by rw [HD.out.2.1.said];have:=HEM.out.2;omega⟩
    have HGO:Sl (m2.gone=m.gone++s2):=⟨HD.out.2.1.gone⟩
    have hln:m2.gone.length≤100000:=by
     rw [HGO.out,List.length_append]
     have:=HEM.out.1;have:=HD.out.2.2;have:=HPD2.out;omega
    have hsm:Small 256 m2.gone:=fun y hy=>gone_small HR2.out.A.cf.f2 HR2.out.A.good.few.ok y (List.mem_append_left _ hy)
    obtain ⟨SB,hSB⟩:∃ z,strOf m.gone++strOf s2=z:=⟨_,rfl⟩
    have hSB2:SB=strOf m2.gone:=by rw [← hSB,HGO.out,Fra.strOf_app]
    have AD:(Op.stringOp .add (strOf m.gone) (strOf s2)).run Tryz.prog w4=.ok (.string SB) w4:=by
     rw [← hSB]
     exact run_string_add_sum _ _ _ (by
      rw [strOf_size,strOf_size]
      rw [HGO.out,List.length_append] at hln;omega)
    have HQT:Sl (LegPlain.Quiet m2):=⟨HD.out.1⟩
    have HALL:StreamPlain.all (bytes SB) (!masked) 65536=(m2.hist,0,0):=by
     rw [hSB2,bytes_strOf _ hsm]
     exact LegPlain.said_all HR2.out.A.cf.f2 HR2.out.A.good.few.ok HQT.out
    have RA:=Stm.refall_any SB (!masked) 65536 w4 (by rw [hSB2,strOf_size];exact hln) (by decide) m2.hist 0 0 HALL
    have HEN:=Sl.mk (LegPlain.stK_end HR2.out.A.good.few.ok HQT.out HR2.out.A.cf.f1)
    have HOK:=Sl.mk (hist_ok HR2.out.A.cf.f2 HR2.out.A.good.few.ok)
    have HHL:Sl (m2.hist.length≤100000):=⟨by
     have h1:=(StreamPlain.all_frs (!masked) 65536 _ (bytes SB) (Nat.le_refl _) (bytes_small SB)).2.2
     rw [HALL,hSB2,bytes_strOf _ hsm] at h1
     simp only at h1
     omega⟩
    clear HALL hSB hSB2 hln hsm HGO HD HEM HPD2
    go_wp2_with fail
    refine RA.mono ?_
    rintro e w5 ⟨vf,rfl,HF5,HB5⟩
    clear RA AD
    have HR3:=Sl.mk (HR2.out.below HB5.out)
    clear HR2 HB5
    obtain ⟨nf,hnf⟩:∃ z,m2.hist.length=z:=⟨_,rfl⟩
    obtain ⟨fa,fc,rfl⟩:∃ a c,vf=.slice a nf c:=by obtain ⟨a,c,e⟩:=HF5.out.slice;rw [hnf] at e;exact ⟨a,c,e⟩
    have HNF:=Sl.mk hnf
    clear hnf
    have Q1:=quiet_ex HR3.out.A true (decide_eq_true HQT.out.1)
    go_wp2_with fail
    refine Q1.mono ?_
    rintro e w6 ⟨rfl,rfl⟩
    clear Q1
    obtain ⟨w6,hw6⟩:∃ V,w5.alloc (.cells #[] 52)=V:=⟨_,rfl⟩
    have B6:Below w5.heap.size w5 w6:=by rw [← hw6];exact (Below.refl _ _).alloc (Nat.le_refl _) _
    have HO0:Sl (OwnE w6 w5.heap.size (.slice (some ⟨w5.heap.size,0,none⟩) 0 0) ((stK m2 0).got.map evf)):=⟨by rw [← hw6];exact ownE_made w5 _ (Nat.le_refl _)⟩
    have HB0:Sl (Below w5.heap.size w5 w6):=⟨B6⟩
    have HRT:=HR3
    have HF:=HF5
    clear B6 HR3 HF5
    go_upto_region 28 with fail
    (try rw [hw6])
    clear hw6
    go_wp2
    go_loopw [19,20,21,22] (fun u19 u20 u21 u22 wq=>∃ (k:Nat) (ga:Option Addr) (gn gc:Nat) (R0:Rd),u19=.slice ga gn gc∧u20=.string (strOf R0.data)∧u21=.bool R0.begun∧u22=.int .i64 (k:Int)∧k≤nf∧Sl (stK m2 k=R0)∧Sl (Below w5.heap.size w5 wq)∧Sl (OwnE wq w5.heap.size (.slice ga gn gc) (R0.got.map evf))) (fun _ _ _ u22 _=>nf-(intOf u22).toNat)
    case atStart=>exact ⟨0,_,_,_,stK m2 0,rfl,by rw [LegPlain.stK_zero];exact congrArg _ (Cut.strOf_nil).symm,rfl,rfl,Nat.zero_le _,⟨rfl⟩,HB0,HO0⟩
    case round =>
     obtain ⟨k,ga,gn,gc,R0,rfl,rfl,rfl,rfl,hk,HST,HBW,HO⟩:=hrel
     clear HO0 HB0
     have hnb:nf≤100000:=by have:=HHL.out;have:=HNF.out;omega
     by_cases hkn:k<nf
     ·have hlt:((k:Int)<(nf:Int))=True:=eq_true (by omega)
      have hltn:(k:Int)<(nf:Int):=by omega
      obtain ⟨fb,fo,rfl⟩:=HF.out.frs.cap.2 (by omega)
      obtain ⟨fin,fop,fm,ka,kb,kc,kd,ds,hf1,hcv,-,hmem⟩:=Cut.fr_at HOK.out k (by rw [HNF.out];exact hkn)
      obtain ⟨a0,a1,-,-,-,-,-,a7⟩:=HF.out.frs.at8 k (by rw [HNF.out];exact hkn) hcv
      have a0:=(HBW.out.cell (p:=⟨fb,fo+k*8,none⟩) (block_lt_of_cell a0)).trans a0
      have a1:=(HBW.out.cell (p:=⟨fb,fo+k*8+1,none⟩) (block_lt_of_cell a1)).trans a1
      have a7:=(HBW.out.cell (p:=⟨fb,fo+k*8+7,none⟩) (block_lt_of_cell a7)).trans a7
      clear hcv
      by_cases h8:fop=8
      ·subst h8
       obtain ⟨e1,e2⟩:=LegPlain.end_last HRT.out.A.good.few.ok HQT.out (k:=k) (by rw [HNF.out];exact hkn) (by rw [hf1])
       have hwn:IntKind.i64.wrap ((k:Int)+1)=(nf:Int):=by rw [IntKind.wrap_i64];have:=HHL.out;have:=HNF.out;omega
       have ST:=sent_ex (HRT.out.A.below HBW.out) true e2
       have g2:((8:Int)>2)=True:=eq_true (by decide)
       have HST2:Sl (stK m2 (k+1)=R0):=⟨by rw [LegPlain.stK_succ (by rw [HNF.out];exact hkn),hf1,if_neg (by show ¬ 8≤2;omega)];exact HST.out⟩
       have HO2:=HO
       have HK1:Sl (k+1=nf):=⟨by rw [← HNF.out];exact e1⟩
       clear e1 e2 HST HO
       go_wp2_with fail
       refine ST.mono ?_
       rintro e w12 ⟨rfl,rfl⟩
       clear ST
       go_wp2
       exact ⟨⟨k+1,ga,gn,gc,R0,rfl,by first | rfl | rw [HGT.out],rfl,by first | rw [HK1.out] | go_num,by omega,HST2,HBW,HO2⟩,by simp [intOf];omega⟩
      ·have q8:(fop==8)=false:=by simp [h8]
       by_cases h2:2<fop
       ·have g2:(fop>2)=True:=eq_true h2
        have HST2:Sl (stK m2 (k+1)=R0):=⟨by rw [LegPlain.stK_succ (by rw [HNF.out];exact hkn),hf1,if_neg (by show ¬ fop≤2;omega)];exact HST.out⟩
        have HO2:=HO
        clear HST HO
        go_wp2
        exact ⟨⟨k+1,ga,gn,gc,R0,rfl,by first | rfl | rw [HGT.out],rfl,by go_num,by omega,HST2,HBW,HO2⟩,by simp [intOf];omega⟩
       ·have g2:(fop>2)=False:=eq_false (by omega)
        obtain ⟨o1,o2⟩:=LegPlain.stK_ok HEN.out.1 (k:=k) (by rw [HNF.out];exact hkn) (by rw [hf1];show fop≤2;omega)
        rw [HST.out,hf1] at o1
        rw [hf1] at o2
        have o1:R0.begun=decide (fop=0):=o1
        have o2:(bytes ds).length≤1+b:=o2
        obtain ⟨n1,n2,n3,n4⟩:=LegPlain.stK_len (c:=(cfL a b o masked)) HRT.out.A.good.few.ok.inv.hist k (by rw [HNF.out];omega)
        rw [HST.out] at n1 n2 n3 n4
        have n1:R0.data.length≤max (1+b) 125*k:=n1
        have hgn:gn=R0.got.length:=by rw [(EvsAt.cap HO.out.evs).1,List.length_map]
        have hvn:vn=m2.said.length:=by rw [(EvsAt.cap HRT.out.V.evs).1,List.length_map]
        have HSX:Sl (stK m2 (k+1)=rd1 m2.said R0 (fin,fop,bytes ds)):=⟨by
         rw [LegPlain.stK_succ (by rw [HNF.out];exact hkn),hf1,if_pos (by show fop≤2;omega),HST.out];rfl⟩
        have HDL:Sl (R0.data.length+ds.size≤100000000):=⟨by
         rw [bytes_length] at o2
         have h1:max (1+b) 125*k≤256*k:=Nat.mul_le_mul_right _ (by omega)
         have:=HHL.out;have:=HNF.out;omega⟩
        obtain ⟨gt,dt,bg⟩:=R0
        have o1:bg=decide (fop=0):=o1
        have hbg:(fop != 0)=(!bg):=by rw [o1];by_cases h:fop=0<;>simp [h]
        have hle2:decide ((ds.size:Int)>i2)=false:=decide_eq_false (by have:=HI2.out;rw [bytes_length] at o2;omega)
        have hc4:=(HBW.out.cell (p:=⟨cb,4,none⟩) (block_lt_of_cell (Rou.cell_at HRT.out.C 4 _ rfl))).trans (Rou.cell_at HRT.out.C 4 _ rfl)
        have HDT:Sl (Small 256 dt∧∀ m∈gt,∀ y∈m.2,y<256):=⟨n3,n4⟩
        have HGT:Sl (strOf (dt++bytes ds)=strOf dt++ds):=⟨by rw [Fra.strOf_app,strOf_bytes]⟩
        have n2:gt.length≤m2.said.length:=n2
        have HGV:Sl (gn=gt.length∧vn=m2.said.length∧gt.length≤m2.said.length∧m2.said.length≤30):=⟨hgn,hvn,n2,HSD.out⟩
        clear o1 o2 n1 n2 n3 n4 hgn hvn HST
        go_upto_region 34 with fail
        obtain ⟨Rw,hRw⟩:∃ R,wr.drew=R:=⟨_,rfl⟩
        have HBR:Below wr.heap.size wr Rw:=by rw [← hRw];exact (Below.refl _ _).drew
        refine wp_region_noPanic ?_
        refine wp_region_held (S:=fun V=>V.cell? ⟨fb,fo+k*8+1,none⟩=some (.int .i64 fop)∧V.cell? ⟨fb,fo+k*8+7,none⟩=some (.string ds)∧V.cell? ⟨cb,4,none⟩=some (.int .i64 i2)) (by kernel_rfl) ?_
        change wpAnyH _ _ _ _ _ _ _ _ wr.drew
        rw [hRw]
        clear hRw
        have HS0:Rw.cell? ⟨fb,fo+k*8+1,none⟩=some (.int .i64 fop)∧Rw.cell? ⟨fb,fo+k*8+7,none⟩=some (.string ds)∧Rw.cell? ⟨cb,4,none⟩=some (.int .i64 i2):=⟨(HBR.cell (p:=⟨fb,fo+k*8+1,none⟩) (block_lt_of_cell a1)).trans a1,(HBR.cell (p:=⟨fb,fo+k*8+7,none⟩) (block_lt_of_cell a7)).trans a7,(HBR.cell (p:=⟨cb,4,none⟩) (block_lt_of_cell hc4)).trans hc4⟩
        refine heldTake (d:=some 169) (op:=.move (Operand.tmp 21)) (g:=none) 0 (.bool bg) rfl (by kernel_rfl) (by kernel_rfl) (by kernel_rfl) (by kernel_rfl) (fun o' ho W hS=>by simp only [execOp,ho];go_simp;try rfl) HS0 ?_
        simp only [Act.put,List.setIfInBounds_toArray,List.set_cons_zero,List.set_cons_succ]
        refine heldTake (d:=some 170) (op:=.move (Operand.tmp 16)) (g:=none) 1 (.slice (some ⟨fb,fo,none⟩) nf fc) rfl (by kernel_rfl) (by kernel_rfl) (by kernel_rfl) (by kernel_rfl) (fun o' ho W hS=>by simp only [execOp,ho];go_simp;try rfl) HS0 ?_
        simp only [Act.put,List.setIfInBounds_toArray,List.set_cons_zero,List.set_cons_succ]
        refine heldTake (d:=some 171) (op:=.move (Operand.tmp 22)) (g:=none) 2 (.int .i64 (k:Int)) rfl (by kernel_rfl) (by kernel_rfl) (by kernel_rfl) (by kernel_rfl) (fun o' ho W hS=>by simp only [execOp,ho];go_simp;try rfl) HS0 ?_
        simp only [Act.put,List.setIfInBounds_toArray,List.set_cons_zero,List.set_cons_succ]
        refine heldTake (d:=some 172) (op:=.indexAddr 34 (Operand.tmp 170) (Operand.tmp 171)) (g:=none) 3 (.pointer (some ⟨fb,fo+k*8,none⟩)) rfl (by kernel_rfl) (by kernel_rfl) (by kernel_rfl) (by kernel_rfl) (fun o' ho W hS=>by simp only [execOp,ho];go_simp;try rfl) HS0 ?_
        simp only [Act.put,List.setIfInBounds_toArray,List.set_cons_zero,List.set_cons_succ]
        refine heldTake (d:=some 173) (op:=.fieldAddr 61 (Operand.tmp 172) 1) (g:=none) 4 (.pointer (some ⟨fb,fo+k*8+1,none⟩)) rfl (by kernel_rfl) (by kernel_rfl) (by kernel_rfl) (by kernel_rfl) (fun o' ho W hS=>by simp only [execOp,ho];go_simp;try rfl) HS0 ?_
        simp only [Act.put,List.setIfInBounds_toArray,List.set_cons_zero,List.set_cons_succ]
        refine heldTake (d:=some 174) (op:=.load 3 (Operand.tmp 173)) (g:=none) 5 (.int .i64 fop) rfl (by kernel_rfl) (by kernel_rfl) (by kernel_rfl) (by kernel_rfl) (fun o' ho W hS=>by have d1:=hS.1;simp only [execOp,ho];go_simp;try rfl) HS0 ?_
        simp only [Act.put,List.setIfInBounds_toArray,List.set_cons_zero,List.set_cons_succ]
        refine heldTake (d:=some 175) (op:=.binOp BinOp.neq 3 (Operand.tmp 174) (Operand.const (Value.int IntKind.i64 0)) 3) (g:=none) 6 (.bool (!bg)) rfl (by kernel_rfl) (by kernel_rfl) (by kernel_rfl) (by kernel_rfl) (fun o' ho W hS=>by simp only [execOp,ho];go_simp;first | done | exact hbg | rw [hbg] | (simpa using hbg)) HS0 ?_
        simp only [Act.put,List.setIfInBounds_toArray,List.set_cons_zero,List.set_cons_succ]
        refine heldTake (d:=some 176) (op:=.binOp BinOp.eql 4 (Operand.tmp 169) (Operand.tmp 175) 4) (g:=none) 7 (.bool false) rfl (by kernel_rfl) (by kernel_rfl) (by kernel_rfl) (by kernel_rfl) (fun o' ho W hS=>by simp only [execOp,ho];go_simp;first | done | (cases bg<;>rfl)) HS0 ?_
        simp only [Act.put,List.setIfInBounds_toArray,List.set_cons_zero,List.set_cons_succ]
        refine heldTake (d:=some 177) (op:=.move (Operand.tmp 176)) (g:=none) 8 (.bool false) rfl (by kernel_rfl) (by kernel_rfl) (by kernel_rfl) (by kernel_rfl) (fun o' ho W hS=>by simp only [execOp,ho];go_simp;try rfl) HS0 ?_
        simp only [Act.put,List.setIfInBounds_toArray,List.set_cons_zero,List.set_cons_succ]
        refine heldTake (d:=some 178) (op:=.move (Operand.tmp 16)) (g:=some (8,false)) 9 (.slice (some ⟨fb,fo,none⟩) nf fc) rfl (by kernel_rfl) (by kernel_rfl) (by kernel_rfl) (by kernel_rfl) (fun o' ho W hS=>by simp only [execOp,ho];go_simp;try rfl) HS0 ?_
        simp only [Act.put,List.setIfInBounds_toArray,List.set_cons_zero,List.set_cons_succ]
        refine heldTake (d:=some 179) (op:=.move (Operand.tmp 22)) (g:=some (8,false)) 10 (.int .i64 (k:Int)) rfl (by kernel_rfl) (by kernel_rfl) (by kernel_rfl) (by kernel_rfl) (fun o' ho W hS=>by simp only [execOp,ho];go_simp;try rfl) HS0 ?_
        simp only [Act.put,List.setIfInBounds_toArray,List.set_cons_zero,List.set_cons_succ]
        refine heldTake (d:=some 180) (op:=.indexAddr 34 (Operand.tmp 178) (Operand.tmp 179)) (g:=some (8,false)) 11 (.pointer (some ⟨fb,fo+k*8,none⟩)) rfl (by kernel_rfl) (by kernel_rfl) (by kernel_rfl) (by kernel_rfl) (fun o' ho W hS=>by simp only [execOp,ho];go_simp;try rfl) HS0 ?_
        simp only [Act.put,List.setIfInBounds_toArray,List.set_cons_zero,List.set_cons_succ]
        refine heldTake (d:=some 181) (op:=.fieldAddr 61 (Operand.tmp 180) 4) (g:=some (8,false)) 12 (.pointer (some ⟨fb,fo+k*8+7,none⟩)) rfl (by kernel_rfl) (by kernel_rfl) (by kernel_rfl) (by kernel_rfl) (fun o' ho W hS=>by simp only [execOp,ho];go_simp;try rfl) HS0 ?_
        simp only [Act.put,List.setIfInBounds_toArray,List.set_cons_zero,List.set_cons_succ]
        refine heldTake (d:=some 182) (op:=.load 9 (Operand.tmp 181)) (g:=some (8,false)) 13 (.string ds) rfl (by kernel_rfl) (by kernel_rfl) (by kernel_rfl) (by kernel_rfl) (fun o' ho W hS=>by have d2:=hS.2.1;simp only [execOp,ho];go_simp;try rfl) HS0 ?_
        simp only [Act.put,List.setIfInBounds_toArray,List.set_cons_zero,List.set_cons_succ]
        refine heldTake (d:=some 183) (op:=.call {callee:=Callee.builtin Builtin.len,args:=#[Operand.tmp 182],argTypes:=#[9]}) (g:=some (8,false)) 14 (.int .i64 (ds.size:Int)) rfl (by kernel_rfl) (by kernel_rfl) (by kernel_rfl) (by kernel_rfl) (fun o' ho W hS=>by simp only [execOp,ho];go_simp;try rfl) HS0 ?_
        simp only [Act.put,List.setIfInBounds_toArray,List.set_cons_zero,List.set_cons_succ]
        refine heldTake (d:=some 184) (op:=.fieldAddr 25 (Operand.tmp 9) 4) (g:=some (8,false)) 15 (.pointer (some ⟨cb,4,none⟩)) rfl (by kernel_rfl) (by kernel_rfl) (by kernel_rfl) (by kernel_rfl) (fun o' ho W hS=>by simp only [execOp,ho];go_simp;try rfl) HS0 ?_
        simp only [Act.put,List.setIfInBounds_toArray,List.set_cons_zero,List.set_cons_succ]
        refine heldTake (d:=some 185) (op:=.load 3 (Operand.tmp 184)) (g:=some (8,false)) 16 (.int .i64 i2) rfl (by kernel_rfl) (by kernel_rfl) (by kernel_rfl) (by kernel_rfl) (fun o' ho W hS=>by have d3:=hS.2.2;simp only [execOp,ho];go_simp;try rfl) HS0 ?_
        simp only [Act.put,List.setIfInBounds_toArray,List.set_cons_zero,List.set_cons_succ]
        refine heldTake (d:=some 186) (op:=.binOp BinOp.gtr 3 (Operand.tmp 183) (Operand.tmp 185) 3) (g:=some (8,false)) 17 (.bool false) rfl (by kernel_rfl) (by kernel_rfl) (by kernel_rfl) (by kernel_rfl) (fun o' ho W hS=>by simp only [execOp,ho];go_simp;first | done | exact hle2 | rw [hle2] | (simpa using hle2)) HS0 ?_
        simp only [Act.put,List.setIfInBounds_toArray,List.set_cons_zero,List.set_cons_succ]
        refine heldTake (d:=some 187) (op:=.pick (Operand.tmp 177) (Operand.const (Value.bool true)) (Operand.tmp 186)) (g:=none) 18 (.bool false) rfl (by kernel_rfl) (by kernel_rfl) (by kernel_rfl) (by kernel_rfl) (fun o' ho W hS=>by simp only [execOp,ho];go_simp;try rfl) HS0 ?_
        simp only [Act.put,List.setIfInBounds_toArray,List.set_cons_zero,List.set_cons_succ]
        refine wpAnyH_done (by kernel_rfl) ?_ _
        refine NoPanic.normal ?_
        (try go_frame)
        have b0:=(HBR.cell (p:=⟨fb,fo+k*8,none⟩) (block_lt_of_cell a0)).trans a0
        have b7:=HS0.2.1
        have HBW2:=Sl.mk (HBW.out.trans (HBR.mono HBW.out.size))
        have HO2':=Sl.mk (HO.out.below HBR)
        have AD:(Op.stringOp .add (strOf dt) ds).run Tryz.prog Rw=.ok (.string (strOf dt++ds)) Rw:=run_string_add_sum _ _ _ (by
         have:=HDL.out
         rw [strOf_size];have e:(⟨gt,dt,bg⟩:Rd).data=dt:=rfl;rw [e] at this;omega)
        clear a0 a1 a7 hc4 HO HBW hbg hle2 HS0 q8 g2
        cases fin with
        | false =>
          have HST2:Sl (stK m2 (k+1)=⟨gt,dt++bytes ds,true⟩):=⟨by rw [HSX.out];unfold rd1;rw [if_neg (fun e=>by cases e.1)];rfl⟩
          have HO2:=HO2'
          go_wp2
          exact ⟨⟨k+1,ga,gn,gc,⟨gt,dt++bytes ds,true⟩,rfl,by first | rfl | rw [HGT.out],rfl,by go_num,by omega,HST2,HBW2,HO2⟩,by simp [intOf];omega⟩
        | true =>
          by_cases hmo:gt.length<m2.said.length
          ·have g3:((gn:Int)<(vn:Int))=True:=eq_true (by have:=HGV.out;omega)
           have g4:(gn:Int)<(vn:Int):=by have:=HGV.out;omega
           obtain ⟨so1,so2,hso⟩:∃ x y,m2.said.getD gt.length (0,[])=(x,y):=⟨_,_,rfl⟩
           have HST2:Sl (stK m2 (k+1)=⟨gt++[(so1,dt++bytes ds)],[],false⟩):=⟨by rw [HSX.out];unfold rd1;rw [if_pos ⟨rfl,hmo⟩,hso];rfl⟩
           obtain ⟨vb,vo,rfl⟩:=(EvsAt.cap HRT.out.V.evs).2.2 (by have:=HGV.out;omega)
           have hVW:=HRT.out.V.evs.below HBW2.out
           have hge:(m2.said.map evf).getD gt.length Ev0=⟨so1,0,so2⟩:=by
            rw [List.getD_eq_getElem?_getD,List.getElem?_map,List.getElem?_eq_getElem hmo]
            rw [List.getD_eq_getElem?_getD,List.getElem?_eq_getElem hmo] at hso
            have hso:m2.said[gt.length]=(so1,so2):=hso
            rw [hso];rfl
           obtain ⟨u0,-,-⟩:=EvsAt.at3 hVW gt.length (by rw [List.length_map];exact hmo) hge
           rw [← HGV.out.1] at u0
           obtain ⟨w8,hw8⟩:∃ V,Rw.alloc (.cells #[.int .i64 so1,.int .i64 0,.string (strOf dt++ds)] 52)=V:=⟨_,rfl⟩
           have hB8:Below Rw.heap.size Rw w8:=by rw [← hw8];exact (Below.refl _ _).alloc (Nat.le_refl _) _
           have hX8:w8.heap[Rw.heap.size]? = some (.cells #[.int .i64 so1,.int .i64 0,.string (strOf dt++ds)] 52 (0,0)):=by rw [← hw8];exact alloc_new _ _ _ rfl
           have hO8:=HO2'.out.below hB8
           obtain ⟨v9,w9,hap9,hO9,hG9,hu9⟩:=add_evs hO8 (evs_one (e:=⟨so1,0,dt++bytes ds⟩) hX8 (by unfold Evt.ec;rw [HGT.out])) (by rw [List.length_map];have:=HGV.out;simp;omega) (HBW2.out.trans (hB8.mono HBW2.out.size)).size
           have HBW3:Sl (Below w5.heap.size w5 w9):=⟨hO8.keeps (HBW2.out.trans (hB8.mono HBW2.out.size)) hG9 (Nat.le_refl _) (HBW2.out.trans (hB8.mono HBW2.out.size)).size⟩
           obtain ⟨wa,wn,wc,rfl⟩:∃ a n c,v9=.slice a n c:=by obtain ⟨a,c,e⟩:=hO9.slice;exact ⟨a,_,c,e⟩
           have HO2:Sl (OwnE w9 w5.heap.size (.slice wa wn wc) ((gt++[(so1,dt++bytes ds)]).map evf)):=⟨by rw [List.map_append];exact hO9⟩
           clear hB8 hX8 hO8 hO9 hG9 hu9 hVW hge hso
           go_wp2_with (at_builtin;refine Cut.wpList_appV rfl (.tmp 213) (.tmp 222) 47 47 rfl rfl _ _ (.slice wa wn wc) w9 rfl rfl (by first | exact hap9 | (rw [hw8];exact hap9)) ?_)
           clear hap9 hw8 u0
           go_wp2
           exact ⟨⟨k+1,wa,wn,wc,⟨gt++[(so1,dt++bytes ds)],[],false⟩,rfl,by first | rfl | rw [HGT.out],rfl,by go_num,by omega,HST2,HBW3,HO2⟩,by simp [intOf];omega⟩
          ·have g3:((gn:Int)<(vn:Int))=False:=eq_false (by have:=HGV.out;omega)
           have HST2:Sl (stK m2 (k+1)=⟨gt,dt++bytes ds,false⟩):=⟨by rw [HSX.out];unfold rd1;rw [if_neg (fun e=>hmo e.2)];rfl⟩
           have HO2:=HO2'
           go_wp2
           exact ⟨⟨k+1,ga,gn,gc,⟨gt,dt++bytes ds,false⟩,rfl,by first | rfl | rw [HGT.out],rfl,by go_num,by omega,HST2,HBW2,HO2⟩,by simp [intOf];omega⟩
     ·obtain rfl:k=nf:=by omega
      have hlt:((k:Int)<(k:Int))=False:=eq_false (by omega)
      have hen:=HEN.out.2
      rw [HNF.out,HST.out] at hen
      have HRW:=Sl.mk (HRT.out.below HBW.out)
      obtain ⟨vl,hvl⟩:∃ z,m2.said.length=z:=⟨_,rfl⟩
      obtain ⟨gl,hgl⟩:∃ z,R0.got.length=z:=⟨_,rfl⟩
      obtain rfl:gn=gl:=by rw [(EvsAt.cap HO.out.evs).1,List.length_map,hgl]
      obtain rfl:vn=vl:=by rw [(EvsAt.cap HRT.out.V.evs).1,List.length_map,hvl]
      have hgs:R0.got=m2.said.take gn:=by
       rw [← hgl]
       rcases hen with h1 | ⟨_,g',m',v',x',b',h1,h2,h3⟩
       ·rw [h1];simp
       ·rw [h3,h1];simp
      have hle:gn≤vn:=by
       have h5:=congrArg List.length hgs
       rw [List.length_take,hgl,hvl] at h5;omega
      have hvc:=(EvsAt.cap HRT.out.V.evs).2.1
      have SL:=eslice_to wr va vn vc gn (by omega)
      have HE1:EvsAt wr (.slice va gn vc) (R0.got.map evf):=by
       have h6:=EvsAt.to HRW.out.V.evs (k:=gn) (c:=vc) hle (by omega)
       rw [← List.map_take,← hgs] at h6
       exact h6
      have S10:=esame_any (R0.got.map evf) (.slice ga gn gc) (.slice va gn vc) wr HO.out.evs HE1 (by rw [List.length_map,hgl];have:=HSD.out;omega)
      have hv30:vn≤30:=by have:=HSD.out;omega
      have hwg:IntKind.i64.wrap ((gn:Int)+1)=(gn:Int)+1:=by rw [IntKind.wrap_i64];omega
      obtain ⟨D,hD⟩:∃ z,strOf R0.data=z:=⟨_,rfl⟩
      obtain ⟨bg,hbg⟩:∃ z,R0.begun=z:=⟨_,rfl⟩
      rw [hD,hbg]
      have HCA:Sl ((D={data:=#[]}∧bg=false∧vn=gn)∨(m2.sent=true∧vn=gn+1∧∃ so st,(m2.said.map evf).getD gn Ev0=⟨so,0,st⟩∧D.size≤(strOf st).size∧(strOf st).extract 0 D.size=D)):=⟨by
       rcases hen with h1 | ⟨hsent,g',m',v',x',b',h1,h2,h3⟩
       ·refine .inl ⟨?_,?_,?_⟩
        ·rw [← hD,h1];exact Cut.strOf_nil
        ·rw [← hbg,h1]
        ·rw [← hvl,← hgl,h1]
       ·have hg:g'.length=gn:=by rw [← hgl,h3]
        have hms:m'∈m2.said:=by rw [h1];exact List.mem_append_right _ (List.mem_singleton.2 rfl)
        have hdp:=dat_pref h2 (HRT.out.A.good.few.ok.said m' hms).2.2
        have hDs:D=strOf v':=by rw [← hD,h3]
        refine .inr ⟨hsent,by rw [← hvl,h1,List.length_append,hg];rfl,m'.1,m'.2,?_,?_,?_⟩
        ·rw [h1,List.map_append,List.getD_eq_getElem?_getD,List.getElem?_append_right (by rw [List.length_map,hg];exact Nat.le_refl _),List.length_map,hg,Nat.sub_self];rfl
        ·rw [hDs,strOf_size];exact hdp.1
        ·rw [hDs,strOf_size];exact hdp.2⟩
      have HSDV:=Sl.mk hvl
      clear HE1 HO hgs hgl hvl hen hD hbg HBW HST HRT
      go_wp2_with fail
      refine S10.mono ?_
      rintro e w12 ⟨rfl,HX12⟩
      clear S10 SL
      have HR12:=Sl.mk (HRW.out.below HX12.out)
      clear HRW HX12
      rcases HCA.out with ⟨c1,c2,c3⟩ | ⟨c1,c2,so1,st,c4,c5,c6⟩
      ·subst c1 c2 c3
       have g5:((vn:Int)>(vn:Int)+1)=False:=eq_false (by omega)
       clear HCA
       go_wp2
       go_ret
       exact ⟨rfl,HR12.out.A.low⟩
      ·have ST:=sent_ex HR12.out.A true c1
       obtain ⟨vb,vo,rfl⟩:=(EvsAt.cap HR12.out.V.evs).2.2 (by omega)
       obtain ⟨-,-,u2⟩:=EvsAt.at3 HR12.out.V.evs gn (by rw [List.length_map,HSDV.out];omega) c4
       obtain ⟨T,hT⟩:∃ z,strOf st=z:=⟨_,rfl⟩
       rw [hT] at u2 c5 c6
       have g5:((vn:Int)>(gn:Int)+1)=False:=eq_false (by omega)
       have g6:((vn:Int)==(gn:Int))=false:=by simp;omega
       have g7:gn<vn:=by omega
       have g8:(gn:Int)<(vn:Int):=by omega
       have c7:((D.size:Int)≤(T.size:Int))=True:=eq_true (by omega)
       have c8:decide ((D.size:Int)≤(T.size:Int))=true:=decide_eq_true (by omega)
       have c9:(D.size:Int)≤(T.size:Int):=by omega
       have HC6:=Sl.mk c6
       clear HCA c1 c2 c4 c6 hT HSDV
       go_wp2_with fail
       refine ST.mono ?_
       rintro e w13 ⟨rfl,rfl⟩
       clear ST
       go_wp2
       go_ret
       refine ⟨?_,HR12.out.A.low⟩
       simp [HC6.out]
end Go.Proofs.YtlahonjmfecikaaGreatDoor.Leg
