/- leg: LegBound's walk. -/
import Derived.Test.YtlahonjmfecikaaGreatDoorK0Y
import Derived.Test.YtlahonjmfecikaaGreatDoorZy
set_option maxRecDepth 100000
set_option linter.unusedVariables false
set_option linter.unusedSimpArgs false
namespace Go.Proofs.YtlahonjmfecikaaGreatDoor.Leg
open Go.RowKit Stm
open FramePlain (Fr Fr0)
open LegPlain (Cf Lg)
open Msg (Kept MacS Mine)
open LegPlain (Inv Few CfOk Good came evs errs react bound feed fail L0 takeN pend wts)
open MsgPlain (Ev Ms M0)
open Evt
theorem acts_at {W w:World} {sb so:Nat} {xs:List Ac} (h:∀ i,i<xs.length→∀ j,j<5→w.cell? ⟨sb,so+i*5+j,none⟩=(ac (xs.getD i Ac0))[j]?) (hB:Below w.heap.size w W) (i:Nat) (hi:i<xs.length) {kind op code num:Int} {s:ByteArray} (ha:xs.getD i Ac0=⟨kind,op,code,num,s⟩) :
 W.cell? ⟨sb,so+i*5,none⟩=some (.int .i64 kind)∧W.cell? ⟨sb,so+i*5+1,none⟩=some (.int .i64 op)∧W.cell? ⟨sb,so+i*5+2,none⟩=some (.int .i64 code)∧W.cell? ⟨sb,so+i*5+3,none⟩=some (.int .i64 num)∧W.cell? ⟨sb,so+i*5+4,none⟩=some (.string s):=by
 have g:∀ j v,j<5→(ac ⟨kind,op,code,num,s⟩)[j]? = some v→W.cell? ⟨sb,so+i*5+j,none⟩=some v:=fun j v hj hv=>by
  have h1:=h i hi j hj
  rw [ha,hv] at h1
  rw [hB.cell (p:=⟨sb,so+i*5+j,none⟩) (block_lt_of_cell h1)]
  exact h1
 exact ⟨g 0 _ (by omega) rfl,g 1 _ (by omega) rfl,g 2 _ (by omega) rfl,g 3 _ (by omega) rfl,g 4 _ (by omega) rfl⟩
theorem act_cells {W:World} {g:Nat} {kind op code num:Int} {s:ByteArray} (h:W.heap[g]? = some (.cells #[.int .i64 kind,.int .i64 op,.int .i64 code,.int .i64 num,.string s] 40 (0,0))):W.cell? ⟨g,0,none⟩=some (.int .i64 kind)∧W.cell? ⟨g,1,none⟩=some (.int .i64 op)∧W.cell? ⟨g,2,none⟩=some (.int .i64 code)∧W.cell? ⟨g,3,none⟩=some (.int .i64 num)∧W.cell? ⟨g,4,none⟩=some (.string s):=by
 refine ⟨?_,?_,?_,?_,?_⟩<;>(rw [cell_of_row _ _ _ _ _ _ h];rfl)
set_option maxHeartbeats 16000000 in
theorem bound_walk (a b o:Nat) (masked:Bool) (d:Nat) (va:Value) (xs:List Ac) (w:World) (hg:G3 w) (ha:a<256) (hb:b<256) (ho:o<256) (hd:d<4294967296) (hva:ActsAt w va xs) (hok:∀ x∈xs,AcOk x) (hlm:xs.length≤maxLen):Calls Tryz.prog 7 #[.agg #[.int .u8 (a:Int),.int .u8 (b:Int),.int .u8 (o:Int)],.bool masked,.int .u32 (d:Int),va] w fun e w'=>e=.returned (.bool true)∧Below w.heap.size w w':=by
 obtain ⟨i1,h1⟩:∃ i:Int,((1+a:Nat):Int)=i:=⟨_,rfl⟩
 obtain ⟨i2,h2⟩:∃ i:Int,((1+b:Nat):Int)=i:=⟨_,rfl⟩
 obtain ⟨i3,h3⟩:∃ i:Int,((1+o:Nat):Int)=i:=⟨_,rfl⟩
 obtain ⟨x1,e1⟩:∃ i:Int,(a:Int)=i:=⟨_,rfl⟩
 obtain ⟨x2,e2⟩:∃ i:Int,(b:Int)=i:=⟨_,rfl⟩
 obtain ⟨x3,e3⟩:∃ i:Int,(o:Int)=i:=⟨_,rfl⟩
 rw [e1,e2,e3]
 have CF:Sl (∀ V,Calls Tryz.prog 19 #[.int .u8 x1,.int .u8 x2,.int .u8 x3] V fun e w'=>∃ g,e=.returned (.agg #[.slice (some ⟨g,0,none⟩) 1 1,.slice none 0 0,.int .i64 4,.int .i64 i1,.int .i64 i2,.int .i64 3,.int .i64 300,.int .i64 i3,.int .i64 5,.int .i64 9,.int .i64 3,.int .i64 4])∧Sl (w'.heap[g]? = some (.cells #[.string {data:=#[47]},.string {data:=#[]},.string {data:=#[120]}] 72 (0,0))∧V.heap.size≤g)∧Sl (Below V.heap.size V w')):=⟨fun V=>cfg_L ha hb ho h1 h2 h3 e1 e2 e3 V⟩
 have NW:Sl (∀ V g,Below w.heap.size w V→Rou.RtsAt V (.slice (some ⟨g,0,none⟩) 1 1) [rb1]→Calls Tryz.prog 13 #[.agg #[.slice (some ⟨g,0,none⟩) 1 1,.slice none 0 0,.int .i64 4,.int .i64 i1,.int .i64 i2,.int .i64 3,.int .i64 300,.int .i64 i3,.int .i64 5,.int .i64 9,.int .i64 3,.int .i64 4],.bool masked,.int .u32 (d:Int)] V fun e w'=>∃ L S,e=.returned (.tuple #[.pointer (some ⟨L,0,none⟩),.int .i64 0])∧Sl (LegH w w' L S (cfL a b o masked) (L0 d) 0)∧Sl (Below V.heap.size V w')∧Sl (∀ j,S j→V.heap.size≤j)):=⟨fun V g hV hv=>new_L ha hb ho h1 h2 h3 masked d (by omega) rfl hg hV hv⟩
 have HI1:Sl (((1+a:Nat):Int)=i1):=⟨h1⟩
 have HI3:Sl (((1+o:Nat):Int)=i3):=⟨h3⟩
 have HG:=Sl.mk hg
 obtain ⟨ad,cap,sb,so,rfl,_,had,hcell⟩:=hva
 obtain ⟨n,hn⟩:∃ n,xs.length=n:=⟨_,rfl⟩
 have HN:=Sl.mk hn
 rw [hn] at had hlm ⊢
 clear hg h1 h2 h3 e1 e2 e3 hn hok
 go_enter Tryz.func7,Tryz.ntmps7
 go_upto_region 1 with fail
 obtain ⟨w0,hw0⟩:∃ V,w.alloc (.cells #[.int .u8 x1,.int .u8 x2,.int .u8 x3] 45)=V:=⟨_,rfl⟩
 have HB0:Sl (Below w.heap.size w w0):=⟨by rw [← hw0];exact (Below.refl _ _).alloc (Nat.le_refl _) _⟩
 have HZ0:w0.heap[w.heap.size]? = some (.cells #[.int .u8 x1,.int .u8 x2,.int .u8 x3] 45 (0,0)):=by rw [← hw0];exact alloc_new _ _ _ rfl
 (try rw [hw0])
 have z0:=Rou.cell_at HZ0 0 _ rfl
 have z1:=Rou.cell_at HZ0 1 _ rfl
 have z2:=Rou.cell_at HZ0 2 _ rfl
 clear hw0 HZ0
 have CF0:=CF.out w0
 go_wp2_with fail
 refine CF0.mono ?_
 rintro e w1 ⟨g,rfl,HV,HB1⟩
 clear CF0 z0 z1 z2
 obtain ⟨X1,hX1⟩:∃ V,w1.alloc (.cells #[.slice (some ⟨g,0,none⟩) 1 1,.slice none 0 0,.int .i64 4,.int .i64 i1,.int .i64 i2,.int .i64 3,.int .i64 300,.int .i64 i3,.int .i64 5,.int .i64 9,.int .i64 3,.int .i64 4] 25)=V:=⟨_,rfl⟩
 have hXB:Below w1.heap.size w1 X1:=by rw [← hX1];exact (Below.refl _ _).alloc (Nat.le_refl _) _
 have hXC:X1.heap[w1.heap.size]? = some (.cells #[.slice (some ⟨g,0,none⟩) 1 1,.slice none 0 0,.int .i64 4,.int .i64 i1,.int .i64 i2,.int .i64 3,.int .i64 300,.int .i64 i3,.int .i64 5,.int .i64 9,.int .i64 3,.int .i64 4] 25 (0,0)):=by rw [← hX1];exact alloc_new _ _ _ rfl
 obtain ⟨cb,hcb⟩:∃ b,w1.heap.size=b:=⟨_,rfl⟩
 have HRT:Sl (Rou.RtsAt X1 (.slice (some ⟨g,0,none⟩) 1 1) [rb1]):=⟨rts_one (below_key HV.out.1 hXB)⟩
 have HB01:Sl (Below w.heap.size w w1):=⟨HB0.out.trans (HB1.out.mono HB0.out.size)⟩
 have HB2:Sl (Below w.heap.size w X1):=⟨HB01.out.trans (hXB.mono HB01.out.size)⟩
 have HGE:Sl (w.heap.size≤cb):=⟨by rw [← hcb];exact HB01.out.size⟩
 have HXC:=Sl.mk hXC
 clear CF HV HB1 HB0 HB01 hXB
 rw [hcb] at HXC hXC
 have k0:=Rou.cell_at hXC 0 _ rfl
 have k1:=Rou.cell_at hXC 1 _ rfl
 have k2:=Rou.cell_at hXC 2 _ rfl
 have k3:=Rou.cell_at hXC 3 _ rfl
 have k4:=Rou.cell_at hXC 4 _ rfl
 have k5:=Rou.cell_at hXC 5 _ rfl
 have k6:=Rou.cell_at hXC 6 _ rfl
 have k7:=Rou.cell_at hXC 7 _ rfl
 have k8:=Rou.cell_at hXC 8 _ rfl
 have k9:=Rou.cell_at hXC 9 _ rfl
 have k10:=Rou.cell_at hXC 10 _ rfl
 have k11:=Rou.cell_at hXC 11 _ rfl
 go_upto_region 2 with fail
 (try rw [hX1])
 (try rw [hcb])
 clear hX1 hcb hXC
 have NW1:=NW.out X1 g HB2.out HRT.out
 go_wp2_with fail
 refine NW1.mono ?_
 rintro e w2 ⟨L,S,rfl,HL2,HB3,HS⟩
 clear NW1
 clear k0 k1 k2 k3 k4 k5 k6 k7 k8 k9 k10 k11
 have HCB2:Sl (w2.heap[cb]? = some (.cells #[.slice (some ⟨g,0,none⟩) 1 1,.slice none 0 0,.int .i64 4,.int .i64 i1,.int .i64 i2,.int .i64 3,.int .i64 300,.int .i64 i3,.int .i64 5,.int .i64 9,.int .i64 3,.int .i64 4] 25 (0,0))∧∀ j,S j→j≠cb):=⟨below_key HXC.out HB3.out,fun j e e2=>by have:=HS.out j e;have:=(Array.getElem?_eq_some_iff.1 HXC.out).1;omega⟩
 clear HB2 HB3 HRT NW HXC HS
 have AW1:=awake_any w2 HG.out HL2.out.low
 go_wp2_with fail
 refine AW1.mono ?_
 rintro e w3 ⟨rfl,HB6⟩
 clear AW1
 have HL3:=Sl.mk (HL2.out.below HB6.out)
 have HCB3:Sl (w3.heap[cb]? = some (.cells #[.slice (some ⟨g,0,none⟩) 1 1,.slice none 0 0,.int .i64 4,.int .i64 i1,.int .i64 i2,.int .i64 3,.int .i64 300,.int .i64 i3,.int .i64 5,.int .i64 9,.int .i64 3,.int .i64 4] 25 (0,0))∧∀ j,S j→j≠cb):=⟨below_key HCB2.out.1 HB6.out,HCB2.out.2⟩
 clear HL2 HCB2 HB6
 go_wp2
 go_loopw [12,13] (fun u12 u13 wr=>∃ (i:Nat) (m:Lg) (S1:Nat→Prop),u12=.int .i64 (i:Int)∧i≤n∧i≤40∧Sl (LegH w wr L S1 (cfL a b o masked) m i)∧Sl (wr.heap[cb]? = some (.cells #[.slice (some ⟨g,0,none⟩) 1 1,.slice none 0 0,.int .i64 4,.int .i64 i1,.int .i64 i2,.int .i64 3,.int .i64 300,.int .i64 i3,.int .i64 5,.int .i64 9,.int .i64 3,.int .i64 4] 25 (0,0))∧∀ j,S1 j→j≠cb)) (fun u12 _ _=>40-(intOf u12).toNat)
 case atStart=>exact ⟨0,L0 d,S,rfl,Nat.zero_le _,Nat.zero_le _,HL3,HCB3⟩
 case round =>
  obtain ⟨i,m,S1,rfl,hi,hi40,HL,HCB⟩:=hrel
  clear HL3 HCB3
  have HI40:=Sl.mk hi40
  by_cases hin:i<n
  ·have hlt:((i:Int)<(n:Int))=True:=eq_true (by omega)
   have hltb:decide ((i:Int)<(n:Int))=true:=decide_eq_true (by omega)
   by_cases h40:i<40
   ·have hlt2:((i:Int)<40)=True:=eq_true (by omega)
    have hlt2b:decide ((i:Int)<40)=true:=decide_eq_true (by omega)
    have hltn:(i:Int)<(n:Int):=by omega
    obtain rfl:=had (by omega)
    obtain ⟨kind,op,code,num,s,hact⟩:∃ kind op code num s,xs.getD i Ac0=⟨kind,op,code,num,s⟩:=⟨_,_,_,_,_,rfl⟩
    obtain ⟨f0,f1,f2,f3,f4⟩:=acts_at hcell HL.out.low i (by rw [HN.out];exact hin) hact
    obtain ⟨w4,hw4⟩:∃ V,wr.alloc (.cells #[.int .i64 kind,.int .i64 op,.int .i64 code,.int .i64 num,.string s] 40)=V:=⟨_,rfl⟩
    have hB4:Below wr.heap.size wr w4:=by rw [← hw4];exact (Below.refl _ _).alloc (Nat.le_refl _) _
    have hX4:w4.heap[wr.heap.size]? = some (.cells #[.int .i64 kind,.int .i64 op,.int .i64 code,.int .i64 num,.string s] 40 (0,0)):=by rw [← hw4];exact alloc_new _ _ _ rfl
    have HL4:=Sl.mk (HL.out.below hB4)
    have HC4:Sl (w4.heap[cb]? = some (.cells #[.slice (some ⟨g,0,none⟩) 1 1,.slice none 0 0,.int .i64 4,.int .i64 i1,.int .i64 i2,.int .i64 3,.int .i64 300,.int .i64 i3,.int .i64 5,.int .i64 9,.int .i64 3,.int .i64 4] 25 (0,0))∧∀ j,S1 j→j≠cb):=⟨below_key HCB.out.1 hB4,HCB.out.2⟩
    obtain ⟨xb,hxb⟩:∃ x,wr.heap.size=x:=⟨_,rfl⟩
    rw [hxb] at hX4
    obtain ⟨b0,b1,b2,b3,b4⟩:=act_cells hX4
    have HX4:=Sl.mk hX4
    obtain ⟨fw,hfw⟩:∃ r,decide (s.size≤300)=r:=⟨_,rfl⟩
    have FW:=few_any kind op code num s w4 fw hfw
    clear HL HCB hB4 hX4 hact
    go_upto_region 9 with fail
    (try rw [hw4])
    (try rw [hxb])
    clear hw4 hxb f0 f1 f2 f3 f4
    go_wp2_with fail
    refine FW.mono ?_
    rintro e w5 ⟨rfl,HB5⟩
    clear FW b0 b1 b2 b3 b4
    have HL5:=Sl.mk (HL4.out.below HB5.out)
    have HC5:Sl (w5.heap[cb]? = some (.cells #[.slice (some ⟨g,0,none⟩) 1 1,.slice none 0 0,.int .i64 4,.int .i64 i1,.int .i64 i2,.int .i64 3,.int .i64 300,.int .i64 i3,.int .i64 5,.int .i64 9,.int .i64 3,.int .i64 4] 25 (0,0))∧∀ j,S1 j→j≠cb):=⟨below_key HC4.out.1 HB5.out,HC4.out.2⟩
    have HX5:=Sl.mk (below_key HX4.out HB5.out)
    clear HL4 HC4 HX4 HB5
    cases fw with
    | false =>
      clear hfw
      go_wp2
      exact ⟨⟨i+1,m,S1,by go_num,by omega,by omega,⟨HL5.out.mono (Nat.le_succ _) (by omega)⟩,HC5⟩,by simp [intOf];omega⟩
    | true =>
      have hs300:s.size≤300:=of_decide_eq_true hfw
      obtain ⟨b0,b1,b2,b3,b4⟩:=act_cells HX5.out
      clear hfw HX5
      by_cases h0:kind=0
      ·subst h0
       obtain ⟨cp,w6,hconv,HS6,HX6⟩:=conv_str s w5
       have HL6:=Sl.mk (HL5.out.below HX6.out)
       have HC6:Sl (w6.heap[cb]? = some (.cells #[.slice (some ⟨g,0,none⟩) 1 1,.slice none 0 0,.int .i64 4,.int .i64 i1,.int .i64 i2,.int .i64 3,.int .i64 300,.int .i64 i3,.int .i64 5,.int .i64 9,.int .i64 3,.int .i64 4] 25 (0,0))∧∀ j,S1 j→j≠cb):=⟨below_key HC5.out.1 HX6.out,HC5.out.2⟩
       obtain ⟨m',es',hr⟩:∃ m' es',feed (cfL a b o masked) m (bytes s)=(m',es'):=⟨_,_,rfl⟩
       have T:=feed_ex HL6.out _ _ HS6.out (bytes_small s) (by rw [bytes_length];omega) m' es' hr
       clear hr HS6 HX6
       go_wp2_with fail
       refine T.mono ?_
       rintro e w7 ⟨S7,rv,rfl,-,HL7,HG7,-⟩
       clear T hconv
       have HL8:=Sl.mk (HL7.out.mono (Nat.le_succ _) (by have:=HI40.out;omega))
       have HC8:=keep_cb HL6.out HC6.out HGE.out (Below.refl _ _) HL7.out HG7.out
       go_upto_region 21 with fail
       clear b0 b1 b2 b3 b4 hs300 HL5 HC5
       have hc3:=Rou.cell_at HC8.out.1 3 _ rfl
       have hc7:=Rou.cell_at HC8.out.1 7 _ rfl
       obtain ⟨tl,htl⟩:∃ t,m'.ring.take (70000:Int).toNat=t:=⟨_,rfl⟩
       obtain ⟨q,hq⟩:∃ q,tl.length=q:=⟨_,rfl⟩
       have hql:q≤1+o:=by
        have h1:m'.ring.length≤1+o:=LegPlain.ring_le HL8.out.good.few.ok
        rw [← hq,← htl,List.length_take];omega
       obtain ⟨kn,hkn⟩:∃ k,m'.buf.length+m'.ms.text.length=k:=⟨_,rfl⟩
       have hkl:kn≤1+a+max (1+a) 125+14:=by
        have h1:=HL8.out.good.inn.kept.buf
        have h2:m'.ms.text.length≤1+a:=HL8.out.good.inn.kept.text
        have h3:bound (cfL a b o masked)=max (1+a) 125:=rfl
        omega
       have hi1:=HI1.out
       have hi3:=HI3.out
       have hle7:¬ (i3<(q:Int)):=by omega
       have hle8:¬ (i1+max i1 125+14<(kn:Int)):=by omega
       have wr1:IntKind.i64.wrap (i1+max i1 125)=i1+max i1 125:=by rw [IntKind.wrap_i64];omega
       have wr2:IntKind.i64.wrap (i1+max i1 125+14)=i1+max i1 125+14:=by rw [IntKind.wrap_i64];omega
       obtain ⟨Rw,hRw⟩:∃ R,w7.drew=R:=⟨_,rfl⟩
       have HBR:Below w7.heap.size w7 Rw:=by rw [← hRw];exact (Below.refl _ _).drew
       refine wp_region_noPanic ?_
       refine wp_region_held (S:=fun V=>V.cell? ⟨cb,3,none⟩=some (.int .i64 i1)∧V.cell? ⟨cb,7,none⟩=some (.int .i64 i3)) (by kernel_rfl) ?_
       change wpAnyH _ _ _ _ _ _ _ _ w7.drew
       rw [hRw]
       clear hRw
       have HS0:Rw.cell? ⟨cb,3,none⟩=some (.int .i64 i1)∧Rw.cell? ⟨cb,7,none⟩=some (.int .i64 i3):=⟨(HBR.cell (p:=⟨cb,3,none⟩) (block_lt_of_cell hc3)).trans hc3,(HBR.cell (p:=⟨cb,7,none⟩) (block_lt_of_cell hc7)).trans hc7⟩
       have PK:=peek_ex (HL8.out.below HBR) 70000 tl htl q hq
       refine heldTake (d:=some 93) (op:=.move (Operand.tmp 10)) (g:=none) 0 ?v0z1 rfl (by kernel_rfl) (by kernel_rfl) (by kernel_rfl) (by kernel_rfl) ?y0z1 HS0 ?_
       case y0z1=>intro o' ho W hS;simp only [execOp,ho];go_simp;try rfl
       simp only [Act.put,List.setIfInBounds_toArray,List.set_cons_zero,List.set_cons_succ]
       refine heldTake (d:=some 96) (op:=.fieldAddr 25 (Operand.tmp 9) 7) (g:=none) 3 ?v3z1 rfl (by kernel_rfl) (by kernel_rfl) (by kernel_rfl) (by kernel_rfl) ?y3z1 HS0 ?_
       case y3z1=>intro o' ho W hS;simp only [execOp,ho];go_simp;try rfl
       simp only [Act.put,List.setIfInBounds_toArray,List.set_cons_zero,List.set_cons_succ]
       refine heldTake (d:=some 97) (op:=.load 3 (Operand.tmp 96)) (g:=none) 4 ?v4z1 rfl (by kernel_rfl) (by kernel_rfl) (by kernel_rfl) (by kernel_rfl) ?y4z1 HS0 ?_
       case y4z1=>intro o' ho W hS;have d1:=hS.2;simp only [execOp,ho];go_simp;try rfl
       simp only [Act.put,List.setIfInBounds_toArray,List.set_cons_zero,List.set_cons_succ]
       refine heldCall (d:=some 94) (op:=.call {callee:=Callee.value (Operand.func 33),args:=#[Operand.tmp 93,Operand.const (Value.int IntKind.i64 70000)],argTypes:=#[30,3]}) (g:=none) 1 33 #[.pointer (some ⟨L,0,none⟩),.int .i64 70000] rfl (by kernel_rfl) (by kernel_rfl) ?y1z1 ?_
       case y1z1=>intro o' ho;simp only [execOp,ho];go_simp;try rfl
       refine (PK).mono ?_
       rintro e w9 ⟨rfl,-,HB9⟩
       have HL9:=Sl.mk ((HL8.out.below HBR).below HB9.out)
       have HS9:w9.cell? ⟨cb,3,none⟩=some (.int .i64 i1)∧w9.cell? ⟨cb,7,none⟩=some (.int .i64 i3):=⟨(HB9.out.cell (p:=⟨cb,3,none⟩) (block_lt_of_cell HS0.1)).trans HS0.1,(HB9.out.cell (p:=⟨cb,7,none⟩) (block_lt_of_cell HS0.2)).trans HS0.2⟩
       have KT:=kept_ex HL9.out kn hkn (by omega)
       refine ⟨_,rfl,HS9,?_⟩
       simp only [Act.put,List.setIfInBounds_toArray,List.set_cons_zero,List.set_cons_succ]
       refine heldTake (d:=some 95) (op:=.call {callee:=Callee.builtin Builtin.len,args:=#[Operand.tmp 94],argTypes:=#[49]}) (g:=none) 2 ?v2z1 rfl (by kernel_rfl) (by kernel_rfl) (by kernel_rfl) (by kernel_rfl) ?y2z1 HS9 ?_
       case y2z1=>intro o' ho W hS;simp only [execOp,ho];go_simp;try rfl
       simp only [Act.put,List.setIfInBounds_toArray,List.set_cons_zero,List.set_cons_succ]
       refine heldTake (d:=some 98) (op:=.binOp BinOp.gtr 3 (Operand.tmp 95) (Operand.tmp 97) 3) (g:=none) 5 (.bool false) rfl (by kernel_rfl) (by kernel_rfl) (by kernel_rfl) (by kernel_rfl) ?y5z1 HS9 ?_
       case y5z1=>intro o' ho W hS;exact (by simp only [execOp,ho];go_simp;first | done | exact hle7 | (simpa using hle7) | omega)
       simp only [Act.put,List.setIfInBounds_toArray,List.set_cons_zero,List.set_cons_succ]
       refine heldTake (d:=some 99) (op:=.move (Operand.tmp 98)) (g:=none) 6 (.bool false) rfl (by kernel_rfl) (by kernel_rfl) (by kernel_rfl) (by kernel_rfl) ?y6z1 HS9 ?_
       case y6z1=>intro o' ho W hS;exact (by simp only [execOp,ho];go_simp;try rfl)
       simp only [Act.put,List.setIfInBounds_toArray,List.set_cons_zero,List.set_cons_succ]
       refine heldTake (d:=some 100) (op:=.move (Operand.tmp 10)) (g:=some (6,false)) 7 ?v7z1 rfl (by kernel_rfl) (by kernel_rfl) (by kernel_rfl) (by kernel_rfl) ?y7z1 HS9 ?_
       case y7z1=>intro o' ho W hS;simp only [execOp,ho];go_simp;try rfl
       simp only [Act.put,List.setIfInBounds_toArray,List.set_cons_zero,List.set_cons_succ]
       refine heldTake (d:=some 102) (op:=.fieldAddr 25 (Operand.tmp 9) 3) (g:=some (6,false)) 9 ?v9z1 rfl (by kernel_rfl) (by kernel_rfl) (by kernel_rfl) (by kernel_rfl) ?y9z1 HS9 ?_
       case y9z1=>intro o' ho W hS;simp only [execOp,ho];go_simp;try rfl
       simp only [Act.put,List.setIfInBounds_toArray,List.set_cons_zero,List.set_cons_succ]
       refine heldTake (d:=some 103) (op:=.load 3 (Operand.tmp 102)) (g:=some (6,false)) 10 ?v10z1 rfl (by kernel_rfl) (by kernel_rfl) (by kernel_rfl) (by kernel_rfl) ?y10z1 HS9 ?_
       case y10z1=>intro o' ho W hS;have d1:=hS.1;simp only [execOp,ho];go_simp;try rfl
       simp only [Act.put,List.setIfInBounds_toArray,List.set_cons_zero,List.set_cons_succ]
       refine heldTake (d:=some 104) (op:=.fieldAddr 25 (Operand.tmp 9) 3) (g:=some (6,false)) 11 ?v11z1 rfl (by kernel_rfl) (by kernel_rfl) (by kernel_rfl) (by kernel_rfl) ?y11z1 HS9 ?_
       case y11z1=>intro o' ho W hS;simp only [execOp,ho];go_simp;try rfl
       simp only [Act.put,List.setIfInBounds_toArray,List.set_cons_zero,List.set_cons_succ]
       refine heldTake (d:=some 105) (op:=.load 3 (Operand.tmp 104)) (g:=some (6,false)) 12 ?v12z1 rfl (by kernel_rfl) (by kernel_rfl) (by kernel_rfl) (by kernel_rfl) ?y12z1 HS9 ?_
       case y12z1=>intro o' ho W hS;have d1:=hS.1;simp only [execOp,ho];go_simp;try rfl
       simp only [Act.put,List.setIfInBounds_toArray,List.set_cons_zero,List.set_cons_succ]
       refine heldTake (d:=some 106) (op:=.call {callee:=Callee.builtin Builtin.max,args:=#[Operand.tmp 105,Operand.const (Value.int IntKind.i64 125)],argTypes:=#[3,3]}) (g:=some (6,false)) 13 (.int .i64 (max i1 125)) rfl (by kernel_rfl) (by kernel_rfl) (by kernel_rfl) (by kernel_rfl) ?y13z1 HS9 ?_
       case y13z1=>intro o' ho W hS;exact (by simp only [execOp,ho];go_simp;try rfl)
       simp only [Act.put,List.setIfInBounds_toArray,List.set_cons_zero,List.set_cons_succ]
       refine heldTake (d:=some 107) (op:=.binOp BinOp.add 3 (Operand.tmp 103) (Operand.tmp 106) 3) (g:=some (6,false)) 14 (.int .i64 (i1+max i1 125)) rfl (by kernel_rfl) (by kernel_rfl) (by kernel_rfl) (by kernel_rfl) ?y14z1 HS9 ?_
       case y14z1=>intro o' ho W hS;exact (by simp only [execOp,ho];go_simp;first | done | exact wr1 | rw [wr1] | (simpa using wr1))
       simp only [Act.put,List.setIfInBounds_toArray,List.set_cons_zero,List.set_cons_succ]
       refine heldTake (d:=some 108) (op:=.binOp BinOp.add 3 (Operand.tmp 107) (Operand.const (Value.int IntKind.i64 14)) 3) (g:=some (6,false)) 15 (.int .i64 (i1+max i1 125+14)) rfl (by kernel_rfl) (by kernel_rfl) (by kernel_rfl) (by kernel_rfl) ?y15z1 HS9 ?_
       case y15z1=>intro o' ho W hS;exact (by simp only [execOp,ho];go_simp;first | done | exact wr2 | rw [wr2] | (simpa using wr2))
       simp only [Act.put,List.setIfInBounds_toArray,List.set_cons_zero,List.set_cons_succ]
       refine heldCall (d:=some 101) (op:=.call {callee:=Callee.value (Operand.func 34),args:=#[Operand.tmp 100],argTypes:=#[30]}) (g:=some (6,false)) 8 34 #[.pointer (some ⟨L,0,none⟩)] rfl (by kernel_rfl) (by kernel_rfl) ?y8z1 ?_
       case y8z1=>intro o' ho;simp only [execOp,ho];go_simp;try rfl
       refine (KT).mono ?_
       rintro e w10 ⟨rfl,HB10⟩
       have HL10:=Sl.mk (HL9.out.below HB10.out)
       have HS10:w10.cell? ⟨cb,3,none⟩=some (.int .i64 i1)∧w10.cell? ⟨cb,7,none⟩=some (.int .i64 i3):=⟨(HB10.out.cell (p:=⟨cb,3,none⟩) (block_lt_of_cell HS9.1)).trans HS9.1,(HB10.out.cell (p:=⟨cb,7,none⟩) (block_lt_of_cell HS9.2)).trans HS9.2⟩
       have HC10:Sl (w10.heap[cb]? = some (.cells #[.slice (some ⟨g,0,none⟩) 1 1,.slice none 0 0,.int .i64 4,.int .i64 i1,.int .i64 i2,.int .i64 3,.int .i64 300,.int .i64 i3,.int .i64 5,.int .i64 9,.int .i64 3,.int .i64 4] 25 (0,0))∧∀ j,S7 j→j≠cb):=⟨below_key HC8.out.1 (HBR.trans ((HB9.out.trans (HB10.out.mono HB9.out.size)).mono HBR.size)),HC8.out.2⟩
       refine ⟨_,rfl,HS10,?_⟩
       simp only [Act.put,List.setIfInBounds_toArray,List.set_cons_zero,List.set_cons_succ]
       refine heldTake (d:=some 109) (op:=.binOp BinOp.gtr 3 (Operand.tmp 101) (Operand.tmp 108) 3) (g:=some (6,false)) 16 (.bool false) rfl (by kernel_rfl) (by kernel_rfl) (by kernel_rfl) (by kernel_rfl) ?y16z1 HS10 ?_
       case y16z1=>intro o' ho W hS;exact (by simp only [execOp,ho];go_simp;first | done | exact hle8 | (simpa using hle8) | omega)
       simp only [Act.put,List.setIfInBounds_toArray,List.set_cons_zero,List.set_cons_succ]
       refine heldTake (d:=some 110) (op:=.pick (Operand.tmp 99) (Operand.const (Value.bool true)) (Operand.tmp 109)) (g:=none) 17 (.bool false) rfl (by kernel_rfl) (by kernel_rfl) (by kernel_rfl) (by kernel_rfl) ?y17z1 HS10 ?_
       case y17z1=>intro o' ho W hS;exact (by simp only [execOp,ho];go_simp;try rfl)
       simp only [Act.put,List.setIfInBounds_toArray,List.set_cons_zero,List.set_cons_succ]
       refine wpAnyH_done (by kernel_rfl) ?_ _
       refine NoPanic.normal ?_
       clear PK KT HL8 HC8 HL9 HS9 HS10 HS0 HBR HB9 HB10 hc3 hc7 hle7 hle8 htl hq hkn hkl hql hi1 hi3 wr1 wr2
       (try go_frame)
       go_wp2
       exact ⟨⟨i+1,m',S7,by go_num,by omega,by omega,HL10,HC10⟩,by simp [intOf];omega⟩
      by_cases h1:kind=1
      ·subst h1
       obtain ⟨m',r',hr⟩:∃ m' r',LegPlain.send (cfL a b o masked) m op (bytes s)=(m',r'):=⟨_,_,rfl⟩
       have T:=send_ex HL5.out op 0 s m' r' hr
       clear hr
       go_wp2_with fail
       refine T.mono ?_
       rintro e w7 ⟨S7,rfl,HL7,HG7⟩
       clear T
       have HL8:=Sl.mk (HL7.out.mono (Nat.le_succ _) (by have:=HI40.out;omega))
       have HC8:=keep_cb HL5.out HC5.out HGE.out (Below.refl _ _) HL7.out HG7.out
       go_upto_region 21 with fail
       clear b0 b1 b2 b3 b4 hs300 HL5 HC5
       have hc3:=Rou.cell_at HC8.out.1 3 _ rfl
       have hc7:=Rou.cell_at HC8.out.1 7 _ rfl
       obtain ⟨tl,htl⟩:∃ t,m'.ring.take (70000:Int).toNat=t:=⟨_,rfl⟩
       obtain ⟨q,hq⟩:∃ q,tl.length=q:=⟨_,rfl⟩
       have hql:q≤1+o:=by
        have h1:m'.ring.length≤1+o:=LegPlain.ring_le HL8.out.good.few.ok
        rw [← hq,← htl,List.length_take];omega
       obtain ⟨kn,hkn⟩:∃ k,m'.buf.length+m'.ms.text.length=k:=⟨_,rfl⟩
       have hkl:kn≤1+a+max (1+a) 125+14:=by
        have h1:=HL8.out.good.inn.kept.buf
        have h2:m'.ms.text.length≤1+a:=HL8.out.good.inn.kept.text
        have h3:bound (cfL a b o masked)=max (1+a) 125:=rfl
        omega
       have hi1:=HI1.out
       have hi3:=HI3.out
       have hle7:¬ (i3<(q:Int)):=by omega
       have hle8:¬ (i1+max i1 125+14<(kn:Int)):=by omega
       have wr1:IntKind.i64.wrap (i1+max i1 125)=i1+max i1 125:=by rw [IntKind.wrap_i64];omega
       have wr2:IntKind.i64.wrap (i1+max i1 125+14)=i1+max i1 125+14:=by rw [IntKind.wrap_i64];omega
       obtain ⟨Rw,hRw⟩:∃ R,w7.drew=R:=⟨_,rfl⟩
       have HBR:Below w7.heap.size w7 Rw:=by rw [← hRw];exact (Below.refl _ _).drew
       refine wp_region_noPanic ?_
       refine wp_region_held (S:=fun V=>V.cell? ⟨cb,3,none⟩=some (.int .i64 i1)∧V.cell? ⟨cb,7,none⟩=some (.int .i64 i3)) (by kernel_rfl) ?_
       change wpAnyH _ _ _ _ _ _ _ _ w7.drew
       rw [hRw]
       clear hRw
       have HS0:Rw.cell? ⟨cb,3,none⟩=some (.int .i64 i1)∧Rw.cell? ⟨cb,7,none⟩=some (.int .i64 i3):=⟨(HBR.cell (p:=⟨cb,3,none⟩) (block_lt_of_cell hc3)).trans hc3,(HBR.cell (p:=⟨cb,7,none⟩) (block_lt_of_cell hc7)).trans hc7⟩
       have PK:=peek_ex (HL8.out.below HBR) 70000 tl htl q hq
       refine heldTake (d:=some 93) (op:=.move (Operand.tmp 10)) (g:=none) 0 ?v0z2 rfl (by kernel_rfl) (by kernel_rfl) (by kernel_rfl) (by kernel_rfl) ?y0z2 HS0 ?_
       case y0z2=>intro o' ho W hS;simp only [execOp,ho];go_simp;try rfl
       simp only [Act.put,List.setIfInBounds_toArray,List.set_cons_zero,List.set_cons_succ]
       refine heldTake (d:=some 96) (op:=.fieldAddr 25 (Operand.tmp 9) 7) (g:=none) 3 ?v3z2 rfl (by kernel_rfl) (by kernel_rfl) (by kernel_rfl) (by kernel_rfl) ?y3z2 HS0 ?_
       case y3z2=>intro o' ho W hS;simp only [execOp,ho];go_simp;try rfl
       simp only [Act.put,List.setIfInBounds_toArray,List.set_cons_zero,List.set_cons_succ]
       refine heldTake (d:=some 97) (op:=.load 3 (Operand.tmp 96)) (g:=none) 4 ?v4z2 rfl (by kernel_rfl) (by kernel_rfl) (by kernel_rfl) (by kernel_rfl) ?y4z2 HS0 ?_
       case y4z2=>intro o' ho W hS;have d1:=hS.2;simp only [execOp,ho];go_simp;try rfl
       simp only [Act.put,List.setIfInBounds_toArray,List.set_cons_zero,List.set_cons_succ]
       refine heldCall (d:=some 94) (op:=.call {callee:=Callee.value (Operand.func 33),args:=#[Operand.tmp 93,Operand.const (Value.int IntKind.i64 70000)],argTypes:=#[30,3]}) (g:=none) 1 33 #[.pointer (some ⟨L,0,none⟩),.int .i64 70000] rfl (by kernel_rfl) (by kernel_rfl) ?y1z2 ?_
       case y1z2=>intro o' ho;simp only [execOp,ho];go_simp;try rfl
       refine (PK).mono ?_
       rintro e w9 ⟨rfl,-,HB9⟩
       have HL9:=Sl.mk ((HL8.out.below HBR).below HB9.out)
       have HS9:w9.cell? ⟨cb,3,none⟩=some (.int .i64 i1)∧w9.cell? ⟨cb,7,none⟩=some (.int .i64 i3):=⟨(HB9.out.cell (p:=⟨cb,3,none⟩) (block_lt_of_cell HS0.1)).trans HS0.1,(HB9.out.cell (p:=⟨cb,7,none⟩) (block_lt_of_cell HS0.2)).trans HS0.2⟩
       have KT:=kept_ex HL9.out kn hkn (by omega)
       refine ⟨_,rfl,HS9,?_⟩
       simp only [Act.put,List.setIfInBounds_toArray,List.set_cons_zero,List.set_cons_succ]
       refine heldTake (d:=some 95) (op:=.call {callee:=Callee.builtin Builtin.len,args:=#[Operand.tmp 94],argTypes:=#[49]}) (g:=none) 2 ?v2z2 rfl (by kernel_rfl) (by kernel_rfl) (by kernel_rfl) (by kernel_rfl) ?y2z2 HS9 ?_
       case y2z2=>intro o' ho W hS;simp only [execOp,ho];go_simp;try rfl
       simp only [Act.put,List.setIfInBounds_toArray,List.set_cons_zero,List.set_cons_succ]
       refine heldTake (d:=some 98) (op:=.binOp BinOp.gtr 3 (Operand.tmp 95) (Operand.tmp 97) 3) (g:=none) 5 (.bool false) rfl (by kernel_rfl) (by kernel_rfl) (by kernel_rfl) (by kernel_rfl) ?y5z2 HS9 ?_
       case y5z2=>intro o' ho W hS;exact (by simp only [execOp,ho];go_simp;first | done | exact hle7 | (simpa using hle7) | omega)
       simp only [Act.put,List.setIfInBounds_toArray,List.set_cons_zero,List.set_cons_succ]
       refine heldTake (d:=some 99) (op:=.move (Operand.tmp 98)) (g:=none) 6 (.bool false) rfl (by kernel_rfl) (by kernel_rfl) (by kernel_rfl) (by kernel_rfl) ?y6z2 HS9 ?_
       case y6z2=>intro o' ho W hS;exact (by simp only [execOp,ho];go_simp;try rfl)
       simp only [Act.put,List.setIfInBounds_toArray,List.set_cons_zero,List.set_cons_succ]
       refine heldTake (d:=some 100) (op:=.move (Operand.tmp 10)) (g:=some (6,false)) 7 ?v7z2 rfl (by kernel_rfl) (by kernel_rfl) (by kernel_rfl) (by kernel_rfl) ?y7z2 HS9 ?_
       case y7z2=>intro o' ho W hS;simp only [execOp,ho];go_simp;try rfl
       simp only [Act.put,List.setIfInBounds_toArray,List.set_cons_zero,List.set_cons_succ]
       refine heldTake (d:=some 102) (op:=.fieldAddr 25 (Operand.tmp 9) 3) (g:=some (6,false)) 9 ?v9z2 rfl (by kernel_rfl) (by kernel_rfl) (by kernel_rfl) (by kernel_rfl) ?y9z2 HS9 ?_
       case y9z2=>intro o' ho W hS;simp only [execOp,ho];go_simp;try rfl
       simp only [Act.put,List.setIfInBounds_toArray,List.set_cons_zero,List.set_cons_succ]
       refine heldTake (d:=some 103) (op:=.load 3 (Operand.tmp 102)) (g:=some (6,false)) 10 ?v10z2 rfl (by kernel_rfl) (by kernel_rfl) (by kernel_rfl) (by kernel_rfl) ?y10z2 HS9 ?_
       case y10z2=>intro o' ho W hS;have d1:=hS.1;simp only [execOp,ho];go_simp;try rfl
       simp only [Act.put,List.setIfInBounds_toArray,List.set_cons_zero,List.set_cons_succ]
       refine heldTake (d:=some 104) (op:=.fieldAddr 25 (Operand.tmp 9) 3) (g:=some (6,false)) 11 ?v11z2 rfl (by kernel_rfl) (by kernel_rfl) (by kernel_rfl) (by kernel_rfl) ?y11z2 HS9 ?_
       case y11z2=>intro o' ho W hS;simp only [execOp,ho];go_simp;try rfl
       simp only [Act.put,List.setIfInBounds_toArray,List.set_cons_zero,List.set_cons_succ]
       refine heldTake (d:=some 105) (op:=.load 3 (Operand.tmp 104)) (g:=some (6,false)) 12 ?v12z2 rfl (by kernel_rfl) (by kernel_rfl) (by kernel_rfl) (by kernel_rfl) ?y12z2 HS9 ?_
       case y12z2=>intro o' ho W hS;have d1:=hS.1;simp only [execOp,ho];go_simp;try rfl
       simp only [Act.put,List.setIfInBounds_toArray,List.set_cons_zero,List.set_cons_succ]
       refine heldTake (d:=some 106) (op:=.call {callee:=Callee.builtin Builtin.max,args:=#[Operand.tmp 105,Operand.const (Value.int IntKind.i64 125)],argTypes:=#[3,3]}) (g:=some (6,false)) 13 (.int .i64 (max i1 125)) rfl (by kernel_rfl) (by kernel_rfl) (by kernel_rfl) (by kernel_rfl) ?y13z2 HS9 ?_
       case y13z2=>intro o' ho W hS;exact (by simp only [execOp,ho];go_simp;try rfl)
       simp only [Act.put,List.setIfInBounds_toArray,List.set_cons_zero,List.set_cons_succ]
       refine heldTake (d:=some 107) (op:=.binOp BinOp.add 3 (Operand.tmp 103) (Operand.tmp 106) 3) (g:=some (6,false)) 14 (.int .i64 (i1+max i1 125)) rfl (by kernel_rfl) (by kernel_rfl) (by kernel_rfl) (by kernel_rfl) ?y14z2 HS9 ?_
       case y14z2=>intro o' ho W hS;exact (by simp only [execOp,ho];go_simp;first | done | exact wr1 | rw [wr1] | (simpa using wr1))
       simp only [Act.put,List.setIfInBounds_toArray,List.set_cons_zero,List.set_cons_succ]
       refine heldTake (d:=some 108) (op:=.binOp BinOp.add 3 (Operand.tmp 107) (Operand.const (Value.int IntKind.i64 14)) 3) (g:=some (6,false)) 15 (.int .i64 (i1+max i1 125+14)) rfl (by kernel_rfl) (by kernel_rfl) (by kernel_rfl) (by kernel_rfl) ?y15z2 HS9 ?_
       case y15z2=>intro o' ho W hS;exact (by simp only [execOp,ho];go_simp;first | done | exact wr2 | rw [wr2] | (simpa using wr2))
       simp only [Act.put,List.setIfInBounds_toArray,List.set_cons_zero,List.set_cons_succ]
       refine heldCall (d:=some 101) (op:=.call {callee:=Callee.value (Operand.func 34),args:=#[Operand.tmp 100],argTypes:=#[30]}) (g:=some (6,false)) 8 34 #[.pointer (some ⟨L,0,none⟩)] rfl (by kernel_rfl) (by kernel_rfl) ?y8z2 ?_
       case y8z2=>intro o' ho;simp only [execOp,ho];go_simp;try rfl
       refine (KT).mono ?_
       rintro e w10 ⟨rfl,HB10⟩
       have HL10:=Sl.mk (HL9.out.below HB10.out)
       have HS10:w10.cell? ⟨cb,3,none⟩=some (.int .i64 i1)∧w10.cell? ⟨cb,7,none⟩=some (.int .i64 i3):=⟨(HB10.out.cell (p:=⟨cb,3,none⟩) (block_lt_of_cell HS9.1)).trans HS9.1,(HB10.out.cell (p:=⟨cb,7,none⟩) (block_lt_of_cell HS9.2)).trans HS9.2⟩
       have HC10:Sl (w10.heap[cb]? = some (.cells #[.slice (some ⟨g,0,none⟩) 1 1,.slice none 0 0,.int .i64 4,.int .i64 i1,.int .i64 i2,.int .i64 3,.int .i64 300,.int .i64 i3,.int .i64 5,.int .i64 9,.int .i64 3,.int .i64 4] 25 (0,0))∧∀ j,S7 j→j≠cb):=⟨below_key HC8.out.1 (HBR.trans ((HB9.out.trans (HB10.out.mono HB9.out.size)).mono HBR.size)),HC8.out.2⟩
       refine ⟨_,rfl,HS10,?_⟩
       simp only [Act.put,List.setIfInBounds_toArray,List.set_cons_zero,List.set_cons_succ]
       refine heldTake (d:=some 109) (op:=.binOp BinOp.gtr 3 (Operand.tmp 101) (Operand.tmp 108) 3) (g:=some (6,false)) 16 (.bool false) rfl (by kernel_rfl) (by kernel_rfl) (by kernel_rfl) (by kernel_rfl) ?y16z2 HS10 ?_
       case y16z2=>intro o' ho W hS;exact (by simp only [execOp,ho];go_simp;first | done | exact hle8 | (simpa using hle8) | omega)
       simp only [Act.put,List.setIfInBounds_toArray,List.set_cons_zero,List.set_cons_succ]
       refine heldTake (d:=some 110) (op:=.pick (Operand.tmp 99) (Operand.const (Value.bool true)) (Operand.tmp 109)) (g:=none) 17 (.bool false) rfl (by kernel_rfl) (by kernel_rfl) (by kernel_rfl) (by kernel_rfl) ?y17z2 HS10 ?_
       case y17z2=>intro o' ho W hS;exact (by simp only [execOp,ho];go_simp;try rfl)
       simp only [Act.put,List.setIfInBounds_toArray,List.set_cons_zero,List.set_cons_succ]
       refine wpAnyH_done (by kernel_rfl) ?_ _
       refine NoPanic.normal ?_
       clear PK KT HL8 HC8 HL9 HS9 HS10 HS0 HBR HB9 HB10 hc3 hc7 hle7 hle8 htl hq hkn hkl hql hi1 hi3 wr1 wr2
       (try go_frame)
       go_wp2
       exact ⟨⟨i+1,m',S7,by go_num,by omega,by omega,HL10,HC10⟩,by simp [intOf];omega⟩
      by_cases h2:kind=2
      ·subst h2
       obtain ⟨m',r',hr⟩:∃ m' r',LegPlain.ping (cfL a b o masked) m (bytes s)=(m',r'):=⟨_,_,rfl⟩
       have T:=ping_ex HL5.out s (by omega) (by have:=HI40.out;omega) m' r' hr
       clear hr
       go_wp2_with fail
       refine T.mono ?_
       rintro e w7 ⟨S7,rfl,HL7,HG7⟩
       clear T
       have HL8:=HL7
       have HC8:=keep_cb HL5.out HC5.out HGE.out (Below.refl _ _) HL7.out HG7.out
       go_upto_region 21 with fail
       clear b0 b1 b2 b3 b4 hs300 HL5 HC5
       have hc3:=Rou.cell_at HC8.out.1 3 _ rfl
       have hc7:=Rou.cell_at HC8.out.1 7 _ rfl
       obtain ⟨tl,htl⟩:∃ t,m'.ring.take (70000:Int).toNat=t:=⟨_,rfl⟩
       obtain ⟨q,hq⟩:∃ q,tl.length=q:=⟨_,rfl⟩
       have hql:q≤1+o:=by
        have h1:m'.ring.length≤1+o:=LegPlain.ring_le HL8.out.good.few.ok
        rw [← hq,← htl,List.length_take];omega
       obtain ⟨kn,hkn⟩:∃ k,m'.buf.length+m'.ms.text.length=k:=⟨_,rfl⟩
       have hkl:kn≤1+a+max (1+a) 125+14:=by
        have h1:=HL8.out.good.inn.kept.buf
        have h2:m'.ms.text.length≤1+a:=HL8.out.good.inn.kept.text
        have h3:bound (cfL a b o masked)=max (1+a) 125:=rfl
        omega
       have hi1:=HI1.out
       have hi3:=HI3.out
       have hle7:¬ (i3<(q:Int)):=by omega
       have hle8:¬ (i1+max i1 125+14<(kn:Int)):=by omega
       have wr1:IntKind.i64.wrap (i1+max i1 125)=i1+max i1 125:=by rw [IntKind.wrap_i64];omega
       have wr2:IntKind.i64.wrap (i1+max i1 125+14)=i1+max i1 125+14:=by rw [IntKind.wrap_i64];omega
       obtain ⟨Rw,hRw⟩:∃ R,w7.drew=R:=⟨_,rfl⟩
       have HBR:Below w7.heap.size w7 Rw:=by rw [← hRw];exact (Below.refl _ _).drew
       refine wp_region_noPanic ?_
       refine wp_region_held (S:=fun V=>V.cell? ⟨cb,3,none⟩=some (.int .i64 i1)∧V.cell? ⟨cb,7,none⟩=some (.int .i64 i3)) (by kernel_rfl) ?_
       change wpAnyH _ _ _ _ _ _ _ _ w7.drew
       rw [hRw]
       clear hRw
       have HS0:Rw.cell? ⟨cb,3,none⟩=some (.int .i64 i1)∧Rw.cell? ⟨cb,7,none⟩=some (.int .i64 i3):=⟨(HBR.cell (p:=⟨cb,3,none⟩) (block_lt_of_cell hc3)).trans hc3,(HBR.cell (p:=⟨cb,7,none⟩) (block_lt_of_cell hc7)).trans hc7⟩
       have PK:=peek_ex (HL8.out.below HBR) 70000 tl htl q hq
       refine heldTake (d:=some 93) (op:=.move (Operand.tmp 10)) (g:=none) 0 ?v0z3 rfl (by kernel_rfl) (by kernel_rfl) (by kernel_rfl) (by kernel_rfl) ?y0z3 HS0 ?_
       case y0z3=>intro o' ho W hS;simp only [execOp,ho];go_simp;try rfl
       simp only [Act.put,List.setIfInBounds_toArray,List.set_cons_zero,List.set_cons_succ]
       refine heldTake (d:=some 96) (op:=.fieldAddr 25 (Operand.tmp 9) 7) (g:=none) 3 ?v3z3 rfl (by kernel_rfl) (by kernel_rfl) (by kernel_rfl) (by kernel_rfl) ?y3z3 HS0 ?_
       case y3z3=>intro o' ho W hS;simp only [execOp,ho];go_simp;try rfl
       simp only [Act.put,List.setIfInBounds_toArray,List.set_cons_zero,List.set_cons_succ]
       refine heldTake (d:=some 97) (op:=.load 3 (Operand.tmp 96)) (g:=none) 4 ?v4z3 rfl (by kernel_rfl) (by kernel_rfl) (by kernel_rfl) (by kernel_rfl) ?y4z3 HS0 ?_
       case y4z3=>intro o' ho W hS;have d1:=hS.2;simp only [execOp,ho];go_simp;try rfl
       simp only [Act.put,List.setIfInBounds_toArray,List.set_cons_zero,List.set_cons_succ]
       refine heldCall (d:=some 94) (op:=.call {callee:=Callee.value (Operand.func 33),args:=#[Operand.tmp 93,Operand.const (Value.int IntKind.i64 70000)],argTypes:=#[30,3]}) (g:=none) 1 33 #[.pointer (some ⟨L,0,none⟩),.int .i64 70000] rfl (by kernel_rfl) (by kernel_rfl) ?y1z3 ?_
       case y1z3=>intro o' ho;simp only [execOp,ho];go_simp;try rfl
       refine (PK).mono ?_
       rintro e w9 ⟨rfl,-,HB9⟩
       have HL9:=Sl.mk ((HL8.out.below HBR).below HB9.out)
       have HS9:w9.cell? ⟨cb,3,none⟩=some (.int .i64 i1)∧w9.cell? ⟨cb,7,none⟩=some (.int .i64 i3):=⟨(HB9.out.cell (p:=⟨cb,3,none⟩) (block_lt_of_cell HS0.1)).trans HS0.1,(HB9.out.cell (p:=⟨cb,7,none⟩) (block_lt_of_cell HS0.2)).trans HS0.2⟩
       have KT:=kept_ex HL9.out kn hkn (by omega)
       refine ⟨_,rfl,HS9,?_⟩
       simp only [Act.put,List.setIfInBounds_toArray,List.set_cons_zero,List.set_cons_succ]
       refine heldTake (d:=some 95) (op:=.call {callee:=Callee.builtin Builtin.len,args:=#[Operand.tmp 94],argTypes:=#[49]}) (g:=none) 2 ?v2z3 rfl (by kernel_rfl) (by kernel_rfl) (by kernel_rfl) (by kernel_rfl) ?y2z3 HS9 ?_
       case y2z3=>intro o' ho W hS;simp only [execOp,ho];go_simp;try rfl
       simp only [Act.put,List.setIfInBounds_toArray,List.set_cons_zero,List.set_cons_succ]
       refine heldTake (d:=some 98) (op:=.binOp BinOp.gtr 3 (Operand.tmp 95) (Operand.tmp 97) 3) (g:=none) 5 (.bool false) rfl (by kernel_rfl) (by kernel_rfl) (by kernel_rfl) (by kernel_rfl) ?y5z3 HS9 ?_
       case y5z3=>intro o' ho W hS;exact (by simp only [execOp,ho];go_simp;first | done | exact hle7 | (simpa using hle7) | omega)
       simp only [Act.put,List.setIfInBounds_toArray,List.set_cons_zero,List.set_cons_succ]
       refine heldTake (d:=some 99) (op:=.move (Operand.tmp 98)) (g:=none) 6 (.bool false) rfl (by kernel_rfl) (by kernel_rfl) (by kernel_rfl) (by kernel_rfl) ?y6z3 HS9 ?_
       case y6z3=>intro o' ho W hS;exact (by simp only [execOp,ho];go_simp;try rfl)
       simp only [Act.put,List.setIfInBounds_toArray,List.set_cons_zero,List.set_cons_succ]
       refine heldTake (d:=some 100) (op:=.move (Operand.tmp 10)) (g:=some (6,false)) 7 ?v7z3 rfl (by kernel_rfl) (by kernel_rfl) (by kernel_rfl) (by kernel_rfl) ?y7z3 HS9 ?_
       case y7z3=>intro o' ho W hS;simp only [execOp,ho];go_simp;try rfl
       simp only [Act.put,List.setIfInBounds_toArray,List.set_cons_zero,List.set_cons_succ]
       refine heldTake (d:=some 102) (op:=.fieldAddr 25 (Operand.tmp 9) 3) (g:=some (6,false)) 9 ?v9z3 rfl (by kernel_rfl) (by kernel_rfl) (by kernel_rfl) (by kernel_rfl) ?y9z3 HS9 ?_
       case y9z3=>intro o' ho W hS;simp only [execOp,ho];go_simp;try rfl
       simp only [Act.put,List.setIfInBounds_toArray,List.set_cons_zero,List.set_cons_succ]
       refine heldTake (d:=some 103) (op:=.load 3 (Operand.tmp 102)) (g:=some (6,false)) 10 ?v10z3 rfl (by kernel_rfl) (by kernel_rfl) (by kernel_rfl) (by kernel_rfl) ?y10z3 HS9 ?_
       case y10z3=>intro o' ho W hS;have d1:=hS.1;simp only [execOp,ho];go_simp;try rfl
       simp only [Act.put,List.setIfInBounds_toArray,List.set_cons_zero,List.set_cons_succ]
       refine heldTake (d:=some 104) (op:=.fieldAddr 25 (Operand.tmp 9) 3) (g:=some (6,false)) 11 ?v11z3 rfl (by kernel_rfl) (by kernel_rfl) (by kernel_rfl) (by kernel_rfl) ?y11z3 HS9 ?_
       case y11z3=>intro o' ho W hS;simp only [execOp,ho];go_simp;try rfl
       simp only [Act.put,List.setIfInBounds_toArray,List.set_cons_zero,List.set_cons_succ]
       refine heldTake (d:=some 105) (op:=.load 3 (Operand.tmp 104)) (g:=some (6,false)) 12 ?v12z3 rfl (by kernel_rfl) (by kernel_rfl) (by kernel_rfl) (by kernel_rfl) ?y12z3 HS9 ?_
       case y12z3=>intro o' ho W hS;have d1:=hS.1;simp only [execOp,ho];go_simp;try rfl
       simp only [Act.put,List.setIfInBounds_toArray,List.set_cons_zero,List.set_cons_succ]
       refine heldTake (d:=some 106) (op:=.call {callee:=Callee.builtin Builtin.max,args:=#[Operand.tmp 105,Operand.const (Value.int IntKind.i64 125)],argTypes:=#[3,3]}) (g:=some (6,false)) 13 (.int .i64 (max i1 125)) rfl (by kernel_rfl) (by kernel_rfl) (by kernel_rfl) (by kernel_rfl) ?y13z3 HS9 ?_
       case y13z3=>intro o' ho W hS;exact (by simp only [execOp,ho];go_simp;try rfl)
       simp only [Act.put,List.setIfInBounds_toArray,List.set_cons_zero,List.set_cons_succ]
       refine heldTake (d:=some 107) (op:=.binOp BinOp.add 3 (Operand.tmp 103) (Operand.tmp 106) 3) (g:=some (6,false)) 14 (.int .i64 (i1+max i1 125)) rfl (by kernel_rfl) (by kernel_rfl) (by kernel_rfl) (by kernel_rfl) ?y14z3 HS9 ?_
       case y14z3=>intro o' ho W hS;exact (by simp only [execOp,ho];go_simp;first | done | exact wr1 | rw [wr1] | (simpa using wr1))
       simp only [Act.put,List.setIfInBounds_toArray,List.set_cons_zero,List.set_cons_succ]
       refine heldTake (d:=some 108) (op:=.binOp BinOp.add 3 (Operand.tmp 107) (Operand.const (Value.int IntKind.i64 14)) 3) (g:=some (6,false)) 15 (.int .i64 (i1+max i1 125+14)) rfl (by kernel_rfl) (by kernel_rfl) (by kernel_rfl) (by kernel_rfl) ?y15z3 HS9 ?_
       case y15z3=>intro o' ho W hS;exact (by simp only [execOp,ho];go_simp;first | done | exact wr2 | rw [wr2] | (simpa using wr2))
       simp only [Act.put,List.setIfInBounds_toArray,List.set_cons_zero,List.set_cons_succ]
       refine heldCall (d:=some 101) (op:=.call {callee:=Callee.value (Operand.func 34),args:=#[Operand.tmp 100],argTypes:=#[30]}) (g:=some (6,false)) 8 34 #[.pointer (some ⟨L,0,none⟩)] rfl (by kernel_rfl) (by kernel_rfl) ?y8z3 ?_
       case y8z3=>intro o' ho;simp only [execOp,ho];go_simp;try rfl
       refine (KT).mono ?_
       rintro e w10 ⟨rfl,HB10⟩
       have HL10:=Sl.mk (HL9.out.below HB10.out)
       have HS10:w10.cell? ⟨cb,3,none⟩=some (.int .i64 i1)∧w10.cell? ⟨cb,7,none⟩=some (.int .i64 i3):=⟨(HB10.out.cell (p:=⟨cb,3,none⟩) (block_lt_of_cell HS9.1)).trans HS9.1,(HB10.out.cell (p:=⟨cb,7,none⟩) (block_lt_of_cell HS9.2)).trans HS9.2⟩
       have HC10:Sl (w10.heap[cb]? = some (.cells #[.slice (some ⟨g,0,none⟩) 1 1,.slice none 0 0,.int .i64 4,.int .i64 i1,.int .i64 i2,.int .i64 3,.int .i64 300,.int .i64 i3,.int .i64 5,.int .i64 9,.int .i64 3,.int .i64 4] 25 (0,0))∧∀ j,S7 j→j≠cb):=⟨below_key HC8.out.1 (HBR.trans ((HB9.out.trans (HB10.out.mono HB9.out.size)).mono HBR.size)),HC8.out.2⟩
       refine ⟨_,rfl,HS10,?_⟩
       simp only [Act.put,List.setIfInBounds_toArray,List.set_cons_zero,List.set_cons_succ]
       refine heldTake (d:=some 109) (op:=.binOp BinOp.gtr 3 (Operand.tmp 101) (Operand.tmp 108) 3) (g:=some (6,false)) 16 (.bool false) rfl (by kernel_rfl) (by kernel_rfl) (by kernel_rfl) (by kernel_rfl) ?y16z3 HS10 ?_
       case y16z3=>intro o' ho W hS;exact (by simp only [execOp,ho];go_simp;first | done | exact hle8 | (simpa using hle8) | omega)
       simp only [Act.put,List.setIfInBounds_toArray,List.set_cons_zero,List.set_cons_succ]
       refine heldTake (d:=some 110) (op:=.pick (Operand.tmp 99) (Operand.const (Value.bool true)) (Operand.tmp 109)) (g:=none) 17 (.bool false) rfl (by kernel_rfl) (by kernel_rfl) (by kernel_rfl) (by kernel_rfl) ?y17z3 HS10 ?_
       case y17z3=>intro o' ho W hS;exact (by simp only [execOp,ho];go_simp;try rfl)
       simp only [Act.put,List.setIfInBounds_toArray,List.set_cons_zero,List.set_cons_succ]
       refine wpAnyH_done (by kernel_rfl) ?_ _
       refine NoPanic.normal ?_
       clear PK KT HL8 HC8 HL9 HS9 HS10 HS0 HBR HB9 HB10 hc3 hc7 hle7 hle8 htl hq hkn hkl hql hi1 hi3 wr1 wr2
       (try go_frame)
       go_wp2
       exact ⟨⟨i+1,m',S7,by go_num,by omega,by omega,HL10,HC10⟩,by simp [intOf];omega⟩
      by_cases h3:kind=3
      ·subst h3
       obtain ⟨m',r',hr⟩:∃ m' r',LegPlain.close (cfL a b o masked) m code (bytes s)=(m',r'):=⟨_,_,rfl⟩
       have T:=close_ex HL5.out code s m' r' hr
       clear hr
       go_wp2_with fail
       refine T.mono ?_
       rintro e w7 ⟨S7,rfl,HL7,HG7⟩
       clear T
       have HL8:=Sl.mk (HL7.out.mono (Nat.le_succ _) (by have:=HI40.out;omega))
       have HC8:=keep_cb HL5.out HC5.out HGE.out (Below.refl _ _) HL7.out HG7.out
       go_upto_region 21 with fail
       clear b0 b1 b2 b3 b4 hs300 HL5 HC5
       have hc3:=Rou.cell_at HC8.out.1 3 _ rfl
       have hc7:=Rou.cell_at HC8.out.1 7 _ rfl
       obtain ⟨tl,htl⟩:∃ t,m'.ring.take (70000:Int).toNat=t:=⟨_,rfl⟩
       obtain ⟨q,hq⟩:∃ q,tl.length=q:=⟨_,rfl⟩
       have hql:q≤1+o:=by
        have h1:m'.ring.length≤1+o:=LegPlain.ring_le HL8.out.good.few.ok
        rw [← hq,← htl,List.length_take];omega
       obtain ⟨kn,hkn⟩:∃ k,m'.buf.length+m'.ms.text.length=k:=⟨_,rfl⟩
       have hkl:kn≤1+a+max (1+a) 125+14:=by
        have h1:=HL8.out.good.inn.kept.buf
        have h2:m'.ms.text.length≤1+a:=HL8.out.good.inn.kept.text
        have h3:bound (cfL a b o masked)=max (1+a) 125:=rfl
        omega
       have hi1:=HI1.out
       have hi3:=HI3.out
       have hle7:¬ (i3<(q:Int)):=by omega
       have hle8:¬ (i1+max i1 125+14<(kn:Int)):=by omega
       have wr1:IntKind.i64.wrap (i1+max i1 125)=i1+max i1 125:=by rw [IntKind.wrap_i64];omega
       have wr2:IntKind.i64.wrap (i1+max i1 125+14)=i1+max i1 125+14:=by rw [IntKind.wrap_i64];omega
       obtain ⟨Rw,hRw⟩:∃ R,w7.drew=R:=⟨_,rfl⟩
       have HBR:Below w7.heap.size w7 Rw:=by rw [← hRw];exact (Below.refl _ _).drew
       refine wp_region_noPanic ?_
       refine wp_region_held (S:=fun V=>V.cell? ⟨cb,3,none⟩=some (.int .i64 i1)∧V.cell? ⟨cb,7,none⟩=some (.int .i64 i3)) (by kernel_rfl) ?_
       change wpAnyH _ _ _ _ _ _ _ _ w7.drew
       rw [hRw]
       clear hRw
       have HS0:Rw.cell? ⟨cb,3,none⟩=some (.int .i64 i1)∧Rw.cell? ⟨cb,7,none⟩=some (.int .i64 i3):=⟨(HBR.cell (p:=⟨cb,3,none⟩) (block_lt_of_cell hc3)).trans hc3,(HBR.cell (p:=⟨cb,7,none⟩) (block_lt_of_cell hc7)).trans hc7⟩
       have PK:=peek_ex (HL8.out.below HBR) 70000 tl htl q hq
       refine heldTake (d:=some 93) (op:=.move (Operand.tmp 10)) (g:=none) 0 ?v0z4 rfl (by kernel_rfl) (by kernel_rfl) (by kernel_rfl) (by kernel_rfl) ?y0z4 HS0 ?_
       case y0z4=>intro o' ho W hS;simp only [execOp,ho];go_simp;try rfl
       simp only [Act.put,List.setIfInBounds_toArray,List.set_cons_zero,List.set_cons_succ]
       refine heldTake (d:=some 96) (op:=.fieldAddr 25 (Operand.tmp 9) 7) (g:=none) 3 ?v3z4 rfl (by kernel_rfl) (by kernel_rfl) (by kernel_rfl) (by kernel_rfl) ?y3z4 HS0 ?_
       case y3z4=>intro o' ho W hS;simp only [execOp,ho];go_simp;try rfl
       simp only [Act.put,List.setIfInBounds_toArray,List.set_cons_zero,List.set_cons_succ]
       refine heldTake (d:=some 97) (op:=.load 3 (Operand.tmp 96)) (g:=none) 4 ?v4z4 rfl (by kernel_rfl) (by kernel_rfl) (by kernel_rfl) (by kernel_rfl) ?y4z4 HS0 ?_
       case y4z4=>intro o' ho W hS;have d1:=hS.2;simp only [execOp,ho];go_simp;try rfl
       simp only [Act.put,List.setIfInBounds_toArray,List.set_cons_zero,List.set_cons_succ]
       refine heldCall (d:=some 94) (op:=.call {callee:=Callee.value (Operand.func 33),args:=#[Operand.tmp 93,Operand.const (Value.int IntKind.i64 70000)],argTypes:=#[30,3]}) (g:=none) 1 33 #[.pointer (some ⟨L,0,none⟩),.int .i64 70000] rfl (by kernel_rfl) (by kernel_rfl) ?y1z4 ?_
       case y1z4=>intro o' ho;simp only [execOp,ho];go_simp;try rfl
       refine (PK).mono ?_
       rintro e w9 ⟨rfl,-,HB9⟩
       have HL9:=Sl.mk ((HL8.out.below HBR).below HB9.out)
       have HS9:w9.cell? ⟨cb,3,none⟩=some (.int .i64 i1)∧w9.cell? ⟨cb,7,none⟩=some (.int .i64 i3):=⟨(HB9.out.cell (p:=⟨cb,3,none⟩) (block_lt_of_cell HS0.1)).trans HS0.1,(HB9.out.cell (p:=⟨cb,7,none⟩) (block_lt_of_cell HS0.2)).trans HS0.2⟩
       have KT:=kept_ex HL9.out kn hkn (by omega)
       refine ⟨_,rfl,HS9,?_⟩
       simp only [Act.put,List.setIfInBounds_toArray,List.set_cons_zero,List.set_cons_succ]
       refine heldTake (d:=some 95) (op:=.call {callee:=Callee.builtin Builtin.len,args:=#[Operand.tmp 94],argTypes:=#[49]}) (g:=none) 2 ?v2z4 rfl (by kernel_rfl) (by kernel_rfl) (by kernel_rfl) (by kernel_rfl) ?y2z4 HS9 ?_
       case y2z4=>intro o' ho W hS;simp only [execOp,ho];go_simp;try rfl
       simp only [Act.put,List.setIfInBounds_toArray,List.set_cons_zero,List.set_cons_succ]
       refine heldTake (d:=some 98) (op:=.binOp BinOp.gtr 3 (Operand.tmp 95) (Operand.tmp 97) 3) (g:=none) 5 (.bool false) rfl (by kernel_rfl) (by kernel_rfl) (by kernel_rfl) (by kernel_rfl) ?y5z4 HS9 ?_
       case y5z4=>intro o' ho W hS;exact (by simp only [execOp,ho];go_simp;first | done | exact hle7 | (simpa using hle7) | omega)
       simp only [Act.put,List.setIfInBounds_toArray,List.set_cons_zero,List.set_cons_succ]
       refine heldTake (d:=some 99) (op:=.move (Operand.tmp 98)) (g:=none) 6 (.bool false) rfl (by kernel_rfl) (by kernel_rfl) (by kernel_rfl) (by kernel_rfl) ?y6z4 HS9 ?_
       case y6z4=>intro o' ho W hS;exact (by simp only [execOp,ho];go_simp;try rfl)
       simp only [Act.put,List.setIfInBounds_toArray,List.set_cons_zero,List.set_cons_succ]
       refine heldTake (d:=some 100) (op:=.move (Operand.tmp 10)) (g:=some (6,false)) 7 ?v7z4 rfl (by kernel_rfl) (by kernel_rfl) (by kernel_rfl) (by kernel_rfl) ?y7z4 HS9 ?_
       case y7z4=>intro o' ho W hS;simp only [execOp,ho];go_simp;try rfl
       simp only [Act.put,List.setIfInBounds_toArray,List.set_cons_zero,List.set_cons_succ]
       refine heldTake (d:=some 102) (op:=.fieldAddr 25 (Operand.tmp 9) 3) (g:=some (6,false)) 9 ?v9z4 rfl (by kernel_rfl) (by kernel_rfl) (by kernel_rfl) (by kernel_rfl) ?y9z4 HS9 ?_
       case y9z4=>intro o' ho W hS;simp only [execOp,ho];go_simp;try rfl
       simp only [Act.put,List.setIfInBounds_toArray,List.set_cons_zero,List.set_cons_succ]
       refine heldTake (d:=some 103) (op:=.load 3 (Operand.tmp 102)) (g:=some (6,false)) 10 ?v10z4 rfl (by kernel_rfl) (by kernel_rfl) (by kernel_rfl) (by kernel_rfl) ?y10z4 HS9 ?_
       case y10z4=>intro o' ho W hS;have d1:=hS.1;simp only [execOp,ho];go_simp;try rfl
       simp only [Act.put,List.setIfInBounds_toArray,List.set_cons_zero,List.set_cons_succ]
       refine heldTake (d:=some 104) (op:=.fieldAddr 25 (Operand.tmp 9) 3) (g:=some (6,false)) 11 ?v11z4 rfl (by kernel_rfl) (by kernel_rfl) (by kernel_rfl) (by kernel_rfl) ?y11z4 HS9 ?_
       case y11z4=>intro o' ho W hS;simp only [execOp,ho];go_simp;try rfl
       simp only [Act.put,List.setIfInBounds_toArray,List.set_cons_zero,List.set_cons_succ]
       refine heldTake (d:=some 105) (op:=.load 3 (Operand.tmp 104)) (g:=some (6,false)) 12 ?v12z4 rfl (by kernel_rfl) (by kernel_rfl) (by kernel_rfl) (by kernel_rfl) ?y12z4 HS9 ?_
       case y12z4=>intro o' ho W hS;have d1:=hS.1;simp only [execOp,ho];go_simp;try rfl
       simp only [Act.put,List.setIfInBounds_toArray,List.set_cons_zero,List.set_cons_succ]
       refine heldTake (d:=some 106) (op:=.call {callee:=Callee.builtin Builtin.max,args:=#[Operand.tmp 105,Operand.const (Value.int IntKind.i64 125)],argTypes:=#[3,3]}) (g:=some (6,false)) 13 (.int .i64 (max i1 125)) rfl (by kernel_rfl) (by kernel_rfl) (by kernel_rfl) (by kernel_rfl) ?y13z4 HS9 ?_
       case y13z4=>intro o' ho W hS;exact (by simp only [execOp,ho];go_simp;try rfl)
       simp only [Act.put,List.setIfInBounds_toArray,List.set_cons_zero,List.set_cons_succ]
       refine heldTake (d:=some 107) (op:=.binOp BinOp.add 3 (Operand.tmp 103) (Operand.tmp 106) 3) (g:=some (6,false)) 14 (.int .i64 (i1+max i1 125)) rfl (by kernel_rfl) (by kernel_rfl) (by kernel_rfl) (by kernel_rfl) ?y14z4 HS9 ?_
       case y14z4=>intro o' ho W hS;exact (by simp only [execOp,ho];go_simp;first | done | exact wr1 | rw [wr1] | (simpa using wr1))
       simp only [Act.put,List.setIfInBounds_toArray,List.set_cons_zero,List.set_cons_succ]
       refine heldTake (d:=some 108) (op:=.binOp BinOp.add 3 (Operand.tmp 107) (Operand.const (Value.int IntKind.i64 14)) 3) (g:=some (6,false)) 15 (.int .i64 (i1+max i1 125+14)) rfl (by kernel_rfl) (by kernel_rfl) (by kernel_rfl) (by kernel_rfl) ?y15z4 HS9 ?_
       case y15z4=>intro o' ho W hS;exact (by simp only [execOp,ho];go_simp;first | done | exact wr2 | rw [wr2] | (simpa using wr2))
       simp only [Act.put,List.setIfInBounds_toArray,List.set_cons_zero,List.set_cons_succ]
       refine heldCall (d:=some 101) (op:=.call {callee:=Callee.value (Operand.func 34),args:=#[Operand.tmp 100],argTypes:=#[30]}) (g:=some (6,false)) 8 34 #[.pointer (some ⟨L,0,none⟩)] rfl (by kernel_rfl) (by kernel_rfl) ?y8z4 ?_
       case y8z4=>intro o' ho;simp only [execOp,ho];go_simp;try rfl
       refine (KT).mono ?_
       rintro e w10 ⟨rfl,HB10⟩
       have HL10:=Sl.mk (HL9.out.below HB10.out)
       have HS10:w10.cell? ⟨cb,3,none⟩=some (.int .i64 i1)∧w10.cell? ⟨cb,7,none⟩=some (.int .i64 i3):=⟨(HB10.out.cell (p:=⟨cb,3,none⟩) (block_lt_of_cell HS9.1)).trans HS9.1,(HB10.out.cell (p:=⟨cb,7,none⟩) (block_lt_of_cell HS9.2)).trans HS9.2⟩
       have HC10:Sl (w10.heap[cb]? = some (.cells #[.slice (some ⟨g,0,none⟩) 1 1,.slice none 0 0,.int .i64 4,.int .i64 i1,.int .i64 i2,.int .i64 3,.int .i64 300,.int .i64 i3,.int .i64 5,.int .i64 9,.int .i64 3,.int .i64 4] 25 (0,0))∧∀ j,S7 j→j≠cb):=⟨below_key HC8.out.1 (HBR.trans ((HB9.out.trans (HB10.out.mono HB9.out.size)).mono HBR.size)),HC8.out.2⟩
       refine ⟨_,rfl,HS10,?_⟩
       simp only [Act.put,List.setIfInBounds_toArray,List.set_cons_zero,List.set_cons_succ]
       refine heldTake (d:=some 109) (op:=.binOp BinOp.gtr 3 (Operand.tmp 101) (Operand.tmp 108) 3) (g:=some (6,false)) 16 (.bool false) rfl (by kernel_rfl) (by kernel_rfl) (by kernel_rfl) (by kernel_rfl) ?y16z4 HS10 ?_
       case y16z4=>intro o' ho W hS;exact (by simp only [execOp,ho];go_simp;first | done | exact hle8 | (simpa using hle8) | omega)
       simp only [Act.put,List.setIfInBounds_toArray,List.set_cons_zero,List.set_cons_succ]
       refine heldTake (d:=some 110) (op:=.pick (Operand.tmp 99) (Operand.const (Value.bool true)) (Operand.tmp 109)) (g:=none) 17 (.bool false) rfl (by kernel_rfl) (by kernel_rfl) (by kernel_rfl) (by kernel_rfl) ?y17z4 HS10 ?_
       case y17z4=>intro o' ho W hS;exact (by simp only [execOp,ho];go_simp;try rfl)
       simp only [Act.put,List.setIfInBounds_toArray,List.set_cons_zero,List.set_cons_succ]
       refine wpAnyH_done (by kernel_rfl) ?_ _
       refine NoPanic.normal ?_
       clear PK KT HL8 HC8 HL9 HS9 HS10 HS0 HBR HB9 HB10 hc3 hc7 hle7 hle8 htl hq hkn hkl hql hi1 hi3 wr1 wr2
       (try go_frame)
       go_wp2
       exact ⟨⟨i+1,m',S7,by go_num,by omega,by omega,HL10,HC10⟩,by simp [intOf];omega⟩
      by_cases h4:kind=4
      ·subst h4
       obtain ⟨tl,htl⟩:∃ t,m.ring.take num.toNat=t:=⟨_,rfl⟩
       obtain ⟨q,hq⟩:∃ q,tl.length=q:=⟨_,rfl⟩
       obtain ⟨m',hm'⟩:∃ x,(takeN (cfL a b o masked) m num).1=x:=⟨_,rfl⟩
       have T:=take_ex HL5.out num tl htl q hq m' hm'
       clear htl hq hm'
       go_wp2_with fail
       refine T.mono ?_
       rintro e w7 ⟨S7,rfl,-,HL7,HG7⟩
       clear T
       have HL8:=Sl.mk (HL7.out.mono (Nat.le_succ _) (by have:=HI40.out;omega))
       have HC8:=keep_cb HL5.out HC5.out HGE.out (Below.refl _ _) HL7.out HG7.out
       go_upto_region 21 with fail
       clear b0 b1 b2 b3 b4 hs300 HL5 HC5
       have hc3:=Rou.cell_at HC8.out.1 3 _ rfl
       have hc7:=Rou.cell_at HC8.out.1 7 _ rfl
       obtain ⟨tl,htl⟩:∃ t,m'.ring.take (70000:Int).toNat=t:=⟨_,rfl⟩
       obtain ⟨q,hq⟩:∃ q,tl.length=q:=⟨_,rfl⟩
       have hql:q≤1+o:=by
        have h1:m'.ring.length≤1+o:=LegPlain.ring_le HL8.out.good.few.ok
        rw [← hq,← htl,List.length_take];omega
       obtain ⟨kn,hkn⟩:∃ k,m'.buf.length+m'.ms.text.length=k:=⟨_,rfl⟩
       have hkl:kn≤1+a+max (1+a) 125+14:=by
        have h1:=HL8.out.good.inn.kept.buf
        have h2:m'.ms.text.length≤1+a:=HL8.out.good.inn.kept.text
        have h3:bound (cfL a b o masked)=max (1+a) 125:=rfl
        omega
       have hi1:=HI1.out
       have hi3:=HI3.out
       have hle7:¬ (i3<(q:Int)):=by omega
       have hle8:¬ (i1+max i1 125+14<(kn:Int)):=by omega
       have wr1:IntKind.i64.wrap (i1+max i1 125)=i1+max i1 125:=by rw [IntKind.wrap_i64];omega
       have wr2:IntKind.i64.wrap (i1+max i1 125+14)=i1+max i1 125+14:=by rw [IntKind.wrap_i64];omega
       obtain ⟨Rw,hRw⟩:∃ R,w7.drew=R:=⟨_,rfl⟩
       have HBR:Below w7.heap.size w7 Rw:=by rw [← hRw];exact (Below.refl _ _).drew
       refine wp_region_noPanic ?_
       refine wp_region_held (S:=fun V=>V.cell? ⟨cb,3,none⟩=some (.int .i64 i1)∧V.cell? ⟨cb,7,none⟩=some (.int .i64 i3)) (by kernel_rfl) ?_
       change wpAnyH _ _ _ _ _ _ _ _ w7.drew
       rw [hRw]
       clear hRw
       have HS0:Rw.cell? ⟨cb,3,none⟩=some (.int .i64 i1)∧Rw.cell? ⟨cb,7,none⟩=some (.int .i64 i3):=⟨(HBR.cell (p:=⟨cb,3,none⟩) (block_lt_of_cell hc3)).trans hc3,(HBR.cell (p:=⟨cb,7,none⟩) (block_lt_of_cell hc7)).trans hc7⟩
       have PK:=peek_ex (HL8.out.below HBR) 70000 tl htl q hq
       refine heldTake (d:=some 93) (op:=.move (Operand.tmp 10)) (g:=none) 0 ?v0z5 rfl (by kernel_rfl) (by kernel_rfl) (by kernel_rfl) (by kernel_rfl) ?y0z5 HS0 ?_
       case y0z5=>intro o' ho W hS;simp only [execOp,ho];go_simp;try rfl
       simp only [Act.put,List.setIfInBounds_toArray,List.set_cons_zero,List.set_cons_succ]
       refine heldTake (d:=some 96) (op:=.fieldAddr 25 (Operand.tmp 9) 7) (g:=none) 3 ?v3z5 rfl (by kernel_rfl) (by kernel_rfl) (by kernel_rfl) (by kernel_rfl) ?y3z5 HS0 ?_
       case y3z5=>intro o' ho W hS;simp only [execOp,ho];go_simp;try rfl
       simp only [Act.put,List.setIfInBounds_toArray,List.set_cons_zero,List.set_cons_succ]
       refine heldTake (d:=some 97) (op:=.load 3 (Operand.tmp 96)) (g:=none) 4 ?v4z5 rfl (by kernel_rfl) (by kernel_rfl) (by kernel_rfl) (by kernel_rfl) ?y4z5 HS0 ?_
       case y4z5=>intro o' ho W hS;have d1:=hS.2;simp only [execOp,ho];go_simp;try rfl
       simp only [Act.put,List.setIfInBounds_toArray,List.set_cons_zero,List.set_cons_succ]
       refine heldCall (d:=some 94) (op:=.call {callee:=Callee.value (Operand.func 33),args:=#[Operand.tmp 93,Operand.const (Value.int IntKind.i64 70000)],argTypes:=#[30,3]}) (g:=none) 1 33 #[.pointer (some ⟨L,0,none⟩),.int .i64 70000] rfl (by kernel_rfl) (by kernel_rfl) ?y1z5 ?_
       case y1z5=>intro o' ho;simp only [execOp,ho];go_simp;try rfl
       refine (PK).mono ?_
       rintro e w9 ⟨rfl,-,HB9⟩
       have HL9:=Sl.mk ((HL8.out.below HBR).below HB9.out)
       have HS9:w9.cell? ⟨cb,3,none⟩=some (.int .i64 i1)∧w9.cell? ⟨cb,7,none⟩=some (.int .i64 i3):=⟨(HB9.out.cell (p:=⟨cb,3,none⟩) (block_lt_of_cell HS0.1)).trans HS0.1,(HB9.out.cell (p:=⟨cb,7,none⟩) (block_lt_of_cell HS0.2)).trans HS0.2⟩
       have KT:=kept_ex HL9.out kn hkn (by omega)
       refine ⟨_,rfl,HS9,?_⟩
       simp only [Act.put,List.setIfInBounds_toArray,List.set_cons_zero,List.set_cons_succ]
       refine heldTake (d:=some 95) (op:=.call {callee:=Callee.builtin Builtin.len,args:=#[Operand.tmp 94],argTypes:=#[49]}) (g:=none) 2 ?v2z5 rfl (by kernel_rfl) (by kernel_rfl) (by kernel_rfl) (by kernel_rfl) ?y2z5 HS9 ?_
       case y2z5=>intro o' ho W hS;simp only [execOp,ho];go_simp;try rfl
       simp only [Act.put,List.setIfInBounds_toArray,List.set_cons_zero,List.set_cons_succ]
       refine heldTake (d:=some 98) (op:=.binOp BinOp.gtr 3 (Operand.tmp 95) (Operand.tmp 97) 3) (g:=none) 5 (.bool false) rfl (by kernel_rfl) (by kernel_rfl) (by kernel_rfl) (by kernel_rfl) ?y5z5 HS9 ?_
       case y5z5=>intro o' ho W hS;exact (by simp only [execOp,ho];go_simp;first | done | exact hle7 | (simpa using hle7) | omega)
       simp only [Act.put,List.setIfInBounds_toArray,List.set_cons_zero,List.set_cons_succ]
       refine heldTake (d:=some 99) (op:=.move (Operand.tmp 98)) (g:=none) 6 (.bool false) rfl (by kernel_rfl) (by kernel_rfl) (by kernel_rfl) (by kernel_rfl) ?y6z5 HS9 ?_
       case y6z5=>intro o' ho W hS;exact (by simp only [execOp,ho];go_simp;try rfl)
       simp only [Act.put,List.setIfInBounds_toArray,List.set_cons_zero,List.set_cons_succ]
       refine heldTake (d:=some 100) (op:=.move (Operand.tmp 10)) (g:=some (6,false)) 7 ?v7z5 rfl (by kernel_rfl) (by kernel_rfl) (by kernel_rfl) (by kernel_rfl) ?y7z5 HS9 ?_
       case y7z5=>intro o' ho W hS;simp only [execOp,ho];go_simp;try rfl
       simp only [Act.put,List.setIfInBounds_toArray,List.set_cons_zero,List.set_cons_succ]
       refine heldTake (d:=some 102) (op:=.fieldAddr 25 (Operand.tmp 9) 3) (g:=some (6,false)) 9 ?v9z5 rfl (by kernel_rfl) (by kernel_rfl) (by kernel_rfl) (by kernel_rfl) ?y9z5 HS9 ?_
       case y9z5=>intro o' ho W hS;simp only [execOp,ho];go_simp;try rfl
       simp only [Act.put,List.setIfInBounds_toArray,List.set_cons_zero,List.set_cons_succ]
       refine heldTake (d:=some 103) (op:=.load 3 (Operand.tmp 102)) (g:=some (6,false)) 10 ?v10z5 rfl (by kernel_rfl) (by kernel_rfl) (by kernel_rfl) (by kernel_rfl) ?y10z5 HS9 ?_
       case y10z5=>intro o' ho W hS;have d1:=hS.1;simp only [execOp,ho];go_simp;try rfl
       simp only [Act.put,List.setIfInBounds_toArray,List.set_cons_zero,List.set_cons_succ]
       refine heldTake (d:=some 104) (op:=.fieldAddr 25 (Operand.tmp 9) 3) (g:=some (6,false)) 11 ?v11z5 rfl (by kernel_rfl) (by kernel_rfl) (by kernel_rfl) (by kernel_rfl) ?y11z5 HS9 ?_
       case y11z5=>intro o' ho W hS;simp only [execOp,ho];go_simp;try rfl
       simp only [Act.put,List.setIfInBounds_toArray,List.set_cons_zero,List.set_cons_succ]
       refine heldTake (d:=some 105) (op:=.load 3 (Operand.tmp 104)) (g:=some (6,false)) 12 ?v12z5 rfl (by kernel_rfl) (by kernel_rfl) (by kernel_rfl) (by kernel_rfl) ?y12z5 HS9 ?_
       case y12z5=>intro o' ho W hS;have d1:=hS.1;simp only [execOp,ho];go_simp;try rfl
       simp only [Act.put,List.setIfInBounds_toArray,List.set_cons_zero,List.set_cons_succ]
       refine heldTake (d:=some 106) (op:=.call {callee:=Callee.builtin Builtin.max,args:=#[Operand.tmp 105,Operand.const (Value.int IntKind.i64 125)],argTypes:=#[3,3]}) (g:=some (6,false)) 13 (.int .i64 (max i1 125)) rfl (by kernel_rfl) (by kernel_rfl) (by kernel_rfl) (by kernel_rfl) ?y13z5 HS9 ?_
       case y13z5=>intro o' ho W hS;exact (by simp only [execOp,ho];go_simp;try rfl)
       simp only [Act.put,List.setIfInBounds_toArray,List.set_cons_zero,List.set_cons_succ]
       refine heldTake (d:=some 107) (op:=.binOp BinOp.add 3 (Operand.tmp 103) (Operand.tmp 106) 3) (g:=some (6,false)) 14 (.int .i64 (i1+max i1 125)) rfl (by kernel_rfl) (by kernel_rfl) (by kernel_rfl) (by kernel_rfl) ?y14z5 HS9 ?_
       case y14z5=>intro o' ho W hS;exact (by simp only [execOp,ho];go_simp;first | done | exact wr1 | rw [wr1] | (simpa using wr1))
       simp only [Act.put,List.setIfInBounds_toArray,List.set_cons_zero,List.set_cons_succ]
       refine heldTake (d:=some 108) (op:=.binOp BinOp.add 3 (Operand.tmp 107) (Operand.const (Value.int IntKind.i64 14)) 3) (g:=some (6,false)) 15 (.int .i64 (i1+max i1 125+14)) rfl (by kernel_rfl) (by kernel_rfl) (by kernel_rfl) (by kernel_rfl) ?y15z5 HS9 ?_
       case y15z5=>intro o' ho W hS;exact (by simp only [execOp,ho];go_simp;first | done | exact wr2 | rw [wr2] | (simpa using wr2))
       simp only [Act.put,List.setIfInBounds_toArray,List.set_cons_zero,List.set_cons_succ]
       refine heldCall (d:=some 101) (op:=.call {callee:=Callee.value (Operand.func 34),args:=#[Operand.tmp 100],argTypes:=#[30]}) (g:=some (6,false)) 8 34 #[.pointer (some ⟨L,0,none⟩)] rfl (by kernel_rfl) (by kernel_rfl) ?y8z5 ?_
       case y8z5=>intro o' ho;simp only [execOp,ho];go_simp;try rfl
       refine (KT).mono ?_
       rintro e w10 ⟨rfl,HB10⟩
       have HL10:=Sl.mk (HL9.out.below HB10.out)
       have HS10:w10.cell? ⟨cb,3,none⟩=some (.int .i64 i1)∧w10.cell? ⟨cb,7,none⟩=some (.int .i64 i3):=⟨(HB10.out.cell (p:=⟨cb,3,none⟩) (block_lt_of_cell HS9.1)).trans HS9.1,(HB10.out.cell (p:=⟨cb,7,none⟩) (block_lt_of_cell HS9.2)).trans HS9.2⟩
       have HC10:Sl (w10.heap[cb]? = some (.cells #[.slice (some ⟨g,0,none⟩) 1 1,.slice none 0 0,.int .i64 4,.int .i64 i1,.int .i64 i2,.int .i64 3,.int .i64 300,.int .i64 i3,.int .i64 5,.int .i64 9,.int .i64 3,.int .i64 4] 25 (0,0))∧∀ j,S7 j→j≠cb):=⟨below_key HC8.out.1 (HBR.trans ((HB9.out.trans (HB10.out.mono HB9.out.size)).mono HBR.size)),HC8.out.2⟩
       refine ⟨_,rfl,HS10,?_⟩
       simp only [Act.put,List.setIfInBounds_toArray,List.set_cons_zero,List.set_cons_succ]
       refine heldTake (d:=some 109) (op:=.binOp BinOp.gtr 3 (Operand.tmp 101) (Operand.tmp 108) 3) (g:=some (6,false)) 16 (.bool false) rfl (by kernel_rfl) (by kernel_rfl) (by kernel_rfl) (by kernel_rfl) ?y16z5 HS10 ?_
       case y16z5=>intro o' ho W hS;exact (by simp only [execOp,ho];go_simp;first | done | exact hle8 | (simpa using hle8) | omega)
       simp only [Act.put,List.setIfInBounds_toArray,List.set_cons_zero,List.set_cons_succ]
       refine heldTake (d:=some 110) (op:=.pick (Operand.tmp 99) (Operand.const (Value.bool true)) (Operand.tmp 109)) (g:=none) 17 (.bool false) rfl (by kernel_rfl) (by kernel_rfl) (by kernel_rfl) (by kernel_rfl) ?y17z5 HS10 ?_
       case y17z5=>intro o' ho W hS;exact (by simp only [execOp,ho];go_simp;try rfl)
       simp only [Act.put,List.setIfInBounds_toArray,List.set_cons_zero,List.set_cons_succ]
       refine wpAnyH_done (by kernel_rfl) ?_ _
       refine NoPanic.normal ?_
       clear PK KT HL8 HC8 HL9 HS9 HS10 HS0 HBR HB9 HB10 hc3 hc7 hle7 hle8 htl hq hkn hkl hql hi1 hi3 wr1 wr2
       (try go_frame)
       go_wp2
       exact ⟨⟨i+1,m',S7,by go_num,by omega,by omega,HL10,HC10⟩,by simp [intOf];omega⟩
      have q0:(kind==0)=false:=by simp [h0]
      have q1:(kind==1)=false:=by simp [h1]
      have q2:(kind==2)=false:=by simp [h2]
      have q3:(kind==3)=false:=by simp [h3]
      have q4:(kind==4)=false:=by simp [h4]
      clear h0 h1 h2 h3 h4
      have HL8:=Sl.mk (HL5.out.mono (Nat.le_succ _) (by have:=HI40.out;omega))
      have HC8:=HC5
      go_upto_region 21 with fail
      clear b0 b1 b2 b3 b4 hs300 HL5 HC5
      have hc3:=Rou.cell_at HC8.out.1 3 _ rfl
      have hc7:=Rou.cell_at HC8.out.1 7 _ rfl
      obtain ⟨tl,htl⟩:∃ t,m.ring.take (70000:Int).toNat=t:=⟨_,rfl⟩
      obtain ⟨q,hq⟩:∃ q,tl.length=q:=⟨_,rfl⟩
      have hql:q≤1+o:=by
       have h1:m.ring.length≤1+o:=LegPlain.ring_le HL8.out.good.few.ok
       rw [← hq,← htl,List.length_take];omega
      obtain ⟨kn,hkn⟩:∃ k,m.buf.length+m.ms.text.length=k:=⟨_,rfl⟩
      have hkl:kn≤1+a+max (1+a) 125+14:=by
       have h1:=HL8.out.good.inn.kept.buf
       have h2:m.ms.text.length≤1+a:=HL8.out.good.inn.kept.text
       have h3:bound (cfL a b o masked)=max (1+a) 125:=rfl
       omega
      have hi1:=HI1.out
      have hi3:=HI3.out
      have hle7:¬ (i3<(q:Int)):=by omega
      have hle8:¬ (i1+max i1 125+14<(kn:Int)):=by omega
      have wr1:IntKind.i64.wrap (i1+max i1 125)=i1+max i1 125:=by rw [IntKind.wrap_i64];omega
      have wr2:IntKind.i64.wrap (i1+max i1 125+14)=i1+max i1 125+14:=by rw [IntKind.wrap_i64];omega
      obtain ⟨Rw,hRw⟩:∃ R,w5.drew=R:=⟨_,rfl⟩
      have HBR:Below w5.heap.size w5 Rw:=by rw [← hRw];exact (Below.refl _ _).drew
      refine wp_region_noPanic ?_
      refine wp_region_held (S:=fun V=>V.cell? ⟨cb,3,none⟩=some (.int .i64 i1)∧V.cell? ⟨cb,7,none⟩=some (.int .i64 i3)) (by kernel_rfl) ?_
      change wpAnyH _ _ _ _ _ _ _ _ w5.drew
      rw [hRw]
      clear hRw
      have HS0:Rw.cell? ⟨cb,3,none⟩=some (.int .i64 i1)∧Rw.cell? ⟨cb,7,none⟩=some (.int .i64 i3):=⟨(HBR.cell (p:=⟨cb,3,none⟩) (block_lt_of_cell hc3)).trans hc3,(HBR.cell (p:=⟨cb,7,none⟩) (block_lt_of_cell hc7)).trans hc7⟩
      have PK:=peek_ex (HL8.out.below HBR) 70000 tl htl q hq
      refine heldTake (d:=some 93) (op:=.move (Operand.tmp 10)) (g:=none) 0 ?v0z6 rfl (by kernel_rfl) (by kernel_rfl) (by kernel_rfl) (by kernel_rfl) ?y0z6 HS0 ?_
      case y0z6=>intro o' ho W hS;simp only [execOp,ho];go_simp;try rfl
      simp only [Act.put,List.setIfInBounds_toArray,List.set_cons_zero,List.set_cons_succ]
      refine heldTake (d:=some 96) (op:=.fieldAddr 25 (Operand.tmp 9) 7) (g:=none) 3 ?v3z6 rfl (by kernel_rfl) (by kernel_rfl) (by kernel_rfl) (by kernel_rfl) ?y3z6 HS0 ?_
      case y3z6=>intro o' ho W hS;simp only [execOp,ho];go_simp;try rfl
      simp only [Act.put,List.setIfInBounds_toArray,List.set_cons_zero,List.set_cons_succ]
      refine heldTake (d:=some 97) (op:=.load 3 (Operand.tmp 96)) (g:=none) 4 ?v4z6 rfl (by kernel_rfl) (by kernel_rfl) (by kernel_rfl) (by kernel_rfl) ?y4z6 HS0 ?_
      case y4z6=>intro o' ho W hS;have d1:=hS.2;simp only [execOp,ho];go_simp;try rfl
      simp only [Act.put,List.setIfInBounds_toArray,List.set_cons_zero,List.set_cons_succ]
      refine heldCall (d:=some 94) (op:=.call {callee:=Callee.value (Operand.func 33),args:=#[Operand.tmp 93,Operand.const (Value.int IntKind.i64 70000)],argTypes:=#[30,3]}) (g:=none) 1 33 #[.pointer (some ⟨L,0,none⟩),.int .i64 70000] rfl (by kernel_rfl) (by kernel_rfl) ?y1z6 ?_
      case y1z6=>intro o' ho;simp only [execOp,ho];go_simp;try rfl
      refine (PK).mono ?_
      rintro e w9 ⟨rfl,-,HB9⟩
      have HL9:=Sl.mk ((HL8.out.below HBR).below HB9.out)
      have HS9:w9.cell? ⟨cb,3,none⟩=some (.int .i64 i1)∧w9.cell? ⟨cb,7,none⟩=some (.int .i64 i3):=⟨(HB9.out.cell (p:=⟨cb,3,none⟩) (block_lt_of_cell HS0.1)).trans HS0.1,(HB9.out.cell (p:=⟨cb,7,none⟩) (block_lt_of_cell HS0.2)).trans HS0.2⟩
      have KT:=kept_ex HL9.out kn hkn (by omega)
      refine ⟨_,rfl,HS9,?_⟩
      simp only [Act.put,List.setIfInBounds_toArray,List.set_cons_zero,List.set_cons_succ]
      refine heldTake (d:=some 95) (op:=.call {callee:=Callee.builtin Builtin.len,args:=#[Operand.tmp 94],argTypes:=#[49]}) (g:=none) 2 ?v2z6 rfl (by kernel_rfl) (by kernel_rfl) (by kernel_rfl) (by kernel_rfl) ?y2z6 HS9 ?_
      case y2z6=>intro o' ho W hS;simp only [execOp,ho];go_simp;try rfl
      simp only [Act.put,List.setIfInBounds_toArray,List.set_cons_zero,List.set_cons_succ]
      refine heldTake (d:=some 98) (op:=.binOp BinOp.gtr 3 (Operand.tmp 95) (Operand.tmp 97) 3) (g:=none) 5 (.bool false) rfl (by kernel_rfl) (by kernel_rfl) (by kernel_rfl) (by kernel_rfl) ?y5z6 HS9 ?_
      case y5z6=>intro o' ho W hS;exact (by simp only [execOp,ho];go_simp;first | done | exact hle7 | (simpa using hle7) | omega)
      simp only [Act.put,List.setIfInBounds_toArray,List.set_cons_zero,List.set_cons_succ]
      refine heldTake (d:=some 99) (op:=.move (Operand.tmp 98)) (g:=none) 6 (.bool false) rfl (by kernel_rfl) (by kernel_rfl) (by kernel_rfl) (by kernel_rfl) ?y6z6 HS9 ?_
      case y6z6=>intro o' ho W hS;exact (by simp only [execOp,ho];go_simp;try rfl)
      simp only [Act.put,List.setIfInBounds_toArray,List.set_cons_zero,List.set_cons_succ]
      refine heldTake (d:=some 100) (op:=.move (Operand.tmp 10)) (g:=some (6,false)) 7 ?v7z6 rfl (by kernel_rfl) (by kernel_rfl) (by kernel_rfl) (by kernel_rfl) ?y7z6 HS9 ?_
      case y7z6=>intro o' ho W hS;simp only [execOp,ho];go_simp;try rfl
      simp only [Act.put,List.setIfInBounds_toArray,List.set_cons_zero,List.set_cons_succ]
      refine heldTake (d:=some 102) (op:=.fieldAddr 25 (Operand.tmp 9) 3) (g:=some (6,false)) 9 ?v9z6 rfl (by kernel_rfl) (by kernel_rfl) (by kernel_rfl) (by kernel_rfl) ?y9z6 HS9 ?_
      case y9z6=>intro o' ho W hS;simp only [execOp,ho];go_simp;try rfl
      simp only [Act.put,List.setIfInBounds_toArray,List.set_cons_zero,List.set_cons_succ]
      refine heldTake (d:=some 103) (op:=.load 3 (Operand.tmp 102)) (g:=some (6,false)) 10 ?v10z6 rfl (by kernel_rfl) (by kernel_rfl) (by kernel_rfl) (by kernel_rfl) ?y10z6 HS9 ?_
      case y10z6=>intro o' ho W hS;have d1:=hS.1;simp only [execOp,ho];go_simp;try rfl
      simp only [Act.put,List.setIfInBounds_toArray,List.set_cons_zero,List.set_cons_succ]
      refine heldTake (d:=some 104) (op:=.fieldAddr 25 (Operand.tmp 9) 3) (g:=some (6,false)) 11 ?v11z6 rfl (by kernel_rfl) (by kernel_rfl) (by kernel_rfl) (by kernel_rfl) ?y11z6 HS9 ?_
      case y11z6=>intro o' ho W hS;simp only [execOp,ho];go_simp;try rfl
      simp only [Act.put,List.setIfInBounds_toArray,List.set_cons_zero,List.set_cons_succ]
      refine heldTake (d:=some 105) (op:=.load 3 (Operand.tmp 104)) (g:=some (6,false)) 12 ?v12z6 rfl (by kernel_rfl) (by kernel_rfl) (by kernel_rfl) (by kernel_rfl) ?y12z6 HS9 ?_
      case y12z6=>intro o' ho W hS;have d1:=hS.1;simp only [execOp,ho];go_simp;try rfl
      simp only [Act.put,List.setIfInBounds_toArray,List.set_cons_zero,List.set_cons_succ]
      refine heldTake (d:=some 106) (op:=.call {callee:=Callee.builtin Builtin.max,args:=#[Operand.tmp 105,Operand.const (Value.int IntKind.i64 125)],argTypes:=#[3,3]}) (g:=some (6,false)) 13 (.int .i64 (max i1 125)) rfl (by kernel_rfl) (by kernel_rfl) (by kernel_rfl) (by kernel_rfl) ?y13z6 HS9 ?_
      case y13z6=>intro o' ho W hS;exact (by simp only [execOp,ho];go_simp;try rfl)
      simp only [Act.put,List.setIfInBounds_toArray,List.set_cons_zero,List.set_cons_succ]
      refine heldTake (d:=some 107) (op:=.binOp BinOp.add 3 (Operand.tmp 103) (Operand.tmp 106) 3) (g:=some (6,false)) 14 (.int .i64 (i1+max i1 125)) rfl (by kernel_rfl) (by kernel_rfl) (by kernel_rfl) (by kernel_rfl) ?y14z6 HS9 ?_
      case y14z6=>intro o' ho W hS;exact (by simp only [execOp,ho];go_simp;first | done | exact wr1 | rw [wr1] | (simpa using wr1))
      simp only [Act.put,List.setIfInBounds_toArray,List.set_cons_zero,List.set_cons_succ]
      refine heldTake (d:=some 108) (op:=.binOp BinOp.add 3 (Operand.tmp 107) (Operand.const (Value.int IntKind.i64 14)) 3) (g:=some (6,false)) 15 (.int .i64 (i1+max i1 125+14)) rfl (by kernel_rfl) (by kernel_rfl) (by kernel_rfl) (by kernel_rfl) ?y15z6 HS9 ?_
      case y15z6=>intro o' ho W hS;exact (by simp only [execOp,ho];go_simp;first | done | exact wr2 | rw [wr2] | (simpa using wr2))
      simp only [Act.put,List.setIfInBounds_toArray,List.set_cons_zero,List.set_cons_succ]
      refine heldCall (d:=some 101) (op:=.call {callee:=Callee.value (Operand.func 34),args:=#[Operand.tmp 100],argTypes:=#[30]}) (g:=some (6,false)) 8 34 #[.pointer (some ⟨L,0,none⟩)] rfl (by kernel_rfl) (by kernel_rfl) ?y8z6 ?_
      case y8z6=>intro o' ho;simp only [execOp,ho];go_simp;try rfl
      refine (KT).mono ?_
      rintro e w10 ⟨rfl,HB10⟩
      have HL10:=Sl.mk (HL9.out.below HB10.out)
      have HS10:w10.cell? ⟨cb,3,none⟩=some (.int .i64 i1)∧w10.cell? ⟨cb,7,none⟩=some (.int .i64 i3):=⟨(HB10.out.cell (p:=⟨cb,3,none⟩) (block_lt_of_cell HS9.1)).trans HS9.1,(HB10.out.cell (p:=⟨cb,7,none⟩) (block_lt_of_cell HS9.2)).trans HS9.2⟩
      have HC10:Sl (w10.heap[cb]? = some (.cells #[.slice (some ⟨g,0,none⟩) 1 1,.slice none 0 0,.int .i64 4,.int .i64 i1,.int .i64 i2,.int .i64 3,.int .i64 300,.int .i64 i3,.int .i64 5,.int .i64 9,.int .i64 3,.int .i64 4] 25 (0,0))∧∀ j,S1 j→j≠cb):=⟨below_key HC8.out.1 (HBR.trans ((HB9.out.trans (HB10.out.mono HB9.out.size)).mono HBR.size)),HC8.out.2⟩
      refine ⟨_,rfl,HS10,?_⟩
      simp only [Act.put,List.setIfInBounds_toArray,List.set_cons_zero,List.set_cons_succ]
      refine heldTake (d:=some 109) (op:=.binOp BinOp.gtr 3 (Operand.tmp 101) (Operand.tmp 108) 3) (g:=some (6,false)) 16 (.bool false) rfl (by kernel_rfl) (by kernel_rfl) (by kernel_rfl) (by kernel_rfl) ?y16z6 HS10 ?_
      case y16z6=>intro o' ho W hS;exact (by simp only [execOp,ho];go_simp;first | done | exact hle8 | (simpa using hle8) | omega)
      simp only [Act.put,List.setIfInBounds_toArray,List.set_cons_zero,List.set_cons_succ]
      refine heldTake (d:=some 110) (op:=.pick (Operand.tmp 99) (Operand.const (Value.bool true)) (Operand.tmp 109)) (g:=none) 17 (.bool false) rfl (by kernel_rfl) (by kernel_rfl) (by kernel_rfl) (by kernel_rfl) ?y17z6 HS10 ?_
      case y17z6=>intro o' ho W hS;exact (by simp only [execOp,ho];go_simp;try rfl)
      simp only [Act.put,List.setIfInBounds_toArray,List.set_cons_zero,List.set_cons_succ]
      refine wpAnyH_done (by kernel_rfl) ?_ _
      refine NoPanic.normal ?_
      clear PK KT HL8 HC8 HL9 HS9 HS10 HS0 HBR HB9 HB10 hc3 hc7 hle7 hle8 htl hq hkn hkl hql hi1 hi3 wr1 wr2
      (try go_frame)
      go_wp2
      exact ⟨⟨i+1,m,S1,by go_num,by omega,by omega,HL10,HC10⟩,by simp [intOf];omega⟩
   ·have hlt2:((i:Int)<40)=False:=eq_false (by omega)
    have hlt2b:decide ((i:Int)<40)=false:=decide_eq_false (by omega)
    go_wp2
    go_ret
    exact ⟨rfl,HL.out.low⟩
  ·have hlt:((i:Int)<(n:Int))=False:=eq_false (by omega)
   have hltb:decide ((i:Int)<(n:Int))=false:=decide_eq_false (by omega)
   go_wp2
   go_ret
   exact ⟨rfl,HL.out.low⟩
end Go.Proofs.YtlahonjmfecikaaGreatDoor.Leg
