/- leg: LegBoth's walk. -/
import Derived.Test.YtlahonjmfecikaaGreatDoorK0Z
import Derived.Test.YtlahonjmfecikaaGreatDoorZm
set_option maxRecDepth 100000
set_option linter.unusedVariables false
set_option linter.unusedSimpArgs false
namespace Go.Proofs.YtlahonjmfecikaaGreatDoor.Leg
open Go.RowKit Stm
open FramePlain (Fr Fr0)
open LegPlain (Cf Lg)
open Msg (Kept MacS Mine)
open LegPlain (Inv Few CfOk Good came evs errs react bound feed fail L0 takeN pend wts Bo Bst Fine flt)
open MsgPlain (Ev Ms M0 run)
open Evt
theorem take_pend2 {c:Cf} (hf:c.frm≤65536) {l:Lg} (h:LegPlain.Low c l) (n:Int):pend (takeN c l n).1+(l.ring.take n.toNat).length≤pend l:=by
 obtain ⟨h1,_,_⟩:=LegPlain.move_low hf (l:={l with gone:=l.gone++l.ring.take n.toNat,ring:=l.ring.drop n.toNat}) h.ctl h.rest h.tail
 have hp:pend {l with gone:=l.gone++l.ring.take n.toNat,ring:=l.ring.drop n.toNat}=l.ring.length-n.toNat+l.tail.length+wts l.ctl+wts l.rest:=by
  show (l.ring.drop n.toNat).length+_+_+_=_
  rw [List.length_drop]
 have hq:pend l=l.ring.length+l.tail.length+wts l.ctl+wts l.rest:=rfl
 have hr:(l.ring.take n.toNat).length=min n.toNat l.ring.length:=List.length_take ..
 show pend (LegPlain.move c _)+_≤_
 omega
theorem gone_small {c:Cf} (hf:c.frm≤65536) {l:Lg} (h:LegPlain.Ok c l):∀ y∈l.gone++l.ring,y<256:=fun y hy=>by
 have h1:=(LegPlain.all_out hf l.hist h.inv.hist).2
 rw [← h.inv.bytes] at h1
 exact h1 y (List.mem_append_left _ hy)
theorem told_len {c:Cf} {l:Lg} {G:List Nat} {E:List Ev} (h:Bst c l G E) (hG:∀ y∈G,y<256):E.length≤G.length:=by
 rw [h.evs]
 have h1:=run_len (c.msg:Int) (StreamPlain.all G c.masked (bound c:Int)).1 M0
 have h2:=(StreamPlain.all_frs c.masked (bound c:Int) _ G (Nat.le_refl _) hG).2.2
 omega
structure RB (w wr:World) (La Lb cb:Nat) (X:Obj) (Sa Sb:Nat→Prop) (ca cc:Cf) (la lb:Lg) (u:Value) (es:List Ev) (v:Value) (ws:List Ev):Prop where
 A:LegH w wr La Sa ca la 0
 T:LegH w wr Lb Sb cc lb 0
 ab:∀ j,Sa j→¬ Sb j
 C:wr.heap[cb]? = some X
 ca:∀ j,Sa j→j≠cb
 cc:∀ j,Sb j→j≠cb
 cge:w.heap.size≤cb
 O:OwnE wr w.heap.size u es
 V:OwnE wr w.heap.size v ws
 ou:∀ j,u.ownBlock=some j→¬ Sa j∧¬ Sb j∧j≠cb
 vv:∀ j,v.ownBlock=some j→¬ Sa j∧¬ Sb j∧j≠cb
 uv:∀ j,u.ownBlock=some j→v.ownBlock≠some j
section
variable {w wr w':World} {La Lb cb:Nat} {X:Obj} {Sa Sb Sa' Sb':Nat→Prop} {ca cc:Cf} {la la' lb lb':Lg} {u u' v v':Value} {es es' ws ws':List Ev}
theorem RB.lt (h:RB w wr La Lb cb X Sa Sb ca cc la lb u es v ws):cb<wr.heap.size:=(Array.getElem?_eq_some_iff.1 h.C).1
theorem RB.below (h:RB w wr La Lb cb X Sa Sb ca cc la lb u es v ws) (k:Below wr.heap.size wr w'):RB w w' La Lb cb X Sa Sb ca cc la lb u es v ws :=
 ⟨h.A.below k,h.T.below k,h.ab,below_key h.C k,h.ca,h.cc,h.cge,h.O.below k,h.V.below k,h.ou,h.vv,h.uv⟩
theorem RB.stepA (h:RB w wr La Lb cb X Sa Sb ca cc la lb u es v ws) (hA:LegH w w' La Sa' ca la' 0) (g:FGoes wr w' Sa Sa'):RB w w' La Lb cb X Sa' Sb ca cc la' lb u es v ws where
 A:=hA
 T:=h.T.stay g.kept (fun j e e2=>h.ab j e2 e) hA.low
 ab:=g.apart h.ab (fun j e=>(h.T.own e).2)
 C:=by rw [g.kept.block cb h.lt (fun e=>h.ca cb e rfl)];exact h.C
 ca:=fun j e e2=>g.apart (T:=fun j=>j=cb) (fun j e3 e4=>h.ca j e3 e4) (fun j e=>e ▸ h.lt) j e e2
 cc:=h.cc
 cge:=h.cge
 O:=Cut.own_kept h.O g.kept (fun j e=>(h.ou j e).1)
 V:=Cut.own_kept h.V g.kept (fun j e=>(h.vv j e).1)
 ou:=fun j e=>⟨fun e2=>g.apart (T:=fun j=>u.ownBlock=some j) (fun j e3 e4=>(h.ou j e4).1 e3) (fun j e=>evs_lt h.O e) j e2 e,(h.ou j e).2⟩
 vv:=fun j e=>⟨fun e2=>g.apart (T:=fun j=>v.ownBlock=some j) (fun j e3 e4=>(h.vv j e4).1 e3) (fun j e=>evs_lt h.V e) j e2 e,(h.vv j e).2⟩
 uv:=h.uv
theorem RB.stepB (h:RB w wr La Lb cb X Sa Sb ca cc la lb u es v ws) (hT:LegH w w' Lb Sb' cc lb' 0) (g:FGoes wr w' Sb Sb'):RB w w' La Lb cb X Sa Sb' ca cc la lb' u es v ws where
 A:=h.A.stay g.kept (fun j e e2=>h.ab j e e2) hT.low
 T:=hT
 ab:=fun j e e2=>g.apart (T:=Sa) (fun j e3 e4=>h.ab j e4 e3) (fun j e=>(h.A.own e).2) j e2 e
 C:=by rw [g.kept.block cb h.lt (fun e=>h.cc cb e rfl)];exact h.C
 ca:=h.ca
 cc:=fun j e e2=>g.apart (T:=fun j=>j=cb) (fun j e3 e4=>h.cc j e3 e4) (fun j e=>e ▸ h.lt) j e e2
 cge:=h.cge
 O:=Cut.own_kept h.O g.kept (fun j e=>(h.ou j e).2.1)
 V:=Cut.own_kept h.V g.kept (fun j e=>(h.vv j e).2.1)
 ou:=fun j e=>⟨(h.ou j e).1,fun e2=>g.apart (T:=fun j=>u.ownBlock=some j) (fun j e3 e4=>(h.ou j e4).2.1 e3) (fun j e=>evs_lt h.O e) j e2 e,(h.ou j e).2.2⟩
 vv:=fun j e=>⟨(h.vv j e).1,fun e2=>g.apart (T:=fun j=>v.ownBlock=some j) (fun j e3 e4=>(h.vv j e4).2.1 e3) (fun j e=>evs_lt h.V e) j e2 e,(h.vv j e).2.2⟩
 uv:=h.uv
theorem RB.toldU (h:RB w wr La Lb cb X Sa Sb ca cc la lb u es v ws) (hO:OwnE w' w.heap.size u' es') (g:wr.grownBy w' u.ownBlock) (hu:u'.ownBlock=u.ownBlock∨u'.ownBlock=some wr.heap.size):RB w w' La Lb cb X Sa Sb ca cc la lb u' es' v ws:=by
 have hk:Kept (fun j=>u.ownBlock=some j) wr w':=Kept.grown g (fun j e=>e)
 have hL:Below w.heap.size w w':=hk.up h.A.low (fun j e=>(h.O.heap e).1) h.A.low.size
 refine ⟨h.A.stay hk (fun j e e2=>(h.ou j e2).1 e) hL,h.T.stay hk (fun j e e2=>(h.ou j e2).2.1 e) hL,h.ab,by rw [hk.block cb h.lt (fun e=>(h.ou cb e).2.2 rfl)];exact h.C,h.ca,h.cc,h.cge,hO,Cut.own_kept h.V hk (fun j e e2=>h.uv j e2 e),fun j e=>?_,h.vv,fun j e=>?_⟩
 ·rcases hu with h1 | h1
  ·exact h.ou j (h1 ▸ e)
  ·rw [h1] at e;injection e with e;subst e
   exact ⟨fun e2=>Nat.lt_irrefl _ (h.A.own e2).2,fun e2=>Nat.lt_irrefl _ (h.T.own e2).2,fun e2=>by have:=h.lt;omega⟩
 ·rcases hu with h1 | h1
  ·exact h.uv j (h1 ▸ e)
  ·rw [h1] at e;injection e with e;subst e
   exact fun e2=>Nat.lt_irrefl _ (evs_lt h.V e2)
theorem RB.toldV (h:RB w wr La Lb cb X Sa Sb ca cc la lb u es v ws) (hO:OwnE w' w.heap.size v' ws') (g:wr.grownBy w' v.ownBlock) (hu:v'.ownBlock=v.ownBlock∨v'.ownBlock=some wr.heap.size):RB w w' La Lb cb X Sa Sb ca cc la lb u es v' ws':=by
 have hk:Kept (fun j=>v.ownBlock=some j) wr w':=Kept.grown g (fun j e=>e)
 have hL:Below w.heap.size w w':=hk.up h.A.low (fun j e=>(h.V.heap e).1) h.A.low.size
 refine ⟨h.A.stay hk (fun j e e2=>(h.vv j e2).1 e) hL,h.T.stay hk (fun j e e2=>(h.vv j e2).2.1 e) hL,h.ab,by rw [hk.block cb h.lt (fun e=>(h.vv cb e).2.2 rfl)];exact h.C,h.ca,h.cc,h.cge,Cut.own_kept h.O hk (fun j e e2=>h.uv j e e2),hO,h.ou,fun j e=>?_,fun j e e2=>?_⟩
 ·rcases hu with h1 | h1
  ·exact h.vv j (h1 ▸ e)
  ·rw [h1] at e;injection e with e;subst e
   exact ⟨fun e2=>Nat.lt_irrefl _ (h.A.own e2).2,fun e2=>Nat.lt_irrefl _ (h.T.own e2).2,fun e2=>by have:=h.lt;omega⟩
 ·rcases hu with h1 | h1
  ·exact h.uv j e (h1 ▸ e2)
  ·rw [h1] at e2;injection e2 with e2;subst e2
   exact Nat.lt_irrefl _ (evs_lt h.O e)
end
set_option maxHeartbeats 16000000 in
theorem both_walk (a b o:Nat) (ve:Value) (xs:List Ev) (d nb:Nat) (code:Int) (w:World) (hg:G3 w) (ha:a<256) (hb:b<256) (ho:o<256) (hve:EvsAt w ve xs) (hok:∀ e∈xs,EvOk e) (hlm:xs.length≤maxLen) (hd:d<4294967296) (hn:nb<256):Calls Tryz.prog 8 #[.agg #[.int .u8 (a:Int),.int .u8 (b:Int),.int .u8 (o:Int)],ve,.int .u32 (d:Int),.int .u8 (nb:Int),.int .i64 code] w fun e w'=>e=.returned (.bool true)∧Below w.heap.size w w':=by
 obtain ⟨i1,h1⟩:∃ i:Int,((1+a:Nat):Int)=i:=⟨_,rfl⟩
 obtain ⟨i2,h2⟩:∃ i:Int,((1+b:Nat):Int)=i:=⟨_,rfl⟩
 obtain ⟨i3,h3⟩:∃ i:Int,((1+o:Nat):Int)=i:=⟨_,rfl⟩
 obtain ⟨x1,e1⟩:∃ i:Int,(a:Int)=i:=⟨_,rfl⟩
 obtain ⟨x2,e2⟩:∃ i:Int,(b:Int)=i:=⟨_,rfl⟩
 obtain ⟨x3,e3⟩:∃ i:Int,(o:Int)=i:=⟨_,rfl⟩
 rw [e1,e2,e3]
 have CF:Sl (∀ V,Calls Tryz.prog 19 #[.int .u8 x1,.int .u8 x2,.int .u8 x3] V fun e w'=>∃ g,e=.returned (.agg #[.slice (some ⟨g,0,none⟩) 1 1,.slice none 0 0,.int .i64 4,.int .i64 i1,.int .i64 i2,.int .i64 3,.int .i64 300,.int .i64 i3,.int .i64 5,.int .i64 9,.int .i64 3,.int .i64 4])∧Sl (w'.heap[g]? = some (.cells #[.string {data:=#[47]},.string {data:=#[]},.string {data:=#[120]}] 72 (0,0))∧V.heap.size≤g)∧Sl (Below V.heap.size V w')):=⟨fun V=>cfg_L ha hb ho h1 h2 h3 e1 e2 e3 V⟩
 have NW:Sl (∀ V g,Below w.heap.size w V→Rou.RtsAt V (.slice (some ⟨g,0,none⟩) 1 1) [rb1]→Calls Tryz.prog 13 #[.agg #[.slice (some ⟨g,0,none⟩) 1 1,.slice none 0 0,.int .i64 4,.int .i64 i1,.int .i64 i2,.int .i64 3,.int .i64 300,.int .i64 i3,.int .i64 5,.int .i64 9,.int .i64 3,.int .i64 4],.bool false,.int .u32 (d:Int)] V fun e w'=>∃ L S,e=.returned (.tuple #[.pointer (some ⟨L,0,none⟩),.int .i64 0])∧Sl (LegH w w' L S (cfL a b o false) (L0 d) 0)∧Sl (Below V.heap.size V w')∧Sl (∀ j,S j→V.heap.size≤j)):=⟨fun V g hV hv=>new_L ha hb ho h1 h2 h3 false d (by omega) rfl hg hV hv⟩
 have NX:Sl (∀ V g,Below w.heap.size w V→Rou.RtsAt V (.slice (some ⟨g,0,none⟩) 1 1) [rb1]→Calls Tryz.prog 13 #[.agg #[.slice (some ⟨g,0,none⟩) 1 1,.slice none 0 0,.int .i64 4,.int .i64 i1,.int .i64 i2,.int .i64 3,.int .i64 300,.int .i64 i3,.int .i64 5,.int .i64 9,.int .i64 3,.int .i64 4],.bool true,.int .u32 0] V fun e w'=>∃ L S,e=.returned (.tuple #[.pointer (some ⟨L,0,none⟩),.int .i64 0])∧Sl (LegH w w' L S (cfL a b o true) (L0 0) 0)∧Sl (Below V.heap.size V w')∧Sl (∀ j,S j→V.heap.size≤j)):=⟨fun V g hV hv=>new_L ha hb ho h1 h2 h3 true 0 (by omega) rfl hg hV hv⟩
 have HI1:Sl (((1+a:Nat):Int)=i1):=⟨h1⟩
 have HG:=Sl.mk hg
 obtain ⟨ad,cap,sb,so,rfl,_,had,hcell⟩:=hve
 obtain ⟨n0,hn0⟩:∃ n,xs.length=n:=⟨_,rfl⟩
 have HN:=Sl.mk hn0
 rw [hn0] at had hlm ⊢
 obtain ⟨M,hM⟩:∃ M,(100000:Nat)=M:=⟨_,rfl⟩
 have HM:=Sl.mk hM
 clear hg h1 h2 h3 e1 e2 e3 hn0 hM
 by_cases hn10:10<n0
 ·have hq1:((n0:Int)>10)=True:=eq_true (by omega)
  go_enter Tryz.func8,Tryz.ntmps8
  go_upto_region 1 with fail
  obtain ⟨w0,hw0⟩:∃ V,w.alloc (.cells #[.int .u8 x1,.int .u8 x2,.int .u8 x3] 45)=V:=⟨_,rfl⟩
  have HB0:Sl (Below w.heap.size w w0):=⟨by rw [← hw0];exact (Below.refl _ _).alloc (Nat.le_refl _) _⟩
  have HZ0:w0.heap[w.heap.size]? = some (.cells #[.int .u8 x1,.int .u8 x2,.int .u8 x3] 45 (0,0)):=by rw [← hw0];exact alloc_new _ _ _ rfl
  (try rw [hw0])
  have z0:=Rou.cell_at HZ0 0 _ rfl
  have z1:=Rou.cell_at HZ0 1 _ rfl
  have z2:=Rou.cell_at HZ0 2 _ rfl
  clear hw0 HZ0
  have CF0:=CF.out w0
  go_wp2_with fail
  refine CF0.mono ?_
  rintro e w1 ⟨g,rfl,HV,HB1⟩
  clear CF0 z0 z1 z2
  obtain ⟨X1,hX1⟩:∃ V,w1.alloc (.cells #[.slice (some ⟨g,0,none⟩) 1 1,.slice none 0 0,.int .i64 4,.int .i64 i1,.int .i64 i2,.int .i64 3,.int .i64 300,.int .i64 i3,.int .i64 5,.int .i64 9,.int .i64 3,.int .i64 4] 25)=V:=⟨_,rfl⟩
  have hXB:Below w1.heap.size w1 X1:=by rw [← hX1];exact (Below.refl _ _).alloc (Nat.le_refl _) _
  have hXC:X1.heap[w1.heap.size]? = some (.cells #[.slice (some ⟨g,0,none⟩) 1 1,.slice none 0 0,.int .i64 4,.int .i64 i1,.int .i64 i2,.int .i64 3,.int .i64 300,.int .i64 i3,.int .i64 5,.int .i64 9,.int .i64 3,.int .i64 4] 25 (0,0)):=by rw [← hX1];exact alloc_new _ _ _ rfl
  obtain ⟨cb,hcb⟩:∃ b,w1.heap.size=b:=⟨_,rfl⟩
  have HRT:Sl (Rou.RtsAt X1 (.slice (some ⟨g,0,none⟩) 1 1) [rb1]):=⟨rts_one (below_key HV.out.1 hXB)⟩
  have HB01:Sl (Below w.heap.size w w1):=⟨HB0.out.trans (HB1.out.mono HB0.out.size)⟩
  have HB2:Sl (Below w.heap.size w X1):=⟨HB01.out.trans (hXB.mono HB01.out.size)⟩
  have HGE:Sl (w.heap.size≤cb):=⟨by rw [← hcb];exact HB01.out.size⟩
  have HXC:=Sl.mk hXC
  clear CF HV HB1 HB0 HB01 hXB
  rw [hcb] at HXC hXC
  have k0:=Rou.cell_at hXC 0 _ rfl
  have k1:=Rou.cell_at hXC 1 _ rfl
  have k2:=Rou.cell_at hXC 2 _ rfl
  have k3:=Rou.cell_at hXC 3 _ rfl
  have k4:=Rou.cell_at hXC 4 _ rfl
  have k5:=Rou.cell_at hXC 5 _ rfl
  have k6:=Rou.cell_at hXC 6 _ rfl
  have k7:=Rou.cell_at hXC 7 _ rfl
  have k8:=Rou.cell_at hXC 8 _ rfl
  have k9:=Rou.cell_at hXC 9 _ rfl
  have k10:=Rou.cell_at hXC 10 _ rfl
  have k11:=Rou.cell_at hXC 11 _ rfl
  go_upto_region 2 with fail
  (try rw [hX1])
  (try rw [hcb])
  clear hX1 hcb hXC
  have NW1:=NW.out X1 g HB2.out HRT.out
  go_wp2_with fail
  refine NW1.mono ?_
  rintro e w2 ⟨La,Sa,rfl,HA2,HB3,HSa⟩
  clear NW1
  clear k0 k1 k2 k3 k4 k5 k6 k7 k8 k9 k10 k11
  have HXC2:=Sl.mk (below_key HXC.out HB3.out)
  have HB4:Sl (Below w.heap.size w w2):=⟨HB2.out.trans (HB3.out.mono HB2.out.size)⟩
  have NX1:=NX.out w2 g HB4.out (HRT.out.below HB3.out)
  have HCA:Sl (∀ j,Sa j→j≠cb):=⟨fun j e e2=>by have:=HSa.out j e;have:=(Array.getElem?_eq_some_iff.1 HXC.out).1;omega⟩
  have k0:=Rou.cell_at HXC2.out 0 _ rfl
  have k1:=Rou.cell_at HXC2.out 1 _ rfl
  have k2:=Rou.cell_at HXC2.out 2 _ rfl
  have k3:=Rou.cell_at HXC2.out 3 _ rfl
  have k4:=Rou.cell_at HXC2.out 4 _ rfl
  have k5:=Rou.cell_at HXC2.out 5 _ rfl
  have k6:=Rou.cell_at HXC2.out 6 _ rfl
  have k7:=Rou.cell_at HXC2.out 7 _ rfl
  have k8:=Rou.cell_at HXC2.out 8 _ rfl
  have k9:=Rou.cell_at HXC2.out 9 _ rfl
  have k10:=Rou.cell_at HXC2.out 10 _ rfl
  have k11:=Rou.cell_at HXC2.out 11 _ rfl
  clear HXC HB2 HB3 HRT NW NX HSa
  go_wp2_with fail
  refine NX1.mono ?_
  rintro e w3 ⟨Lb,Sb,rfl,HT3,HB5,HSb⟩
  clear NX1 HB4
  clear k0 k1 k2 k3 k4 k5 k6 k7 k8 k9 k10 k11
  have HA3:=Sl.mk (HA2.out.below HB5.out)
  have HAB:Sl (∀ j,Sa j→¬ Sb j):=⟨fun j e e2=>by have:=(HA2.out.own e).2;have:=HSb.out j e2;omega⟩
  have HCC:Sl (∀ j,Sb j→j≠cb):=⟨fun j e e2=>by have:=HSb.out j e;have:=(Array.getElem?_eq_some_iff.1 HXC2.out).1;omega⟩
  have HXC3:=Sl.mk (below_key HXC2.out HB5.out)
  clear HA2 HB5 HSb HXC2
  have AW1:=awake_any w3 HG.out HA3.out.low
  go_wp2_with fail
  refine AW1.mono ?_
  rintro e w4 ⟨rfl,HB6⟩
  clear AW1
  have HA4:=Sl.mk (HA3.out.below HB6.out)
  have HT4:=Sl.mk (HT3.out.below HB6.out)
  have HXC4:=Sl.mk (below_key HXC3.out HB6.out)
  clear HA3 HT3 HB6 HXC3
  have AW1:=awake_any w4 HG.out HA4.out.low
  go_wp2_with fail
  refine AW1.mono ?_
  rintro e w5 ⟨rfl,HX5⟩
  go_wp2
  go_ret
  exact ⟨rfl,(HA4.out.below HX5.out).low⟩
 ·have hq1:((n0:Int)>10)=False:=eq_false (by omega)
  go_enter Tryz.func8,Tryz.ntmps8
  go_upto_region 1 with fail
  obtain ⟨w0,hw0⟩:∃ V,w.alloc (.cells #[.int .u8 x1,.int .u8 x2,.int .u8 x3] 45)=V:=⟨_,rfl⟩
  have HB0:Sl (Below w.heap.size w w0):=⟨by rw [← hw0];exact (Below.refl _ _).alloc (Nat.le_refl _) _⟩
  have HZ0:w0.heap[w.heap.size]? = some (.cells #[.int .u8 x1,.int .u8 x2,.int .u8 x3] 45 (0,0)):=by rw [← hw0];exact alloc_new _ _ _ rfl
  (try rw [hw0])
  have z0:=Rou.cell_at HZ0 0 _ rfl
  have z1:=Rou.cell_at HZ0 1 _ rfl
  have z2:=Rou.cell_at HZ0 2 _ rfl
  clear hw0 HZ0
  have CF0:=CF.out w0
  go_wp2_with fail
  refine CF0.mono ?_
  rintro e w1 ⟨g,rfl,HV,HB1⟩
  clear CF0 z0 z1 z2
  obtain ⟨X1,hX1⟩:∃ V,w1.alloc (.cells #[.slice (some ⟨g,0,none⟩) 1 1,.slice none 0 0,.int .i64 4,.int .i64 i1,.int .i64 i2,.int .i64 3,.int .i64 300,.int .i64 i3,.int .i64 5,.int .i64 9,.int .i64 3,.int .i64 4] 25)=V:=⟨_,rfl⟩
  have hXB:Below w1.heap.size w1 X1:=by rw [← hX1];exact (Below.refl _ _).alloc (Nat.le_refl _) _
  have hXC:X1.heap[w1.heap.size]? = some (.cells #[.slice (some ⟨g,0,none⟩) 1 1,.slice none 0 0,.int .i64 4,.int .i64 i1,.int .i64 i2,.int .i64 3,.int .i64 300,.int .i64 i3,.int .i64 5,.int .i64 9,.int .i64 3,.int .i64 4] 25 (0,0)):=by rw [← hX1];exact alloc_new _ _ _ rfl
  obtain ⟨cb,hcb⟩:∃ b,w1.heap.size=b:=⟨_,rfl⟩
  have HRT:Sl (Rou.RtsAt X1 (.slice (some ⟨g,0,none⟩) 1 1) [rb1]):=⟨rts_one (below_key HV.out.1 hXB)⟩
  have HB01:Sl (Below w.heap.size w w1):=⟨HB0.out.trans (HB1.out.mono HB0.out.size)⟩
  have HB2:Sl (Below w.heap.size w X1):=⟨HB01.out.trans (hXB.mono HB01.out.size)⟩
  have HGE:Sl (w.heap.size≤cb):=⟨by rw [← hcb];exact HB01.out.size⟩
  have HXC:=Sl.mk hXC
  clear CF HV HB1 HB0 HB01 hXB
  rw [hcb] at HXC hXC
  have k0:=Rou.cell_at hXC 0 _ rfl
  have k1:=Rou.cell_at hXC 1 _ rfl
  have k2:=Rou.cell_at hXC 2 _ rfl
  have k3:=Rou.cell_at hXC 3 _ rfl
  have k4:=Rou.cell_at hXC 4 _ rfl
  have k5:=Rou.cell_at hXC 5 _ rfl
  have k6:=Rou.cell_at hXC 6 _ rfl
  have k7:=Rou.cell_at hXC 7 _ rfl
  have k8:=Rou.cell_at hXC 8 _ rfl
  have k9:=Rou.cell_at hXC 9 _ rfl
  have k10:=Rou.cell_at hXC 10 _ rfl
  have k11:=Rou.cell_at hXC 11 _ rfl
  go_upto_region 2 with fail
  (try rw [hX1])
  (try rw [hcb])
  clear hX1 hcb hXC
  have NW1:=NW.out X1 g HB2.out HRT.out
  go_wp2_with fail
  refine NW1.mono ?_
  rintro e w2 ⟨La,Sa,rfl,HA2,HB3,HSa⟩
  clear NW1
  clear k0 k1 k2 k3 k4 k5 k6 k7 k8 k9 k10 k11
  have HXC2:=Sl.mk (below_key HXC.out HB3.out)
  have HB4:Sl (Below w.heap.size w w2):=⟨HB2.out.trans (HB3.out.mono HB2.out.size)⟩
  have NX1:=NX.out w2 g HB4.out (HRT.out.below HB3.out)
  have HCA:Sl (∀ j,Sa j→j≠cb):=⟨fun j e e2=>by have:=HSa.out j e;have:=(Array.getElem?_eq_some_iff.1 HXC.out).1;omega⟩
  have k0:=Rou.cell_at HXC2.out 0 _ rfl
  have k1:=Rou.cell_at HXC2.out 1 _ rfl
  have k2:=Rou.cell_at HXC2.out 2 _ rfl
  have k3:=Rou.cell_at HXC2.out 3 _ rfl
  have k4:=Rou.cell_at HXC2.out 4 _ rfl
  have k5:=Rou.cell_at HXC2.out 5 _ rfl
  have k6:=Rou.cell_at HXC2.out 6 _ rfl
  have k7:=Rou.cell_at HXC2.out 7 _ rfl
  have k8:=Rou.cell_at HXC2.out 8 _ rfl
  have k9:=Rou.cell_at HXC2.out 9 _ rfl
  have k10:=Rou.cell_at HXC2.out 10 _ rfl
  have k11:=Rou.cell_at HXC2.out 11 _ rfl
  clear HXC HB2 HB3 HRT NW NX HSa
  go_wp2_with fail
  refine NX1.mono ?_
  rintro e w3 ⟨Lb,Sb,rfl,HT3,HB5,HSb⟩
  clear NX1 HB4
  clear k0 k1 k2 k3 k4 k5 k6 k7 k8 k9 k10 k11
  have HA3:=Sl.mk (HA2.out.below HB5.out)
  have HAB:Sl (∀ j,Sa j→¬ Sb j):=⟨fun j e e2=>by have:=(HA2.out.own e).2;have:=HSb.out j e2;omega⟩
  have HCC:Sl (∀ j,Sb j→j≠cb):=⟨fun j e e2=>by have:=HSb.out j e;have:=(Array.getElem?_eq_some_iff.1 HXC2.out).1;omega⟩
  have HXC3:=Sl.mk (below_key HXC2.out HB5.out)
  clear HA2 HB5 HSb HXC2
  have AW1:=awake_any w3 HG.out HA3.out.low
  go_wp2_with fail
  refine AW1.mono ?_
  rintro e w4 ⟨rfl,HB6⟩
  clear AW1
  have HA4:=Sl.mk (HA3.out.below HB6.out)
  have HT4:=Sl.mk (HT3.out.below HB6.out)
  have HXC4:=Sl.mk (below_key HXC3.out HB6.out)
  clear HA3 HT3 HB6 HXC3
  obtain ⟨w5,hw5⟩:∃ V,w4.alloc (.cells #[] 52)=V:=⟨_,rfl⟩
  have B5:Below w4.heap.size w4 w5:=by rw [← hw5];exact (Below.refl _ _).alloc (Nat.le_refl _) _
  obtain ⟨w6,hw6⟩:∃ V,w5.alloc (.cells #[] 52)=V:=⟨_,rfl⟩
  have B6:Below w5.heap.size w5 w6:=by rw [← hw6];exact (Below.refl _ _).alloc (Nat.le_refl _) _
  have B46:Below w4.heap.size w4 w6:=B5.trans (B6.mono B5.size)
  have hz5:w5.heap.size=w4.heap.size+1:=by rw [← hw5,alloc_size]
  have hw4:=HA4.out.low.size
  have O5:OwnE w5 w.heap.size (.slice (some ⟨w4.heap.size,0,none⟩) 0 0) []:=by rw [← hw5];exact ownE_made w4 _ hw4
  have O6:OwnE w6 w.heap.size (.slice (some ⟨w5.heap.size,0,none⟩) 0 0) []:=by rw [← hw6];exact ownE_made w5 _ (by omega)
  have hcb:=(Array.getElem?_eq_some_iff.1 HXC4.out).1
  have HRB0:Sl (RB w w6 La Lb cb (.cells #[.slice (some ⟨g,0,none⟩) 1 1,.slice none 0 0,.int .i64 4,.int .i64 i1,.int .i64 i2,.int .i64 3,.int .i64 300,.int .i64 i3,.int .i64 5,.int .i64 9,.int .i64 3,.int .i64 4] 25 (0,0)) Sa Sb (cfL a b o false) (cfL a b o true) (L0 d) (L0 0) (.slice (some ⟨w4.heap.size,0,none⟩) 0 0) [] (.slice (some ⟨w5.heap.size,0,none⟩) 0 0) []):=⟨HA4.out.below B46,HT4.out.below B46,HAB.out,below_key HXC4.out B46,HCA.out,HCC.out,HGE.out,O5.below B6,O6,fun j e=>by
   obtain rfl:w4.heap.size=j:=by simpa [Value.ownBlock] using e
   exact ⟨fun e2=>Nat.lt_irrefl _ (HA4.out.own e2).2,fun e2=>Nat.lt_irrefl _ (HT4.out.own e2).2,fun e2=>by omega⟩,fun j e=>by
   obtain rfl:w5.heap.size=j:=by simpa [Value.ownBlock] using e
   exact ⟨fun e2=>by have:=(HA4.out.own e2).2;omega,fun e2=>by have:=(HT4.out.own e2).2;omega,fun e2=>by omega⟩,fun j e e2=>by
   obtain rfl:w4.heap.size=j:=by simpa [Value.ownBlock] using e
   have h3:w5.heap.size=w4.heap.size:=by simpa [Value.ownBlock] using e2
   omega⟩
  have HPL0:Sl (Bo (cfL a b o false) (L0 d) (flt (cfL a b o false) [])∧LegPlain.Quiet (L0 d)∧(L0 d).sent=false∧Bst (cfL a b o true) (L0 0) (L0 d).gone (([]:List (List Nat)).map (fun t=>(⟨2,0,t⟩:Ev)))):=⟨LegPlain.bo_zero _ d,⟨rfl,rfl,rfl,rfl⟩,rfl,LegPlain.bst_zero _ 0⟩
  clear B5 B6 B46 hw4 O5 O6 HA4 HT4 HAB HCA HCC HXC4 hcb hz5
  go_upto_region 7 with fail
  (try rw [hw5])
  (try rw [hw6])
  clear hw5 hw6
  go_wp2
  go_loopw [16,17,18] (fun u16 u17 u18 wr=>∃ (k:Nat) (ua:Option Addr) (un uc:Nat) (va:Option Addr) (vn vc:Nat) (s:List (List Nat)) (x y:Lg) (S1 S2:Nat→Prop),u16=.slice ua un uc∧u17=.slice va vn vc∧u18=.int .i64 (k:Int)∧k≤n0∧Sl (x.gone.length≤5000*k)∧Sl (Bo (cfL a b o false) x (flt (cfL a b o false) s)∧LegPlain.Quiet x∧x.sent=false∧Bst (cfL a b o true) y x.gone (s.map (fun t=>(⟨2,0,t⟩:Ev))))∧Sl (∀ t∈s,t.length≤1+a∧∀ z∈t,z<256)∧Sl (s.length=k)∧Sl (RB w wr La Lb cb (.cells #[.slice (some ⟨g,0,none⟩) 1 1,.slice none 0 0,.int .i64 4,.int .i64 i1,.int .i64 i2,.int .i64 3,.int .i64 300,.int .i64 i3,.int .i64 5,.int .i64 9,.int .i64 3,.int .i64 4] 25 (0,0)) S1 S2 (cfL a b o false) (cfL a b o true) x y (.slice ua un uc) (s.map (fun t=>(⟨2,0,t⟩:Ev))) (.slice va vn vc) (s.map (fun t=>(⟨2,0,t⟩:Ev))))) (fun _ _ u18 _=>n0-(intOf u18).toNat)
  case atStart=>exact ⟨0,_,_,_,_,_,_,[],L0 d,L0 0,Sa,Sb,rfl,rfl,rfl,Nat.zero_le _,⟨Nat.zero_le _⟩,HPL0,⟨fun t ht=>absurd ht List.not_mem_nil⟩,⟨rfl⟩,HRB0⟩
  case round =>
   obtain ⟨k,ua,un,uc,va,vn,vc,s,x0,y0,S3,S4,rfl,rfl,rfl,hk,HGN0,HPN,HSS,HSL,HRBN⟩:=hrel
   clear HRB0
   by_cases hkn:k<n0
   ·have hlt:((k:Int)<(n0:Int))=True:=eq_true (by omega)
    have hltn:(k:Int)<(n0:Int):=by omega
    obtain rfl:=had (by omega)
    obtain ⟨eo,ec,ed,hev⟩:∃ eo ec ed,xs.getD k Ev0=⟨eo,ec,ed⟩:=⟨_,_,_,rfl⟩
    have hmem:(⟨eo,ec,ed⟩:Ev)∈xs:=by
     rw [← hev,List.getD_eq_getElem?_getD,List.getElem?_eq_getElem (by rw [HN.out];exact hkn)]
     exact List.getElem_mem _
    have hds:Small 256 ed:=(hok _ hmem).ds
    obtain ⟨s0,hs0⟩:∃ z,strOf ed=z:=⟨_,rfl⟩
    have hbs:bytes s0=ed:=by rw [← hs0];exact bytes_strOf ed hds
    have hcl:wr.cell? ⟨sb,so+k*3+2,none⟩=some (.string s0):=by
     have h1:=hcell k (by rw [HN.out];exact hkn) 2 (by decide)
     rw [hev] at h1
     have h2:w.cell? ⟨sb,so+k*3+2,none⟩=some (.string (strOf ed)):=h1
     rw [hs0] at h2
     exact (HRBN.out.A.low.cell (p:=⟨sb,so+k*3+2,none⟩) (block_lt_of_cell h2)).trans h2
    obtain ⟨w5,hw5⟩:∃ V,wr.alloc (.cells #[.int .i64 2,.int .i64 0,.string s0] 52)=V:=⟨_,rfl⟩
    have hB5:Below wr.heap.size wr w5:=by rw [← hw5];exact (Below.refl _ _).alloc (Nat.le_refl _) _
    have hX5:w5.heap[wr.heap.size]? = some (.cells #[.int .i64 2,.int .i64 0,.string s0] 52 (0,0)):=by rw [← hw5];exact alloc_new _ _ _ rfl
    have HXS:Sl (∀ j,S3 j→j≠wr.heap.size):=⟨fun j e e2=>by have:=(HRBN.out.A.own e).2;omega⟩
    have HRB5:=Sl.mk (HRBN.out.below hB5)
    obtain ⟨xb,hxb⟩:∃ z,wr.heap.size=z:=⟨_,rfl⟩
    rw [hxb] at hX5 HXS
    obtain ⟨c0,c1,c2⟩:=Msg.ev_cells hX5
    have hc3:=Rou.cell_at HRB5.out.C 3 _ rfl
    have HX5:=Sl.mk hX5
    have hsz:ed.length=s0.size:=by rw [← hbs,bytes_length]
    clear HRBN hB5 hX5 hev hmem hs0
    go_upto_region 11 with fail
    (try rw [hw5])
    (try rw [hxb])
    clear hw5 hxb hcl
    by_cases hbig:1+a<s0.size
    ·have hb1:((s0.size:Int)>i1)=True:=eq_true (by have:=HI1.out;omega)
     go_wp2
     go_ret
     exact ⟨rfl,HRB5.out.A.low⟩
    ·have hb1:((s0.size:Int)>i1)=False:=eq_false (by have:=HI1.out;omega)
     have HED:Sl (ed.length≤1+a∧∀ z∈ed,z<256):=⟨by omega,hds⟩
     obtain ⟨x1,hx1⟩:∃ z,(LegPlain.send (cfL a b o false) x0 2 ed).1=z:=⟨_,rfl⟩
     obtain ⟨q1,q2,q3,q4⟩:=LegPlain.bo_send HRB5.out.A.cf.f2 HRB5.out.A.cf.f1 HPN.out.1 HPN.out.2.1 HPN.out.2.2.1 HED.out.1 HED.out.2
     rw [hx1] at q2 q3 q4
     have SN:=send_ex HRB5.out.A 2 0 s0 x1 true (by rw [hbs];exact Prod.ext hx1 q1)
     have HGP:Sl (0+pend x1≤5000∧x1.gone.length+pend x1≤5000*(k+1)):=⟨by
      have h1:=q2.few.pend
      have e1:(cfL a b o false).out=1+o:=rfl
      have e2:(cfL a b o false).frm=1+b:=rfl
      have e3:(cfL a b o false).msg=1+a:=rfl
      rw [e1,e2,e3] at h1
      omega,by
      have h1:=q2.few.pend
      have e1:(cfL a b o false).out=1+o:=rfl
      have e2:(cfL a b o false).frm=1+b:=rfl
      have e3:(cfL a b o false).msg=1+a:=rfl
      rw [e1,e2,e3] at h1
      have:=HGN0.out
      rw [q4];omega⟩
     have HPL:Sl (Bo (cfL a b o false) x1 (flt (cfL a b o false) (s++[ed]))∧Bst (cfL a b o true) y0 x1.gone (s.map (fun t=>(⟨2,0,t⟩:Ev)))∧x1.sent=false):=⟨by rw [LegPlain.flt_snoc];exact q2,by rw [q4];exact HPN.out.2.2.2,q3⟩
     have HFN:Sl (Fine (cfL a b o false) (flt (cfL a b o false) (s++[ed]))):=⟨(LegPlain.fine_flt (c:=(cfL a b o false)) HRB5.out.A.cf.f1 (s++[ed]) (fun t ht=>by
      rcases List.mem_append.1 ht with ht | ht
      ·exact HSS.out t ht
      ·rw [List.mem_singleton] at ht;subst ht;exact HED.out)).1⟩
     have HVL:Sl ((s.map (fun t=>(⟨2,0,t⟩:Ev))).length+1≤1000000):=⟨by rw [List.length_map,HSL.out];omega⟩
     clear hx1 q1 q2 q3 q4 HPN HGN0 hds hbig hsz
     go_wp2_with fail
     refine SN.mono ?_
     rintro e w6 ⟨S6,rfl,HL6,HG6⟩
     clear SN c0 c1 c2 hc3
     have hX6:w6.heap[xb]? = some (.cells #[.int .i64 2,.int .i64 0,.string s0] 52 (0,0)):=by
      rw [HG6.out.kept.block xb (Array.getElem?_eq_some_iff.1 HX5.out).1 (fun e=>HXS.out xb e rfl)];exact HX5.out
     obtain ⟨c0,c1,c2⟩:=Msg.ev_cells hX6
     have HRB6:=Sl.mk (HRB5.out.stepA HL6.out HG6.out)
     clear HRB5 HL6 HG6 HX5 HXS hX6
     obtain ⟨w7,hw7⟩:∃ V,w6.alloc (.cells #[.int .i64 2,.int .i64 0,.string s0] 52)=V:=⟨_,rfl⟩
     have hB7:Below w6.heap.size w6 w7:=by rw [← hw7];exact (Below.refl _ _).alloc (Nat.le_refl _) _
     have hX7:w7.heap[w6.heap.size]? = some (.cells #[.int .i64 2,.int .i64 0,.string s0] 52 (0,0)):=by rw [← hw7];exact alloc_new _ _ _ rfl
     have HRB7:=HRB6.out.below hB7
     obtain ⟨v8,w8,hap8,hO8,hG8,hu8⟩:=add_evs HRB7.V (evs_one (e:=⟨2,0,ed⟩) hX7 (by unfold Evt.ec;rw [← hbs,strOf_bytes])) (by simpa using HVL.out) HRB7.A.low.size
     have hRB8:=HRB7.toldV hO8 hG8 hu8
     obtain ⟨wa,wn,wc,rfl⟩:∃ a n c,v8=.slice a n c:=by obtain ⟨a,c,e⟩:=hO8.slice;exact ⟨a,_,c,e⟩
     have HRB:Sl (RB w w8 La Lb cb (.cells #[.slice (some ⟨g,0,none⟩) 1 1,.slice none 0 0,.int .i64 4,.int .i64 i1,.int .i64 i2,.int .i64 3,.int .i64 300,.int .i64 i3,.int .i64 5,.int .i64 9,.int .i64 3,.int .i64 4] 25 (0,0)) S6 S4 (cfL a b o false) (cfL a b o true) x1 y0 (.slice ua un uc) (s.map (fun t=>(⟨2,0,t⟩:Ev))) (.slice wa wn wc) ((s++[ed]).map (fun t=>(⟨2,0,t⟩:Ev)))):=⟨by rw [List.map_append];exact hRB8⟩
     clear HRB6 hB7 hX7 HRB7 hO8 hG8 hu8 hRB8 HVL hbs
     go_wp2_with (at_builtin;refine Cut.wpList_appV rfl (.tmp 88) (.tmp 90) 47 47 rfl rfl _ _ (.slice wa wn wc) w8 rfl rfl (by first | exact hap8 | (rw [hw7];exact hap8)) ?_)
     clear hap8 hw7 c0 c1 c2
     go_wp2
     go_loopw [16,20] (fun u16 uk wq=>∃ (j:Nat) (ta:Option Addr) (tn tc:Nat) (es:List Ev) (x y:Lg) (S1 S2:Nat→Prop),u16=.slice ta tn tc∧uk=.int .i64 (j:Int)∧j≤M∧Sl (j+pend x≤5000∧x.gone.length+pend x≤5000*(k+1))∧Sl (Bo (cfL a b o false) x (flt (cfL a b o false) (s++[ed]))∧Bst (cfL a b o true) y x.gone es∧x.sent=false)∧Sl (RB w wq La Lb cb (.cells #[.slice (some ⟨g,0,none⟩) 1 1,.slice none 0 0,.int .i64 4,.int .i64 i1,.int .i64 i2,.int .i64 3,.int .i64 300,.int .i64 i3,.int .i64 5,.int .i64 9,.int .i64 3,.int .i64 4] 25 (0,0)) S1 S2 (cfL a b o false) (cfL a b o true) x y (.slice ta tn tc) es (.slice wa wn wc) ((s++[ed]).map (fun t=>(⟨2,0,t⟩:Ev))))) (fun _ uk _=>M-(intOf uk).toNat)
     case atStart=>exact ⟨0,_,_,_,_,_,_,_,_,rfl,rfl,Nat.zero_le _,HGP,HPL,HRB⟩
     case round =>
      obtain ⟨j,ta,tn,tc,es,x,y,S1,S2,rfl,rfl,hj,HGP2,HPL2,HRB2⟩:=hrel
      clear HGP HPL HRB
      have hjm:j<M:=by have:=HGP2.out.1;have:=HM.out;omega
      have hq:decide ((j:Int)<100000)=true:=decide_eq_true (by have:=HM.out;omega)
      have hj2:(j:Int)<100000:=by have:=HM.out;omega
      by_cases hr:x.ring=[]
      ·have Q1:=quiet_ex HRB2.out.A true (decide_eq_true hr)
       have HQ:Sl (LegPlain.Quiet x):=⟨LegPlain.quiet_of HRB2.out.A.good.few.ok HRB2.out.A.cf.o1 hr⟩
       clear hr
       go_wp2_with fail
       refine Q1.mono ?_
       rintro e w11 ⟨rfl,rfl⟩
       clear Q1
       have HS2:Sl (∀ t∈s++[ed],t.length≤1+a∧∀ z∈t,z<256):=⟨fun t ht=>by
        rcases List.mem_append.1 ht with ht | ht
        ·exact HSS.out t ht
        ·rw [List.mem_singleton] at ht;subst ht;exact HED.out⟩
       obtain ⟨z1,z2⟩:=LegPlain.fine_flt (c:=(cfL a b o false)) HRB2.out.A.cf.f1 (s++[ed]) HS2.out
       obtain ⟨y1,_⟩:=LegPlain.both_quiet HRB2.out.A.cf.f2 HRB2.out.A.cf.m2 HPL2.out.1 z1 HQ.out (b:=y) (E:=es) HPL2.out.2.1
       rw [z2] at y1
       have y1:es=(s++[ed]).map (fun t=>(⟨2,0,t⟩:Ev)):=y1
       subst y1
       have HGN:Sl (x.gone.length≤5000*(k+1)):=⟨by have:=HGP2.out.2;omega⟩
       have HSL2:Sl ((s++[ed]).length=k+1):=⟨by rw [List.length_append,HSL.out];rfl⟩
       have HPLN:Sl (Bo (cfL a b o false) x (flt (cfL a b o false) (s++[ed]))∧LegPlain.Quiet x∧x.sent=false∧Bst (cfL a b o true) y x.gone ((s++[ed]).map (fun t=>(⟨2,0,t⟩:Ev)))):=⟨HPL2.out.1,HQ.out,HPL2.out.2.2,HPL2.out.2.1⟩
       clear HGP2 HPL2 HQ z1 z2 HSL HSS HED
       go_wp2
       exact ⟨⟨k+1,_,_,_,_,_,_,s++[ed],x,y,S1,S2,rfl,rfl,by go_num,by omega,HGN,HPLN,HS2,HSL2,HRB2⟩,by simp [intOf];omega⟩
      ·have Q1:=quiet_ex HRB2.out.A false (decide_eq_false hr)
       obtain ⟨tl,htl⟩:∃ t,x.ring.take (1+(nb:Int)).toNat=t:=⟨_,rfl⟩
       obtain ⟨q,hqq⟩:∃ q,tl.length=q:=⟨_,rfl⟩
       obtain ⟨x',hx'⟩:∃ z,(takeN (cfL a b o false) x (1+(nb:Int))).1=z:=⟨_,rfl⟩
       have TK:=take_ex HRB2.out.A (1+(nb:Int)) tl htl q hqq x' hx'
       obtain ⟨b1,b2,b3⟩:=LegPlain.bo_take HRB2.out.A.cf.f2 HPL2.out.1 (1+(nb:Int))
       have b3':x'.gone=x.gone++tl:=by rw [← hx',← htl];exact b3
       rw [hx'] at b1 b2
       have p1:=(LegPlain.take_pend HRB2.out.A.cf.f2 HRB2.out.A.good.few.low (n:=1+(nb:Int)) (by omega)).1 hr
       have p2:=take_pend2 HRB2.out.A.cf.f2 HRB2.out.A.good.few.low (1+(nb:Int))
       rw [hx'] at p1 p2
       rw [htl] at p2
       have HGP3:Sl (j+1+pend x'≤5000∧x'.gone.length+pend x'≤5000*(k+1)):=⟨by have:=HGP2.out.1;omega,by have:=HGP2.out.2;rw [b3',List.length_append];omega⟩
       have hsm:∀ z∈x'.gone,z<256:=fun z hz=>gone_small HRB2.out.A.cf.f2 b1.few.ok z (List.mem_append_left _ hz)
       have HTS:Sl (Small 256 tl):=⟨fun z hz=>hsm z (by rw [b3'];exact List.mem_append_right _ hz)⟩
       have HTL:Sl (tl.length≤30000):=⟨by have h3:x.ring.length≤1+o:=LegPlain.ring_le HRB2.out.A.good.few.ok;rw [← htl,List.length_take];omega⟩
       obtain ⟨y',es',hf⟩:∃ y' es',feed (cfL a b o true) y tl=(y',es'):=⟨_,_,rfl⟩
       have HBS:Sl (Bst (cfL a b o true) y' x'.gone (es++es')):=⟨by
        have h4:=LegPlain.both_feed HRB2.out.A.cf.f2 HRB2.out.A.cf.m2 b1 HFN.out (b:=y) (G:=x.gone) (r:=tl) (E:=es) HPL2.out.2.1 b3'
        have h5:feed (LegPlain.turned (cfL a b o false)) y tl=(y',es'):=hf
        rw [h5] at h4;exact h4⟩
       have HEL:Sl (es.length+es'.length≤1000000):=⟨by
        have h5:=told_len HBS.out hsm
        rw [List.length_append] at h5
        have:=HGP3.out.2
        omega⟩
       have HPL3:Sl (Bo (cfL a b o false) x' (flt (cfL a b o false) (s++[ed]))∧Bst (cfL a b o true) y' x'.gone (es++es')∧x'.sent=false):=⟨b1,HBS.out,b2.trans HPL2.out.2.2⟩
       clear hr htl hx' b1 b2 b3 b3' p1 p2 hsm HBS HPL2
       go_wp2_with fail
       refine Q1.mono ?_
       rintro e w11 ⟨rfl,rfl⟩
       clear Q1
       go_wp2_with fail
       refine TK.mono ?_
       rintro e w12 ⟨S12,rfl,HR12,HL12,HG12⟩
       clear TK
       have HRB3:=Sl.mk (HRB2.out.stepA HL12.out HG12.out)
       clear HRB2 HL12 HG12
       have hsrc:=HR12.out.src
       rw [hqq] at hsrc
       have FD:=feed_ex HRB3.out.T _ tl hsrc HTS.out HTL.out y' es' hf
       clear hf hqq HR12 hsrc
       go_wp2_with fail
       refine FD.mono ?_
       rintro e w13 ⟨S13,rv,rfl,HO13,HL13,HG13,-⟩
       clear FD
       have HRB4:=Sl.mk (HRB3.out.stepB HL13.out HG13.out)
       clear HRB3 HL13 HG13
       obtain ⟨ra,rn,rc,rfl⟩:∃ a n c,rv=.slice a n c:=by obtain ⟨a,c,e⟩:=HO13.out.slice;exact ⟨a,_,c,e⟩
       obtain ⟨v14,w14,hap,hO14,hG14,hu14⟩:=add_evs HRB4.out.O HO13.out.evs HEL.out HRB4.out.A.low.size
       have HRB5:=Sl.mk (HRB4.out.toldU hO14 hG14 hu14)
       obtain ⟨ta2,tn2,tc2,rfl⟩:∃ a n c,v14=.slice a n c:=by obtain ⟨a,c,e⟩:=hO14.slice;exact ⟨a,_,c,e⟩
       clear HRB4 HO13 hO14 hG14 hu14 HTS HTL HEL
       go_wp2_with (at_builtin;refine Cut.wpList_appV rfl (.tmp 101) (.tmp 108) 47 47 rfl rfl _ _ (.slice ta2 tn2 tc2) w14 rfl rfl hap ?_)
       go_wp2
       exact ⟨⟨j+1,_,_,_,es++es',x',y',S12,S13,rfl,by go_num,by omega,HGP3,HPL3,HRB5⟩,by simp [intOf];omega⟩
   ·obtain rfl:k=n0:=by omega
    have hlt:((k:Int)<(k:Int))=False:=eq_false (by omega)
    obtain ⟨k2,hk2⟩:∃ r,(LegPlain.close (cfL a b o false) x0 code []).2=r:=⟨_,rfl⟩
    obtain ⟨x1,hx1⟩:∃ z,(LegPlain.close (cfL a b o false) x0 code []).1=z:=⟨_,rfl⟩
    have CL:=close_ex HRBN.out.A code {data:=#[]} x1 k2 (Prod.ext hx1 hk2)
    cases k2 with
    | false =>
      have hx0:x1=x0:=by
       rw [← hx1]
       unfold LegPlain.close at hk2 ⊢
       split
       ·rfl
       ·next h=>rw [if_neg h] at hk2;cases hk2
      subst hx0
      clear hx1 hk2
      go_wp2_with fail
      refine CL.mono ?_
      rintro e w6 ⟨S6,rfl,HL6,HG6⟩
      clear CL
      have HRB6:=Sl.mk (HRBN.out.stepA HL6.out HG6.out)
      clear HRBN HL6 HG6
      have S10:=esame_any (s.map (fun t=>(⟨2,0,t⟩:Ev))) (.slice ua un uc) (.slice va vn vc) w6 HRB6.out.O.evs HRB6.out.V.evs (by rw [List.length_map,HSL.out];omega)
      go_wp2_with fail
      refine S10.mono ?_
      rintro e w7 ⟨rfl,HX7⟩
      clear S10
      have HRB7:=Sl.mk (HRB6.out.below HX7.out)
      clear HRB6 HX7
      have W1:=wrong_ex HRB7.out.T 0 (by rw [HPN.out.2.2.2.wrong];rfl)
      have W2:=wrong_ex HRB7.out.A 0 (by rw [HPN.out.1.reads.wrong];rfl)
      go_wp2_with fail
      refine W1.mono ?_
      rintro e w8 ⟨rfl,rfl⟩
      clear W1
      go_wp2_with fail
      refine W2.mono ?_
      rintro e w8 ⟨rfl,rfl⟩
      clear W2
      go_wp2
      go_ret
      exact ⟨rfl,HRB7.out.A.low⟩
    | true =>
      obtain ⟨dd,e1,e2,e3⟩:=LegPlain.bo_close HRBN.out.A.cf.f2 HPN.out.1 HPN.out.2.1 code hk2
      rw [hx1] at e2 e3
      obtain ⟨z1,kk,z2⟩:=LegPlain.fine_end (c:=(cfL a b o false)) HRBN.out.A.cf.f1 s HSS.out e1
      have HFE:Sl (Fine (cfL a b o false) (flt (cfL a b o false) s++[(true,8,dd)])∧run ((cfL a b o false).msg:Int) M0 ((flt (cfL a b o false) s++[(true,8,dd)]).map LegPlain.ofCore)=(MsgPlain.done,s.map (fun t=>(⟨2,0,t⟩:Ev))++[⟨8,kk,[]⟩])):=⟨z1,z2⟩
      have HGP:Sl (0+pend x1≤5000∧x1.gone.length+pend x1≤5000*(k+1)):=⟨by
       have h1:=e2.few.pend
       have e1:(cfL a b o false).out=1+o:=rfl
       have e2:(cfL a b o false).frm=1+b:=rfl
       have e3:(cfL a b o false).msg=1+a:=rfl
       rw [e1,e2,e3] at h1
       omega,by
       have h1:=e2.few.pend
       have e1:(cfL a b o false).out=1+o:=rfl
       have e2:(cfL a b o false).frm=1+b:=rfl
       have e4:(cfL a b o false).msg=1+a:=rfl
       rw [e1,e2,e4] at h1
       have:=HGN0.out
       rw [e3];omega⟩
      obtain ⟨st,hst⟩:∃ st,x1.sent=st:=⟨_,rfl⟩
      have HPL:Sl (Bo (cfL a b o false) x1 (flt (cfL a b o false) s++[(true,8,dd)])∧Bst (cfL a b o true) y0 x1.gone (s.map (fun t=>(⟨2,0,t⟩:Ev)))∧x1.sent=st):=⟨e2,by rw [e3];exact HPN.out.2.2.2,hst⟩
      clear hx1 hk2 e1 e2 e3 z1 z2 HPN HGN0 hst
      go_wp2_with fail
      refine CL.mono ?_
      rintro e w6 ⟨S6,rfl,HL6,HG6⟩
      clear CL
      have HRB:=Sl.mk (HRBN.out.stepA HL6.out HG6.out)
      clear HRBN HL6 HG6
      go_wp2
      go_loopw [16,21] (fun u16 uk wq=>∃ (j:Nat) (ta:Option Addr) (tn tc:Nat) (es:List Ev) (x y:Lg) (S1 S2:Nat→Prop),u16=.slice ta tn tc∧uk=.int .i64 (j:Int)∧j≤M∧Sl (j+pend x≤5000∧x.gone.length+pend x≤5000*(k+1))∧Sl (Bo (cfL a b o false) x (flt (cfL a b o false) s++[(true,8,dd)])∧Bst (cfL a b o true) y x.gone es∧x.sent=st)∧Sl (RB w wq La Lb cb (.cells #[.slice (some ⟨g,0,none⟩) 1 1,.slice none 0 0,.int .i64 4,.int .i64 i1,.int .i64 i2,.int .i64 3,.int .i64 300,.int .i64 i3,.int .i64 5,.int .i64 9,.int .i64 3,.int .i64 4] 25 (0,0)) S1 S2 (cfL a b o false) (cfL a b o true) x y (.slice ta tn tc) es (.slice va vn vc) (s.map (fun t=>(⟨2,0,t⟩:Ev))))) (fun _ uk _=>M-(intOf uk).toNat)
      case atStart=>exact ⟨0,_,_,_,_,_,_,_,_,rfl,rfl,Nat.zero_le _,HGP,HPL,HRB⟩
      case round =>
       obtain ⟨j,ta,tn,tc,es,x,y,S1,S2,rfl,rfl,hj,HGP2,HPL2,HRB2⟩:=hrel
       clear HGP HPL HRB
       have hjm:j<M:=by have:=HGP2.out.1;have:=HM.out;omega
       have hq:decide ((j:Int)<100000)=true:=decide_eq_true (by have:=HM.out;omega)
       have hj2:(j:Int)<100000:=by have:=HM.out;omega
       by_cases hr:x.ring=[]
       ·have Q1:=quiet_ex HRB2.out.A true (decide_eq_true hr)
        have HQ:Sl (LegPlain.Quiet x):=⟨LegPlain.quiet_of HRB2.out.A.good.few.ok HRB2.out.A.cf.o1 hr⟩
        clear hr
        go_wp2_with fail
        refine Q1.mono ?_
        rintro e w11 ⟨rfl,rfl⟩
        clear Q1
        have HEQ:Sl (es=s.map (fun t=>(⟨2,0,t⟩:Ev))++[⟨8,kk,[]⟩]∧y.got=true):=⟨by
         obtain ⟨y1,y2⟩:=LegPlain.both_quiet HRB2.out.A.cf.f2 HRB2.out.A.cf.m2 HPL2.out.1 HFE.out.1 HQ.out (b:=y) (E:=es) HPL2.out.2.1
         rw [HFE.out.2] at y1 y2
         exact ⟨y1,y2⟩⟩
        obtain rfl:=HEQ.out.1
        obtain ⟨bk,ob,hta⟩:∃ bk ob,ta=some ⟨bk,ob,none⟩:=by
         obtain ⟨sb',so',h1⟩:=(EvsAt.cap HRB2.out.O.evs).2.2 (by rw [(EvsAt.cap HRB2.out.O.evs).1,List.length_append];simp)
         exact ⟨sb',so',h1⟩
        subst hta
        obtain ⟨et1,et2,-⟩:=EvsAt.cap HRB2.out.O.evs
        obtain ⟨m1,hm1⟩:∃ m,s.length=m:=⟨_,rfl⟩
        have htn:tn=m1+1:=by rw [et1,List.length_append,List.length_map,hm1];rfl
        obtain ⟨u0,u1,u2⟩:=EvsAt.at3 HRB2.out.O.evs m1 (by rw [List.length_append,List.length_map,hm1];exact Nat.lt_succ_self _) (o:=8) (c:=kk) (d:=[]) (by rw [List.getD_eq_getElem?_getD,List.getElem?_append_right (by rw [List.length_map,hm1];exact Nat.le_refl _),List.length_map,hm1,Nat.sub_self];rfl)
        have GT:=got_ex HRB2.out.T true HEQ.out.2
        have HM1:Sl (s.length=m1∧tn=m1+1∧m1≤10):=⟨hm1,htn,by have:=HSL.out;omega⟩
        have hn1:(tn:Int)-1=(m1:Int):=by omega
        have hn2:((tn:Int)==0)=false:=by simp;omega
        have hn3:IntKind.i64.wrap ((tn:Int)-1)=(m1:Int):=by rw [hn1,IntKind.wrap_i64];have:=HM1.out.2.2;omega
        have hn4:(m1:Int)<(tn:Int):=by omega
        have hn5:m1<tn:=by omega
        have hn6:(0:Int)≤(m1:Int):=by omega
        clear hm1 htn et1 hn1
        go_wp2_with fail
        refine GT.mono ?_
        rintro e w12 ⟨rfl,rfl⟩
        clear GT
        obtain ⟨tl,htl⟩:∃ t,y.ring.take (300:Int).toNat=t:=⟨_,rfl⟩
        obtain ⟨q,hqq⟩:∃ q,tl.length=q:=⟨_,rfl⟩
        obtain ⟨y',hy'⟩:∃ z,(takeN (cfL a b o true) y 300).1=z:=⟨_,rfl⟩
        have TB:=take_ex HRB2.out.T 300 tl htl q hqq y' hy'
        have HYW:Sl (y'.wrong=0):=⟨by rw [← hy',(LegPlain.take_keep (cfL a b o true) y 300).wrong];exact HPL2.out.2.1.wrong⟩
        have HTS:Sl (Small 256 tl):=⟨fun z hz=>gone_small HRB2.out.T.cf.f2 HRB2.out.T.good.few.ok z (List.mem_append_right _ (List.mem_of_mem_take (htl ▸ hz)))⟩
        have HTL:Sl (tl.length≤30000):=⟨by have h3:y.ring.length≤1+o:=LegPlain.ring_le HRB2.out.T.good.few.ok;rw [← htl,List.length_take];omega⟩
        obtain ⟨x',es',hf⟩:∃ x' es',feed (cfL a b o false) x tl=(x',es'):=⟨_,_,rfl⟩
        have HXW:Sl (x'.wrong=0):=⟨by
         have h4:=LegPlain.both_back HRB2.out.A.cf.f2 HRB2.out.A.cf.m2 HPL2.out.1 (b:=y) HPL2.out.2.1.eo 300
         have h5:feed (cfL a b o false) x (y.ring.take 300)=(x',es'):=by rw [show y.ring.take 300=tl from htl];exact hf
         rw [h5] at h4;exact h4⟩
        clear htl hy' HPL2 HGP2 HQ HEQ
        go_wp2_with fail
        refine TB.mono ?_
        rintro e w12 ⟨S12,rfl,HR12,HL12,HG12⟩
        clear TB u0 u1 u2
        have HRB3:=Sl.mk (HRB2.out.stepB HL12.out HG12.out)
        clear HRB2 HL12 HG12
        have hsrc:=HR12.out.src
        rw [hqq] at hsrc
        have FD:=feed_ex HRB3.out.A _ tl hsrc HTS.out HTL.out x' es' hf
        clear hf hqq HR12 hsrc HTS HTL
        go_wp2_with fail
        refine FD.mono ?_
        rintro e w13 ⟨S13,rv,rfl,-,HL13,HG13,-⟩
        clear FD
        have HRB4:=Sl.mk (HRB3.out.stepA HL13.out HG13.out)
        clear HRB3 HL13 HG13
        have HEU:EvsAt w13 (.slice (some ⟨bk,ob,none⟩) m1 tc) (s.map (fun t=>(⟨2,0,t⟩:Ev))):=by
         have h6:=EvsAt.to HRB4.out.O.evs (k:=m1) (c:=tc) (by omega) (by have:=et2;omega)
         rw [List.take_left' (by rw [List.length_map];exact HM1.out.1)] at h6
         exact h6
        have S10:=esame_any (s.map (fun t=>(⟨2,0,t⟩:Ev))) (.slice (some ⟨bk,ob,none⟩) m1 tc) (.slice va vn vc) w13 HEU HRB4.out.V.evs (by rw [List.length_map,HSL.out];omega)
        clear HEU
        go_wp2_with fail
        refine S10.mono ?_
        rintro e w14 ⟨rfl,HX14⟩
        clear S10
        have HRB5:=Sl.mk (HRB4.out.below HX14.out)
        clear HRB4 HX14
        have W1:=wrong_ex HRB5.out.T 0 (by rw [HYW.out];rfl)
        have W2:=wrong_ex HRB5.out.A 0 (by rw [HXW.out];rfl)
        go_wp2_with fail
        refine W1.mono ?_
        rintro e w15 ⟨rfl,rfl⟩
        clear W1
        go_wp2_with fail
        refine W2.mono ?_
        rintro e w15 ⟨rfl,rfl⟩
        clear W2
        go_wp2
        go_ret
        exact ⟨rfl,HRB5.out.A.low⟩
       ·have Q1:=quiet_ex HRB2.out.A false (decide_eq_false hr)
        obtain ⟨tl,htl⟩:∃ t,x.ring.take (1+(nb:Int)).toNat=t:=⟨_,rfl⟩
        obtain ⟨q,hqq⟩:∃ q,tl.length=q:=⟨_,rfl⟩
        obtain ⟨x',hx'⟩:∃ z,(takeN (cfL a b o false) x (1+(nb:Int))).1=z:=⟨_,rfl⟩
        have TK:=take_ex HRB2.out.A (1+(nb:Int)) tl htl q hqq x' hx'
        obtain ⟨b1,b2,b3⟩:=LegPlain.bo_take HRB2.out.A.cf.f2 HPL2.out.1 (1+(nb:Int))
        have b3':x'.gone=x.gone++tl:=by rw [← hx',← htl];exact b3
        rw [hx'] at b1 b2
        have p1:=(LegPlain.take_pend HRB2.out.A.cf.f2 HRB2.out.A.good.few.low (n:=1+(nb:Int)) (by omega)).1 hr
        have p2:=take_pend2 HRB2.out.A.cf.f2 HRB2.out.A.good.few.low (1+(nb:Int))
        rw [hx'] at p1 p2
        rw [htl] at p2
        have HGP3:Sl (j+1+pend x'≤5000∧x'.gone.length+pend x'≤5000*(k+1)):=⟨by have:=HGP2.out.1;omega,by have:=HGP2.out.2;rw [b3',List.length_append];omega⟩
        have hsm:∀ z∈x'.gone,z<256:=fun z hz=>gone_small HRB2.out.A.cf.f2 b1.few.ok z (List.mem_append_left _ hz)
        have HTS:Sl (Small 256 tl):=⟨fun z hz=>hsm z (by rw [b3'];exact List.mem_append_right _ hz)⟩
        have HTL:Sl (tl.length≤30000):=⟨by have h3:x.ring.length≤1+o:=LegPlain.ring_le HRB2.out.A.good.few.ok;rw [← htl,List.length_take];omega⟩
        obtain ⟨y',es',hf⟩:∃ y' es',feed (cfL a b o true) y tl=(y',es'):=⟨_,_,rfl⟩
        have HBS:Sl (Bst (cfL a b o true) y' x'.gone (es++es')):=⟨by
         have h4:=LegPlain.both_feed HRB2.out.A.cf.f2 HRB2.out.A.cf.m2 b1 HFE.out.1 (b:=y) (G:=x.gone) (r:=tl) (E:=es) HPL2.out.2.1 b3'
         have h5:feed (LegPlain.turned (cfL a b o false)) y tl=(y',es'):=hf
         rw [h5] at h4;exact h4⟩
        have HEL:Sl (es.length+es'.length≤1000000):=⟨by
         have h5:=told_len HBS.out hsm
         rw [List.length_append] at h5
         have:=HGP3.out.2
         omega⟩
        have HPL3:Sl (Bo (cfL a b o false) x' (flt (cfL a b o false) s++[(true,8,dd)])∧Bst (cfL a b o true) y' x'.gone (es++es')∧x'.sent=st):=⟨b1,HBS.out,b2.trans HPL2.out.2.2⟩
        clear hr htl hx' b1 b2 b3 b3' p1 p2 hsm HBS HPL2
        go_wp2_with fail
        refine Q1.mono ?_
        rintro e w11 ⟨rfl,rfl⟩
        clear Q1
        go_wp2_with fail
        refine TK.mono ?_
        rintro e w12 ⟨S12,rfl,HR12,HL12,HG12⟩
        clear TK
        have HRB3:=Sl.mk (HRB2.out.stepA HL12.out HG12.out)
        clear HRB2 HL12 HG12
        have hsrc:=HR12.out.src
        rw [hqq] at hsrc
        have FD:=feed_ex HRB3.out.T _ tl hsrc HTS.out HTL.out y' es' hf
        clear hf hqq HR12 hsrc
        go_wp2_with fail
        refine FD.mono ?_
        rintro e w13 ⟨S13,rv,rfl,HO13,HL13,HG13,-⟩
        clear FD
        have HRB4:=Sl.mk (HRB3.out.stepB HL13.out HG13.out)
        clear HRB3 HL13 HG13
        obtain ⟨ra,rn,rc,rfl⟩:∃ a n c,rv=.slice a n c:=by obtain ⟨a,c,e⟩:=HO13.out.slice;exact ⟨a,_,c,e⟩
        obtain ⟨v14,w14,hap,hO14,hG14,hu14⟩:=add_evs HRB4.out.O HO13.out.evs HEL.out HRB4.out.A.low.size
        have HRB5:=Sl.mk (HRB4.out.toldU hO14 hG14 hu14)
        obtain ⟨ta2,tn2,tc2,rfl⟩:∃ a n c,v14=.slice a n c:=by obtain ⟨a,c,e⟩:=hO14.slice;exact ⟨a,_,c,e⟩
        clear HRB4 HO13 hO14 hG14 hu14 HTS HTL HEL
        go_wp2_with (at_builtin;refine Cut.wpList_appV rfl (.tmp 122) (.tmp 129) 47 47 rfl rfl _ _ (.slice ta2 tn2 tc2) w14 rfl rfl hap ?_)
        go_wp2
        exact ⟨⟨j+1,_,_,_,es++es',x',y',S12,S13,rfl,by go_num,by omega,HGP3,HPL3,HRB5⟩,by simp [intOf];omega⟩
end Go.Proofs.YtlahonjmfecikaaGreatDoor.Leg
