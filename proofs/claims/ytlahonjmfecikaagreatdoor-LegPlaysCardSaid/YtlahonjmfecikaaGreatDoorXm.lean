/- Texts, joined. -/
import Derived.Test.YtlahonjmfecikaaGreatDoorXk
import Derived.Test.YtlahonjmfecikaaGreatDoorXl
set_option maxRecDepth 100000
set_option maxHeartbeats 64000000
set_option linter.unusedVariables false
set_option linter.unusedSimpArgs false
open Go.Proofs.Tryz
namespace Go.Proofs.YtlahonjmfecikaaGreatDoor.jo
open Go.RowKit jS
open aC (Fr dn)
open aj (Cf Lg)
open jG (bM gU gQ)
open aj (lC bQ fill mv dN dD ni AQ iI gV)
open aG (eY dI)
theorem Qm {K:Kf} {c:Cf} {l:Lg} {inp:ByteArray} {fa:Option Addr} {fn fc:Nat} {ca:Option Addr} {cn cc:Nat} {ra:Option Addr} {rn rc:Nat} {W:World} (h:DH W c l ca cn cc ra rn rc) (op qq:Int) (s:ByteArray) {P:Nat→Prop} (hP:∀ j,W.heap.size≤j→P j) (hp:PB P ca cn∧PB P ra rn):Calls prog 44 #[.agg (zM K c l inp fa fn fc ca cn cc ra rn rc),.agg #[.int .i64 op,.int .i64 qq,.string s]] W fun e w'=>∃ aq ar aD aw az aE,e=.returned (.tuple #[.agg (zM K c ((aj.send c l op (bytes s)).1) inp fa fn fc aq ar aD aw az aE),.bool (aj.send c l op (bytes s)).2])∧Sl (aS w' (.slice aq ar aD) (aj.send c l op (bytes s)).1.aQ∧aS w' (.slice aw az aE) (aj.send c l op (bytes s)).1.rest)∧Sl (Below W.heap.size W w')∧Sl (PB P aq ar∧PB P aw az):=by
 have HP:=Sl.mk hP;have oT:=Sl.mk hp;clear hP hp;obtain ⟨eC,bN⟩:=zX (aj.send c l op (bytes s));rw [bN];have js:=Sl.mk bN;clear bN;obtain ⟨w1,bA,dc,ey⟩:=zY W (zM K c l inp fa fn fc ca cn cc ra rn rc) 36;obtain ⟨we,t6,Bwe,Xwe⟩:=zY w1 #[.int .i64 op,.int .i64 qq,.string s] 52;obtain ⟨w2,cE,fY,jN⟩:=zY we zD 36;have eI:w1.heap.size=W.heap.size+1:=by rw [← bA,aP]
 have hze:we.heap.size=w1.heap.size+1:=by rw [← t6,aP]
 have cA:MX W w2 W.heap.size we.heap.size (zM K c l inp fa fn fc ca cn cc ra rn rc) zD:=⟨ay (ay ey Bwe) fY,jN,(dc.trans (Bwe.mono dc.size)).trans (fY.mono (by omega)),aY _,by omega,by omega⟩;have Xe:=ay Xwe fY;obtain ⟨b1,cM⟩:=zX W.heap.size;obtain ⟨be,Kb⟩:=zX w1.heap.size;obtain ⟨b2,cG⟩:=zX we.heap.size;rw [cM,cG] at cA;rw [Kb] at Xe;have cA:=Sl.mk cA;have Fi:=Sl.mk Xe;have sY:Sl (be≠b1∧be≠b2):=⟨by omega⟩;clear ey jN Xwe dc fY Bwe eI hze Xe;obtain ⟨fb,il⟩:=zX (!l.am&&!l.dA&&((l.ag:Int)==0)&&((rn:Int)==0));have fk:aj.free l=fb:=by
  rw [← il];unfold aj.free;have h1:=h.S.cap.1;have e1:decide (l.ag=0)=((l.ag:Int)==0):=by by_cases e:l.ag=0<;>simp [e]
  have e2:l.rest.isEmpty=((rn:Int)==0):=by
   rw [h1];cases l.rest<;>simp;omega
  rw [e1,e2]
 have FR:=E7 K c l.bu inp fa fn fc (aF l.aK) (aF l.tail) ca cn cc ra rn rc l.am l.dA (l.ag:Int) w2;rw [il] at FR;have HH:=Sl.mk h;clear h il;go_enter func44,ntmps44;go_upto_region 1 with fail
 (try rw [bA]);(try rw [t6]);(try rw [cE]);(try rw [cM]);(try rw [Kb]);(try rw [cG]);clear bA t6 cE cM Kb cG;go_wp2_with (refine uY rfl 36 (.tmp 2) rfl b1 rfl 36 _ (0,0) _ cA.ah.X underlying36 rfl (aX rfl) ?_)
 refine FR.mono ?_;rintro e w3 ⟨rfl,bv⟩;clear FR;have eO:=Sl.mk (cA.ah.below bv.ah);obtain ⟨c0,c1,c2⟩:=jG.iq (ay Fi.ah bv.ah);have k3:w3.cell? ⟨b1,3,none⟩=some (.int .i64 (c.bh:Int)):=bP.aB eO.ah.X 3 _ rfl;have dk:Sl (aS w3 (.slice ca cn cc) l.aQ∧aS w3 (.slice ra rn rc) l.rest):=⟨HH.ah.C.below eO.ah.L,HH.ah.S.below eO.ah.L⟩;clear cA Fi bv;by_cases fh:aj.free l=true∧(op=1∨op=2)∧(bytes s).length≤c.bh
 ·obtain ⟨Fs,hFs⟩:=zX (cO.jr c.bR op (bytes s))
  obtain ⟨Sd,hSd⟩:=zX (l.bX++[(op,bytes s)]);obtain rfl:eC=(aj.move c {l with rest:=Fs,bX:=Sd},true):=by rw [← js.ah];unfold aj.send;rw [if_pos fh,hFs,hSd]
  obtain rfl:fb=true:=by rw [← fk];exact fh.1
  have gh:s.size≤c.bh:=by rw [← au];exact fh.2.2
  have g3:((s.size:Int)>(c.bh:Int))=False:=dR (by omega);have g4:decide ((s.size:Int)>(c.bh:Int))=false:=iQ (by omega);have cY:=fh.2.1;have k4:w3.cell? ⟨b1,4,none⟩=some (.int .i64 (c.bR:Int)):=bP.aB eO.ah.X 4 _ rfl;have FX:=iL.Jy op s c.bR w3 cY (by have:=HH.ah.ok.m2;omega) ⟨HH.ah.ok.f1,HH.ah.ok.f2⟩;have HIR:Sl (∀ f∈(cO.jr c.bR op (bytes s)),aj.Aj c.bR f):=⟨aj.qM HH.ah.ok.f1 cY (bytes s) (aJ s)⟩;rw [hFs] at FX HIR;clear fh fk gh hFs hSd;rcases cY with rfl | rfl;all_goals
   go_wp2_with fail
   refine FX.mono ?_;rintro e w4 ⟨ra4,rn4,rc4,rfl,-,SW,br⟩;have DE:=Sl.mk SW.ah.jr;have Kc:Sl (PB P ra4 rn4):=⟨Bc SW.ah (PU HP.ah eO.ah.L)⟩;clear SW;clear FX c0 c1 c2 k3 k4;have gS:=Sl.mk (eO.ah.below br.ah);have Ye:=bP.aB gS.ah.X 19 _ rfl;have f19:=gS.ah.fF 19;have eN:=Sl.mk (gS.ah.set 19 (.slice ra4 rn4 rc4) rfl);have xd:=aH w4 b1 19 (.slice ra4 rn4 rc4);obtain ⟨w5,dq⟩:=zX (w4.setCell ⟨b1,19,none⟩ (.slice ra4 rn4 rc4));rw [dq] at eN xd;have HD5:DH w5 c {l with rest:=Fs,bX:=Sd} ca cn cc ra4 rn4 rc4:=⟨HH.ah.C.below eN.ah.L,by rw [← dq];exact pF gS.ah DE.ah,⟨HH.ah.I.bytes,HH.ah.I.bE,HH.ah.I.aQ,HIR.ah,HH.ah.I.aK⟩,HH.ah.T,HH.ah.D,HH.ah.ok,HH.ah.n⟩;have MV:=qw (K:=K) (inp:=inp) (fa:=fa) (fn:=fn) (fc:=fc) HD5 ⟨oT.ah.1,Kc.ah⟩;go_upto_region 4 with fail
   (try rw [dq]);clear dq xd HD5 gS eO DE br Ye f19;go_wp2_with (refine uY rfl 36 (.tmp 2) rfl b1 rfl 36 _ (0,0) _ eN.ah.X underlying36 rfl (aX rfl) ?_)
   refine MV.mono ?_;rintro e wm ⟨aq,ar,aD,aw,az,aE,rfl,gM,ki,cN⟩;clear MV;have ei:=Sl.mk (eN.ah.below ki.ah);go_wp2_with (refine fG rfl 36 (.tmp 4) (.tmp 42) rfl b2 (zM K c (aj.move c {l with rest:=Fs,bX:=Sd}) inp fa fn fc aq ar aD aw az aE) rfl rfl 36 zD ei.ah.R (aX rfl) rfl (dV ..) ?_)
   have et:=ei.ah.ah (zM K c (aj.move c {l with rest:=Fs,bX:=Sd}) inp fa fn fc aq ar aD aw az aE);(try simp only [Exit.inBlock,Exit.then]);refine gX (iE rfl _ _ b2 _ rfl et.R rfl) rfl ?_;exact ⟨aq,ar,aD,aw,az,aE,rfl,⟨iO ei.ah gM.ah.1,iO ei.ah gM.ah.2⟩,⟨et.L⟩,cN⟩
 ·obtain rfl:eC=(l,false):=by rw [← js.ah];unfold aj.send;rw [if_neg fh]
  have If:fb=false∨(fb=true∧op≠1∧op≠2)∨(fb=true∧op=1∧c.bh<s.size)∨(fb=true∧op=2∧c.bh<s.size):=by
   rw [fk,au] at fh;cases fb with
   | false=>exact .inl rfl
   | true =>
     by_cases o1:op=1
     ·exact .inr (.inr (.inl ⟨rfl,o1,by have:¬ s.size≤c.bh:=fun e=>fh ⟨rfl,.inl o1,e⟩;omega⟩))
     ·by_cases o2:op=2
      ·exact .inr (.inr (.inr ⟨rfl,o2,by have:¬ s.size≤c.bh:=fun e=>fh ⟨rfl,.inr o2,e⟩;omega⟩))
      ·exact .inr (.inl ⟨rfl,o1,o2⟩)
  have afO:fb=false∨(fb=true∧(op != 1)=true∧(op != 2)=true)∨(fb=true∧op=1∧((s.size:Int)>(c.bh:Int))=True)∨(fb=true∧op=2∧((s.size:Int)>(c.bh:Int))=True):=by
   rcases If with e | ⟨e1,e2,e3⟩ | ⟨e1,e2,e3⟩ | ⟨e1,e2,e3⟩
   ·exact .inl e
   ·exact .inr (.inl ⟨e1,by simp [e2],by simp [e3]⟩)
   ·exact .inr (.inr (.inl ⟨e1,e2,eq_true (by omega)⟩))
   ·exact .inr (.inr (.inr ⟨e1,e2,eq_true (by omega)⟩))
  clear fh fk If;rcases afO with rfl | ⟨rfl,d1,d2⟩ | ⟨rfl,rfl,d1⟩ | ⟨rfl,rfl,d1⟩;all_goals
   go_upto_region 2 with fail
   clear c0 c1 c2 k3;go_wp2_with (first
    | (refine uY rfl 36 (.tmp 2) rfl b1 rfl 36 _ (0,0) _ eO.ah.X underlying36 rfl (aX rfl) ?_)
    | (refine fG rfl 36 (.tmp 4) (.tmp 28) rfl b2 (zM K c l inp fa fn fc ca cn cc ra rn rc) rfl rfl 36 zD eO.ah.R (aX rfl) rfl (dV ..) ?_))
   have et:=eO.ah.ah (zM K c l inp fa fn fc ca cn cc ra rn rc);(try simp only [Exit.inBlock,Exit.then]);refine gX (iE rfl _ _ b2 _ rfl et.R rfl) rfl ?_;exact ⟨ca,cn,cc,ra,rn,rc,rfl,⟨iO eO.ah dk.ah.1,iO eO.ah dk.ah.2⟩,⟨et.L⟩,oT⟩
end Go.Proofs.YtlahonjmfecikaaGreatDoor.jo
