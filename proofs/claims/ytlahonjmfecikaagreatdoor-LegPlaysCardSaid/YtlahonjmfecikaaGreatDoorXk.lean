/- Texts, joined. -/
import Derived.Test.YtlahonjmfecikaaGreatDoorXg
import Derived.Test.YtlahonjmfecikaaGreatDoorXj
set_option maxRecDepth 100000
set_option maxHeartbeats 64000000
set_option linter.unusedVariables false
set_option linter.unusedSimpArgs false
open Go.Proofs.Tryz
namespace Go.Proofs.YtlahonjmfecikaaGreatDoor.jo
open Go.RowKit jS
open aC (Fr dn)
open aj (Cf Lg)
open jG (bM gU gQ)
open aj (lC bQ fill mv dN dD ni AQ iI gV)
open aG (eY dI)
section
variable {c:Cf} {l:Lg} {cn cc rn b1 dr fc:Nat} {ra fa:Option Addr} {W W' w0:World} {cs:Array Value} {K:Kf} {inp rg tl:ByteArray} {am:Bool} {ag:Int} {P:Nat→Prop}
structure DH (W:World) (c:Cf) (l:Lg) (ca:Option Addr) (cn cc:Nat) (ra:Option Addr) (rn rc:Nat):Prop where
 C:aS W (.slice ca cn cc) l.aQ
 S:aS W (.slice ra rn rc) l.rest
 I:lC c l
 T:l.tail.length≤14+max c.bR 125
 D:l.bu<4294967296
 ok:iI c
 n:l.aQ.length≤1001
theorem DH.below {ca:Option Addr} {rc:Nat} (h:DH W c l ca cn cc ra rn rc) (k:Below W.heap.size W W'):DH W' c l ca cn cc ra rn rc:=⟨h.C.below k,h.S.below k,h.I,h.T,h.D,h.ok,h.n⟩
theorem MX.grown {b2:Nat} {zs:Array Value} {r:Option Nat} (h:MX w0 W b1 b2 cs zs) (g:W.grownBy W' r) (hr:∀ k,r=some k→b1≠k∧b2≠k∧w0.heap.size≤k):MX w0 W' b1 b2 cs zs:=by
 have hk:bM (fun j=>r=some j) W W':=bM.grown g (fun j e=>e);refine ⟨?_,?_,hk.up h.L (fun j e=>(hr j e).2.2) h.L.size,h.g1,h.g2,h.ne⟩
 ·rw [hk.block b1 (zl h.X) (fun e=>(hr _ e).1 rfl)];exact h.X
 ·rw [hk.block b2 (zl h.R) (fun e=>(hr _ e).2.1 rfl)];exact h.R
theorem Xg:∀ (t:Nat) (a c:Bool) (b:Int),(#[.slice none 0 0,.slice none 0 0,.int .i64 0,.int .i64 0,.int .i64 0,.int .i64 0,.int .i64 0,.int .i64 0,.int .i64 0,.int .i64 0,.int .i64 0,.int .i64 0,.bool false,.int .u32 0,.string {data:=#[]},.slice none 0 0,.string {data:=#[]},.string {data:=#[]},.slice none 0 0,.slice none 0 0,.bool false,.bool false,.int .i64 0]:Array Value)[t]? = some (.bool a)→(#[.slice none 0 0,.slice none 0 0,.int .i64 0,.int .i64 0,.int .i64 0,.int .i64 0,.int .i64 0,.int .i64 0,.int .i64 0,.int .i64 0,.int .i64 0,.int .i64 0,.bool false,.int .u32 0,.string {data:=#[]},.slice none 0 0,.string {data:=#[]},.string {data:=#[]},.slice none 0 0,.slice none 0 0,.bool false,.bool false,.int .i64 0]:Array Value)[t+1]? = some (.int .i64 b)→(#[.slice none 0 0,.slice none 0 0,.int .i64 0,.int .i64 0,.int .i64 0,.int .i64 0,.int .i64 0,.int .i64 0,.int .i64 0,.int .i64 0,.int .i64 0,.int .i64 0,.bool false,.int .u32 0,.string {data:=#[]},.slice none 0 0,.string {data:=#[]},.string {data:=#[]},.slice none 0 0,.slice none 0 0,.bool false,.bool false,.int .i64 0]:Array Value)[t+2]? = some (.bool c)→False:=fun t a c b h1 h2 h3=>by
 rcases t with _ | _ | _ | _ | _ | _ | _ | _ | _ | _ | _ | _ | _ | _ | _ | _ | _ | _ | _ | _ | _ | _ | _ | t;all_goals first
  | (simp at h1;done)
  | (simp at h2;done)
  | (simp at h3;done)
theorem iO {b2:Nat} {zs':Array Value} (h:MX w0 W b1 b2 cs zD):∀ {v:Value} {fs:List Fr},aS W v fs→aS (W.setRow b2 zs') v fs:=fun {v} {fs} hf=>by
 obtain ⟨a,cap,sb,so,e1,e2,e3,e4⟩:=hf;refine ⟨a,cap,sb,so,e1,e2,e3,fun i hi j hj=>?_⟩;have h1:=e4 i hi j hj;by_cases hb:sb=b2
 ·subst hb
  exfalso;have g0:=e4 i hi 0 (by decide);have g1:=e4 i hi 1 (by decide);have g2:=e4 i hi 2 (by decide);rw [jg _ _ _ _ _ _ h.R] at g0 g1 g2;exact Xg (so+i*8) _ _ _ g0 g1 g2
 ·rw [← h1]
  exact DV (w:=W) (qC _ _ _ _ hb)
theorem Uw (K:Kf) (c:Cf) (dr:Nat) (inp:ByteArray) (fa:Option Addr) (fn fc:Nat) (rg tl:ByteArray) (ca:Option Addr) (cn cc:Nat) (ra:Option Addr) (rn rc:Nat) (am dA:Bool) (ag:Int):∀ (t:Nat) (a y:Bool) (b:Int),(#[.slice K.ra K.rn K.rc,.slice K.oa K.on K.oc,.int .i64 K.z2,.int .i64 (c.bh:Int),.int .i64 (c.bR:Int),.int .i64 K.z5,.int .i64 K.z6,.int .i64 (c.ah:Int),.int .i64 K.z8,.int .i64 K.z9,.int .i64 K.I0,.int .i64 K.I1,.bool c.af,.int .u32 (dr:Int),.string inp,.slice fa fn fc,.string rg,.string tl,.slice ca cn cc,.slice ra rn rc,.bool am,.bool dA,.int .i64 ag]:Array Value)[t]? = some (.bool a)→(#[.slice K.ra K.rn K.rc,.slice K.oa K.on K.oc,.int .i64 K.z2,.int .i64 (c.bh:Int),.int .i64 (c.bR:Int),.int .i64 K.z5,.int .i64 K.z6,.int .i64 (c.ah:Int),.int .i64 K.z8,.int .i64 K.z9,.int .i64 K.I0,.int .i64 K.I1,.bool c.af,.int .u32 (dr:Int),.string inp,.slice fa fn fc,.string rg,.string tl,.slice ca cn cc,.slice ra rn rc,.bool am,.bool dA,.int .i64 ag]:Array Value)[t+1]? = some (.int .i64 b)→(#[.slice K.ra K.rn K.rc,.slice K.oa K.on K.oc,.int .i64 K.z2,.int .i64 (c.bh:Int),.int .i64 (c.bR:Int),.int .i64 K.z5,.int .i64 K.z6,.int .i64 (c.ah:Int),.int .i64 K.z8,.int .i64 K.z9,.int .i64 K.I0,.int .i64 K.I1,.bool c.af,.int .u32 (dr:Int),.string inp,.slice fa fn fc,.string rg,.string tl,.slice ca cn cc,.slice ra rn rc,.bool am,.bool dA,.int .i64 ag]:Array Value)[t+2]? = some (.bool y)→False:=fun t a y b h1 h2 h3=>by
 rcases t with _ | _ | _ | _ | _ | _ | _ | _ | _ | _ | _ | _ | _ | _ | _ | _ | _ | _ | _ | _ | _ | _ | _ | t;all_goals first
  | (simp at h1;done)
  | (simp at h2;done)
  | (simp at h3;done)
theorem zf {b2:Nat} {fn:Nat} {ca:Option Addr} {rc:Nat} {dA:Bool} {zs rx:Array Value} (h:MX w0 W b1 b2 (zL K c (dr:Int) inp fa fn fc rg tl ca cn cc ra rn rc am dA ag) zs):∀ {v:Value} {fs:List Fr},aS W v fs→aS (W.setRow b1 rx) v fs:=fun {v} {fs} hf=>by
 obtain ⟨a,cap,sb,so,e1,e2,e3,e4⟩:=hf;refine ⟨a,cap,sb,so,e1,e2,e3,fun i hi j hj=>?_⟩;have h1:=e4 i hi j hj;by_cases hb:sb=b1
 ·subst hb
  exfalso;have g0:=e4 i hi 0 (by decide);have g1:=e4 i hi 1 (by decide);have g2:=e4 i hi 2 (by decide);rw [jg _ _ _ _ _ _ h.X] at g0 g1 g2;exact Uw _ _ _ _ _ _ _ _ _ _ _ _ _ _ _ _ _ _ (so+i*8) _ _ _ g0 g1 g2
 ·rw [← h1]
  exact DV (w:=W) (qC _ _ _ _ hb)
theorem pF {b2:Nat} {fn:Nat} {ca:Option Addr} {rc:Nat} {dA:Bool} {zs:Array Value} {ix:Nat} {u:Value} (h:MX w0 W b1 b2 (zL K c (dr:Int) inp fa fn fc rg tl ca cn cc ra rn rc am dA ag) zs):∀ {v:Value} {fs:List Fr},aS W v fs→aS (W.setCell ⟨b1,ix,none⟩ u) v fs:=fun {v} {fs} hf=>by
 obtain ⟨a,cap,sb,so,e1,e2,e3,e4⟩:=hf;refine ⟨a,cap,sb,so,e1,e2,e3,fun i hi j hj=>?_⟩;have h1:=e4 i hi j hj;by_cases hb:sb=b1
 ·subst hb
  exfalso;have g0:=e4 i hi 0 (by decide);have g1:=e4 i hi 1 (by decide);have g2:=e4 i hi 2 (by decide);rw [jg _ _ _ _ _ _ h.X] at g0 g1 g2;exact Uw _ _ _ _ _ _ _ _ _ _ _ _ _ _ _ _ _ _ (so+i*8) _ _ _ g0 g1 g2
 ·rw [← h1]
  exact DV (w:=W) (pI _ _ _ _ hb)
theorem Fb:type_of% @Go.Proofs.YtlahonjmfecikaaGreatDoor.iL.wY:=@Go.Proofs.YtlahonjmfecikaaGreatDoor.iL.wY
theorem Ux (c:Cf) (l:Lg):(aj.move c l).am=l.am∧(aj.move c l).dA=l.dA∧(aj.move c l).ag=l.ag:=by
 obtain ⟨k,h1,_,_⟩:=aj.oU c (l.aQ.length+l.rest.length) l;exact ⟨h1,k.dA,k.ag⟩
theorem qw {fn:Nat} {ca:Option Addr} {rc:Nat} (h:DH W c l ca cn cc ra rn rc) (hp:PB P ca cn∧PB P ra rn):Calls prog 79 #[.agg #[.slice K.ra K.rn K.rc,.slice K.oa K.on K.oc,.int .i64 K.z2,.int .i64 (c.bh:Int),.int .i64 (c.bR:Int),.int .i64 K.z5,.int .i64 K.z6,.int .i64 (c.ah:Int),.int .i64 K.z8,.int .i64 K.z9,.int .i64 K.I0,.int .i64 K.I1,.bool c.af,.int .u32 (l.bu:Int),.string inp,.slice fa fn fc,.string (aF l.aK),.string (aF l.tail),.slice ca cn cc,.slice ra rn rc,.bool l.am,.bool l.dA,.int .i64 (l.ag:Int)]] W fun e w'=>∃ aq ar aD aw az aE,e=.returned (.agg #[.slice K.ra K.rn K.rc,.slice K.oa K.on K.oc,.int .i64 K.z2,.int .i64 (c.bh:Int),.int .i64 (c.bR:Int),.int .i64 K.z5,.int .i64 K.z6,.int .i64 (c.ah:Int),.int .i64 K.z8,.int .i64 K.z9,.int .i64 K.I0,.int .i64 K.I1,.bool c.af,.int .u32 ((aj.move c l).bu:Int),.string inp,.slice fa fn fc,.string (aF (aj.move c l).aK),.string (aF (aj.move c l).tail),.slice aq ar aD,.slice aw az aE,.bool (aj.move c l).am,.bool (aj.move c l).dA,.int .i64 ((aj.move c l).ag:Int)])∧Sl (aS w' (.slice aq ar aD) (aj.move c l).aQ∧aS w' (.slice aw az aE) (aj.move c l).rest)∧Sl (Below W.heap.size W w')∧Sl (PB P aq ar∧PB P aw az):=by
 obtain ⟨m1,m2,m3⟩:=Ux c l;rw [m1,m2,m3];refine (Qe K c l inp fa fn fc ca cn cc ra rn rc l.am l.dA (l.ag:Int) W h.C h.S h.I h.T h.ok.f2 h.D (by have:=h.ok.o2;omega) hp.1 hp.2).mono ?_;rintro e w' ⟨aq,ar,aD,aw,az,aE,rfl,H1,H2,H3⟩;exact ⟨aq,ar,aD,aw,az,aE,rfl,⟨H1.ah.1.below H2.ah,H1.ah.2.below H2.ah⟩,H2,H3⟩
theorem PU {V:World} (h:∀ j,W.heap.size≤j→P j) (b:Below W.heap.size W V):∀ j,V.heap.size≤j→P j:=fun j e=>h j (jd b.size e)
theorem Bc {base:Nat} {a:Option Addr} {n k:Nat} {fs:List Fr} (h:gZ W base (.slice a n k) fs) (hP:∀ j,base≤j→P j) {m:Nat} : PB P a m:=fun _ x e=>by
 rcases h.2 with ⟨e2,_⟩ | ⟨g,cap,fI,e2,hb,_⟩
 ·injection e2 with e3;rw [e] at e3;cases e3
 ·injection e2 with e3;rw [e] at e3;injection e3 with e3;rw [e3];exact hP _ hb
theorem qU {fn:Nat} {ca:Option Addr} {rc:Nat} (h:DH W c l ca cn cc ra rn rc) (k:Nat) (s:ByteArray) (hk:k=8∨k=9∨k=10) (hs:s.size≤125) (hn:l.aQ.length≤1000) (hP:∀ j,W.heap.size≤j→P j) (hp:PB P ca cn∧PB P ra rn):Calls prog 80 #[.agg (zM K c l inp fa fn fc ca cn cc ra rn rc),.int .i64 (k:Int),.string s] W fun e w'=>∃ aq ar aD aw az aE,e=.returned (.agg (zM K c (aj.control c l (k:Int) (bytes s)) inp fa fn fc aq ar aD aw az aE))∧Sl (aS w' (.slice aq ar aD) (aj.control c l (k:Int) (bytes s)).aQ∧aS w' (.slice aw az aE) (aj.control c l (k:Int) (bytes s)).rest)∧Sl (Below W.heap.size W w')∧Sl (PB P aq ar∧PB P aw az):=by
 have HP:=Sl.mk hP;have oT:=Sl.mk hp;clear hP hp;obtain ⟨w1,bA,dc,ey⟩:=zY W (zM K c l inp fa fn fc ca cn cc ra rn rc) 36;obtain ⟨w2,cE,fY,jN⟩:=zY w1 zD 36;have eI:w1.heap.size=W.heap.size+1:=by rw [← bA,aP]
 have cA:MX W w2 W.heap.size w1.heap.size (zM K c l inp fa fn fc ca cn cc ra rn rc) zD:=⟨ay ey fY,jN,dc.trans (fY.mono dc.size),aY _,dc.size,by omega⟩;obtain ⟨b1,cM⟩:=zX W.heap.size;obtain ⟨b2,cG⟩:=zX w1.heap.size;rw [cM,cG] at cA;have cA:=Sl.mk cA;have dz:w2.heap.size=b2+1:=by rw [← cE,aP,cG]
 have kl:Sl (W.heap.size=b1∧b2=b1+1∧w2.heap.size=b2+1):=⟨cM,by omega,dz⟩;clear ey jN dc fY eI dz;have HH:=Sl.mk h;have hic:aj.D5 (gV (k:Int) (bytes s)):=⟨rfl,by show (k:Int)=8∨(k:Int)=9∨(k:Int)=10;omega,rfl,rfl,by show (bytes s).length≤125;rw [au];exact hs,aJ s⟩;have HI2:Sl (lC c {l with aQ:=l.aQ++[gV (k:Int) (bytes s)]}):=⟨⟨h.I.bytes,h.I.bE,fun f hf=>by
  rcases sN.1 hf with hf | hf
  ·exact h.I.aQ f hf
  ·rw [uF] at hf;rw [hf];exact hic,h.I.rest,h.I.aK⟩⟩
 obtain ⟨w3,cH⟩:=zX (w2.alloc (.cells #[] 61));have B3:Below w2.heap.size w2 w3:=by rw [← cH];exact (dW _ _).alloc (aY _) _
 have O3:gZ w3 w2.heap.size (.slice (some ⟨w2.heap.size,0,none⟩) 0 0) []:=by rw [← cH];exact Fb w2 _ (aY _)
 have eO:=Sl.mk (cA.ah.below B3);have zm:=Sl.mk O3;have N4:Sl (aS w3 (.slice ca cn cc) l.aQ):=⟨h.C.below eO.ah.L⟩;have Ex:w2.heap.size≤w3.heap.size:=B3.size;have Ct:=bP.aB eO.ah.X 18 _ rfl;clear h hic B3 O3 cA;go_enter func80,ntmps80;go_upto_region 1 with fail
 (try rw [bA]);(try rw [cE]);(try rw [cM]);(try rw [cG]);clear bA cE cM cG;go_wp2_with (at_builtin;refine nK rfl (.tmp 7) (.tmp 9) rfl rfl w2.heap.size (.slice (some ⟨w2.heap.size,0,none⟩) 0 0) (.slice ca cn cc) [] l.aQ rfl (by first | exact zm.ah | (rw [cH];exact zm.ah)) rfl (by first | exact N4.ah | (rw [cH];exact N4.ah)) (by have:=HH.ah.n;simp;omega) (by first | exact Ex | (rw [cH];exact Ex)) ?_)
 intro v4 w4 SW oF;(try rw [cH] at oF);have gS:=Sl.mk (eO.ah.grown oF.ah (fun g e=>by
  have e:w2.heap.size=g:=by simpa [Value.ownBlock] using e
  have:=kl.ah;omega))
 have hz4:w3.heap.size≤w4.heap.size:=oF.ah.size;obtain ⟨va,vc,rfl⟩:=SW.ah.slice;obtain ⟨w5,dq,B5,X5⟩:=zY w4 #[.bool true,.int .i64 (k:Int),.bool false,.int .u8 0,.int .u8 0,.int .u8 0,.int .u8 0,.string s] 61;have CC:=SW.ah.below B5;have sL:aS w5 (.slice (some ⟨w4.heap.size,0,none⟩) 1 1) [gV (k:Int) (bytes s)]:=mP X5 (by unfold cv aj.gV;rw [bT];rfl);have eN:=Sl.mk (gS.ah.below B5);have hz5:w2.heap.size≤w5.heap.size:=by have:=B5.size;omega
 have Ct:=bP.aB eN.ah.X 18 _ rfl;have f18:=eN.ah.fF 18;have sy:l.aQ.length+1≤1000000:=by have:=HH.ah.n;omega
 clear zm N4 oF eO gS SW B5 X5 cH;go_wp2_with (at_builtin;refine nK rfl (.tmp 10) (.tmp 14) rfl rfl w2.heap.size (.slice va l.aQ.length vc) (.slice (some ⟨w4.heap.size,0,none⟩) 1 1) l.aQ [gV (k:Int) (bytes s)] rfl (by first | exact CC | (rw [dq];exact CC)) rfl (by first | exact sL | (rw [dq];exact sL)) sy (by first | exact hz5 | (rw [dq];exact hz5)) ?_)
 intro v6 w6 jj gL;(try rw [dq] at gL);have fi:=Sl.mk (eN.ah.grown gL.ah (fun g e=>by
  have:=CC.ge e;have:=kl.ah;omega))
 obtain ⟨Ym,vc6,rfl⟩:=jj.ah.slice;have J1:aS w6 (.slice Ym (l.aQ++[gV (k:Int) (bytes s)]).length vc6) (l.aQ++[gV (k:Int) (bytes s)]):=jj.ah.jr;obtain ⟨nn,Pi⟩:=zX ((l.aQ++[gV (k:Int) (bytes s)]).length);rw [Pi] at J1;(try rw [Pi]);have Ct:=bP.aB fi.ah.X 18 _ rfl;have f18:=fi.ah.fF 18;have ej:=Sl.mk (fi.ah.set 18 (.slice Ym nn vc6) rfl);have J2:=aH w6 b1 18 (.slice Ym nn vc6);obtain ⟨w7,gk⟩:=zX (w6.setCell ⟨b1,18,none⟩ (.slice Ym nn vc6));rw [gk] at ej J2;have HD7:DH w7 c {l with aQ:=l.aQ++[gV (k:Int) (bytes s)]} Ym nn vc6 ra rn rc:=⟨J1.grown J2 (fun g e e2=>by
  have h1:=jj.ah.ge (g:=g) (by rw [Pi];exact e);injection e2 with e2
  have:=kl.ah;omega),HH.ah.S.below ej.ah.L,HI2.ah,HH.ah.T,HH.ah.D,HH.ah.ok,by show (l.aQ++[_]).length≤1001;rw [jB];simp;omega⟩
 have hlw:Below W.heap.size W w7:=ej.ah.L;have HPV:Sl (PB P Ym nn∧PB P ra rn):=⟨Bc jj.ah (fun j hj=>HP.ah j (by have:=kl.ah;omega)),oT.ah.2⟩;clear fi eN jj gL CC sL J1 J2 Pi dq sy;go_upto_region 2 with fail
 (try rw [gk]);clear gk Ct f18;have MV:=qw (K:=K) (inp:=inp) (fa:=fa) (fn:=fn) (fc:=fc) HD7 HPV.ah;go_wp2_with (refine uY rfl 36 (.tmp 3) rfl b1 rfl 36 _ (0,0) _ ej.ah.X underlying36 rfl (aX rfl) ?_)
 refine MV.mono ?_;rintro e wm ⟨aq,ar,aD,aw,az,aE,rfl,gM,ki,cN⟩;clear MV;have ei:=Sl.mk (ej.ah.below ki.ah);go_wp2_with (refine fG rfl 36 (.tmp 6) (.tmp 18) rfl b2 (zM K c (aj.move c {l with aQ:=l.aQ++[gV (k:Int) (bytes s)]}) inp fa fn fc aq ar aD aw az aE) rfl rfl 36 zD ei.ah.R (aX rfl) rfl (dV ..) ?_)
 have et:=ei.ah.ah (zM K c (aj.move c {l with aQ:=l.aQ++[gV (k:Int) (bytes s)]}) inp fa fn fc aq ar aD aw az aE);(try simp only [Exit.inBlock,Exit.then]);refine gX (sJ rfl _ _ b2 _ rfl et.R rfl) rfl ?_;exact ⟨aq,ar,aD,aw,az,aE,rfl,⟨iO ei.ah gM.ah.1,iO ei.ah gM.ah.2⟩,⟨et.L⟩,cN⟩
end
section
variable {K:Kf} {c:Cf} {l:Lg} {inp:ByteArray} {fa ra:Option Addr} {fc cn cc rn:Nat} {W:World} {P:Nat→Prop}
theorem Qj {fn:Nat} {ca:Option Addr} {rc:Nat} (h:DH W c l ca cn cc ra rn rc) (s:ByteArray) (hn:l.aQ.length≤1000) (hP:∀ j,W.heap.size≤j→P j) (hp:PB P ca cn∧PB P ra rn):Calls prog 45 #[.agg (zM K c l inp fa fn fc ca cn cc ra rn rc),.string s] W fun e w'=>∃ aq ar aD aw az aE,e=.returned (.tuple #[.agg (zM K c ((aj.jW c l (bytes s)).1) inp fa fn fc aq ar aD aw az aE),.bool (aj.jW c l (bytes s)).2])∧Sl (aS w' (.slice aq ar aD) (aj.jW c l (bytes s)).1.aQ∧aS w' (.slice aw az aE) (aj.jW c l (bytes s)).1.rest)∧Sl (Below W.heap.size W w')∧Sl (PB P aq ar∧PB P aw az):=by
 have HP:=Sl.mk hP;have oT:=Sl.mk hp;clear hP hp;obtain ⟨w1,bA,dc,ey⟩:=zY W (zM K c l inp fa fn fc ca cn cc ra rn rc) 36;obtain ⟨w2,cE,fY,jN⟩:=zY w1 zD 36;have eI:w1.heap.size=W.heap.size+1:=by rw [← bA,aP]
 have cA:MX W w2 W.heap.size w1.heap.size (zM K c l inp fa fn fc ca cn cc ra rn rc) zD:=⟨ay ey fY,jN,dc.trans (fY.mono dc.size),aY _,dc.size,by omega⟩;obtain ⟨b1,cM⟩:=zX W.heap.size;obtain ⟨b2,cG⟩:=zX w1.heap.size;rw [cM,cG] at cA;have cA:=Sl.mk cA;have dz:w2.heap.size=b2+1:=by rw [← cE,aP,cG]
 have kl:Sl (W.heap.size=b1∧b2=b1+1∧w2.heap.size=b2+1):=⟨cM,by omega,dz⟩;clear ey jN dc fY eI dz;have dk:Sl (aS w2 (.slice ca cn cc) l.aQ∧aS w2 (.slice ra rn rc) l.rest):=⟨h.C.below cA.ah.L,h.S.below cA.ah.L⟩;have HH:=Sl.mk h;obtain ⟨sn,pi⟩:=zX l.am;obtain ⟨gt,sg⟩:=zX l.dA;obtain ⟨wz,fq⟩:∃ z:Int,(l.ag:Int)=z:=⟨_,rfl⟩;have Mq:w2.cell? ⟨b1,20,none⟩=some (.bool l.am):=bP.aB cA.ah.X 20 _ rfl;have R0:w2.cell? ⟨b1,21,none⟩=some (.bool l.dA):=bP.aB cA.ah.X 21 _ rfl;have Yg:w2.cell? ⟨b1,22,none⟩=some (.int .i64 (l.ag:Int)):=bP.aB cA.ah.X 22 _ rfl;rw [pi] at Mq;rw [sg] at R0;rw [fq] at Yg;by_cases fh:l.am=true∨l.dA=true∨l.ag≠0∨125<(bytes s).length
 ·have hr:(aj.jW c l (bytes s))=(l,false):=by unfold aj.jW;rw [if_pos fh]
  rw [hr];obtain ⟨z3,h3⟩:=zX (wz != 0);obtain ⟨z4,h4⟩:=zX (decide ((s.size:Int)>125));have If:¬ (sn=false∧gt=false∧z3=false∧z4=false):=fun e=>by
   obtain ⟨e1,e2,e3,e4⟩:=e;rw [e1] at pi;rw [e2] at sg;rw [e3] at h3;rw [e4] at h4;rw [au] at fh;have h4:=of_decide_eq_false h4;have h3:wz=0:=by simpa using h3
   rcases fh with g | g | g | g
   ·rw [pi] at g;cases g
   ·rw [sg] at g;cases g
   ·omega
   ·omega
  clear h fh hr pi sg fq;go_enter func45,ntmps45;go_upto_region 1 with fail
  (try rw [bA]);(try rw [cE]);(try rw [cM]);(try rw [cG]);clear bA cE cM cG;cases sn<;>cases gt<;>cases z3<;>cases z4
  all_goals first
   | exact absurd ⟨rfl,rfl,rfl,rfl⟩ If
   | skip
  all_goals
   go_wp2_with (first
    | (refine uY rfl 36 (.tmp 2) rfl b1 rfl 36 _ (0,0) _ cA.ah.X underlying36 rfl (aX rfl) ?_)
    | (refine fG rfl 36 (.tmp 4) (.tmp 22) rfl b2 (zM K c l inp fa fn fc ca cn cc ra rn rc) rfl rfl 36 zD cA.ah.R (aX rfl) rfl (dV ..) ?_))
   have et:=cA.ah.ah (zM K c l inp fa fn fc ca cn cc ra rn rc);(try simp only [Exit.inBlock,Exit.then]);refine gX (iE rfl _ _ b2 _ rfl et.R rfl) rfl ?_;exact ⟨ca,cn,cc,ra,rn,rc,rfl,⟨iO cA.ah dk.ah.1,iO cA.ah dk.ah.2⟩,⟨et.L⟩,oT⟩
 ·have hr:(aj.jW c l (bytes s))=(aj.control c l 9 (bytes s),true):=by unfold aj.jW;rw [if_neg fh]
  have h4:s.size≤125:=by rw [← au];omega
  have CT:=qU (K:=K) (inp:=inp) (fa:=fa) (fn:=fn) (fc:=fc) (h.below cA.ah.L) 9 s (.inr (.inl rfl)) h4 hn (PU HP.ah cA.ah.L) oT.ah;rw [hr];obtain rfl:sn=false:=by cases sn;rfl;exact absurd (.inl pi) fh
  obtain rfl:gt=false:=by cases gt;rfl;exact absurd (.inr (.inl sg)) fh
  have Cn:l.ag=0:=DI fun e=>fh (.inr (.inr (.inl e)))
  obtain rfl:wz=0:=by omega
  have h5:decide ((s.size:Int)>125)=false:=iQ (by omega);have h6:((s.size:Int)>125)=False:=dR (by omega);clear h fh hr pi sg Cn fq hn;go_enter func45,ntmps45;go_upto_region 1 with fail
  (try rw [bA]);(try rw [cE]);(try rw [cM]);(try rw [cG]);clear bA cE cM cG;go_wp2_with (refine uY rfl 36 (.tmp 2) rfl b1 rfl 36 _ (0,0) _ cA.ah.X underlying36 rfl (aX rfl) ?_)
  refine CT.mono ?_;rintro e wm ⟨aq,ar,aD,aw,az,aE,rfl,gM,ki,cN⟩;clear CT;have ei:=Sl.mk (cA.ah.below ki.ah);go_wp2_with (refine fG rfl 36 (.tmp 4) (.tmp 25) rfl b2 (zM K c (aj.control c l 9 (bytes s)) inp fa fn fc aq ar aD aw az aE) rfl rfl 36 zD ei.ah.R (aX rfl) rfl (dV ..) ?_)
  have et:=ei.ah.ah (zM K c (aj.control c l 9 (bytes s)) inp fa fn fc aq ar aD aw az aE);(try simp only [Exit.inBlock,Exit.then]);refine gX (iE rfl _ _ b2 _ rfl et.R rfl) rfl ?_;exact ⟨aq,ar,aD,aw,az,aE,rfl,⟨iO ei.ah gM.ah.1,iO ei.ah gM.ah.2⟩,⟨et.L⟩,cN⟩
theorem Dp {fn:Nat} {ca:Option Addr} {rc:Nat} (h:DH W c l ca cn cc ra rn rc) (n:Int) (s:ByteArray) (hL:s.size≤100000) (hn:l.aQ.length≤1000) (hP:∀ j,W.heap.size≤j→P j) (hp:PB P ca cn∧PB P ra rn):Calls prog 46 #[.agg (zM K c l inp fa fn fc ca cn cc ra rn rc),.int .i64 n,.string s] W fun e w'=>∃ aq ar aD aw az aE,e=.returned (.tuple #[.agg (zM K c ((aj.bU c l n (bytes s)).1) inp fa fn fc aq ar aD aw az aE),.bool (aj.bU c l n (bytes s)).2])∧Sl (aS w' (.slice aq ar aD) (aj.bU c l n (bytes s)).1.aQ∧aS w' (.slice aw az aE) (aj.bU c l n (bytes s)).1.rest)∧Sl (Below W.heap.size W w')∧Sl (PB P aq ar∧PB P aw az):=by
 have HP:=Sl.mk hP;have oT:=Sl.mk hp;clear hP hp;obtain ⟨eC,bN⟩:=zX (aj.bU c l n (bytes s));rw [bN];have js:=Sl.mk bN;clear bN;obtain ⟨w1,bA,dc,ey⟩:=zY W (zM K c l inp fa fn fc ca cn cc ra rn rc) 36;obtain ⟨w2,cE,fY,jN⟩:=zY w1 zD 36;have eI:w1.heap.size=W.heap.size+1:=by rw [← bA,aP]
 have cA:MX W w2 W.heap.size w1.heap.size (zM K c l inp fa fn fc ca cn cc ra rn rc) zD:=⟨ay ey fY,jN,dc.trans (fY.mono dc.size),aY _,dc.size,by omega⟩;obtain ⟨b1,cM⟩:=zX W.heap.size;obtain ⟨b2,cG⟩:=zX w1.heap.size;rw [cM,cG] at cA;have cA:=Sl.mk cA;have dz:w2.heap.size=b2+1:=by rw [← cE,aP,cG]
 have kl:Sl (W.heap.size=b1∧b2=b1+1∧w2.heap.size=b2+1):=⟨cM,by omega,dz⟩;clear ey jN dc fY eI dz;have HH:=Sl.mk h;have PT:=Gh.Lt n s w2 hL;obtain ⟨d,hd⟩:=zX ((eY n (bytes s)).1);obtain ⟨pe,hpe⟩:=zX ((eY n (bytes s)).2);rw [hd,hpe] at PT;obtain ⟨pz,hpz⟩:∃ z:Int,(pe:Int)=z:=⟨_,rfl⟩;have PT:Calls prog 81 #[.int .i64 n,.string s] w2 fun e w'=>e=.returned (.tuple #[.string (aF d),.int .i64 pz])∧Sl (Below w2.heap.size w2 w'):=by rw [← hpz];exact PT
 obtain ⟨sn,pi⟩:=zX l.am;have Bw:=Sl.mk pi;have gx:=Sl.mk hpz;have HPE:=Sl.mk hpe;have HD:=Sl.mk hd;clear pi hpz hpe hd;go_enter func46,ntmps46;go_upto_region 1 with fail
 (try rw [bA]);(try rw [cE]);(try rw [cM]);(try rw [cG]);clear bA cE cM cG;go_wp2_with fail
 refine PT.mono ?_;rintro e w3 ⟨rfl,bv⟩;clear PT;have eO:=Sl.mk (cA.ah.below bv.ah);have dk:Sl (aS w3 (.slice ca cn cc) l.aQ∧aS w3 (.slice ra rn rc) l.rest):=⟨h.C.below eO.ah.L,h.S.below eO.ah.L⟩;have Mq:w3.cell? ⟨b1,20,none⟩=some (.bool l.am):=bP.aB eO.ah.X 20 _ rfl;rw [Bw.ah] at Mq;clear cA bv;by_cases fh:l.am=true∨(eY n (bytes s)).2≠0
 ·obtain rfl:eC=(l,false):=by rw [← js.ah];unfold aj.bU;rw [if_pos fh]
  obtain ⟨z3,h3⟩:=zX (pz != 0);have If:¬ (sn=false∧z3=false):=fun e=>by
   obtain ⟨e1,e3⟩:=e;have pi:=Bw.ah;have hpz:=gx.ah;rw [e1] at pi;rw [e3] at h3;have h3:pz=0:=by simpa using h3
   rcases fh with g | g
   ·rw [pi] at g;cases g
   ·rw [HPE.ah] at g;omega
  clear h fh;cases sn<;>cases z3
  all_goals first
   | exact absurd ⟨rfl,rfl⟩ If
   | skip
  all_goals
   go_wp2_with (first
    | (refine uY rfl 36 (.tmp 3) rfl b1 rfl 36 _ (0,0) _ eO.ah.X underlying36 rfl (aX rfl) ?_)
    | (refine fG rfl 36 (.tmp 6) (.tmp 22) rfl b2 (zM K c l inp fa fn fc ca cn cc ra rn rc) rfl rfl 36 zD eO.ah.R (aX rfl) rfl (dV ..) ?_))
   have et:=eO.ah.ah (zM K c l inp fa fn fc ca cn cc ra rn rc);(try simp only [Exit.inBlock,Exit.then]);refine gX (iE rfl _ _ b2 _ rfl et.R rfl) rfl ?_;exact ⟨ca,cn,cc,ra,rn,rc,rfl,⟨iO eO.ah dk.ah.1,iO eO.ah dk.ah.2⟩,⟨et.L⟩,oT⟩
 ·have Cn:pe=0:=DI fun e=>fh (.inr (by rw [HPE.ah];exact e))
  have xe:eY n (bytes s)=(d,0):=Prod.ext HD.ah (by rw [HPE.ah];exact Cn);have pS:d.length≤125∧aU 256 d:=⟨(aG.sW xe).1,aG.je (aJ s) xe⟩;obtain rfl:eC=(aj.control c {l with am:=true,rest:=[],gy:=d} 8 (bytes (aF d)),true):=by rw [← js.ah];unfold aj.bU;rw [if_neg fh,HD.ah,dm d pS.2]
  obtain rfl:sn=false:=by cases sn;rfl;exact absurd (.inl Bw.ah) fh
  obtain rfl:pz=0:=by have:=gx.ah;omega
  have f20:=eO.ah.fF 20;have gS:=Sl.mk (eO.ah.set 20 (.bool true) rfl);obtain ⟨w4,cS⟩:=zX (w3.setCell ⟨b1,20,none⟩ (.bool true));rw [cS] at gS;have Ye:=bP.aB gS.ah.X 19 _ rfl;have f19:=gS.ah.fF 19;have eN:=Sl.mk (gS.ah.set 19 (.slice none 0 0) rfl);obtain ⟨w5,dq⟩:=zX (w4.setCell ⟨b1,19,none⟩ (.slice none 0 0));rw [dq] at eN;have eN:Sl (MX W w5 b1 b2 (zL K c (l.bu:Int) inp fa fn fc (aF l.aK) (aF l.tail) ca cn cc none 0 0 true l.dA (l.ag:Int)) zD):=eN;have HD5:DH w5 c {l with am:=true,rest:=[],gy:=d} ca cn cc none 0 0:=⟨h.C.below eN.ah.L,⟨none,0,0,0,rfl,aY _,fun e=>absurd e (JK _),fun i hi=>absurd hi (Fz _)⟩,⟨h.I.bytes,h.I.bE,h.I.aQ,fun f hf=>absurd hf pJ,h.I.aK⟩,h.T,h.D,h.ok,h.n⟩;have CT:=qU (K:=K) (inp:=inp) (fa:=fa) (fn:=fn) (fc:=fc) HD5 8 (aF d) (.inl rfl) (by rw [cZ];exact pS.1) hn (PU HP.ah eN.ah.L) ⟨oT.ah.1,PB.none _ _⟩;clear h fh Cn hn HD5 pS xe;go_upto_region 5 with fail
  (try rw [cS]);(try rw [dq]);clear eO gS cS dq Mq Ye f20 f19;go_wp2_with (refine uY rfl 36 (.tmp 3) rfl b1 rfl 36 _ (0,0) _ eN.ah.X underlying36 rfl (aX rfl) ?_)
  refine CT.mono ?_;rintro e wm ⟨aq,ar,aD,aw,az,aE,rfl,gM,ki,cN⟩;clear CT;have ei:=Sl.mk (eN.ah.below ki.ah);go_wp2_with (refine fG rfl 36 (.tmp 6) (.tmp 27) rfl b2 (zM K c (aj.control c {l with am:=true,rest:=[],gy:=d} 8 (bytes (aF d))) inp fa fn fc aq ar aD aw az aE) rfl rfl 36 zD ei.ah.R (aX rfl) rfl (dV ..) ?_)
  have et:=ei.ah.ah (zM K c (aj.control c {l with am:=true,rest:=[],gy:=d} 8 (bytes (aF d))) inp fa fn fc aq ar aD aw az aE);(try simp only [Exit.inBlock,Exit.then]);refine gX (iE rfl _ _ b2 _ rfl et.R rfl) rfl ?_;exact ⟨aq,ar,aD,aw,az,aE,rfl,⟨iO ei.ah gM.ah.1,iO ei.ah gM.ah.2⟩,⟨et.L⟩,cN⟩
end
section
variable {K:Kf} {c:Cf} {l:Lg} {inp:ByteArray} {fa ra:Option Addr} {fc cn cc rn:Nat} {W:World} {P:Nat→Prop}
theorem xZ:type_of% @Go.Proofs.YtlahonjmfecikaaGreatDoor.jo.qO:=@Go.Proofs.YtlahonjmfecikaaGreatDoor.jo.qO
theorem Qk {fn:Nat} {ca:Option Addr} {rc:Nat} (h:DH W c l ca cn cc ra rn rc) (n:Int) (hP:∀ j,W.heap.size≤j→P j) (hp:PB P ca cn∧PB P ra rn):Calls prog 47 #[.agg (zM K c l inp fa fn fc ca cn cc ra rn rc),.int .i64 n] W fun e w'=>∃ aq ar aD aw az aE,e=.returned (.tuple #[.agg (zM K c ((aj.jD c l n).1) inp fa fn fc aq ar aD aw az aE),.string (aF (aj.jD c l n).2)])∧Sl (aS w' (.slice aq ar aD) (aj.jD c l n).1.aQ∧aS w' (.slice aw az aE) (aj.jD c l n).1.rest)∧Sl (Below W.heap.size W w')∧Sl (PB P aq ar∧PB P aw az):=by
 have HP:=Sl.mk hP;have oT:=Sl.mk hp;clear hP hp;obtain ⟨N,hN⟩:=zX n.toNat;have GE:(aj.jD c l n)=(aj.move c {l with cj:=l.cj++l.aK.take N,aK:=l.aK.drop N},l.aK.take N):=by unfold aj.jD;rw [hN]
 rw [GE];have bB:aU 256 l.aK:=fun y hy=>by
  have h1:=(aj.xB h.ok.f2 l.bE h.I.bE).2;rw [← h.I.bytes] at h1;exact h1 y (List.mem_append_left _ (WX _ hy))
 have us:(aF l.aK).size=l.aK.length:=cZ _;obtain ⟨m,hm⟩:=zX (min N l.aK.length);have e1:(aF l.aK).extract 0 m=aF (l.aK.take N):=by
  rw [Di _ bB,← hm];congr 1;by_cases hc:N≤l.aK.length
  ·rw [LX hc]
  ·rw [Nat.min_eq_right (by omega),nC (aY _),nC (by omega)]
 have e2:(aF l.aK).extract m (aF l.aK).size=aF (l.aK.drop N):=by
  rw [Jp _ bB,← hm];congr 1;by_cases hc:N≤l.aK.length
  ·rw [LX hc]
  ·rw [Nat.min_eq_right (by omega),Xj (aY _),Xj (by omega)]
 have Wz:m≤(aF l.aK).size:=by rw [us,← hm];exact Nat.min_le_right _ _
 have tw:(n<0∧m=0)∨(0≤n∧(aF l.aK).size<N∧m=(aF l.aK).size)∨(n=(m:Int)):=by
  rw [us];omega
 obtain ⟨S,hS⟩:=zX (aF l.aK);rw [hS] at e1 e2 Wz tw;have Do:∀ V,Below W.heap.size W V→DH V c {l with cj:=l.cj++l.aK.take N,aK:=l.aK.drop N} ca cn cc ra rn rc:=fun V hV=>⟨h.C.below hV,h.S.below hV,⟨by
  show l.cj++l.aK.take N++l.aK.drop N++l.tail=_
  rw [Ae l.cj,Ee];exact h.I.bytes,h.I.bE,h.I.aQ,h.I.rest,by
  show (l.aK.drop N).length≤_
  rw [iP];have:=h.I.aK;omega⟩,h.T,h.D,h.ok,h.n⟩
 obtain ⟨w1,bA,dc,ey⟩:=zY W (zM K c l inp fa fn fc ca cn cc ra rn rc) 36;obtain ⟨w2,cE,fY,jN⟩:=zY w1 zD 36;have eI:w1.heap.size=W.heap.size+1:=by rw [← bA,aP]
 have cA:MX W w2 W.heap.size w1.heap.size (zM K c l inp fa fn fc ca cn cc ra rn rc) zD:=⟨ay ey fY,jN,dc.trans (fY.mono dc.size),aY _,dc.size,by omega⟩;obtain ⟨b1,cM⟩:=zX W.heap.size;obtain ⟨b2,cG⟩:=zX w1.heap.size;rw [cM,cG] at cA;have cA:=Sl.mk cA;have dz:w2.heap.size=b2+1:=by rw [← cE,aP,cG]
 have kl:Sl (W.heap.size=b1∧b2=b1+1∧w2.heap.size=b2+1):=⟨cM,by omega,dz⟩;clear ey jN dc fY eI dz;have HHS:=Sl.mk hS;have Mr:w2.cell? ⟨b1,16,none⟩=some (.string (aF l.aK)):=bP.aB cA.ah.X 16 _ rfl;have f16:=cA.ah.fF 16;rw [hS] at Mr;obtain ⟨T1,hT1⟩:=zX (S.extract 0 m);obtain ⟨T2,hT2⟩:=zX (S.extract m S.size);rw [hT1] at e1;rw [hT2] at e2;have l8:=cA.ah.set 16 (.string T2) rfl;have HT1:=Sl.mk e1;have x8:=Sl.mk e2;have hmz:(m:Int)≤(S.size:Int):=by omega
 obtain ⟨w3,cH⟩:=zX (w2.setCell ⟨b1,16,none⟩ (.string T2));rw [cH,e2] at l8;have l8:=Sl.mk l8;clear h hm us bB hS e1 e2 GE;go_enter func47,ntmps47;go_upto_region 1 with fail
 (try rw [bA]);(try rw [cE]);(try rw [cM]);(try rw [cG]);clear bA cE cM cG;have wg:((n<0)=True∧m=0)∨((n<0)=False∧(n>(S.size:Int))=True∧m=S.size)∨(n=(m:Int)∧((m:Int)>(S.size:Int))=False):=by
  rcases tw with ⟨g1,g2⟩ | ⟨g1,g2,g3⟩ | g1
  ·exact .inl ⟨eq_true g1,g2⟩
  ·exact .inr (.inl ⟨dR (by omega),eq_true (by omega),g3⟩)
  ·exact .inr (.inr ⟨g1,dR (by omega)⟩)
 clear tw hN;have wg:(∃ k:Nat,(k:Int)=n∧False)∨((n<0)=True∧m=0)∨((n<0)=False∧(n>(S.size:Int))=True∧m=S.size)∨(n=(m:Int)∧((m:Int)>(S.size:Int))=False):=.inr wg;have ic:m=0→T2=S:=fun e=>by
  rw [← hT2,e];exact kW (by rw [bC,Af,nC (by rw [au];exact aY _)])
 rcases wg with ⟨_,_,hf⟩ | ⟨c1,rfl⟩ | ⟨c1,c2,rfl⟩ | ⟨rfl,c1⟩
 ·exact hf.elim
 ·obtain rfl:=ic rfl
  clear ic;have MV:=qw (K:=K) (inp:=inp) (fa:=fa) (fn:=fn) (fc:=fc) (Do w3 l8.ah.L) oT.ah;go_upto_region 7 with fail
  clear hT2 cH Mr f16 cA Do;go_wp2_with (refine uY rfl 36 (.tmp 2) rfl b1 rfl 36 _ (0,0) _ l8.ah.X underlying36 rfl (aX rfl) ?_)
  refine MV.mono ?_;rintro e wm ⟨aq,ar,aD,aw,az,aE,rfl,gM,ki,cN⟩;clear MV;have ei:=Sl.mk (l8.ah.below ki.ah);go_wp2_with (refine fG rfl 36 (.tmp 4) (.tmp 27) rfl b2 (zM K c (aj.move c {l with cj:=l.cj++l.aK.take N,aK:=l.aK.drop N}) inp fa fn fc aq ar aD aw az aE) rfl rfl 36 zD ei.ah.R (aX rfl) rfl (dV ..) ?_)
  have et:=ei.ah.ah (zM K c (aj.move c {l with cj:=l.cj++l.aK.take N,aK:=l.aK.drop N}) inp fa fn fc aq ar aD aw az aE);(try simp only [Exit.inBlock,Exit.then]);refine gX (iE rfl _ _ b2 _ rfl et.R rfl) rfl ?_;refine ⟨aq,ar,aD,aw,az,aE,?_,⟨iO ei.ah gM.ah.1,iO ei.ah gM.ah.2⟩,⟨et.L⟩,cN⟩;have hx:=HT1.ah;rw [← hT1,show T2.extract 0 0=ByteArray.empty by simp] at hx;rw [← hx];rfl
 ·obtain rfl:T1=S:=by
   rw [← hT1];exact kW (by rw [bC,Af,nC (by rw [au];exact aY _)])
  obtain rfl:T2=ByteArray.empty:=by rw [← hT2];simp
  clear ic hT1 hT2;have MV:=qw (K:=K) (inp:=inp) (fa:=fa) (fn:=fn) (fc:=fc) (Do w3 l8.ah.L) oT.ah;go_upto_region 7 with fail
  clear cH Mr f16 cA Do;go_wp2_with (refine uY rfl 36 (.tmp 2) rfl b1 rfl 36 _ (0,0) _ l8.ah.X underlying36 rfl (aX rfl) ?_)
  refine MV.mono ?_;rintro e wm ⟨aq,ar,aD,aw,az,aE,rfl,gM,ki,cN⟩;clear MV;have ei:=Sl.mk (l8.ah.below ki.ah);go_wp2_with (refine fG rfl 36 (.tmp 4) (.tmp 27) rfl b2 (zM K c (aj.move c {l with cj:=l.cj++l.aK.take N,aK:=l.aK.drop N}) inp fa fn fc aq ar aD aw az aE) rfl rfl 36 zD ei.ah.R (aX rfl) rfl (dV ..) ?_)
  have et:=ei.ah.ah (zM K c (aj.move c {l with cj:=l.cj++l.aK.take N,aK:=l.aK.drop N}) inp fa fn fc aq ar aD aw az aE);(try simp only [Exit.inBlock,Exit.then]);refine gX (iE rfl _ _ b2 _ rfl et.R rfl) rfl ?_;refine ⟨aq,ar,aD,aw,az,aE,?_,⟨iO ei.ah gM.ah.1,iO ei.ah gM.ah.2⟩,⟨et.L⟩,cN⟩;rw [HT1.ah];rfl
 ·clear ic
  have MV:=qw (K:=K) (inp:=inp) (fa:=fa) (fn:=fn) (fc:=fc) (Do w3 l8.ah.L) oT.ah;go_upto_region 7 with fail
  clear cH Mr f16 cA Do;go_wp2_with (refine uY rfl 36 (.tmp 2) rfl b1 rfl 36 _ (0,0) _ l8.ah.X underlying36 rfl (aX rfl) ?_)
  refine MV.mono ?_;rintro e wm ⟨aq,ar,aD,aw,az,aE,rfl,gM,ki,cN⟩;clear MV;have ei:=Sl.mk (l8.ah.below ki.ah);go_wp2_with (refine fG rfl 36 (.tmp 4) (.tmp 27) rfl b2 (zM K c (aj.move c {l with cj:=l.cj++l.aK.take N,aK:=l.aK.drop N}) inp fa fn fc aq ar aD aw az aE) rfl rfl 36 zD ei.ah.R (aX rfl) rfl (dV ..) ?_)
  have et:=ei.ah.ah (zM K c (aj.move c {l with cj:=l.cj++l.aK.take N,aK:=l.aK.drop N}) inp fa fn fc aq ar aD aw az aE);(try simp only [Exit.inBlock,Exit.then]);refine gX (iE rfl _ _ b2 _ rfl et.R rfl) rfl ?_;refine ⟨aq,ar,aD,aw,az,aE,?_,⟨iO ei.ah gM.ah.1,iO ei.ah gM.ah.2⟩,⟨et.L⟩,cN⟩;rw [HT1.ah];rfl
theorem Ql {fn:Nat} {ca:Option Addr} {rc:Nat} (h:DH W c l ca cn cc ra rn rc) (e:Nat) (hn:l.aQ.length≤1000) (hP:∀ j,W.heap.size≤j→P j) (hp:PB P ca cn∧PB P ra rn):Calls prog 75 #[.agg (zM K c l inp fa fn fc ca cn cc ra rn rc),.int .i64 (e:Int)] W fun ee w'=>∃ aq ar aD aw az aE,ee=.returned (.agg (zM K c (aj.fail c l e) inp fa fn fc aq ar aD aw az aE))∧Sl (aS w' (.slice aq ar aD) (aj.fail c l e).aQ∧aS w' (.slice aw az aE) (aj.fail c l e).rest)∧Sl (Below W.heap.size W w')∧Sl (PB P aq ar∧PB P aw az):=by
 have HP:=Sl.mk hP;have oT:=Sl.mk hp;clear hP hp;obtain ⟨w1,bA,dc,ey⟩:=zY W (zM K c l inp fa fn fc ca cn cc ra rn rc) 36;obtain ⟨w2,cE,fY,jN⟩:=zY w1 zD 36;have eI:w1.heap.size=W.heap.size+1:=by rw [← bA,aP]
 have cA:MX W w2 W.heap.size w1.heap.size (zM K c l inp fa fn fc ca cn cc ra rn rc) zD:=⟨ay ey fY,jN,dc.trans (fY.mono dc.size),aY _,dc.size,by omega⟩;obtain ⟨b1,cM⟩:=zX W.heap.size;obtain ⟨b2,cG⟩:=zX w1.heap.size;rw [cM,cG] at cA;have cA:=Sl.mk cA;have dz:w2.heap.size=b2+1:=by rw [← cE,aP,cG]
 have kl:Sl (W.heap.size=b1∧b2=b1+1∧w2.heap.size=b2+1):=⟨cM,by omega,dz⟩;clear ey jN dc fY eI dz;have f22:=cA.ah.fF 22;have Yg:=bP.aB cA.ah.X 22 _ rfl;have eO:=Sl.mk (cA.ah.set 22 (.int .i64 (e:Int)) rfl);obtain ⟨w3,cH⟩:=zX (w2.setCell ⟨b1,22,none⟩ (.int .i64 (e:Int)));rw [cH] at eO;have eO:Sl (MX W w3 b1 b2 (zL K c (l.bu:Int) inp fa fn fc (aF l.aK) (aF l.tail) ca cn cc ra rn rc l.am l.dA (e:Int)) zD):=eO;have CT:∀ V,Below W.heap.size W V→Calls prog 46 #[.agg (zL K c (l.bu:Int) inp fa fn fc (aF l.aK) (aF l.tail) ca cn cc ra rn rc l.am l.dA (e:Int)),.int .i64 (dI (e:Int)),.string {data:=#[]}] V fun ee w'=>∃ aq ar aD aw az aE,ee=.returned (.tuple #[.agg (zM K c ((aj.bU c {l with ag:=e} (dI (e:Int)) []).1) inp fa fn fc aq ar aD aw az aE),.bool (aj.bU c {l with ag:=e} (dI (e:Int)) []).2])∧Sl (aS w' (.slice aq ar aD) (aj.bU c {l with ag:=e} (dI (e:Int)) []).1.aQ∧aS w' (.slice aw az aE) (aj.bU c {l with ag:=e} (dI (e:Int)) []).1.rest)∧Sl (Below V.heap.size V w')∧Sl (PB P aq ar∧PB P aw az):=fun V hV=>Dp (K:=K) (inp:=inp) (fa:=fa) (fn:=fn) (fc:=fc) (l:={l with ag:=e}) ⟨h.C.below hV,h.S.below hV,⟨h.I.bytes,h.I.bE,h.I.aQ,h.I.rest,h.I.aK⟩,h.T,h.D,h.ok,h.n⟩ (dI (e:Int)) {data:=#[]} (by decide) hn (PU HP.ah hV) oT.ah
 clear h;go_enter func75,ntmps75;go_upto_region 1 with fail
 (try rw [bA]);(try rw [cE]);(try rw [cM]);(try rw [cG]);clear bA cE cM cG;go_upto_region 2 with fail
 (try rw [cH]);refine zH (S:=fun V=>V.heap[b1]? = some (.cells (zL K c (l.bu:Int) inp fa fn fc (aF l.aK) (aF l.tail) ca cn cc ra rn rc l.am l.dA (e:Int)) 36 (0,0))) (D:=fun j=>j==7) (by kernel_rfl) (fun Rw aM=>?_);have gS:=Sl.mk (eO.ah.below aM);refine zP 1 (some 9) (.move (.tmp 1)) _ gS.ah.X ?_;simp only [zA,zB,zS];refine zU 0 (some 8) (.load 36 (.tmp 2)) (.agg (zL K c (l.bu:Int) inp fa fn fc (aF l.aK) (aF l.tail) ca cn cc ra rn rc l.am l.dA (e:Int))) gS.ah.X ?_ (hy:=fun o' ho W hS=>kP ho (by rfl) hS rfl);simp only [zA,zB,zS];refine xZ (d:=some 10) (op:=.call {callee:=Callee.value (Operand.func 104),args:=#[Operand.tmp 9],argTypes:=#[31]}) (g:=none) 2 104 #[.int .i64 (e:Int)] rfl (by kernel_rfl) (by kernel_rfl) ?y2 ?_;case y2=>intro o' ho;simp only [execOp,ho];go_simp;try rfl
 refine (Gh.Jt (e:Int) Rw).mono ?_;rintro e w4 ⟨rfl,rfl⟩;refine ⟨_,rfl,gS.ah.X,?_⟩;simp only [zA,zB,zS];have CL:=CT Rw gS.ah.L;refine xZ (d:=some 11) (op:=.call {callee:=Callee.value (Operand.func 46),args:=#[Operand.tmp 8,Operand.tmp 10,Operand.const (Value.string {data:=#[]})],argTypes:=#[36,3,9]}) (g:=none) 3 46 #[.agg (zL K c (l.bu:Int) inp fa fn fc (aF l.aK) (aF l.tail) ca cn cc ra rn rc l.am l.dA (e:Int)),.int .i64 (dI (e:Int)),.string {data:=#[]}] rfl (by kernel_rfl) (by kernel_rfl) ?y3 ?_;case y3=>intro o' ho;simp only [execOp,ho];go_simp;try rfl
 refine (CL).mono ?_;rintro e w5 ⟨aq,ar,aD,aw,az,aE,rfl,gM,ki,cN⟩;have eN:=Sl.mk (gS.ah.below ki.ah);refine ⟨_,rfl,eN.ah.X,?_⟩;simp only [zA,zB,zS];refine zP 4 (some 7) (.move (.tmp 11)) (.tuple #[.agg (zM K c ((aj.bU c {l with ag:=e} (dI (e:Int)) []).1) inp fa fn fc aq ar aD aw az aE),.bool (aj.bU c {l with ag:=e} (dI (e:Int)) []).2]) eN.ah.X ?_;simp only [zA,zB,zS];refine zP 5 (some 12) (.extract (.tmp 7) 0) (.agg (zM K c ((aj.bU c {l with ag:=e} (dI (e:Int)) []).1) inp fa fn fc aq ar aD aw az aE)) eN.ah.X ?_;simp only [zA,zB,zS];refine zP 6 (some 13) (.extract (.tmp 7) 1) (.bool (aj.bU c {l with ag:=e} (dI (e:Int)) []).2) eN.ah.X ?_;simp only [zA,zB,zS];have fi:=Sl.mk (eN.ah.Xa (zM K c ((aj.bU c {l with ag:=e} (dI (e:Int)) []).1) inp fa fn fc aq ar aD aw az aE));obtain ⟨w6,iB⟩:=zX (w5.setRow b1 (zM K c ((aj.bU c {l with ag:=e} (dI (e:Int)) []).1) inp fa fn fc aq ar aD aw az aE));rw [iB] at fi;refine kU (d:=none) (op:=.store 36 (Operand.tmp 2) (Operand.tmp 12)) (g:=none) (t:=0) 7 w6 rfl (by kernel_rfl) (by kernel_rfl) ?y7 (by kernel_rfl) ?_;case y7=>intro o' ho ht;rw [← iB];exact kK ho (by rfl) (by rfl) eN.ah.X rfl rfl (dV ..)
 simp only [Act.put];refine zF (by kernel_rfl) ?_;(try go_frame);have HFK:Sl (aS w6 (.slice aq ar aD) (aj.bU c {l with ag:=e} (dI (e:Int)) []).1.aQ∧aS w6 (.slice aw az aE) (aj.bU c {l with ag:=e} (dI (e:Int)) []).1.rest):=⟨by rw [← iB];exact zf eN.ah gM.ah.1,by rw [← iB];exact zf eN.ah gM.ah.2⟩;go_wp2_with (first
  | (refine uY rfl 36 (.tmp 2) rfl b1 rfl 36 _ (0,0) _ fi.ah.X underlying36 rfl (aX rfl) ?_)
  | (refine fG rfl 36 (.tmp 4) (.tmp 14) rfl b2 (zM K c ((aj.bU c {l with ag:=e} (dI (e:Int)) []).1) inp fa fn fc aq ar aD aw az aE) rfl rfl 36 zD fi.ah.R (aX rfl) rfl (dV ..) ?_))
 have et:=fi.ah.ah (zM K c ((aj.bU c {l with ag:=e} (dI (e:Int)) []).1) inp fa fn fc aq ar aD aw az aE);(try simp only [Exit.inBlock,Exit.then]);refine gX (sJ rfl _ _ b2 _ rfl et.R rfl) rfl ?_;exact ⟨aq,ar,aD,aw,az,aE,rfl,⟨iO fi.ah HFK.ah.1,iO fi.ah HFK.ah.2⟩,⟨et.L⟩,cN⟩
end
end Go.Proofs.YtlahonjmfecikaaGreatDoor.jo
