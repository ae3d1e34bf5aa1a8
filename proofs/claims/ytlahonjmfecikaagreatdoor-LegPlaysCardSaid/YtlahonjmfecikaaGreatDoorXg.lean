/- Texts, joined. -/
import Derived.Test.YtlahonjmfecikaaGreatDoorXe
import Derived.Test.YtlahonjmfecikaaGreatDoorXf
set_option maxRecDepth 100000
set_option maxHeartbeats 64000000
set_option linter.unusedVariables false
set_option linter.unusedSimpArgs false
open Go.Proofs.Tryz
namespace Go.Proofs.YtlahonjmfecikaaGreatDoor.jo
open Go.RowKit jS
open aC (Fr dn)
open aj (Cf Lg)
open jG (bM gU gQ)
open aj (lC iI jY dJ rY jX bV bQ iM fail L0)
open aA (Ev Ms M0)
theorem Wi (W:World) (cs:Array Value):∃ V,W.alloc (.cells cs 80)=V∧Below W.heap.size W V∧V.heap[W.heap.size]? = some (.cells cs 80 (0,0)) :=
 ⟨_,rfl,(dW _ _).alloc (aY _) _,aI _ _ _ rfl⟩
theorem Dc (W:World) (L i:Nat) (u:Value):bM (fun j=>j=L) W (W.setCell ⟨L,i,none⟩ u):=bM.grown (aH W L i u) (fun j e=>by injection e with e;exact e.symm)
theorem Wj (rs:List bP.Rb) (a1:Option Addr) (n1 c1:Nat) (a2:Option Addr) (n2 c2:Nat) (tb ms fr ct bs ot sh id po cl:Int) (af:Bool) (d:Nat) (W:World) (hg:_root_.Go.Proofs.YtlahonjmfecikaaGreatDoor.bD W) (hv:bP.ja W (.slice a1 n1 c1) rs) (ok:∀ r∈rs,bP.xP r) (hl:rs.length≤1000000) (hr:bP.mD rs n2 tb ms fr ct bs ot sh id po cl=false) :
 Calls prog 13 #[.agg #[.slice a1 n1 c1,.slice a2 n2 c2,.int .i64 tb,.int .i64 ms,.int .i64 fr,.int .i64 ct,.int .i64 bs,.int .i64 ot,.int .i64 sh,.int .i64 id,.int .i64 po,.int .i64 cl],.bool af,.int .u32 (d:Int)] W fun e w'=>e=.returned (.tuple #[.pointer none,.int .i64 160])∧Sl (Below W.heap.size W w'):=by
 obtain ⟨wa,cz,fT,hx⟩:=bP.xR W #[.slice a1 n1 c1,.slice a2 n2 c2,.int .i64 tb,.int .i64 ms,.int .i64 fr,.int .i64 ct,.int .i64 bs,.int .i64 ot,.int .i64 sh,.int .i64 id,.int .i64 po,.int .i64 cl];have CK:=bP.kY rs a1 n1 c1 a2 n2 c2 tb ms fr ct bs ot sh id po cl wa (hg.of fT.ah) (hv.below fT.ah) ok hl false hr;obtain ⟨g,fW⟩:=zX W.heap.size;rw [fW] at fT hx ⊢;have hI:Sl (g≤wa.heap.size):=⟨by rw [← fW];exact fT.ah.size⟩;have k0:=bP.aB hx 0 _ rfl;have k1:=bP.aB hx 1 _ rfl;have k2:=bP.aB hx 2 _ rfl;have k3:=bP.aB hx 3 _ rfl;have k4:=bP.aB hx 4 _ rfl;have k5:=bP.aB hx 5 _ rfl;have k6:=bP.aB hx 6 _ rfl;have k7:=bP.aB hx 7 _ rfl;have k8:=bP.aB hx 8 _ rfl;have k9:=bP.aB hx 9 _ rfl;have uc:=bP.aB hx 10 _ rfl;have ud:=bP.aB hx 11 _ rfl;clear hg hv ok hl hr hx;go_enter func13,ntmps13;go_upto_region 1 with fail
 (try rw [cz]);(try rw [fW]);clear cz fW;go_wp2_with fail
 refine CK.mono ?_;rintro e wb ⟨rfl,bk⟩;clear CK;go_wp2;go_ret2;exact ⟨rfl,⟨fT.ah.trans (bk.ah.mono hI.ah)⟩⟩
theorem Ul (rs:List bP.Rb) (a1:Option Addr) (n1 c1:Nat) (a2:Option Addr) (n2 c2:Nat) (tb ct bs sh id po cl:Int) (c:Cf) (d:Nat) (hd:d<4294967296) (w0 W:World) (hB:Below w0.heap.size w0 W) (hg:_root_.Go.Proofs.YtlahonjmfecikaaGreatDoor.bD W) (hv:bP.ja W (.slice a1 n1 c1) rs) (ok:∀ r∈rs,bP.xP r) (hl:rs.length≤1000000) (hc:iI c) (hr:bP.mD rs n2 tb (c.bh:Int) (c.bR:Int) ct bs (c.ah:Int) sh id po cl=true) :
 Calls prog 13 #[.agg #[.slice a1 n1 c1,.slice a2 n2 c2,.int .i64 tb,.int .i64 (c.bh:Int),.int .i64 (c.bR:Int),.int .i64 ct,.int .i64 bs,.int .i64 (c.ah:Int),.int .i64 sh,.int .i64 id,.int .i64 po,.int .i64 cl],.bool c.af,.int .u32 (d:Int)] W fun e w'=>∃ L sb mb rb rp,e=.returned (.tuple #[.pointer (some ⟨L,0,none⟩),.int .i64 0])∧Sl (mz w0 w' L sb mb rb rp (.slice none 0 0) (.slice none 0 0) (.slice none 0 0) (.slice none 0 0) (.slice none 0 0) (.pointer none) c (L0 d))∧Sl (Below W.heap.size W w')∧Sl (W.heap.size≤L∧W.heap.size≤sb∧W.heap.size≤mb∧W.heap.size≤rb∧W.heap.size≤rp):=by
 obtain ⟨wa,cz,fT,hx⟩:=bP.xR W #[.slice a1 n1 c1,.slice a2 n2 c2,.int .i64 tb,.int .i64 (c.bh:Int),.int .i64 (c.bR:Int),.int .i64 ct,.int .i64 bs,.int .i64 (c.ah:Int),.int .i64 sh,.int .i64 id,.int .i64 po,.int .i64 cl];have CK:=bP.kY rs a1 n1 c1 a2 n2 c2 tb (c.bh:Int) (c.bR:Int) ct bs (c.ah:Int) sh id po cl wa (hg.of fT.ah) (hv.below fT.ah) ok hl true hr;obtain ⟨g,fW⟩:=zX W.heap.size;have iv:Sl (w0.heap.size≤g):=⟨by rw [← fW];exact hB.size⟩;have io:=Sl.mk hB;rw [fW] at fT hx ⊢;have hI:Sl (g≤wa.heap.size):=⟨by rw [← fW];exact fT.ah.size⟩;have HX:=Sl.mk hx;have HC:=Sl.mk hc;have HD:=Sl.mk hd;have k0:=bP.aB hx 0 _ rfl;have k1:=bP.aB hx 1 _ rfl;have k2:=bP.aB hx 2 _ rfl;have k3:=bP.aB hx 3 _ rfl;have k4:=bP.aB hx 4 _ rfl;have k5:=bP.aB hx 5 _ rfl;have k6:=bP.aB hx 6 _ rfl;have k7:=bP.aB hx 7 _ rfl;have k8:=bP.aB hx 8 _ rfl;have k9:=bP.aB hx 9 _ rfl;have uc:=bP.aB hx 10 _ rfl;have ud:=bP.aB hx 11 _ rfl;clear hg hv ok hl hr hx hB hc hd;go_enter func13,ntmps13;go_upto_region 1 with fail
 (try rw [cz]);(try rw [fW]);clear cz fW;go_wp2_with fail
 refine CK.mono ?_;rintro e wb ⟨rfl,bk⟩;clear CK;have Mp:=Sl.mk (ay HX.ah bk.ah);have m5:Sl (g<wb.heap.size):=⟨(zl Mp.ah)⟩;clear HX;clear k0 k1 k2 k3 k4 k5 k6 k7 k8 k9 uc ud;have k3:=bP.aB Mp.ah 3 _ rfl;have k4:=bP.aB Mp.ah 4 _ rfl;obtain ⟨w1,bA,bv,hL⟩:=Wi wb #[.int .i64 (c.bh:Int),.int .i64 (c.bR:Int),.pointer none,.pointer none,.pointer none,.slice none 0 0,.slice none 0 0,.slice none 0 0,.bool (!c.af),.int .u32 (d:Int),.int .i64 0,.bool false];obtain ⟨L,hLL⟩:=zX wb.heap.size;rw [hLL] at bv hL m5;have Lf:Sl (Below g W wb):=⟨fT.ah.trans (bk.ah.mono hI.ah)⟩;have bi:Sl (Below g W w1):=⟨Lf.ah.trans (bv.mono (Nat.le_of_lt m5.ah))⟩;have sx:=Sl.mk (ay Mp.ah (hLL ▸ bv));have Od:=Sl.mk hL;have oX:Sl (L<w1.heap.size):=⟨(zl hL)⟩;clear Mp fT bk hI bv hL Lf;go_upto_region 4 with fail
 (try rw [bA]);(try rw [hLL]);clear bA hLL k3 k4;have k3:=bP.aB sx.ah 3 _ rfl;have px:w1.frozen? ⟨L,2,none⟩=false:=kT _ _ _ _ _ Od.ah;have ZQ:(max 125 (c.bh:Int))=(bQ c:Int):=by unfold aj.bQ;omega
 have SN:=jS.Gf c.af (bQ c:Int) w0 w1 (io.ah.trans (bi.ah.mono iv.ah)) (by unfold aj.bQ;have:=HC.ah.m2;omega);have l0:=bP.aB Od.ah 2 _ rfl;go_wp2_with fail
 refine SN.mono ?_;rintro e w2 ⟨rfl,cJ,bk⟩;clear SN k3 px l0;obtain ⟨sb,py⟩:=zX w1.heap.size;rw [py] at cJ bk oX ⊢;have pE:Sl (w2.heap[g]? = _):=⟨ay sx.ah (py ▸ bk.ah)⟩;have xo:Sl (w2.heap[L]? = _):=⟨ay Od.ah (py ▸ bk.ah)⟩;have px:w2.frozen? ⟨L,2,none⟩=false:=kT _ _ _ _ _ xo.ah;have l0:=bP.aB xo.ah 2 _ rfl;obtain ⟨V2,hV2⟩:=zX (w2.setCell ⟨L,2,none⟩ (.pointer (some ⟨sb,0,none⟩)));have DP:Sl (bM (fun j=>j=L) w2 V2):=⟨by rw [← hV2];exact Dc _ _ _ _⟩;have HLV:Sl (V2.heap[L]? = some (.cells #[.int .i64 (c.bh:Int),.int .i64 (c.bR:Int),.pointer (some ⟨sb,0,none⟩),.pointer none,.pointer none,.slice none 0 0,.slice none 0 0,.slice none 0 0,.bool (!c.af),.int .u32 (d:Int),.int .i64 0,.bool false] 80 (0,0))):=⟨by rw [← hV2,lF _ _ _ _ _ _ xo.ah];rfl⟩;have HXV:Sl (V2.heap[g]? = _):=⟨(DP.ah.block g (zl pE.ah) (fun e=>by have:=m5.ah;omega)).trans pE.ah⟩;have bv:Sl (Below g W V2):=⟨DP.ah.up (bi.ah.trans (bk.ah.mono (by have:=m5.ah;have:=oX.ah;omega))) (fun j e=>by have:=m5.ah;omega) (by have:=m5.ah;have:=oX.ah;have:=bk.ah.size;rw [py] at this;omega)⟩;have HSs:Sl (sb<w2.heap.size):=⟨cJ.ah.lt⟩;clear sx Od bi bk pE xo;go_upto_region 5 with fail
 (try rw [hV2]);clear hV2 px l0;have k3:=bP.aB HXV.ah 3 _ rfl;have Cq:Below w0.heap.size w0 V2:=io.ah.trans (bv.ah.mono iv.ah);have ZR:w2.heap.size≤V2.heap.size:=DP.ah.size;have MN:=jG.Gf (c.bh:Int) w0 V2 Cq (by have:=HC.ah.m1;have:=HC.ah.m2;omega);have da:Sl (dG w0 V2 sb c.af (bQ c:Int) [] 0 (.slice none 0 0)):=⟨iL.nS cJ.ah DP.ah (fun e=>by have:=oX.ah;omega) (fun g e=>by cases e) Cq⟩;clear cJ DP;go_wp2_with fail
 refine MN.mono ?_;rintro e w3 ⟨rfl,eO,br⟩;clear MN k3;obtain ⟨mb,hmb⟩:=zX V2.heap.size;have RW:Sl (sb<mb):=⟨by have:=HSs.ah;omega⟩;have gr:Sl (dG w0 w3 sb c.af (bQ c:Int) [] 0 (.slice none 0 0)):=⟨da.ah.below br.ah⟩;have xo:=Sl.mk (ay HLV.ah br.ah);have pE:=Sl.mk (ay HXV.ah br.ah);rw [hmb] at eO br ZR ⊢;have px:w3.frozen? ⟨L,3,none⟩=false:=kT _ _ _ _ _ xo.ah;have l0:=bP.aB xo.ah 3 _ rfl;obtain ⟨V3,hV3⟩:=zX (w3.setCell ⟨L,3,none⟩ (.pointer (some ⟨mb,0,none⟩)));have Nf:Sl (bM (fun j=>j=L) w3 V3):=⟨by rw [← hV3];exact Dc _ _ _ _⟩;have ZS:Sl (V3.heap[L]? = some (.cells #[.int .i64 (c.bh:Int),.int .i64 (c.bR:Int),.pointer (some ⟨sb,0,none⟩),.pointer (some ⟨mb,0,none⟩),.pointer none,.slice none 0 0,.slice none 0 0,.slice none 0 0,.bool (!c.af),.int .u32 (d:Int),.int .i64 0,.bool false] 80 (0,0))):=⟨by rw [← hV3,lF _ _ _ _ _ _ xo.ah];rfl⟩;have ZT:=Sl.mk ((Nf.ah.block g (zl pE.ah) (fun e=>by have:=m5.ah;omega)).trans pE.ah);have HMl:Sl (mb<w3.heap.size):=⟨(eO.ah.m.lu (.inl rfl)).2⟩;have ch:Sl (Below g W V3):=⟨Nf.ah.up (bv.ah.trans (br.ah.mono (by have:=m5.ah;have:=oX.ah;have:=RW.ah;omega))) (fun j e=>by have:=m5.ah;omega) (by have:=m5.ah;have:=oX.ah;have:=RW.ah;have:=HMl.ah;omega)⟩;have xp:Below w0.heap.size w0 V3:=io.ah.trans (ch.ah.mono iv.ah);have gn:Sl (dG w0 V3 sb c.af (bQ c:Int) [] 0 (.slice none 0 0)):=⟨iL.nS gr.ah Nf.ah (fun e=>by have:=oX.ah;omega) (fun g e=>by cases e) xp⟩;have eN:Sl (gU w0 V3 mb (c.bh:Int) M0 (.slice none 0 0) (.pointer none)):=⟨eO.ah.apart Nf.ah (fun k e e2=>by have:=jG.mq e;have:=oX.ah;have:=RW.ah;omega) xp⟩;have ZU:Sl (mb<V3.heap.size):=⟨(eN.ah.m.lu (.inl rfl)).2⟩;clear HLV HXV da gr eO br xo pE Nf hmb ZR Cq;go_upto_region 6 with fail
 (try rw [hV3]);clear hV3 px l0;have k7:=bP.aB ZT.ah 7 _ rfl;have RN:=OT.Gx w0 V3 c.ah HC.ah.o1 HC.ah.o2 xp;clear xp;go_wp2_with fail
 refine RN.mono ?_;rintro e w4 ⟨rfl,cR,gb,-⟩;clear RN k7;have xo:=Sl.mk (ay ZS.ah gb.ah);have pm:Sl (dG w0 w4 sb c.af (bQ c:Int) [] 0 (.slice none 0 0)):=⟨gn.ah.below gb.ah⟩;have fi:Sl (gU w0 w4 mb (c.bh:Int) M0 (.slice none 0 0) (.pointer none)):=⟨eN.ah.below gb.ah⟩;obtain ⟨rp,hrp⟩:=zX V3.heap.size;rw [hrp] at cR gb ZU ⊢;have px:w4.frozen? ⟨L,4,none⟩=false:=kT _ _ _ _ _ xo.ah;have l0:=bP.aB xo.ah 4 _ rfl;obtain ⟨V4,hV4⟩:=zX (w4.setCell ⟨L,4,none⟩ (.pointer (some ⟨(rp+1),0,none⟩)));have Yc:Sl (bM (fun j=>j=L) w4 V4):=⟨by rw [← hV4];exact Dc _ _ _ _⟩;have ZV:Sl (V4.heap[L]? = some (.cells #[.int .i64 (c.bh:Int),.int .i64 (c.bR:Int),.pointer (some ⟨sb,0,none⟩),.pointer (some ⟨mb,0,none⟩),.pointer (some ⟨(rp+1),0,none⟩),.slice none 0 0,.slice none 0 0,.slice none 0 0,.bool (!c.af),.int .u32 (d:Int),.int .i64 0,.bool false] 80 (0,0))):=⟨by rw [← hV4,lF _ _ _ _ _ _ xo.ah];rfl⟩;have fj:Sl (Below g W V4):=⟨Yc.ah.up (ch.ah.trans (gb.ah.mono (by have:=m5.ah;have:=oX.ah;have:=RW.ah;have:=ZU.ah;omega))) (fun j e=>by have:=m5.ah;omega) (by have:=m5.ah;have:=oX.ah;have:=RW.ah;have:=ZU.ah;have:=cR.ah.Ky;omega)⟩;have HFN:Sl (mz w0 V4 L sb mb (rp+1) rp (.slice none 0 0) (.slice none 0 0) (.slice none 0 0) (.slice none 0 0) (.slice none 0 0) (.pointer none) c (L0 d)):=by
  have Cr:Below w0.heap.size w0 V4:=io.ah.trans (fj.ah.mono iv.ah);have a1:=m5.ah;have a2:=oX.ah;have a3:=RW.ah;have a4:=ZU.ah;have a5:=iv.ah;refine ⟨⟨ZV.ah,um cR.ah (Yc.ah.block (rp+1) cR.ah.Ky (fun e=>by omega)) (Yc.ah.block rp cR.ah.VE (fun e=>by omega)),I9 _ _,sF _ _,sF _ _,⟨by omega,by omega,by omega⟩,fun k e=>(by cases e),fun k e=>(by cases e),HD.ah,Cr⟩,?_,?_,fun k e=>?_,fun k e=>?_⟩
  ·exact iL.nS pm.ah Yc.ah (fun e=>by omega) (fun g e=>by cases e) Cr
  ·exact fi.ah.apart Yc.ah (fun k e e2=>by have:=jG.mq e;omega) Cr
  ·refine ⟨fun e2=>?_,fun e2=>(by cases e2),fun e2=>?_⟩
   ·rcases e with e | e | e | e | e | e
    ·omega
    ·omega
    ·omega
    ·cases e
    ·cases e
    ·cases e
   ·have:=jG.mq e2
    rcases e with e | e | e | e | e | e
    ·omega
    ·omega
    ·omega
    ·cases e
    ·cases e
    ·cases e
  ·have:=jG.mq e
   exact ⟨by omega,fun e2=>(by cases e2)⟩
 have iS:Sl (g≤L∧g≤sb∧g≤mb∧g≤rp+1∧g≤rp):=⟨by
  have a1:=m5.ah;have a2:=oX.ah;have a3:=RW.ah;have a4:=ZU.ah;omega⟩
 clear gn pm eN fi Yc xo ZS ZV ZT cR gb;go_wp2;(try rw [hV4]);go_ret2;exact ⟨_,_,_,_,_,rfl,HFN,fj,iS⟩
open aj (kN)
open KU
section
variable {j:Nat}
structure iT (w0 W:World) (L:Nat) (S:Nat→Prop) (c:Cf) (l:Lg) (k:Nat):Prop where
 ex:∃ sb mb rb rp tv kv qv sv mv mp,mz w0 W L sb mb rb rp tv kv qv sv mv mp c l∧S=xJ L rb rp sb mb tv kv qv sv mv mp
 Cs:aj.jY c l k
 cf:iI c
 k:k≤1000
 g:jF.bD w0∧oq.bD w0
section
variable {w0 W W':World} {L:Nat} {S S' S2:Nat→Prop} {c:Cf} {l:Lg} {k:Nat}
theorem iT.low (h:iT w0 W L S c l k):Below w0.heap.size w0 W:=by
 obtain ⟨_,_,_,_,_,_,_,_,_,_,h1,_⟩:=h.ex;exact h1.low
theorem iT.lu (h:iT w0 W L S c l k) (e:S j):w0.heap.size≤j∧j<W.heap.size:=by
 obtain ⟨_,_,_,_,_,_,_,_,_,_,h1,rfl⟩:=h.ex;exact h1.lu e
theorem iT.pZ (h:iT w0 W L S c l k) (hk:bM S2 W W') (hn:∀ j,S j→¬ S2 j) (hL:Below w0.heap.size w0 W'):iT w0 W' L S c l k:=by
 obtain ⟨⟨_,_,_,_,_,_,_,_,_,_,h1,rfl⟩,a,b,d,e⟩:=h;exact ⟨⟨_,_,_,_,_,_,_,_,_,_,h1.pZ hk hn hL,rfl⟩,a,b,d,e⟩
theorem iT.below (h:iT w0 W L S c l k) (hb:Below W.heap.size W W'):iT w0 W' L S c l k:=by
 obtain ⟨⟨_,_,_,_,_,_,_,_,_,_,h1,rfl⟩,a,b,d,e⟩:=h;exact ⟨⟨_,_,_,_,_,_,_,_,_,_,h1.below hb,rfl⟩,a,b,d,e⟩
theorem iT.mono (h:iT w0 W L S c l k) (hj:k≤j) (hk:j≤1000):iT w0 W L S c l j:=⟨h.ex,h.Cs.mono hj,h.cf,hk,h.g⟩
theorem eH.up (g:eH W W' S S') {V:World} {B:Nat} (hB:Below B V W) (hS:∀ j,S j→B≤j) (hs:B≤W.heap.size):Below B V W':=g.kept.up hB hS hs
theorem Ba {sb mb rb rp:Nat} {tv kv qv sv mv mp cP kv' cQ:Value} {m:Lg} (h:mz w0 W L sb mb rb rp tv kv qv sv mv mp c l) (hA:bH w0 W' L sb mb rb rp cP kv' cQ c m) (g:bY W W' L rb rp tv kv qv cP kv' cQ) (hk:aj.rC l m) :
 mz w0 W' L sb mb rb rp cP kv' cQ sv mv mp c m∧eH W W' (xJ L rb rp sb mb tv kv qv sv mv mp) (xJ L rb rp sb mb cP kv' cQ sv mv mp):=h.ah hA g hk.bO hk.ci hk.ms
theorem Nr (h:iT w0 W L S c l k) (r:Bool) (hr:aj.free l=r):Calls prog 35 #[.pointer (some ⟨L,0,none⟩)] W fun e w'=>e=.returned (.bool r)∧W=w':=by
 obtain ⟨⟨_,_,_,_,_,_,_,_,_,_,h1,rfl⟩,a,b,d,e⟩:=h;refine Jb h1.A _ rfl _ ?_;rw [← hr,a.free];cases l.rest with
 | nil=>rfl
 | cons x y=>simp;omega
theorem Ns (h:iT w0 W L S c l k) (r:Bool) (hr:l.am=r):Calls prog 28 #[.pointer (some ⟨L,0,none⟩)] W fun e w'=>e=.returned (.bool r)∧W=w':=by
 obtain ⟨⟨_,_,_,_,_,_,_,_,_,_,h1,rfl⟩,a,b,d,e⟩:=h;rw [← hr];exact TQ h1.A
theorem Jm (h:iT w0 W L S c l k) (r:Int) (hr:(l.ag:Int)=r):Calls prog 30 #[.pointer (some ⟨L,0,none⟩)] W fun e w'=>e=.returned (.int .i64 r)∧W=w':=by
 obtain ⟨⟨_,_,_,_,_,_,_,_,_,_,h1,rfl⟩,a,b,d,e⟩:=h;rw [← hr];exact Pm h1.A
theorem Um (h:iT w0 W L S c l k) (r:Bool) (hr:l.dA=r):Calls prog 31 #[.pointer (some ⟨L,0,none⟩)] W fun e w'=>e=.returned (.bool r)∧W=w':=by
 obtain ⟨⟨_,_,_,_,_,_,_,_,_,_,h1,rfl⟩,a,b,d,e⟩:=h;rw [← hr,a.gm];exact AV h1.A h1.M
theorem Jn (h:iT w0 W L S c l k) (r:Bool) (hr:decide (l.aK=[])=r):Calls prog 27 #[.pointer (some ⟨L,0,none⟩)] W fun e w'=>e=.returned (.bool r)∧W=w':=by
 obtain ⟨⟨_,_,_,_,_,_,_,_,_,_,h1,rfl⟩,a,b,d,e⟩:=h;refine Po h1.A _ rfl _ ?_;rw [← hr];cases l.aK with
 | nil=>rfl
 | cons x y=>simp;omega
theorem Nu (h:iT w0 W L S c l k) (n:Nat) (hn:l.bO.length+l.ms.aT.length=n) (hl:n≤10000000):Calls prog 34 #[.pointer (some ⟨L,0,none⟩)] W fun e w'=>e=.returned (.int .i64 (n:Int))∧Sl (Below W.heap.size W w'):=by
 obtain ⟨⟨_,_,_,_,_,_,_,_,_,_,h1,rfl⟩,a,b,d,e⟩:=h;exact TR h1.A h1.S h1.M _ _ n rfl rfl hn hl
theorem xk (h:iT w0 W L S c l k) (z:Int) (ah:List Nat) (ho:l.aK.take z.toNat=ah) (n:Nat) (hn:ah.length=n):Calls prog 33 #[.pointer (some ⟨L,0,none⟩),.int .i64 z] W fun e w'=>e=.returned (.slice (some ⟨W.heap.size,0,none⟩) n n)∧Sl (fA w' W.heap.size ah)∧Sl (Below W.heap.size W w'):=by
 obtain ⟨⟨_,_,_,_,_,_,_,_,_,_,h1,rfl⟩,a,b,d,e⟩:=h;exact wZ h1.A z ah ho n hn
theorem tZ (h:iT w0 W L S c l k) (z:Int) (ah:List Nat) (ho:l.aK.take z.toNat=ah) (n:Nat) (hn:ah.length=n) (m:Lg) (hm:(aj.jD c l z).1=m):Calls prog 24 #[.pointer (some ⟨L,0,none⟩),.int .i64 z] W fun e w'=>∃ S',e=.returned (.slice (some ⟨W.heap.size,0,none⟩) n n)∧Sl (fA w' W.heap.size ah)∧Sl (iT w0 w' L S' c m k)∧Sl (eH W w' S S'):=by
 obtain ⟨⟨_,_,_,_,_,_,_,_,_,_,h1,rfl⟩,a,b,d,e⟩:=h;subst ho;refine (PM h1.A e.1 a.rq d b z n hn).mono ?_;rintro x w' ⟨_,_,_,rfl,hR,hA,hG⟩;obtain ⟨q1,q2⟩:=Ba h1 hA.ah hG.ah (aj.yT c l z);subst hm;exact ⟨_,rfl,hR,⟨⟨⟨_,_,_,_,_,_,_,_,_,_,q1,rfl⟩,aj.Ph b a z,b,d,e⟩⟩,⟨q2⟩⟩
theorem Nv (h:iT w0 W L S c l k) (s:ByteArray) (hs:s.size≤1000000) (hk:k+1≤1000) (m:Lg) (r:Bool) (hm:aj.jW c l (bytes s)=(m,r)):Calls prog 22 #[.pointer (some ⟨L,0,none⟩),.string s] W fun e w'=>∃ S',e=.returned (.bool r)∧Sl (iT w0 w' L S' c m (k+1))∧Sl (eH W w' S S'):=by
 obtain ⟨⟨_,_,_,_,_,_,_,_,_,_,h1,rfl⟩,a,b,d,e⟩:=h;refine (PN h1.A e.1 a.rq d b a.op s hs).mono ?_;rintro x w' ⟨_,_,_,rfl,hA,hG⟩;obtain ⟨q1,q2⟩:=Ba h1 hA.ah hG.ah (aj.yS c l _);have q3:=aj.Pg b a (bytes s) (aJ s);rw [hm] at q1 q3 ⊢;exact ⟨_,rfl,⟨⟨⟨_,_,_,_,_,_,_,_,_,_,q1,rfl⟩,q3,b,hk,e⟩⟩,⟨q2⟩⟩
theorem Jo (h:iT w0 W L S c l k) (ao:Int) (s:ByteArray) (m:Lg) (r:Bool) (hm:aj.bU c l ao (bytes s)=(m,r)):Calls prog 23 #[.pointer (some ⟨L,0,none⟩),.int .i64 ao,.string s] W fun e w'=>∃ S',e=.returned (.bool r)∧Sl (iT w0 w' L S' c m k)∧Sl (eH W w' S S'):=by
 obtain ⟨⟨_,_,_,_,_,_,_,_,_,_,h1,rfl⟩,a,b,d,e⟩:=h;refine (vJ h1.A e.1 a.rq d b e.2 ao s).mono ?_;rintro x w' ⟨_,_,_,rfl,hA,hG⟩;obtain ⟨q1,q2⟩:=Ba h1 hA.ah hG.ah (aj.jm c l ao _);have q3:=aj.KO b a ao (bytes s) (aJ s);rw [hm] at q1 q3 ⊢;exact ⟨_,rfl,⟨⟨⟨_,_,_,_,_,_,_,_,_,_,q1,rfl⟩,q3,b,d,e⟩⟩,⟨q2⟩⟩
theorem Nw (h:iT w0 W L S c l k) (o q:Int) (s:ByteArray) (m:Lg) (r:Bool) (hm:aj.send c l o (bytes s)=(m,r)):Calls prog 21 #[.pointer (some ⟨L,0,none⟩),.agg #[.int .i64 o,.int .i64 q,.string s]] W fun e w'=>∃ S',e=.returned (.bool r)∧Sl (iT w0 w' L S' c m k)∧Sl (eH W w' S S'):=by
 obtain ⟨⟨_,_,_,_,_,_,_,_,_,_,h1,rfl⟩,a,b,d,e⟩:=h;refine (PR h1.A e.1 a.rq d b a.op o q s).mono ?_;rintro x w' ⟨_,_,_,rfl,hA,hG⟩;obtain ⟨q1,q2⟩:=Ba h1 hA.ah hG.ah (aj.yR c l o _);have q3:=aj.O9 b a o (bytes s) (aJ s);rw [hm] at q1 q3 ⊢;exact ⟨_,rfl,⟨⟨⟨_,_,_,_,_,_,_,_,_,_,q1,rfl⟩,q3,b,d,e⟩⟩,⟨q2⟩⟩
theorem AL (h:iT w0 W L S c l k) (v:Value) (b:List Nat) (hv:bJ W v b) (hb:aU 256 b) (hl:b.length≤30000) (m:Lg) (es:List Ev) (hm:iM c l b=(m,es)):Calls prog 20 #[.pointer (some ⟨L,0,none⟩),v] W fun e w'=>∃ S' rv,e=.returned rv∧Sl (ig w' W.heap.size rv es)∧Sl (iT w0 w' L S' c m k)∧Sl (eH W w' S S')∧Sl (∀ j,rv.ownBlock=some j→¬ S' j):=by
 obtain ⟨⟨_,_,_,_,_,_,_,_,_,_,h1,rfl⟩,a,x,d,e⟩:=h;refine (PY h1 e.1 e.2 a d x v b hv hb hl).mono ?_;rintro y w' ⟨_,_,_,_,_,_,rv,rfl,hO,hA,hG,hN⟩;have q3:=aj.Pj x a b hb;rw [hm] at hO hA q3;exact ⟨_,rv,rfl,hO,⟨⟨⟨_,_,_,_,_,_,_,_,_,_,hA.ah,rfl⟩,q3,x,d,e⟩⟩,hG,hN⟩
end
theorem Gx (rs:List bP.Rb) (a1:Option Addr) (n1 c1:Nat) (a2:Option Addr) (n2 c2:Nat) (tb ct bs sh id po cl:Int) (c:Cf) (d:Nat) (hd:d<4294967296) (w0 W:World) (hB:Below w0.heap.size w0 W) (hG:jF.bD w0∧oq.bD w0) (hg:_root_.Go.Proofs.YtlahonjmfecikaaGreatDoor.bD W) (hv:bP.ja W (.slice a1 n1 c1) rs) (ok:∀ r∈rs,bP.xP r) (hl:rs.length≤1000000) (hc:iI c) (hr:bP.mD rs n2 tb (c.bh:Int) (c.bR:Int) ct bs (c.ah:Int) sh id po cl=true) :
 Calls prog 13 #[.agg #[.slice a1 n1 c1,.slice a2 n2 c2,.int .i64 tb,.int .i64 (c.bh:Int),.int .i64 (c.bR:Int),.int .i64 ct,.int .i64 bs,.int .i64 (c.ah:Int),.int .i64 sh,.int .i64 id,.int .i64 po,.int .i64 cl],.bool c.af,.int .u32 (d:Int)] W fun e w'=>∃ L S,e=.returned (.tuple #[.pointer (some ⟨L,0,none⟩),.int .i64 0])∧Sl (iT w0 w' L S c (L0 d) 0)∧Sl (Below W.heap.size W w')∧Sl (∀ j,S j→W.heap.size≤j):=by
 refine (Ul rs a1 n1 c1 a2 n2 c2 tb ct bs sh id po cl c d hd w0 W hB hg hv ok hl hc hr).mono ?_;rintro x w' ⟨L,sb,mb,rb,rp,rfl,hL,hb,eg⟩;obtain ⟨g1,g2,g3,g4,g5⟩:=eg.ah;refine ⟨L,_,rfl,⟨⟨⟨_,_,_,_,_,_,_,_,_,_,hL.ah,rfl⟩,aj.O5 c d,hc,by decide,hG⟩⟩,hb,⟨fun j e=>?_⟩⟩;rcases e with e | (e | e) | e
 ·rcases e with e | e | e | e | e | e
  ·omega
  ·omega
  ·omega
  ·cases e
  ·cases e
  ·cases e
 ·omega
 ·cases e
 ·have:=jG.mq e;omega
end
open aj (fill put mv move dN dD next ni)
section
variable {cs:Array Value} {p:Tmp} {W:World} {ev:Operand→Value} {o:Oper} {x:Operand}
theorem aX (h:cs.size=23):(prog.info? 36).map (·.size)=some cs.size:=by rw [h];kernel_rfl
theorem sJ {fn:Func} (h:fn.results=#[.cell p 36]) (tmps:Array Value) (w:World) (g:Nat) (cs:Array Value)
 (hp:tmps.getD p undef=.pointer (some ⟨g,0,none⟩)) (hg:w.heap[g]? = some (.cells cs 36 (0,0))) (hs:cs.size=23):(results fn tmps).run prog w=.ok (.agg cs) w :=
 results_cell_row h tmps w g 36 cs (0,0) _ hp hg underlying36 rfl (aX hs)
theorem iE {fn:Func} {u:Tmp} (h:fn.results=#[.cell p 36,.tmp u]) (tmps:Array Value) (w:World) (g:Nat) (cs:Array Value)
 (hp:tmps.getD p undef=.pointer (some ⟨g,0,none⟩)) (hg:w.heap[g]? = some (.cells cs 36 (0,0))) (hs:cs.size=23) :
 (results fn tmps).run prog w=.ok (.tuple #[.agg cs,tmps.getD u undef]) w:=by
 have hi:(prog.info? 36).map (·.size)=some cs.size:=aX hs;have A3:tmps[p]?.getD undef=.pointer (some ⟨g,0,none⟩):=by simpa using hp
 simp only [results,h];simp [Result.andThen,A3,asAddr,UR (P:=prog) w g 36 36 cs (0,0) _ hg underlying36 rfl hi]
theorem dV (K:Kf) (c:Cf) (dr:Nat) (inp:ByteArray) (fa:Option Addr) (fn fc:Nat) (rg tl:ByteArray) (ca:Option Addr) (cn cc:Nat) (ra:Option Addr) (rn rc:Nat) (am dA:Bool) (ag:Int):(#[.slice K.ra K.rn K.rc,.slice K.oa K.on K.oc,.int .i64 K.z2,.int .i64 (c.bh:Int),.int .i64 (c.bR:Int),.int .i64 K.z5,.int .i64 K.z6,.int .i64 (c.ah:Int),.int .i64 K.z8,.int .i64 K.z9,.int .i64 K.I0,.int .i64 K.I1,.bool c.af,.int .u32 (dr:Int),.string inp,.slice fa fn fc,.string rg,.string tl,.slice ca cn cc,.slice ra rn rc,.bool am,.bool dA,.int .i64 ag]:Array Value).all (·.oneCell')=true:=by simp [Value.oneCell']
theorem kP {g:Nat} (ho:o.op=.load 36 x) (hx:ev x=.pointer (some ⟨g,0,none⟩)) (h:W.heap[g]? = some (.cells cs 36 (0,0))) (hs:cs.size=23) :
 (execOp ev o).run prog W=.ok (.value (.agg cs)) W:=by
 unfold execOp;simp only [ho,hx,Instr.loadAt,Instr.sureAddr,rE,Sem.run_pure,Result.andThen_ok,UR W g 36 36 _ (0,0) _ h underlying36 rfl (aX hs)]
theorem kK {y:Operand} {g:Nat} {oB cells:Array Value} (ho:o.op=.store 36 x y) (hx:ev x=.pointer (some ⟨g,0,none⟩)) (hy:ev y=.agg cells) (hg:W.heap[g]? = some (.cells oB 36 (0,0))) (hs:oB.size=cells.size) (h2:cells.size=23) (h1:cells.all (·.oneCell')=true) :
 (execOp ev o).run prog W=.ok .skip (W.setRow g cells):=by
 unfold execOp;simp only [ho,hx,hy,Instr.storeAt,Instr.sureAddr,rE,Sem.run_pure,Result.andThen_ok,run_storeVar_row W g 36 36 oB cells hg (aX h2) hs h1]
theorem E7 (K:Kf) (c:Cf) (dr:Nat) (inp:ByteArray) (fa:Option Addr) (fn fc:Nat) (rg tl:ByteArray) (ca:Option Addr) (cn cc:Nat) (ra:Option Addr) (rn rc:Nat) (am dA:Bool) (ag:Int) (W:World):Calls prog 48 #[.agg (zL K c (dr:Int) inp fa fn fc rg tl ca cn cc ra rn rc am dA ag)] W fun e w'=>e=.returned (.bool (!am&&!dA&&(ag==0)&&((rn:Int)==0)))∧Sl (Below W.heap.size W w'):=by
 obtain ⟨z1,eI⟩:=zX (ag==0);obtain ⟨z2,dz⟩:=zX ((rn:Int)==0);rw [eI,dz];obtain ⟨w1,bA,dc,ey⟩:=zY W (zL K c (dr:Int) inp fa fn fc rg tl ca cn cc ra rn rc am dA ag) 36;have Ye:=bP.aB ey 19 _ rfl;have Mq:=bP.aB ey 20 _ rfl;have R0:=bP.aB ey 21 _ rfl;have Yg:=bP.aB ey 22 _ rfl;clear ey;go_enter func48,ntmps48;go_upto_region 1 with fail
 (try rw [bA]);clear bA;cases am<;>cases dA<;>cases z1<;>cases z2<;>(go_wp2;go_ret;exact ⟨rfl,⟨dc⟩⟩)
theorem Lr (K:Kf) (c:Cf) (dr:Nat) (inp:ByteArray) (fa:Option Addr) (fn fc:Nat) (rg tl:ByteArray) (ca:Option Addr) (cn cc:Nat) (ra:Option Addr) (rn rc:Nat) (am dA:Bool) (ag:Int) (W:World):Calls prog 49 #[.agg (zL K c (dr:Int) inp fa fn fc rg tl ca cn cc ra rn rc am dA ag)] W fun e w'=>e=.returned (.bool ((rg.toList==[])&&(tl.toList==[])&&((cn:Int)==0)&&((rn:Int)==0)))∧Sl (Below W.heap.size W w'):=by
 obtain ⟨z1,eI⟩:=zX (rg.toList==[]);obtain ⟨z2,dz⟩:=zX (tl.toList==[]);obtain ⟨z3,Ex⟩:=zX ((cn:Int)==0);obtain ⟨z4,hz4⟩:=zX ((rn:Int)==0);rw [eI,dz,Ex,hz4];obtain ⟨w1,bA,dc,ey⟩:=zY W (zL K c (dr:Int) inp fa fn fc rg tl ca cn cc ra rn rc am dA ag) 36;have Mr:=bP.aB ey 16 _ rfl;have k17:=bP.aB ey 17 _ rfl;have Ct:=bP.aB ey 18 _ rfl;have Ye:=bP.aB ey 19 _ rfl;clear ey;go_enter func49,ntmps49;go_upto_region 1 with fail
 (try rw [bA]);clear bA;cases z1<;>cases z2<;>cases z3<;>cases z4<;>(go_wp2;go_ret;exact ⟨rfl,⟨dc⟩⟩)
theorem Df (K:Kf) (c:Cf) (W:World):Calls prog 73 #[.agg (zK K c)] W fun e w'=>e=.returned (.int .i64 (bQ c:Int))∧Sl (Below W.heap.size W w'):=by
 obtain ⟨w1,bA,dc,ey⟩:=zY W (zK K c) 25;have k3:=bP.aB ey 3 _ rfl;clear ey;obtain ⟨q,hq⟩:∃ q:Int,(bQ c:Int)=q:=⟨_,rfl⟩;have HQ:=Sl.mk hq;rw [hq];clear hq;go_enter func73,ntmps73;go_upto_region 1 with fail
 (try rw [bA]);clear bA;by_cases h:c.bh<125
 ·have h1:((c.bh:Int)<125)=True:=eq_true (by omega)
  obtain rfl:q=125:=by rw [← HQ.ah];unfold bQ;omega
  clear h;go_wp2;go_ret;exact ⟨rfl,⟨dc⟩⟩
 ·have h1:((c.bh:Int)<125)=False:=dR (by omega)
  obtain rfl:q=(c.bh:Int):=by rw [← HQ.ah];unfold bQ;omega
  clear h;go_wp2;go_ret;exact ⟨rfl,⟨dc⟩⟩
end
open aj (AQ)
section
variable {P:Program} {md:Region.Mode} {aR:Array Oper} {Q:Exit→Act→World→Prop} {S:World→Prop} {D:Nat→Bool} {fuel b1 q b m:Nat} {ai:Array Bool} {a:Option Addr} {w w0 W:World} {d:Option Tmp} {cs:Array Value} {s:ByteArray} {ev:Operand→Value} {o:Oper} {x:Operand}
theorem Qb {a:Act} {op:Op} {g:Option (Nat×Bool)} {t:TypeId} (i:Nat) (v:Value) (w':World) (hi:nX aR i d op g t) (hw:jc aR a g=true)
 (hr:Region.ready md aR ai=[i]) (hy:∀ o:Oper,o.op=op→o.type=t→(execOp a.eval o).run P w=.ok (.value v) w') (hD:idle D (ai.setIfInBounds i true)=false)
 (h:gq P md aR Q S D fuel (ai.setIfInBounds i true) (a.put d v) w'):gq P md aR Q S D (fuel+1) ai a w:=by
 obtain ⟨o,ho,hd,cY,hg,ht⟩:=nY hi;refine rW hr (by simp) (fun k hk=>?_);rw [uF] at hk;subst hk;refine wpOp_step ho (fun K hK=>?_);rw [if_pos (fJ hg hw)];unfold Oper.wp;rw [hy o cY ht,Xp,hd];exact hK _ _ ⟨fun e=>absurd (e.symm.trans hD) (by decide),h⟩
theorem E8 {a:Act} {op:Op} {g:Option (Nat×Bool)} {t:TypeId} (i:Nat) (w':World) (hi:nX aR i d op g t) (hw:jc aR a g=true)
 (hr:Region.ready md aR ai=[i]) (hy:∀ o:Oper,o.op=op→o.type=t→(execOp a.eval o).run P w=.ok .skip w') (hS:S w')
 (h:gq P md aR Q S D fuel (ai.setIfInBounds i true) (a.put d undef) w'):gq P md aR Q S D (fuel+1) ai a w:=by
 obtain ⟨o,ho,hd,cY,hg,ht⟩:=nY hi;refine rW hr (by simp) (fun k hk=>?_);rw [uF] at hk;subst hk;refine wpOp_step ho (fun K hK=>?_);rw [if_pos (fJ hg hw)];unfold Oper.wp;rw [hy o cY ht,Oper.upon_skip,hd];exact hK _ _ ⟨fun _=>hS,h⟩
structure MX (w0 W:World) (b1 b2:Nat) (cs zs:Array Value):Prop where
 X:W.heap[b1]? = some (.cells cs 36 (0,0))
 R:W.heap[b2]? = some (.cells zs 36 (0,0))
 L:Below w0.heap.size w0 W
 g1:w0.heap.size≤b1
 g2:w0.heap.size≤b2
 ne:b1≠b2
section
variable {w0 W W':World} {b1 b2:Nat} {cs zs:Array Value}
theorem MX.below (h:MX w0 W b1 b2 cs zs) (k:Below W.heap.size W W'):MX w0 W' b1 b2 cs zs :=
 ⟨ay h.X k,ay h.R k,h.L.trans (k.mono h.L.size),h.g1,h.g2,h.ne⟩
theorem MX.fF (h:MX w0 W b1 b2 cs zs) (i:Nat):W.frozen? ⟨b1,i,none⟩=false:=kT _ _ _ _ _ h.X
theorem MX.set (h:MX w0 W b1 b2 cs zs) (i:Nat) (u:Value) {rx:Array Value} (hc:cs.setIfInBounds i u=rx):MX w0 (W.setCell ⟨b1,i,none⟩ u) b1 b2 rx zs:=by
 have hg:=aH W b1 i u;refine ⟨by rw [← hc];exact lF _ _ _ _ _ _ h.X,?_,(bM.grown (S:=fun j=>j=b1) hg (fun j e=>by injection e with e;exact e.symm)).up h.L (fun j e=>by rw [e];exact h.g1) h.L.size,h.g1,h.g2,h.ne⟩;rw [pI _ _ _ _ (show b2≠b1 from fun e=>h.ne e.symm)];exact h.R
theorem MX.ah (h:MX w0 W b1 b2 cs zs) (rx:Array Value):MX w0 (W.setRow b2 rx) b1 b2 cs rx :=
 ⟨by rw [qC _ _ _ _ h.ne];exact h.X,gY _ _ _ _ _ _ h.R,below_setRow h.L h.g2 _,h.g1,h.g2,h.ne⟩
theorem MX.Xa (h:MX w0 W b1 b2 cs zs) (rx:Array Value):MX w0 (W.setRow b1 rx) b1 b2 rx zs :=
 ⟨gY _ _ _ _ _ _ h.X,by rw [qC _ _ _ _ (fun e=>h.ne e.symm)];exact h.R,below_setRow h.L h.g1 _,h.g1,h.g2,h.ne⟩
end
theorem MX.XK {W':World} {b2:Nat} {zs:Array Value} (h:MX w0 W b1 b2 cs zs) (g:W.grownBy W' (some q)) (h1:b1≠q) (h2:b2≠q) (h0:w0.heap.size≤q):MX w0 W' b1 b2 cs zs:=by
 have hk:bM (fun j=>j=q) W W':=bM.grown g (fun j e=>by injection e with e;exact e.symm);refine ⟨?_,?_,hk.up h.L (fun j e=>by rw [e];exact h0) h.L.size,h.g1,h.g2,h.ne⟩
 ·rw [hk.block b1 (zl h.X) h1];exact h.X
 ·rw [hk.block b2 (zl h.R) h2];exact h.R
def GZ (w:World) (b:Nat):Nat:=match w.cell? ⟨b,17,none⟩ with
 | some (.string s)=>s.size
 | _=>0
def Nz (w:World) (b:Nat):Nat:=(match w.cell? ⟨b,18,none⟩ with
 | some (.slice _ n _)=>n
 | _=>0)+(match w.cell? ⟨b,19,none⟩ with
 | some (.slice _ n _)=>n
 | _=>0)
theorem NC {ty:TypeId} (h:W.heap[b]? = some (.cells cs ty (0,0))) (hc:cs[17]? = some (.string s)):GZ W b=s.size:=by
 unfold GZ;rw [jg _ _ _ _ _ _ h,hc]
theorem Dh {ty:TypeId} (h:W.heap[b]? = some (.cells cs ty (0,0))) {d:Option Addr} {n i k:Nat} (h1:cs[18]? = some (.slice a n i)) (h2:cs[19]? = some (.slice d m k)):Nz W b=n+m:=by
 unfold Nz;rw [jg _ _ _ _ _ _ h,jg _ _ _ _ _ _ h,h1,h2]
theorem Di (t:List Nat) (ht:aU 256 t) (k:Nat):(aF t).extract 0 k=aF (t.take k):=by
 refine kW ?_;rw [bC,Af,dm t ht,dm _ (fun y hy=>ht y (Hf hy))]
theorem Jp (t:List Nat) (ht:aU 256 t) (k:Nat):(aF t).extract k (aF t).size=aF (t.drop k):=by
 refine kW ?_;rw [bC,dm t ht,dm _ (fun y hy=>ht y (Ef hy)),nC (by rw [cZ];exact aY _)]
theorem G4 (t:List Nat) (ht:aU 256 t):((aF t).toList==[])=decide (t=[]):=by
 rw [nO,dm t ht];rfl
theorem Qc (ho:o.op=.slice 9 x none (some (.const (.int .i64 1))) none) (hx:ev x=.string s) (mS:ev (.const (.int .i64 1))=.int .i64 1) (h:1≤s.size) :
 (execOp ev o).run prog W=.ok (.value (.string (s.extract 0 1))) W:=by
 simp only [execOp,ho,hx,mS,Dy,Option.map_none];have h':(1:Int)≤(s.size:Int):=by omega
 go_simp
theorem Qd (ho:o.op=.slice 9 x (some (.const (.int .i64 1))) none none) (hx:ev x=.string s) (mS:ev (.const (.int .i64 1))=.int .i64 1) (h:1≤s.size) :
 (execOp ev o).run prog W=.ok (.value (.string (s.extract 1 s.size))) W:=by
 simp only [execOp,ho,hx,mS,Dy,Option.map_none];have h':(1:Int)≤(s.size:Int):=by omega
 go_simp
theorem Jq {n cap:Nat} (ho:o.op=.slice 34 x (some (.const (.int .i64 1))) none none) (hx:ev x=.slice a n cap) (mS:ev (.const (.int .i64 1))=.int .i64 1) (h:1≤n) :
 (execOp ev o).run prog W=.ok (.value (.slice (iL.kG a 1 cap) (n-1) (cap-1))) W:=by
 have h2:(Instr.slice 34 (.slice a n cap) (some (.int .i64 1)) none none).run prog W=.ok (.slice (iL.kG a 1 cap) (n-1) (cap-1)) W:=iL.zx W a n cap 1 h;unfold execOp;simp only [ho,hx,mS,Option.map_none,Dy,rE];refine (lG (fun r=>Result.andThen r _) h2).trans ?_;rfl
theorem E9 {y:Operand} {g:Nat} {oB cells:Array Value} (ho:o.op=.store 61 x y) (hx:ev x=.pointer (some ⟨g,0,none⟩)) (hy:ev y=.agg cells) (hg:W.heap[g]? = some (.cells oB 61 (0,0))) (hs:oB.size=cells.size) (h2:cells.size=8) (h1:cells.all (·.oneCell')=true) :
 (execOp ev o).run prog W=.ok .skip (W.setRow g cells):=by
 unfold execOp;simp only [ho,hx,hy,Instr.storeAt,Instr.sureAddr,rE,Sem.run_pure,Result.andThen_ok,run_storeVar_row W g 61 61 oB cells hg (gK.aW h2) hs h1]
theorem MX.row {b2:Nat} {zs fs:Array Value} (h:MX w0 W b1 b2 cs zs) (h1:b1≠q) (h2:b2≠q) (h0:w0.heap.size≤q):MX w0 (W.setRow q fs) b1 b2 cs zs :=
 ⟨by rw [qC _ _ _ _ h1];exact h.X,by rw [qC _ _ _ _ h2];exact h.R,below_setRow h.L h0 _,h.g1,h.g2,h.ne⟩
theorem Fa (x d:Nat) (h:aj.next x=d) (hx:x<4294967296):(IntKind.u64.wrap (IntKind.u64.wrap (IntKind.u64.wrap (x:Int)*1664525)+1013904223)).tmod 4294967296 % 4294967296=(d:Int):=by
 have e1:IntKind.u64.wrap (x:Int)=(x:Int):=by rw [FP];omega
 have e2:IntKind.u64.wrap ((x:Int)*1664525)=((x*1664525:Nat):Int):=by rw [FP];omega
 have e3:IntKind.u64.wrap (((x*1664525:Nat):Int)+1013904223)=((x*1664525+1013904223:Nat):Int):=by rw [FP];omega
 rw [e1,e2,e3,Fq (by omega)];unfold aj.next at h;omega
def PB (P:Nat→Prop) (a:Option Addr) (n:Nat):Prop:=0<n→∀ x,a=some x→P x.block
theorem PB.from {P:Nat→Prop} {n:Nat} (h:PB P a n) (k cap:Nat) (hm:0<m→0<n):PB P (iL.kG a k cap) m:=fun WD x e=>by
 have h:=h (hm WD);unfold iL.kG at e;split at e
 ·exact h x e
 ·cases a with
  | none=>cases e
  | some y =>
    have e:y.add (k*8)=x:=by injection e
    rw [← e,Go.Addr.add];have:=h y rfl;split<;>exact this
theorem PB.none (P:Nat→Prop) (n:Nat):PB P none n:=fun _ _ e=>by cases e
theorem Dj {f:Fr} (hk:f.key=aC.bn) (hs:∀ y∈f.data,y<256) (hl:f.data.length≤65536) (ho:0≤f.op∧f.op≤10):vw f :=
 ⟨by rw [hk];rfl,by rw [hk];exact aj.rX,hs,by unfold maxLen;omega,by omega⟩
end
theorem Qe (K:Kf) (c:Cf) (l:Lg) (inp:ByteArray) (fa:Option Addr) (fn fc:Nat) (ca:Option Addr) (cn cc:Nat) (ra:Option Addr) (rn rc:Nat) (am dA:Bool) (ag:Int) (W:World) (hC:aS W (.slice ca cn cc) l.aQ) (hS:aS W (.slice ra rn rc) l.rest) (hi:lC c l) (ht:l.tail.length≤14+max c.bR 125) (hf:c.bR≤65536) (hd:l.bu<4294967296) (NA:c.ah≤500000) {P:Nat→Prop} (xe:PB P ca cn) (hpr:PB P ra rn):Calls prog 79 #[.agg (zL K c (l.bu:Int) inp fa fn fc (aF l.aK) (aF l.tail) ca cn cc ra rn rc am dA ag)] W fun e w'=>∃ aq ar aD aw az aE,e=.returned (.agg (zL K c ((aj.move c l).bu:Int) inp fa fn fc (aF (aj.move c l).aK) (aF (aj.move c l).tail) aq ar aD aw az aE am dA ag))∧Sl (aS W (.slice aq ar aD) (aj.move c l).aQ∧aS W (.slice aw az aE) (aj.move c l).rest)∧Sl (Below W.heap.size W w')∧Sl (PB P aq ar∧PB P aw az):=by
 obtain ⟨T,hT⟩:=zX (aj.move c l);rw [hT];obtain ⟨w1,bA,dc,ey⟩:=zY W (zL K c (l.bu:Int) inp fa fn fc (aF l.aK) (aF l.tail) ca cn cc ra rn rc am dA ag) 36;obtain ⟨w2,cE,fY,jN⟩:=zY w1 zD 36;have eI:w1.heap.size=W.heap.size+1:=by rw [← bA,aP]
 have cA:MX W w2 W.heap.size w1.heap.size (zL K c (l.bu:Int) inp fa fn fc (aF l.aK) (aF l.tail) ca cn cc ra rn rc am dA ag) zD:=⟨ay ey fY,jN,dc.trans (fY.mono dc.size),aY _,dc.size,by omega⟩;obtain ⟨b1,cM⟩:=zX W.heap.size;obtain ⟨b2,cG⟩:=zX w1.heap.size;rw [cM,cG] at cA;have cA:=Sl.mk cA;have ZX:Sl (aS W (.slice ca cn cc) l.aQ∧aS W (.slice ra rn rc) l.rest):=⟨hC,hS⟩;have ZY:Sl (mv c (l.aQ.length+l.rest.length) l=T∧l.aQ.length+l.rest.length≤l.aQ.length+l.rest.length):=⟨hT,aY _⟩;have ZZ:Sl (lC c l∧l.tail.length≤14+max c.bR 125∧l.bu<4294967296):=⟨hi,ht,hd⟩;have Z0:Sl (PB P ca cn∧PB P ra rn):=⟨xe,hpr⟩;have I2:=Sl.mk hf;have Mt:=Sl.mk NA;clear xe hpr hC hS hi ht hf hd hT ey jN dc fY eI NA;go_enter func79,ntmps79;go_wp2;(try rw [bA]);(try rw [cE]);(try rw [cM]);(try rw [cG]);clear bA cE cM cG;go_loopw [3] (fun u3 wr=>∃ (n:Nat) (x:Lg) (ca:Option Addr) (cn cc:Nat) (ra:Option Addr) (rn rc:Nat),Sl (mv c n x=T∧x.aQ.length+x.rest.length≤n)∧Sl (lC c x∧x.tail.length≤14+max c.bR 125∧x.bu<4294967296)∧Sl (aS W (.slice ca cn cc) x.aQ∧aS W (.slice ra rn rc) x.rest)∧Sl (MX W wr b1 b2 (zL K c (x.bu:Int) inp fa fn fc (aF x.aK) (aF x.tail) ca cn cc ra rn rc am dA ag) zD)∧Sl (PB P ca cn∧PB P ra rn)) (fun _ wr=>Nz wr b1)
 case atStart=>exact ⟨_,l,_,_,_,_,_,_,ZY,ZZ,ZX,cA,Z0⟩
 case round =>
  obtain ⟨n,x,ca,cn,cc,ra,rn,rc,Yh,m4,dk,HMX,ol⟩:=hrel;clear ZY ZZ ZX cA Z0;have mN:Sl (aU 256 (x.aK++x.tail)):=⟨fun y hy=>by
   have h1:=(aj.xB I2.ah x.bE m4.ah.1.bE).2;rw [← m4.ah.1.bytes,Ae] at h1;exact h1 y (WX _ hy)⟩
  have HFO:Sl (Nz wr b1=cn+rn):=⟨Dh HMX.ah.X rfl rfl⟩;go_wp2;go_loopw [] (fun wr=>∃ r t:List Nat,Sl (r++t=x.aK++x.tail∧x.aK.length≤r.length∧r.length≤c.ah)∧Sl (MX W wr b1 b2 (zL K c (x.bu:Int) inp fa fn fc (aF r) (aF t) ca cn cc ra rn rc am dA ag) zD)) (fun wr=>GZ wr b1)
  case atStart=>exact ⟨x.aK,x.tail,⟨rfl,aY _,m4.ah.1.aK⟩,HMX⟩
  case round =>
   obtain ⟨r,t,zd,ly⟩:=hrel;clear HMX;have hsr:aU 256 r:=fun y hy=>mN.ah y (by rw [← zd.ah.1];exact List.mem_append_left _ hy)
   have eQ:aU 256 t:=fun y hy=>mN.ah y (by rw [← zd.ah.1];exact WX _ hy)
   obtain ⟨z,hz⟩:=zX ((aF t).toList==[]);have Yi:=hz;rw [G4 t eQ] at Yi;have us:(aF r).size=r.length:=cZ r;have R5:(aF t).size=t.length:=cZ t;have k7:=bP.aB ly.ah.X 7 _ rfl;have Mr:=bP.aB ly.ah.X 16 _ rfl;have k17:=bP.aB ly.ah.X 17 _ rfl;cases z with
   | false =>
     have Z1:t≠[]:=of_decide_eq_false Yi;by_cases hro:r.length<c.ah
     ·have nA:(((aF r).size:Int)<(c.ah:Int))=True:=eq_true (by omega)
      have z7:decide (((aF r).size:Int)<(c.ah:Int))=true:=iG (by omega);have hl3:((aF r).size:Int)<(c.ah:Int):=by omega
      have vq:1≤(aF t).size:=by rw [R5];exact List.length_pos_iff.2 Z1
      have e1:aF r++(aF t).extract 0 1=aF (r++t.take 1):=by rw [Di t eQ,gK.kZ]
      have e2:(aF t).extract 1 (aF t).size=aF (t.drop 1):=Jp t eQ 1;have afl:Sl ((r++t.take 1)++t.drop 1=x.aK++x.tail∧x.aK.length≤(r++t.take 1).length∧(r++t.take 1).length≤c.ah):=⟨by rw [Ae,Ee];exact zd.ah.1,by rw [jB];have:=zd.ah.2.1;omega,by rw [jB,kQ];omega⟩;have gh:(aF r).size+((aF t).extract 0 1).size≤1000000:=by
       rw [Di t eQ,cZ,cZ,kQ];have:=Mt.ah;omega
      have o6:Sl (GZ wr b1=t.length∧(t.drop 1).length<t.length):=⟨by rw [NC ly.ah.X rfl,R5],by rw [iP];have:=List.length_pos_iff.2 Z1;omega⟩;clear Yi Z1 hro hsr eQ zd;go_upto_region 2 with fail
      obtain ⟨RF,hRF⟩:=zX (aF r++(aF t).extract 0 1);obtain ⟨TF,hTF⟩:=zX ((aF t).extract 1 (aF t).size);have afm:∀ V,Below wr.heap.size wr V→MX W V b1 b2 (zL K c (x.bu:Int) inp fa fn fc (aF r) (aF t) ca cn cc ra rn rc am dA ag) zD:=fun V k=>ly.ah.below k
      refine zH (S:=fun V=>V.cell? ⟨b1,16,none⟩=some (.string (aF r))∧V.cell? ⟨b1,17,none⟩=some (.string (aF t))) (D:=fun j=>j==10||j==12) (by kernel_rfl) (fun Rw aM=>?_);have xr:=Sl.mk (afm Rw aM);have al:Rw.cell? ⟨b1,16,none⟩=some (.string (aF r))∧Rw.cell? ⟨b1,17,none⟩=some (.string (aF t)):=⟨bP.aB xr.ah.X 16 _ rfl,bP.aB xr.ah.X 17 _ rfl⟩;have f16:=xr.ah.fF 16;have s16:=al.1;refine zU 0 (some 16) (.fieldAddr 36 (.tmp 1) 5) _ al ?_;simp only [zA,zB,zS];refine zU 1 (some 17) (.load 9 (.tmp 16)) _ al ?_ (hy:=fun o' ho W hS=>by have d1:=hS.1;simp only [execOp,ho];go_simp;try rfl);simp only [zA,zB,zS];refine zU 2 (some 18) (.fieldAddr 36 (.tmp 1) 6) _ al ?_;simp only [zA,zB,zS];refine zU 3 (some 19) (.load 9 (.tmp 18)) _ al ?_ (hy:=fun o' ho W hS=>by have d1:=hS.2;simp only [execOp,ho];go_simp;try rfl);simp only [zA,zB,zS];refine zU 4 (some 20) (.slice 9 (.tmp 19) none (some (.const (.int .i64 1))) none) (.string ((aF t).extract 0 1)) al ?_ (hy:=fun o' ho W hS=>Qc ho (by rfl) (by rfl) vq);simp only [zA,zB,zS];refine zU 5 (some 21) (.binOp .add 9 (.tmp 17) (.tmp 20) 9) (.string RF) al ?_ (hy:=fun o' ho W hS=>hRF ▸ gK.jU ho (by rfl) (by rfl) gh);simp only [zA,zB,zS];refine zU 6 (some 22) (.fieldAddr 36 (.tmp 1) 6) _ al ?_;simp only [zA,zB,zS];refine zU 7 (some 23) (.load 9 (.tmp 22)) _ al ?_ (hy:=fun o' ho W hS=>by have d1:=hS.2;simp only [execOp,ho];go_simp;try rfl);simp only [zA,zB,zS];refine zP 8 (some 24) (.slice 9 (.tmp 23) (some (.const (.int .i64 1))) none none) (.string TF) al ?_ (hy:=fun o' ho W=>hTF ▸ Qd ho (by rfl) (by rfl) vq);simp only [zA,zB,zS];refine zU 9 (some 25) (.fieldAddr 36 (.tmp 1) 5) _ al ?_;simp only [zA,zB,zS];have I3:Sl (MX W (Rw.setCell ⟨b1,16,none⟩ (.string RF)) b1 b2 (zL K c (x.bu:Int) inp fa fn fc RF (aF t) ca cn cc ra rn rc am dA ag) zD):=⟨xr.ah.set 16 (.string RF) rfl⟩;obtain ⟨wp,hwp⟩:=zX (Rw.setCell ⟨b1,16,none⟩ (.string RF));rw [hwp] at I3;have f17:=I3.ah.fF 17;have s17:=bP.aB I3.ah.X 17 _ rfl;refine kU (d:=none) (op:=.store 9 (Operand.tmp 25) (Operand.tmp 21)) (g:=none) (t:=0) 10 wp rfl (by kernel_rfl) (by kernel_rfl) ?y10 (by kernel_rfl) ?_;case y10=>intro o' ho ht;simp only [execOp,ho];go_simp;first | done | exact hwp | (rw [hwp])
      simp only [Act.put];refine Qb (d:=some 26) (op:=.fieldAddr 36 (Operand.tmp 1) 6) (g:=none) (t:=0) 11 (.pointer (some ⟨b1,17,none⟩)) wp rfl (by kernel_rfl) (by kernel_rfl) ?y11 rfl ?_;case y11=>intro o' ho ht;simp only [execOp,ho];go_simp;try rfl
      simp only [zA,zB,zS];have Mf:Sl (MX W (wp.setCell ⟨b1,17,none⟩ (.string TF)) b1 b2 (zL K c (x.bu:Int) inp fa fn fc (aF (r++t.take 1)) (aF (t.drop 1)) ca cn cc ra rn rc am dA ag) zD):=⟨by
       rw [← e1,← e2,hRF,hTF];exact I3.ah.set 17 (.string TF) rfl⟩
      obtain ⟨wq,hwq⟩:=zX (wp.setCell ⟨b1,17,none⟩ (.string TF));rw [hwq] at Mf;refine kU (d:=none) (op:=.store 9 (Operand.tmp 26) (Operand.tmp 24)) (g:=none) (t:=0) 12 wq rfl (by kernel_rfl) (by kernel_rfl) ?y12 (by kernel_rfl) ?_;case y12=>intro o' ho ht;simp only [execOp,ho];go_simp;first | done | exact hwq | (rw [hwq])
      simp only [Act.put];refine zF (by kernel_rfl) ?_;have et:=Mf;(try go_frame);go_wp2;exact ⟨⟨_,_,afl,et⟩,by rw [NC et.ah.X rfl,o6.ah.1,cZ];exact o6.ah.2⟩
     ·have nA:(((aF r).size:Int)<(c.ah:Int))=False:=dR (by omega)
      have z7:decide (((aF r).size:Int)<(c.ah:Int))=false:=iQ (by omega);obtain ⟨f1,f2⟩:=aj.Ny zd.ah.1 zd.ah.2.1 zd.ah.2.2 (.inr (by omega));have hTx:T=fill c x:=by rw [← Yh.ah.1];exact aj.Un c n x (by rw [← f2];exact Z1)
      have yp:=Sl.mk hTx;have mu:r=T.aK:=by rw [hTx,← f1]
      have vq:t=T.tail:=by rw [hTx,← f2]
      clear Yi Z1 hro hsr eQ zd f1 f2 hTx;subst mu vq;have qD:Sl (MX W wr b1 b2 (zL K c (x.bu:Int) inp fa fn fc (aF T.aK) (aF T.tail) ca cn cc ra rn rc am dA ag) zD):=ly;clear us R5 ly;go_wp2_with (first
       | (refine uY rfl 36 (.tmp 1) rfl b1 rfl 36 _ (0,0) _ qD.ah.X underlying36 rfl (aX rfl) ?_)
       | (refine fG rfl 36 (.tmp 2) (.tmp 30) rfl b2 (zL K c (x.bu:Int) inp fa fn fc (aF T.aK) (aF T.tail) ca cn cc ra rn rc am dA ag) rfl rfl 36 zD qD.ah.R (aX rfl) rfl (dV ..) ?_))
      clear k7 Mr k17;have eO:=qD.ah.ah (zL K c (x.bu:Int) inp fa fn fc (aF T.aK) (aF T.tail) ca cn cc ra rn rc am dA ag);(try simp only [Exit.inBlock,Exit.then]);refine gX (sJ rfl _ _ b2 _ rfl eO.R rfl) rfl ?_;refine ⟨ca,cn,cc,ra,rn,rc,?_,⟨by rw [yp.ah];exact dk.ah.1,by rw [yp.ah];exact dk.ah.2⟩,⟨eO.L⟩,ol⟩;have e3:(x.bu:Int)=(T.bu:Int):=by rw [yp.ah];rfl
      rw [e3]
   | true =>
     obtain rfl:t=[]:=QE Yi;obtain ⟨f1,f2⟩:=aj.Ny zd.ah.1 zd.ah.2.1 zd.ah.2.2 (.inl rfl);have mu:r=(fill c x).aK:=f1;have Z2:Sl ((fill c x).tail=[]):=⟨f2.symm⟩;clear Yi hsr eQ zd f1 f2 R5;subst mu;have hXr:(wr.alloc (.cells zZ 61)).heap[wr.heap.size]? = some (.cells zZ 61 (0,0)):=aI _ _ _ rfl;go_upto_region 7 with (refine fG rfl 61 (.tmp 3) (.tmp 31) rfl wr.heap.size zZ rfl rfl 61 zZ hXr (gK.aW rfl) rfl (by simp [Value.oneCell']) ?_)
     obtain ⟨w4,cS⟩:=zX ((wr.alloc (.cells zZ 61)).setRow wr.heap.size zZ);have yd:b1≠wr.heap.size∧b2≠wr.heap.size∧W.heap.size≤wr.heap.size:=⟨fun e=>by have:=(zl ly.ah.X);omega,fun e=>by have:=(zl ly.ah.R);omega,ly.ah.L.size⟩;have gS:Sl (MX W w4 b1 b2 (zL K c (x.bu:Int) inp fa fn fc (aF (fill c x).aK) (aF []) ca cn cc ra rn rc am dA ag) zD):=⟨by rw [← cS];exact (ly.ah.below ((dW _ _).alloc (aY _) _)).row yd.1 yd.2.1 yd.2.2⟩;have hX4:w4.heap[wr.heap.size]? = some (.cells zZ 61 (0,0)):=by rw [← cS];exact gY _ _ _ _ _ _ hXr
     obtain ⟨q,hq⟩:=zX wr.heap.size;have cx:Sl (w4.heap[q]? = some (.cells zZ 61 (0,0))):=⟨by rw [← hq];exact hX4⟩;have HQ:Sl (b1≠q∧b2≠q∧W.heap.size≤q):=⟨by rw [← hq];exact yd⟩;rw [cS];(try rw [hq]);clear hX4 yd us hXr;clear cS hq k7 Mr k17 hz;have Ct:=bP.aB gS.ah.X 18 _ rfl;have Ye:=bP.aB gS.ah.X 19 _ rfl;cases kx:x.aQ with
     | nil =>
       cases hrx:x.rest with
       | nil =>
         obtain rfl:cn=0:=by rw [(dk.ah.1.cap).1,kx];rfl
         obtain rfl:rn=0:=by rw [(dk.ah.2.cap).1,hrx];rfl
         have yp:Sl (T=fill c x):=⟨by rw [← Yh.ah.1];exact aj.Uo c n x kx hrx⟩;go_wp2_with (first
          | (refine uY rfl 36 (.tmp 1) rfl b1 rfl 36 _ (0,0) _ gS.ah.X underlying36 rfl (aX rfl) ?_)
          | (refine fG rfl 36 (.tmp 2) (.tmp 32) rfl b2 (zL K c (x.bu:Int) inp fa fn fc (aF (fill c x).aK) (aF []) ca 0 cc ra 0 rc am dA ag) rfl rfl 36 zD gS.ah.R (aX rfl) rfl (dV ..) ?_))
         have eN:=gS.ah.ah (zL K c (x.bu:Int) inp fa fn fc (aF (fill c x).aK) (aF []) ca 0 cc ra 0 rc am dA ag);(try simp only [Exit.inBlock,Exit.then]);refine gX (sJ rfl _ _ b2 _ rfl eN.R rfl) rfl ?_;refine ⟨ca,0,cc,ra,0,rc,?_,⟨by rw [yp.ah];exact dk.ah.1,by rw [yp.ah];exact dk.ah.2⟩,⟨eN.L⟩,ol⟩;have e1:(fill c x).aK=T.aK:=by rw [yp.ah]
         have e2:([]:List Nat)=T.tail:=by rw [yp.ah];exact Z2.ah.symm
         have e3:(x.bu:Int)=(T.bu:Int):=by rw [yp.ah];rfl
         rw [e1,e2,e3]
       | cons f rs =>
         have Pi:rn=rs.length+1:=by rw [(dk.ah.2.cap).1,hrx];rfl
         obtain ⟨sb,so,rfl⟩:=(dk.ah.2.cap).2 (by omega);obtain ⟨m,rfl,I6,vL⟩:=aj.Up Z2.ah kx hrx Yh.ah.2;obtain ⟨rI,fR⟩:=aj.Qa m4.ah.1 Z2.ah hrx;have R6:vw f:=by
          have h1:=m4.ah.1.rest f (by rw [hrx];exact rD);exact Dj h1.key h1.fO (by have:=h1.len;have:=I2.ah;omega) (by rcases h1.op with e | e | e<;>omega)
         have vQ:0≤f.op:=by
          have h1:=m4.ah.1.rest f (by rw [hrx];exact rD);rcases h1.op with e | e | e<;>omega
         obtain ⟨aN,op,mk,ka,kb,kc,kd,s,hf,eh,ez⟩:=BM R6;obtain ⟨k,hk⟩:=JH vQ;have R8:op=(k:Int):=by rw [hf] at hk;exact hk
         subst R8;have As:0<rn:=by omega
         have sC:(rn:Int)>0:=by omega
         have pD:(0<rn)=True:=eq_true As;obtain rfl:cn=0:=by rw [(dk.ah.1.cap).1,kx];rfl
         have Zd:decide ((rn:Int)>0)=true:=iG sC;go_upto_region 10 with fail
         refine zH (S:=fun V=>V.cell? ⟨b1,19,none⟩=some (.slice (some ⟨sb,so,none⟩) rn rc)∧V.rangeAt sb so (cv f)) (D:=fun j=>j==9) (by kernel_rfl) (fun Rw aM=>?_);have xr:=Sl.mk (gS.ah.below aM);have R9:=ay cx.ah aM;have al:Rw.cell? ⟨b1,19,none⟩=some (.slice (some ⟨sb,so,none⟩) rn rc)∧Rw.rangeAt sb so (cv f):=⟨bP.aB xr.ah.X 19 _ rfl,by
          have h1:=iL.aS.range (dk.ah.2.below xr.ah.L) 0 (by rw [hrx];simp);rw [hrx] at h1;exact h1⟩
         refine zU 0 (some 51) (.fieldAddr 36 (.tmp 1) 8) _ al ?_;simp only [zA,zB,zS];refine zU 1 (some 52) (.load 34 (.tmp 51)) (.slice (some ⟨sb,so,none⟩) rn rc) al ?_ (hy:=fun o' ho W hS=>by have d1:=hS.1;simp only [execOp,ho];go_simp;try rfl);simp only [zA,zB,zS];refine zU 2 (some 53) (.indexAddr 34 (.tmp 52) (.const (.int .i64 0))) (.pointer (some ⟨sb,so,none⟩)) al ?_ (hy:=fun o' ho W hS=>by simp only [execOp,ho];go_simp;first | done | rfl);simp only [zA,zB,zS];refine zU 3 (some 54) (.load 61 (.tmp 53)) (.agg (cv f).toArray) al ?_ (hy:=fun o' ho W hS=>iL.Iy ho (by rfl) rfl hS.2);simp only [zA,zB,zS];refine zU 4 (some 55) (.fieldAddr 36 (.tmp 1) 8) _ al ?_;simp only [zA,zB,zS];refine zU 5 (some 56) (.load 34 (.tmp 55)) (.slice (some ⟨sb,so,none⟩) rn rc) al ?_ (hy:=fun o' ho W hS=>by have d1:=hS.1;simp only [execOp,ho];go_simp;try rfl);simp only [zA,zB,zS];refine zP 6 (some 57) (.slice 34 (.tmp 56) (some (.const (.int .i64 1))) none none) (.slice (iL.kG (some ⟨sb,so,none⟩) 1 rc) (rn-1) (rc-1)) al ?_ (hy:=fun o' ho W=>Jq ho (by rfl) (by rfl) (by omega));simp only [zA,zB,zS];obtain ⟨w5,dq⟩:=zX (Rw.setRow q (cv f).toArray);have eN:Sl (MX W w5 b1 b2 (zL K c (x.bu:Int) inp fa fn fc (aF (fill c x).aK) (aF []) ca 0 cc (some ⟨sb,so,none⟩) rn rc am dA ag) zD):=⟨by rw [← dq];exact xr.ah.row HQ.ah.1 HQ.ah.2.1 HQ.ah.2.2⟩;have eT:w5.heap[q]? = some (.cells (cv f).toArray 61 (0,0)):=by rw [← dq];exact gY _ _ _ _ _ _ R9
         have cT:w5.cell? ⟨b1,19,none⟩=some (.slice (some ⟨sb,so,none⟩) rn rc)∧w5.rangeAt sb so (cv f):=⟨bP.aB eN.ah.X 19 _ rfl,by
          have h1:=iL.aS.range (dk.ah.2.below eN.ah.L) 0 (by rw [hrx];simp);rw [hrx] at h1;exact h1⟩
         refine E8 (d:=none) (op:=.store 61 (Operand.tmp 3) (Operand.tmp 54)) (g:=none) (t:=0) 7 w5 rfl (by kernel_rfl) (by kernel_rfl) ?Sa cT ?_;case Sa=>intro o' ho ht;rw [← dq];exact E9 ho (by rfl) (by rfl) R9 rfl rfl (by simp [cv,Value.oneCell'])
         simp only [Act.put];refine zU 8 (some 58) (.fieldAddr 36 (.tmp 1) 8) _ cT ?_;simp only [zA,zB,zS];obtain ⟨EA,Jx⟩:=zX (iL.kG (some ⟨sb,so,none⟩) 1 rc);obtain ⟨Cu,Sb⟩:=zX (rn-1);obtain ⟨Mu,Sc⟩:=zX (rc-1);rw [Jx,Sb,Sc];have f18:=eN.ah.fF 19;have s18:=bP.aB eN.ah.X 19 _ rfl;obtain ⟨w6,iB⟩:=zX (w5.setCell ⟨b1,19,none⟩ (.slice EA Cu Mu));have fi:Sl (MX W w6 b1 b2 (zL K c (x.bu:Int) inp fa fn fc (aF (fill c x).aK) (aF []) ca 0 cc EA Cu Mu am dA ag) zD):=⟨by rw [← iB];exact eN.ah.set 19 (.slice EA Cu Mu) rfl⟩;have pn:Sl (w6.heap[q]? = some (.cells (zV aN (k:Int) mk ka kb kc kd s) 61 (0,0))):=⟨by rw [← iB,pI _ _ _ _ (show q≠b1 from fun e=>HQ.ah.1 e.symm),eT,eh]⟩;refine kU (d:=none) (op:=.store 34 (Operand.tmp 58) (Operand.tmp 57)) (g:=none) (t:=0) 9 w6 rfl (by kernel_rfl) (by kernel_rfl) ?Se (by kernel_rfl) ?_;case Se=>intro o' ho ht;simp only [execOp,ho];go_simp;first | done | exact iB | (rw [iB])
         simp only [Act.put];refine zF (by kernel_rfl) ?_;have Sf:Sl (aS W (.slice EA Cu Mu) rs):=⟨by
          have h1:=iL.aS.from (k:=1) dk.ah.2 (by omega);rw [hrx,Jx,Sb,Sc] at h1;exact h1⟩
         have ze:Sl (Cu+1=rn):=⟨by omega⟩;have Cv:Sl (PB P EA Cu):=⟨by rw [← Jx];exact PB.from ol.ah.2 _ _ (fun _=>by omega)⟩;have gx:Sl (PB P ca 0∧PB P EA Cu):=⟨ol.ah.1,Cv.ah⟩;(try go_frame);clear xr R9 al cT aM eN eT dq iB f18 s18 Jx Sb Sc gS cx;obtain ⟨cm,qt⟩:=zX c.af;have HCM:=Sl.mk qt;obtain ⟨y,hy⟩:=zX (aj.put c {fill c x with rest:=rs} f);rw [hy] at I6 rI;have HY:Sl (mv c m y=T∧y.aQ.length+y.rest.length≤m):=⟨by rw [← I6];exact Yh.ah.1,by rw [← hy];exact vL⟩;have Sg:y.aQ=x.aQ:=by rw [← hy];rfl
         have E0:y.rest=rs:=by rw [← hy];rfl
         have G0:Sl (aS W (.slice ca 0 cc) y.aQ∧aS W (.slice EA Cu Mu) y.rest):=⟨by rw [Sg,E0];exact ⟨dk.ah.1,Sf.ah⟩⟩;have vR:y.tail=aC.aT (dN c (dD c x.bu) f):=by rw [← hy];rfl
         have ue:y.bu=dD c x.bu:=by rw [← hy];rfl
         have JN:y.aK=(fill c x).aK:=by rw [← hy];rfl
         have Z3:Sl (lC c y∧y.tail.length≤14+max c.bR 125∧y.bu<4294967296):=⟨rI,by
          rw [vR,aC.jk _ (by have:=fR.len;have:=I2.ah;omega) fR.key];have h1:=aj.GG (dN c (dD c x.bu) f);have h2:=fR.len;omega,by
          rw [ue];have:=m4.ah.2.2;unfold aj.dD aj.next;split<;>omega⟩
         have Sh:w6.cell? ⟨b1,12,none⟩=some (.bool c.af):=bP.aB fi.ah.X 12 _ rfl;rw [qt] at Sh;cases cm with
         | true =>
           have Cw:dN c (dD c x.bu) f=f:=by unfold aj.dN;rw [if_pos qt]
           have mH:dD c x.bu=x.bu:=by unfold aj.dD;rw [if_pos qt]
           rw [Cw] at vR fR;rw [mH] at ue;obtain ⟨l0,l1,l2,l3,l4,l5,l6,l7⟩:=gK.bG pn.ah;have TX:=gK.oP aN k mk ka kb kc kd s w6 ez (aC.Bo (by rw [← hf];exact fR.dF) (by have:=fR.len;rw [hf] at this;have:=I2.ah;simp only at *;omega));rw [← hf,← vR] at TX;rw [← JN,← ue] at fi;clear Cw mH vR ue JN fR rI I6 vL hy ez hf eh R6 vQ hk Sg E0 qt;go_wp2_with fail
           refine TX.mono ?_;rintro e w7 ⟨rfl,fj⟩;clear TX l0 l1 l2 l3 l4 l5 l6 l7 Sh;have ej:=Sl.mk (fi.ah.below fj.ah);have f17:=ej.ah.fF 17;have s17:=bP.aB ej.ah.X 17 _ rfl;have ma:=Sl.mk (ej.ah.set 17 (.string (aF y.tail)) rfl);obtain ⟨w8,ff⟩:=zX (w7.setCell ⟨b1,17,none⟩ (.string (aF y.tail)));rw [ff] at ma;clear fi ej;go_wp2;(try rw [ff]);exact ⟨⟨m,y,ca,0,cc,EA,Cu,Mu,HY,Z3,G0,ma,gx⟩,by rw [Dh ma.ah.X rfl rfl,HFO.ah];have:=ze.ah;omega⟩
         | false =>
           obtain ⟨d,hd⟩:=zX (aj.next x.bu);have pS:d<4294967296:=by rw [← hd];unfold aj.next;omega
           have Av:(IntKind.u64.wrap (IntKind.u64.wrap (IntKind.u64.wrap (x.bu:Int)*1664525)+1013904223)).tmod 4294967296 % 4294967296=(d:Int):=Fa x.bu d hd m4.ah.2.2;have Z4:w6.cell? ⟨b1,13,none⟩=some (.int .u32 (x.bu:Int)):=bP.aB fi.ah.X 13 _ rfl;have f13:=fi.ah.fF 13;go_upto_region 13 with fail
           rw [Av];obtain ⟨w7,gk⟩:=zX (w6.setCell ⟨b1,13,none⟩ (.int .u32 (d:Int)));rw [gk];have ej:Sl (MX W w7 b1 b2 (zL K c ((d:Nat):Int) inp fa fn fc (aF (fill c x).aK) (aF []) ca 0 cc EA Cu Mu am dA ag) zD):=⟨by rw [← gk];exact fi.ah.set 13 (.int .u32 (d:Int)) rfl⟩;have kh:Sl (w7.heap[q]? = some (.cells (zV aN (k:Int) mk ka kb kc kd s) 61 (0,0))):=⟨by rw [← gk,pI _ _ _ _ (show q≠b1 from fun e=>HQ.ah.1 e.symm)];exact pn.ah⟩;have Z4:w7.cell? ⟨b1,13,none⟩=some (.int .u32 (d:Int)):=bP.aB ej.ah.X 13 _ rfl;obtain ⟨l0,l1,l2,l3,l4,l5,l6,l7⟩:=gK.bG kh.ah;have g2:w7.frozen? ⟨q,2,none⟩=false:=kT _ _ _ _ _ kh.ah;have g3:w7.frozen? ⟨q,3,none⟩=false:=kT _ _ _ _ _ kh.ah;have g4:w7.frozen? ⟨q,4,none⟩=false:=kT _ _ _ _ _ kh.ah;have g5:w7.frozen? ⟨q,5,none⟩=false:=kT _ _ _ _ _ kh.ah;have g6:w7.frozen? ⟨q,6,none⟩=false:=kT _ _ _ _ _ kh.ah;clear gk Av f13 fi pn Sh HCM;go_upto_region 15 with fail
           clear l0 l1 l2 l3 l4 l5 l6 l7 g2 g3 g4 g5 g6 Z4;obtain ⟨x0,mU⟩:=zX (d / 16777216 % 256);obtain ⟨x1,om⟩:=zX (d / 65536 % 256);obtain ⟨x2,DQ⟩:=zX (d / 256 % 256);obtain ⟨x3,Yj⟩:=zX (d % 256);have e0:(d:Int) / 16777216=(x0:Int):=by omega
           have e1:(d:Int) / 65536 % 256=(x1:Int):=by omega
           have e2:(d:Int) / 256 % 256=(x2:Int):=by omega
           have e3:(d:Int) % 256=(x3:Int):=by omega
           rw [e0,e1,e2,e3];have DM:aj.ni d=[x0,x1,x2,x3]:=by rw [← mU,← om,← DQ,← Yj];rfl
           have im:aU 256 [x0,x1,x2,x3]:=by rw [← DM];exact aj.oC d
           obtain ⟨kO,xh⟩:=iL.Gq (m':=true) (x0:Int) (x1:Int) (x2:Int) (x3:Int) kh.ah;simp only [World.setCells] at kO xh;obtain ⟨E,hE⟩:=zX (((((w7.setCell ⟨q,2,none⟩ (.bool true)).setCell ⟨q,3,none⟩ (.int .u8 (x0:Int))).setCell ⟨q,3+1,none⟩ (.int .u8 (x1:Int))).setCell ⟨q,3+1+1,none⟩ (.int .u8 (x2:Int))).setCell ⟨q,3+1+1+1,none⟩ (.int .u8 (x3:Int)));rw [hE] at kO xh;have Ma:((((w7.setCell ⟨q,2,none⟩ (.bool true)).setCell ⟨q,3,none⟩ (.int .u8 (x0:Int))).setCell ⟨q,4,none⟩ (.int .u8 (x1:Int))).setCell ⟨q,5,none⟩ (.int .u8 (x2:Int))).setCell ⟨q,6,none⟩ (.int .u8 (x3:Int))=E:=hE;rw [Ma];have Sk:=Sl.mk (ej.ah.XK xh HQ.ah.1 HQ.ah.2.1 HQ.ah.2.2);have mH:dD c x.bu=d:=by unfold aj.dD;rw [if_neg (by rw [qt];decide)];exact hd
           have Cw:dN c (dD c x.bu) f=⟨aN,(k:Int),true,[x0,x1,x2,x3],bytes s⟩:=by
            unfold aj.dN;rw [if_neg (by rw [qt];decide),mH,DM,hf]
           rw [Cw] at vR fR;rw [mH] at ue;obtain ⟨l0,l1,l2,l3,l4,l5,l6,l7⟩:=gK.bG kO;have TX:=gK.oP aN k true x0 x1 x2 x3 s E im (aC.Bo fR.dF (by have:=fR.len;have:=I2.ah;simp only at *;omega));rw [← vR] at TX;rw [← JN,← ue] at Sk;clear e0 e1 e2 e3 mU om DQ Yj DM im kO xh hE Ma ej kh hd pS Cw mH vR ue JN fR rI I6 vL hy ez hf eh R6 vQ hk Sg E0 qt;go_wp2_with fail
           refine TX.mono ?_;rintro e w7 ⟨rfl,fj⟩;clear TX l0 l1 l2 l3 l4 l5 l6 l7;have ej:=Sl.mk (Sk.ah.below fj.ah);have f17:=ej.ah.fF 17;have s17:=bP.aB ej.ah.X 17 _ rfl;have ma:=Sl.mk (ej.ah.set 17 (.string (aF y.tail)) rfl);obtain ⟨w8,ff⟩:=zX (w7.setCell ⟨b1,17,none⟩ (.string (aF y.tail)));rw [ff] at ma;clear Sk ej;go_wp2;(try rw [ff]);exact ⟨⟨m,y,ca,0,cc,EA,Cu,Mu,HY,Z3,G0,ma,gx⟩,by rw [Dh ma.ah.X rfl rfl,HFO.ah];have:=ze.ah;omega⟩
     | cons f cs =>
       have Pi:cn=cs.length+1:=by rw [(dk.ah.1.cap).1,kx];rfl
       obtain ⟨sb,so,rfl⟩:=(dk.ah.1.cap).2 (by omega);obtain ⟨m,rfl,I6,vL⟩:=aj.Wl Z2.ah kx Yh.ah.2;obtain ⟨rI,fR⟩:=aj.Ur m4.ah.1 Z2.ah kx;have R6:vw f:=by
        have h1:=m4.ah.1.aQ f (by rw [kx];exact rD);exact Dj h1.key h1.fO (by have:=h1.len;have:=I2.ah;omega) (by rcases h1.op with e | e | e<;>omega)
       have vQ:0≤f.op:=by
        have h1:=m4.ah.1.aQ f (by rw [kx];exact rD);rcases h1.op with e | e | e<;>omega
       obtain ⟨aN,op,mk,ka,kb,kc,kd,s,hf,eh,ez⟩:=BM R6;obtain ⟨k,hk⟩:=JH vQ;have R8:op=(k:Int):=by rw [hf] at hk;exact hk
       subst R8;have As:0<cn:=by omega
       have sC:(cn:Int)>0:=by omega
       have pD:(0<cn)=True:=eq_true As;have Zd:decide ((cn:Int)>0)=true:=iG sC;go_upto_region 8 with fail
       refine zH (S:=fun V=>V.cell? ⟨b1,18,none⟩=some (.slice (some ⟨sb,so,none⟩) cn cc)∧V.rangeAt sb so (cv f)) (D:=fun j=>j==9) (by kernel_rfl) (fun Rw aM=>?_);have xr:=Sl.mk (gS.ah.below aM);have R9:=ay cx.ah aM;have al:Rw.cell? ⟨b1,18,none⟩=some (.slice (some ⟨sb,so,none⟩) cn cc)∧Rw.rangeAt sb so (cv f):=⟨bP.aB xr.ah.X 18 _ rfl,by
        have h1:=iL.aS.range (dk.ah.1.below xr.ah.L) 0 (by rw [kx];simp);rw [kx] at h1;exact h1⟩
       refine zU 0 (some 38) (.fieldAddr 36 (.tmp 1) 7) _ al ?_;simp only [zA,zB,zS];refine zU 1 (some 39) (.load 34 (.tmp 38)) (.slice (some ⟨sb,so,none⟩) cn cc) al ?_ (hy:=fun o' ho W hS=>by have d1:=hS.1;simp only [execOp,ho];go_simp;try rfl);simp only [zA,zB,zS];refine zU 2 (some 40) (.indexAddr 34 (.tmp 39) (.const (.int .i64 0))) (.pointer (some ⟨sb,so,none⟩)) al ?_ (hy:=fun o' ho W hS=>by simp only [execOp,ho];go_simp;first | done | rfl);simp only [zA,zB,zS];refine zU 3 (some 41) (.load 61 (.tmp 40)) (.agg (cv f).toArray) al ?_ (hy:=fun o' ho W hS=>iL.Iy ho (by rfl) rfl hS.2);simp only [zA,zB,zS];refine zU 4 (some 42) (.fieldAddr 36 (.tmp 1) 7) _ al ?_;simp only [zA,zB,zS];refine zU 5 (some 43) (.load 34 (.tmp 42)) (.slice (some ⟨sb,so,none⟩) cn cc) al ?_ (hy:=fun o' ho W hS=>by have d1:=hS.1;simp only [execOp,ho];go_simp;try rfl);simp only [zA,zB,zS];refine zP 6 (some 44) (.slice 34 (.tmp 43) (some (.const (.int .i64 1))) none none) (.slice (iL.kG (some ⟨sb,so,none⟩) 1 cc) (cn-1) (cc-1)) al ?_ (hy:=fun o' ho W=>Jq ho (by rfl) (by rfl) (by omega));simp only [zA,zB,zS];obtain ⟨w5,dq⟩:=zX (Rw.setRow q (cv f).toArray);have eN:Sl (MX W w5 b1 b2 (zL K c (x.bu:Int) inp fa fn fc (aF (fill c x).aK) (aF []) (some ⟨sb,so,none⟩) cn cc ra rn rc am dA ag) zD):=⟨by rw [← dq];exact xr.ah.row HQ.ah.1 HQ.ah.2.1 HQ.ah.2.2⟩;have eT:w5.heap[q]? = some (.cells (cv f).toArray 61 (0,0)):=by rw [← dq];exact gY _ _ _ _ _ _ R9
       have cT:w5.cell? ⟨b1,18,none⟩=some (.slice (some ⟨sb,so,none⟩) cn cc)∧w5.rangeAt sb so (cv f):=⟨bP.aB eN.ah.X 18 _ rfl,by
        have h1:=iL.aS.range (dk.ah.1.below eN.ah.L) 0 (by rw [kx];simp);rw [kx] at h1;exact h1⟩
       refine E8 (d:=none) (op:=.store 61 (Operand.tmp 3) (Operand.tmp 41)) (g:=none) (t:=0) 7 w5 rfl (by kernel_rfl) (by kernel_rfl) ?Z5 cT ?_;case Z5=>intro o' ho ht;rw [← dq];exact E9 ho (by rfl) (by rfl) R9 rfl rfl (by simp [cv,Value.oneCell'])
       simp only [Act.put];refine zU 8 (some 45) (.fieldAddr 36 (.tmp 1) 7) _ cT ?_;simp only [zA,zB,zS];obtain ⟨Fc,JT⟩:=zX (iL.kG (some ⟨sb,so,none⟩) 1 cc);obtain ⟨Cx,Sn⟩:=zX (cn-1);obtain ⟨Mv,So⟩:=zX (cc-1);rw [JT,Sn,So];have f18:=eN.ah.fF 18;have s18:=bP.aB eN.ah.X 18 _ rfl;obtain ⟨w6,iB⟩:=zX (w5.setCell ⟨b1,18,none⟩ (.slice Fc Cx Mv));have fi:Sl (MX W w6 b1 b2 (zL K c (x.bu:Int) inp fa fn fc (aF (fill c x).aK) (aF []) Fc Cx Mv ra rn rc am dA ag) zD):=⟨by rw [← iB];exact eN.ah.set 18 (.slice Fc Cx Mv) rfl⟩;have pn:Sl (w6.heap[q]? = some (.cells (zV aN (k:Int) mk ka kb kc kd s) 61 (0,0))):=⟨by rw [← iB,pI _ _ _ _ (show q≠b1 from fun e=>HQ.ah.1 e.symm),eT,eh]⟩;refine kU (d:=none) (op:=.store 34 (Operand.tmp 45) (Operand.tmp 44)) (g:=none) (t:=0) 9 w6 rfl (by kernel_rfl) (by kernel_rfl) ?Z6 (by kernel_rfl) ?_;case Z6=>intro o' ho ht;simp only [execOp,ho];go_simp;first | done | exact iB | (rw [iB])
       simp only [Act.put];refine zF (by kernel_rfl) ?_;have Sf:Sl (aS W (.slice Fc Cx Mv) cs):=⟨by
        have h1:=iL.aS.from (k:=1) dk.ah.1 (by omega);rw [kx,JT,Sn,So] at h1;exact h1⟩
       have ze:Sl (Cx+1=cn):=⟨by omega⟩;have Cv:Sl (PB P Fc Cx):=⟨by rw [← JT];exact PB.from ol.ah.1 _ _ (fun _=>by omega)⟩;have gx:Sl (PB P Fc Cx∧PB P ra rn):=⟨Cv.ah,ol.ah.2⟩;(try go_frame);clear xr R9 al cT aM eN eT dq iB f18 s18 JT Sn So gS cx;obtain ⟨cm,qt⟩:=zX c.af;have HCM:=Sl.mk qt;obtain ⟨y,hy⟩:=zX (aj.put c {fill c x with aQ:=cs} f);rw [hy] at I6 rI;have HY:Sl (mv c m y=T∧y.aQ.length+y.rest.length≤m):=⟨by rw [← I6];exact Yh.ah.1,by rw [← hy];exact vL⟩;have Sg:y.aQ=cs:=by rw [← hy];rfl
       have E0:y.rest=x.rest:=by rw [← hy];rfl
       have G0:Sl (aS W (.slice Fc Cx Mv) y.aQ∧aS W (.slice ra rn rc) y.rest):=⟨by rw [Sg,E0];exact ⟨Sf.ah,dk.ah.2⟩⟩;have vR:y.tail=aC.aT (dN c (dD c x.bu) f):=by rw [← hy];rfl
       have ue:y.bu=dD c x.bu:=by rw [← hy];rfl
       have JN:y.aK=(fill c x).aK:=by rw [← hy];rfl
       have Z3:Sl (lC c y∧y.tail.length≤14+max c.bR 125∧y.bu<4294967296):=⟨rI,by
        rw [vR,aC.jk _ (by have:=fR.len;have:=I2.ah;omega) fR.key];have h1:=aj.GG (dN c (dD c x.bu) f);have h2:=fR.len;omega,by
        rw [ue];have:=m4.ah.2.2;unfold aj.dD aj.next;split<;>omega⟩
       have Sh:w6.cell? ⟨b1,12,none⟩=some (.bool c.af):=bP.aB fi.ah.X 12 _ rfl;rw [qt] at Sh;cases cm with
       | true =>
         have Cw:dN c (dD c x.bu) f=f:=by unfold aj.dN;rw [if_pos qt]
         have mH:dD c x.bu=x.bu:=by unfold aj.dD;rw [if_pos qt]
         rw [Cw] at vR fR;rw [mH] at ue;obtain ⟨l0,l1,l2,l3,l4,l5,l6,l7⟩:=gK.bG pn.ah;have TX:=gK.oP aN k mk ka kb kc kd s w6 ez (aC.Bo (by rw [← hf];exact fR.dF) (by have:=fR.len;rw [hf] at this;have:=I2.ah;simp only at *;omega));rw [← hf,← vR] at TX;rw [← JN,← ue] at fi;clear Cw mH vR ue JN fR rI I6 vL hy ez hf eh R6 vQ hk Sg E0 qt;go_wp2_with fail
         refine TX.mono ?_;rintro e w7 ⟨rfl,fj⟩;clear TX l0 l1 l2 l3 l4 l5 l6 l7 Sh;have ej:=Sl.mk (fi.ah.below fj.ah);have f17:=ej.ah.fF 17;have s17:=bP.aB ej.ah.X 17 _ rfl;have ma:=Sl.mk (ej.ah.set 17 (.string (aF y.tail)) rfl);obtain ⟨w8,ff⟩:=zX (w7.setCell ⟨b1,17,none⟩ (.string (aF y.tail)));rw [ff] at ma;clear fi ej;go_wp2;(try rw [ff]);exact ⟨⟨m,y,Fc,Cx,Mv,ra,rn,rc,HY,Z3,G0,ma,gx⟩,by rw [Dh ma.ah.X rfl rfl,HFO.ah];have:=ze.ah;omega⟩
       | false =>
         obtain ⟨d,hd⟩:=zX (aj.next x.bu);have pS:d<4294967296:=by rw [← hd];unfold aj.next;omega
         have Av:(IntKind.u64.wrap (IntKind.u64.wrap (IntKind.u64.wrap (x.bu:Int)*1664525)+1013904223)).tmod 4294967296 % 4294967296=(d:Int):=Fa x.bu d hd m4.ah.2.2;have Z4:w6.cell? ⟨b1,13,none⟩=some (.int .u32 (x.bu:Int)):=bP.aB fi.ah.X 13 _ rfl;have f13:=fi.ah.fF 13;go_upto_region 13 with fail
         rw [Av];obtain ⟨w7,gk⟩:=zX (w6.setCell ⟨b1,13,none⟩ (.int .u32 (d:Int)));rw [gk];have ej:Sl (MX W w7 b1 b2 (zL K c ((d:Nat):Int) inp fa fn fc (aF (fill c x).aK) (aF []) Fc Cx Mv ra rn rc am dA ag) zD):=⟨by rw [← gk];exact fi.ah.set 13 (.int .u32 (d:Int)) rfl⟩;have kh:Sl (w7.heap[q]? = some (.cells (zV aN (k:Int) mk ka kb kc kd s) 61 (0,0))):=⟨by rw [← gk,pI _ _ _ _ (show q≠b1 from fun e=>HQ.ah.1 e.symm)];exact pn.ah⟩;have Z4:w7.cell? ⟨b1,13,none⟩=some (.int .u32 (d:Int)):=bP.aB ej.ah.X 13 _ rfl;obtain ⟨l0,l1,l2,l3,l4,l5,l6,l7⟩:=gK.bG kh.ah;have g2:w7.frozen? ⟨q,2,none⟩=false:=kT _ _ _ _ _ kh.ah;have g3:w7.frozen? ⟨q,3,none⟩=false:=kT _ _ _ _ _ kh.ah;have g4:w7.frozen? ⟨q,4,none⟩=false:=kT _ _ _ _ _ kh.ah;have g5:w7.frozen? ⟨q,5,none⟩=false:=kT _ _ _ _ _ kh.ah;have g6:w7.frozen? ⟨q,6,none⟩=false:=kT _ _ _ _ _ kh.ah;clear gk Av f13 fi pn Sh HCM;go_upto_region 15 with fail
         clear l0 l1 l2 l3 l4 l5 l6 l7 g2 g3 g4 g5 g6 Z4;obtain ⟨x0,mU⟩:=zX (d / 16777216 % 256);obtain ⟨x1,om⟩:=zX (d / 65536 % 256);obtain ⟨x2,DQ⟩:=zX (d / 256 % 256);obtain ⟨x3,Yj⟩:=zX (d % 256);have e0:(d:Int) / 16777216=(x0:Int):=by omega
         have e1:(d:Int) / 65536 % 256=(x1:Int):=by omega
         have e2:(d:Int) / 256 % 256=(x2:Int):=by omega
         have e3:(d:Int) % 256=(x3:Int):=by omega
         rw [e0,e1,e2,e3];have DM:aj.ni d=[x0,x1,x2,x3]:=by rw [← mU,← om,← DQ,← Yj];rfl
         have im:aU 256 [x0,x1,x2,x3]:=by rw [← DM];exact aj.oC d
         obtain ⟨kO,xh⟩:=iL.Gq (m':=true) (x0:Int) (x1:Int) (x2:Int) (x3:Int) kh.ah;simp only [World.setCells] at kO xh;obtain ⟨E,hE⟩:=zX (((((w7.setCell ⟨q,2,none⟩ (.bool true)).setCell ⟨q,3,none⟩ (.int .u8 (x0:Int))).setCell ⟨q,3+1,none⟩ (.int .u8 (x1:Int))).setCell ⟨q,3+1+1,none⟩ (.int .u8 (x2:Int))).setCell ⟨q,3+1+1+1,none⟩ (.int .u8 (x3:Int)));rw [hE] at kO xh;have Ma:((((w7.setCell ⟨q,2,none⟩ (.bool true)).setCell ⟨q,3,none⟩ (.int .u8 (x0:Int))).setCell ⟨q,4,none⟩ (.int .u8 (x1:Int))).setCell ⟨q,5,none⟩ (.int .u8 (x2:Int))).setCell ⟨q,6,none⟩ (.int .u8 (x3:Int))=E:=hE;rw [Ma];have Sk:=Sl.mk (ej.ah.XK xh HQ.ah.1 HQ.ah.2.1 HQ.ah.2.2);have mH:dD c x.bu=d:=by unfold aj.dD;rw [if_neg (by rw [qt];decide)];exact hd
         have Cw:dN c (dD c x.bu) f=⟨aN,(k:Int),true,[x0,x1,x2,x3],bytes s⟩:=by
          unfold aj.dN;rw [if_neg (by rw [qt];decide),mH,DM,hf]
         rw [Cw] at vR fR;rw [mH] at ue;obtain ⟨l0,l1,l2,l3,l4,l5,l6,l7⟩:=gK.bG kO;have TX:=gK.oP aN k true x0 x1 x2 x3 s E im (aC.Bo fR.dF (by have:=fR.len;have:=I2.ah;simp only at *;omega));rw [← vR] at TX;rw [← JN,← ue] at Sk;clear e0 e1 e2 e3 mU om DQ Yj DM im kO xh hE Ma ej kh hd pS Cw mH vR ue JN fR rI I6 vL hy ez hf eh R6 vQ hk Sg E0 qt;go_wp2_with fail
         refine TX.mono ?_;rintro e w7 ⟨rfl,fj⟩;clear TX l0 l1 l2 l3 l4 l5 l6 l7;have ej:=Sl.mk (Sk.ah.below fj.ah);have f17:=ej.ah.fF 17;have s17:=bP.aB ej.ah.X 17 _ rfl;have ma:=Sl.mk (ej.ah.set 17 (.string (aF y.tail)) rfl);obtain ⟨w8,ff⟩:=zX (w7.setCell ⟨b1,17,none⟩ (.string (aF y.tail)));rw [ff] at ma;clear Sk ej;go_wp2;(try rw [ff]);exact ⟨⟨m,y,Fc,Cx,Mv,ra,rn,rc,HY,Z3,G0,ma,gx⟩,by rw [Dh ma.ah.X rfl rfl,HFO.ah];have:=ze.ah;omega⟩
open aj (jD IQ)
section
variable {a b o:Nat}
def XU:bP.Rb:=⟨{data:=#[47]},{data:=#[]},{data:=#[120]}⟩
theorem XV:∀ r∈[XU],bP.xP r:=fun r hr=>by
 rw [uF] at hr;subst hr;exact ⟨by decide,by decide,by decide⟩
theorem XW:bP.Ak [XU]=true:=by decide +kernel
def cfL (a b o:Nat) (af:Bool):Cf:=⟨1+o,1+a,1+b,af⟩
theorem XY (ha:a<256) (hb:b<256) (ho:o<256) (m:Bool):iI (cfL a b o m):=by
 refine ⟨?_,?_,?_,?_,?_,?_⟩<;>(simp only [cfL];omega)
theorem WQ (ha:a<256) (hb:b<256) (ho:o<256):bP.mD [XU] 0 4 ((1+a:Nat):Int) ((1+b:Nat):Int) 3 300 ((1+o:Nat):Int) 5 9 3 4=true:=by
 unfold bP.mD;rw [XW,show (bP.sH 4 ((1+a:Nat):Int) ((1+b:Nat):Int) 3 300 ((1+o:Nat):Int) 5 9 3 4).any bP.Am=false from by
  rw [List.any_eq_false];intro x hx;unfold bP.sH at hx;simp only [DN,pJ,or_false] at hx;unfold bP.Am;rcases hx with rfl | rfl | rfl | rfl | rfl | rfl | rfl | rfl | rfl | rfl<;>simp<;>omega]
 rfl
theorem WR {W:World} {g:Nat} (h:W.heap[g]? = some (.cells #[.string {data:=#[47]},.string {data:=#[]},.string {data:=#[120]}] 72 (0,0))):bP.ja W (.slice (some ⟨g,0,none⟩) 1 1) [XU]:=by
 refine ⟨_,1,g,0,rfl,aY _,fun _=>rfl,fun i hi j hj=>?_⟩;obtain rfl:i=0:=by simpa using hi
 rw [jg _ _ _ _ _ _ h];have h3:j=0∨j=1∨j=2:=by omega
 rcases h3 with rfl | rfl | rfl<;>rfl
theorem WS {fn:Func} {p:Tmp} (h:fn.results=#[.cell p 25]) (tmps:Array Value) (w:World) (g:Nat) (cs:Array Value)
 (hp:tmps.getD p undef=.pointer (some ⟨g,0,none⟩)) (hg:w.heap[g]? = some (.cells cs 25 (0,0))) (hs:cs.size=12) :
 (results fn tmps).run prog w=.ok (.agg cs) w:=by
 have hi:(prog.info? 25).map (·.size)=some cs.size:=by rw [hs];kernel_rfl
 have A3:tmps[p]?.getD undef=.pointer (some ⟨g,0,none⟩):=by simpa using hp
 simp only [results,h];simp [Result.andThen,A3,asAddr,UR (P:=prog) w g 25 25 cs (0,0) _ hg underlying25 rfl hi]
theorem WU (a b o:Nat) (ha:a<256) (hb:b<256) (ho:o<256) (W:World) :
 Calls prog 19 #[.int .u8 (a:Int),.int .u8 (b:Int),.int .u8 (o:Int)] W fun e w'=>∃ g,e=.returned (.agg #[.slice (some ⟨g,0,none⟩) 1 1,.slice none 0 0,.int .i64 4,.int .i64 ((1+a:Nat):Int),.int .i64 ((1+b:Nat):Int),.int .i64 3,.int .i64 300,.int .i64 ((1+o:Nat):Int),.int .i64 5,.int .i64 9,.int .i64 3,.int .i64 4])∧Sl (w'.heap[g]? = some (.cells #[.string {data:=#[47]},.string {data:=#[]},.string {data:=#[120]}] 72 (0,0))∧W.heap.size≤g)∧Sl (Below W.heap.size W w'):=by
 have q1:((1+a:Nat):Int)=1+(a:Int):=by omega
 have q2:((1+b:Nat):Int)=1+(b:Int):=by omega
 have q3:((1+o:Nat):Int)=1+(o:Int):=by omega
 rw [q1,q2,q3];clear q1 q2 q3;go_enter func19,ntmps19;go_wp2;(try simp only [Exit.inBlock,Exit.then]);refine gX (WS rfl _ _ W.heap.size _ rfl (ay (aI W _ _ rfl) ((dW _ _).alloc (aY _) _)) rfl) rfl ?_;exact ⟨W.heap.size+1,rfl,⟨(by have:=aI (W.alloc (.cells #[.slice (some ⟨W.heap.size+1,0,none⟩) 1 1,.slice none 0 0,.int .i64 4,.int .i64 (1+(a:Int)),.int .i64 (1+(b:Int)),.int .i64 3,.int .i64 300,.int .i64 (1+(o:Int)),.int .i64 5,.int .i64 9,.int .i64 3,.int .i64 4] 25)) (.cells #[.string {data:=#[47]},.string {data:=#[]},.string {data:=#[120]}] 72) (W.heap.size+1) (by simp);exact this),Nat.le_succ _⟩,⟨((dW _ _).alloc (aY _) _).alloc (by simp) _⟩⟩
theorem GY (kind op ao n:Int) (s:ByteArray) (W:World) (r:Bool) (hr:decide (s.size≤300)=r) :
 Calls prog 16 #[(.agg #[.int .i64 kind,.int .i64 op,.int .i64 ao,.int .i64 n,.string s])] W fun e w'=>e=.returned (.bool r)∧Sl (Below W.heap.size W w'):=by
 subst hr;obtain ⟨wa,cz,HB,hx⟩:∃ V,W.alloc (.cells #[.int .i64 kind,.int .i64 op,.int .i64 ao,.int .i64 n,.string s] 40)=V∧Below W.heap.size W V∧V.heap[W.heap.size]? = some (.cells #[.int .i64 kind,.int .i64 op,.int .i64 ao,.int .i64 n,.string s] 40 (0,0)):=⟨_,rfl,(dW _ _).alloc (aY _) _,aI _ _ _ rfl⟩;have k4:=bP.aB hx 4 _ rfl;have hq:decide ((s.size:Int)≤300)=decide (s.size≤300):=by
  by_cases h:s.size≤300
  ·rw [iG h,iG (by omega)]
  ·rw [iQ h,iQ (by omega)]
 go_enter func16,ntmps16;go_upto_region 1 with fail
 (try rw [cz]);clear cz;go_wp2;go_ret;exact ⟨by rw [← hq];rfl,⟨HB⟩⟩
end
section
variable {W w0:World} {a b o:Nat} {i1 i2 i3:Int}
structure G3 (w:World):Prop where
 h:_root_.Go.Proofs.YtlahonjmfecikaaGreatDoor.bD w
 m:jF.bD w
 u:oq.bD w
theorem eH.ge {W':World} {S S':Nat→Prop} (g:eH W W' S S') {B:Nat} (h:∀ j,S j→B≤j) (hB:B≤W.heap.size):∀ j,S' j→B≤j:=fun j e=>by
 rcases g.dy j e with h1 | h1
 ·exact h j h1
 ·omega
theorem abV (ha:a<256) (hb:b<256) (ho:o<256) (h1:((1+a:Nat):Int)=i1) (h2:((1+b:Nat):Int)=i2) (h3:((1+o:Nat):Int)=i3) {x1 x2 x3:Int} (e1:(a:Int)=x1) (e2:(b:Int)=x2) (e3:(o:Int)=x3) (W:World) :
 Calls prog 19 #[.int .u8 x1,.int .u8 x2,.int .u8 x3] W fun e w'=>∃ g,e=.returned (.agg #[.slice (some ⟨g,0,none⟩) 1 1,.slice none 0 0,.int .i64 4,.int .i64 i1,.int .i64 i2,.int .i64 3,.int .i64 300,.int .i64 i3,.int .i64 5,.int .i64 9,.int .i64 3,.int .i64 4])∧Sl (w'.heap[g]? = some (.cells #[.string {data:=#[47]},.string {data:=#[]},.string {data:=#[120]}] 72 (0,0))∧W.heap.size≤g)∧Sl (Below W.heap.size W w'):=by
 subst h1 h2 h3 e1 e2 e3;exact WU a b o ha hb ho W
theorem abW (ha:a<256) (hb:b<256) (ho:o<256) (h1:((1+a:Nat):Int)=i1) (h2:((1+b:Nat):Int)=i2) (h3:((1+o:Nat):Int)=i3) (af:Bool) (d:Nat) (hd:d<4294967296) {x:Int} (hx:(d:Int)=x) (hG:G3 w0) (hB:Below w0.heap.size w0 W) {g:Nat} (hv:bP.ja W (.slice (some ⟨g,0,none⟩) 1 1) [XU]) :
 Calls prog 13 #[.agg #[.slice (some ⟨g,0,none⟩) 1 1,.slice none 0 0,.int .i64 4,.int .i64 i1,.int .i64 i2,.int .i64 3,.int .i64 300,.int .i64 i3,.int .i64 5,.int .i64 9,.int .i64 3,.int .i64 4],.bool af,.int .u32 x] W fun e w'=>∃ L S,e=.returned (.tuple #[.pointer (some ⟨L,0,none⟩),.int .i64 0])∧Sl (iT w0 w' L S (cfL a b o af) (L0 d) 0)∧Sl (Below W.heap.size W w')∧Sl (∀ j,S j→W.heap.size≤j):=by
 subst h1 h2 h3 hx;exact Gx [XU] _ 1 1 none 0 0 4 3 300 5 9 3 4 (cfL a b o af) d hd w0 W hB ⟨hG.m,hG.u⟩ (hG.h.of hB) hv XV (by decide) (XY ha hb ho af) (WQ ha hb ho)
def ca:Cf:=cfL 99 49 99 true
theorem wk1:aj.free (L0 7)=true:=by decide +kernel
theorem wk2:iM ca (L0 7) [129,0]=((iM ca (L0 7) [129,0]).1,[]):=Prod.ext rfl (show (iM ca (L0 7) [129,0]).2=[] by decide +kernel)
def la:Lg:=(iM ca (L0 7) [129,0]).1
def lb:Lg:=(jD ca la 100).1
theorem wk3:la.aK.take (100:Int).toNat=[136,2,3,234]:=by decide +kernel
theorem wk4:(lb.ag:Int)=100:=by decide +kernel
theorem wk5:lb.am=true:=by decide +kernel
theorem wk6:lb.dA=false:=by decide +kernel
theorem wk7:decide (lb.aK=[])=true:=by decide +kernel
theorem wk8:lb.bO.length+lb.ms.aT.length=0:=by decide +kernel
theorem wk9 (o:Int) (d:List Nat):aj.send ca lb o d=(lb,false):=by
 unfold aj.send;rw [if_neg (fun e=>absurd e.1 (by decide +kernel))]
theorem acz (d:List Nat):aj.jW ca lb d=(lb,false):=by
 unfold aj.jW;rw [if_pos (.inl wk5)]
theorem acA (k:Int) (d:List Nat):aj.bU ca lb k d=(lb,false):=by
 unfold aj.bU;rw [if_pos (.inl wk5)]
theorem acB:lb.aK.take (9:Int).toNat=[]:=by decide +kernel
theorem acC:aF [136,2,3,234]=⟨#[136,2,3,234]⟩:=by decide +kernel
theorem QA (W:World) (hG:G3 w0) (hB:Below w0.heap.size w0 W):Calls prog 11 #[] W fun e w'=>e=.returned (.bool true)∧Sl (Below W.heap.size W w'):=by
 obtain ⟨i1,h1⟩:∃ i:Int,((1+99:Nat):Int)=i:=⟨_,rfl⟩;obtain ⟨i2,h2⟩:∃ i:Int,((1+49:Nat):Int)=i:=⟨_,rfl⟩;have CF:=abV (a:=99) (b:=49) (o:=99) (by decide) (by decide) (by decide) h1 h2 h1 (x1:=99) (x2:=49) (x3:=99) rfl rfl rfl W;have NW:Sl (∀ V g,Below w0.heap.size w0 V→bP.ja V (.slice (some ⟨g,0,none⟩) 1 1) [XU]→Calls prog 13 #[.agg #[.slice (some ⟨g,0,none⟩) 1 1,.slice none 0 0,.int .i64 4,.int .i64 i1,.int .i64 i2,.int .i64 3,.int .i64 300,.int .i64 i1,.int .i64 5,.int .i64 9,.int .i64 3,.int .i64 4],.bool true,.int .u32 7] V fun e w'=>∃ L S,e=.returned (.tuple #[.pointer (some ⟨L,0,none⟩),.int .i64 0])∧Sl (iT w0 w' L S ca (L0 7) 0)∧Sl (Below V.heap.size V w')∧Sl (∀ j,S j→V.heap.size≤j)):=⟨fun V g hV hv=>abW (a:=99) (b:=49) (o:=99) (by decide) (by decide) (by decide) h1 h2 h1 true 7 (by decide) rfl hG hV hv⟩;have HB:=Sl.mk hB;obtain ⟨B,hBB⟩:=zX W.heap.size;have Hv:=Sl.mk hBB;clear h1 h2 hG hB hBB;go_enter func11,ntmps11;go_wp2_with fail
 refine CF.mono ?_;rintro e w1 ⟨g,rfl,HV,bi⟩;have NW1:=NW.ah w1 g (HB.ah.trans (bi.ah.mono HB.ah.size)) (WR HV.ah.1);clear CF NW;go_wp2_with fail
 refine NW1.mono ?_;rintro e w2 ⟨L,S,rfl,HL,bk,HS⟩;clear NW1;have bv:Sl (Below B W w2):=⟨by rw [← Hv.ah];exact bi.ah.trans (bk.ah.mono bi.ah.size)⟩;have da:Sl ((∀ j,S j→B≤j)∧B≤w2.heap.size):=⟨fun j e=>by have:=HS.ah j e;have:=bi.ah.size;have:=Hv.ah;omega,by have:=bv.ah.size;have:=Hv.ah;omega⟩;clear bi bk HV HS;have FR:=Nr HL.ah true wk1;go_wp2_with fail
 refine FR.mono ?_;rintro e w2' ⟨rfl,rfl⟩;clear FR;obtain ⟨X,hX⟩:=zX (w2.alloc (.cells #[.int .u8 129,.int .u8 0] 5));have hXB:Below w2.heap.size w2 X:=by rw [← hX];exact (dW _ _).alloc (aY _) _
 have hXR:fA X w2.heap.size [129,0]:=by rw [← hX];exact aI _ _ _ rfl
 have FD:=AL (HL.ah.below hXB) (.slice (some ⟨w2.heap.size,0,none⟩) 2 2) [129,0] hXR.src (by intro y hy;simp at hy;rcases hy with rfl | rfl<;>decide) (by decide) _ _ wk2;have br:Sl (Below B W X):=⟨bv.ah.trans (hXB.mono da.ah.2)⟩;have gr:Sl ((∀ j,S j→B≤j)∧B≤X.heap.size):=⟨da.ah.1,jd da.ah.2 hXB.size⟩;clear hXB hXR bv da HL;go_wp2_with fail
 (try rw [hX]);refine FD.mono ?_;rintro e w3 ⟨S3,rv,rfl,zm,nl,dt,-⟩;clear FD hX;obtain ⟨fa,fc,rfl⟩:∃ a c,rv=.slice a 0 c:=by obtain ⟨a,c,e⟩:=zm.ah.slice;exact ⟨a,c,e⟩
 have ch:Sl (Below B W w3):=⟨dt.ah.up br.ah gr.ah.1 gr.ah.2⟩;have gn:Sl ((∀ j,S3 j→B≤j)∧B≤w3.heap.size):=⟨dt.ah.ge gr.ah.1 gr.ah.2,jd gr.ah.2 dt.ah.kept.size⟩;clear br gr dt zm;have TK:=tZ nl.ah 100 [136,2,3,234] wk3 4 rfl lb rfl;go_wp2_with fail
 refine TK.mono ?_;rintro e w4 ⟨S4,rfl,cR,pj,oF⟩;clear TK nl;have gb:Sl (Below B W w4):=⟨oF.ah.up ch.ah gn.ah.1 gn.ah.2⟩;have pm:Sl ((∀ j,S4 j→B≤j)∧B≤w4.heap.size):=⟨oF.ah.ge gn.ah.1 gn.ah.2,jd gn.ah.2 oF.ah.kept.size⟩;clear ch gn oF;have CV:=cR.ah.JW (k:=4) rfl;rw [acC] at CV;have C1:=Jm pj.ah 100 wk4;go_wp2_with fail
 refine C1.mono ?_;rintro e w5 ⟨rfl,rfl⟩;clear C1 CV cR;have C1:=Ns pj.ah true wk5;go_wp2_with fail
 refine C1.mono ?_;rintro e w5 ⟨rfl,rfl⟩;clear C1;have C1:=Um pj.ah false wk6;go_wp2_with fail
 refine C1.mono ?_;rintro e w5 ⟨rfl,rfl⟩;clear C1;have C1:=Jn pj.ah true wk7;go_wp2_with fail
 refine C1.mono ?_;rintro e w5 ⟨rfl,rfl⟩;clear C1;have C1:=Nu pj.ah 0 wk8 (by decide);go_wp2_with fail
 refine C1.mono ?_;rintro e w5 ⟨rfl,fj⟩;clear C1;have mj:=Sl.mk (pj.ah.below fj.ah);have lA:Sl (Below B W w5):=⟨gb.ah.trans (fj.ah.mono pm.ah.2)⟩;have rT:Sl ((∀ j,S4 j→B≤j)∧B≤w5.heap.size):=⟨pm.ah.1,jd pm.ah.2 fj.ah.size⟩;clear pj gb pm fj;have C1:=Nw mj.ah 1 0 {data:=#[]} lb false (wk9 _ _);go_wp2_with fail
 refine C1.mono ?_;rintro e w6 ⟨S6,rfl,oS,gL⟩;clear C1 mj;have K3:Sl (Below B W w6):=⟨gL.ah.up lA.ah rT.ah.1 rT.ah.2⟩;have r8:Sl ((∀ j,S6 j→B≤j)∧B≤w6.heap.size):=⟨gL.ah.ge rT.ah.1 rT.ah.2,jd rT.ah.2 gL.ah.kept.size⟩;clear lA rT gL;have C1:=Nv oS.ah {data:=#[]} (by decide) (by decide) lb false (acz _);go_wp2_with fail
 refine C1.mono ?_;rintro e w7 ⟨S7,rfl,t7,gH⟩;clear C1 oS;have acr:Sl (Below B W w7):=⟨gH.ah.up K3.ah r8.ah.1 r8.ah.2⟩;have zr:Sl ((∀ j,S7 j→B≤j)∧B≤w7.heap.size):=⟨gH.ah.ge r8.ah.1 r8.ah.2,jd r8.ah.2 gH.ah.kept.size⟩;clear K3 r8 gH;have C1:=Jo t7.ah 1000 {data:=#[]} lb false (acA _ _);go_wp2_with fail
 refine C1.mono ?_;rintro e w8 ⟨S8,rfl,HL8,it⟩;clear C1 t7;have agQ:Sl (Below B W w8):=⟨it.ah.up acr.ah zr.ah.1 zr.ah.2⟩;have agR:Sl ((∀ j,S8 j→B≤j)∧B≤w8.heap.size):=⟨it.ah.ge zr.ah.1 zr.ah.2,jd zr.ah.2 it.ah.kept.size⟩;clear acr zr it;have C1:=xk HL8.ah 9 [] acB 0 rfl;go_wp2_with fail
 refine C1.mono ?_;rintro e w9 ⟨rfl,-,agS⟩;clear C1 HL8;go_wp2;go_ret;exact ⟨rfl,⟨by rw [Hv.ah];exact agQ.ah.trans (agS.ah.mono agR.ah.2)⟩⟩
end
end Go.Proofs.YtlahonjmfecikaaGreatDoor.jo
