/- Texts, joined. -/
import Derived.Test.YtlahonjmfecikaaGreatDoorXm
import Derived.Test.YtlahonjmfecikaaGreatDoorXo
set_option maxRecDepth 100000
set_option maxHeartbeats 64000000
set_option linter.unusedVariables false
set_option linter.unusedSimpArgs false
open Go.Proofs.Tryz
namespace Go.Proofs.YtlahonjmfecikaaGreatDoor.jo
open Go.RowKit jS
open aC (Fr dn)
open aj (Cf Lg)
open jG (bM gU gQ)
open aj (lC bQ fill mv dN dD ni AQ iI gV)
open aG (eY dI)
open aV (all)
open aA (M0 run)
section
variable {W:World} {K:Kf} {c:Cf} {inp:ByteArray} {fa ra:Option Addr} {fc cn cc rn:Nat}
theorem Fh (L:Value) (a:Int) (b:Bool) (n:Int) (W:World):(Instr.field 129 (.agg #[L,.int .i64 a,.bool b,.int .i64 n]) 3).run prog W=.ok (.int .i64 n) W:=by kernel_rfl
theorem Jz {ev:Operand→Value} {o:Oper} {x:Operand} {b:Nat} {dr:Nat} {fn:Nat} {rg tl:ByteArray} {ca:Option Addr} {rc:Nat} {am dA:Bool} {ag:Int} (ho:o.op=.load 25 x) (hx:ev x=.pointer (some ⟨b,0,none⟩)) (h:W.heap[b]? = some (.cells (zL K c (dr:Int) inp fa fn fc rg tl ca cn cc ra rn rc am dA ag) 36 (0,0))) :
 (execOp ev o).run prog W=.ok (.value (.agg (zK K c))) W:=by
 have hr:W.rangeAt b 0 [.slice K.ra K.rn K.rc,.slice K.oa K.on K.oc,.int .i64 K.z2,.int .i64 (c.bh:Int),.int .i64 (c.bR:Int),.int .i64 K.z5,.int .i64 K.z6,.int .i64 (c.ah:Int),.int .i64 K.z8,.int .i64 K.z9,.int .i64 K.I0,.int .i64 K.I1]:=fun j u hu=>by
  rw [jg _ _ _ _ _ _ h,vT];rcases j with _ | _ | _ | _ | _ | _ | _ | _ | _ | _ | _ | _ | j;all_goals first
   | exact hu
   | (simp at hu;done)
 unfold execOp;simp only [ho,hx,Instr.loadAt,Instr.sureAddr,rE,Sem.run_pure,Result.andThen_ok,run_loadVar_mid (P:=prog) W b 0 25 _ _ hr underlying25 rfl (by kernel_rfl)]
theorem Qq {l:Lg} {fn:Nat} {ca:Option Addr} {rc:Nat} {F gs:List Fr} {e lf:Nat} (hF:aS W (.slice fa fn fc) F) (ok:∀ f∈F,vw f) (hd:∀ f∈F,f.data.length≤100000) (hl:F.length≤900000) (hc:iI c) (eV:inp.size≤100000) (dx:all (bytes inp) c.af (bQ c:Int)=(gs,e,lf)) (IR:lf≤100000) (htx:(run (c.bh:Int) M0 F).1.aT.length≤1000000) :
 Calls prog 50 #[.agg (zM K c l inp fa fn fc ca cn cc ra rn rc)] W fun en w'=>en=.returned (.int .i64 (((if e=0 then lf else 0)+(run (c.bh:Int) M0 F).1.aT.length:Nat):Int))∧Sl (Below W.heap.size W w'):=by
 obtain ⟨w1,bA,dc,ey⟩:=zY W (zM K c l inp fa fn fc ca cn cc ra rn rc) 36;obtain ⟨b1,cM⟩:=zX W.heap.size;rw [cM] at ey;have sx:=Sl.mk ey;have bi:=Sl.mk dc;have sB:=Sl.mk eV;have ri:=Sl.mk dx;have HBD:Sl ((bQ c:Int)≤9223372036854775807):=⟨by have:=hc.m2;unfold aj.bQ;omega⟩;obtain ⟨tx,Ki⟩:=zX ((run (c.bh:Int) M0 F).1.aT.length);rw [Ki] at htx;rw [Ki];obtain ⟨N,hN⟩:∃ z,(if e=0 then lf else 0)+tx=z:=⟨_,rfl⟩;rw [hN];have HN:=Sl.mk hN;clear hN;have MD:∀ V,Below W.heap.size W V→Calls prog 74 #[.slice fa fn fc,.int .i64 (c.bh:Int)] V fun x w'=>∃ L,x=.returned (.agg #[L,.int .i64 ((run (c.bh:Int) M0 F).1.bj:Int),.bool (run (c.bh:Int) M0 F).1.aL,.int .i64 (tx:Int)])∧Sl (Below V.heap.size V w'):=fun V hV=>(Mdc.mF F (.slice fa fn fc) (c.bh:Int) V (hF.below hV) ok hd (by have:=hc.m2;omega) hl).mono (fun x w' ⟨L,h1,_,h2⟩=>⟨L,by rw [h1,Ki],h2⟩)
 clear hF ok hd eV dx hc Ki ey dc;go_enter func50,ntmps50;go_upto_region 1 with fail
 (try rw [bA]);(try rw [cM]);have io:=Sl.mk cM;clear bA cM;refine zG (S:=fun V=>V.heap[b1]? = some (.cells (zM K c l inp fa fn fc ca cn cc ra rn rc) 36 (0,0))) (by kernel_rfl) (fun Rw aM=>?_);have al:Rw.heap[b1]? = some (.cells (zM K c l inp fa fn fc ca cn cc ra rn rc) 36 (0,0)):=ay sx.ah aM;refine zT 0 (some 7) (.fieldAddr 36 (.tmp 1) 3) _ al ?_;simp only [zA,zB,zS];refine zT 1 (some 8) (.load 9 (.tmp 7)) (.string inp) al ?_ (hy:=fun o' ho W hS=>by have d1:=bP.aB hS 14 _ rfl;simp only [execOp,ho];go_simp;try rfl);simp only [zA,zB,zS];refine zT 2 (some 9) (.fieldAddr 36 (.tmp 1) 1) _ al ?_;simp only [zA,zB,zS];refine zT 3 (some 10) (.load 4 (.tmp 9)) (.bool c.af) al ?_ (hy:=fun o' ho W hS=>by have d1:=bP.aB hS 12 _ rfl;simp only [execOp,ho];go_simp;try rfl);simp only [zA,zB,zS];refine zT 4 (some 11) (.fieldAddr 36 (.tmp 1) 0) _ al ?_;simp only [zA,zB,zS];refine zT 5 (some 12) (.load 25 (.tmp 11)) (.agg (zK K c)) al ?_ (hy:=fun o' ho W hS=>Jz ho (by rfl) hS);simp only [zA,zB,zS];refine zC 6 (some 13) (.call {callee:=.value (.func 73),args:=#[.tmp 12],argTypes:=#[25]}) 73 #[.agg (zK K c)] ?_;refine (Df K c Rw).mono ?_;rintro e w2 ⟨rfl,bk⟩;have cJ:w2.heap[b1]? = some (.cells (zM K c l inp fa fn fc ca cn cc ra rn rc) 36 (0,0)):=ay al bk.ah;have RA:=jS.mF inp c.af (bQ c:Int) w2 sB.ah HBD.ah gs e lf ri.ah;refine ⟨_,rfl,cJ,?_⟩;simp only [zA,zB,zS];refine zC 7 (some 14) (.call {callee:=.value (.func 26),args:=#[.tmp 8,.tmp 10,.tmp 13],argTypes:=#[9,4,3]}) 26 #[.string inp,.bool c.af,.int .i64 (bQ c:Int)] ?_;refine (RA).mono ?_;rintro e w3 ⟨vf,rfl,o4,bv⟩;have da:w3.heap[b1]? = some (.cells (zM K c l inp fa fn fc ca cn cc ra rn rc) 36 (0,0)):=ay cJ bv.ah;refine ⟨_,rfl,da,?_⟩;simp only [zA,zB,zS];refine zT 8 (some 6) (.move (.tmp 14)) (.tuple #[vf,.int .i64 (e:Int),.int .i64 (lf:Int)]) da ?_;simp only [zA,zB,zS];refine zT 9 (some 15) (.extract (.tmp 6) 0) (vf) da ?_;simp only [zA,zB,zS];refine zT 10 (some 16) (.extract (.tmp 6) 1) (.int .i64 (e:Int)) da ?_;simp only [zA,zB,zS];refine zT 11 (some 17) (.extract (.tmp 6) 2) (.int .i64 (lf:Int)) da ?_;simp only [zA,zB,zS];refine zT 12 (some 3) (.assign (.tmp 15)) (vf) da ?_;simp only [zA,zB,zS];refine zT 13 (some 4) (.assign (.tmp 16)) (.int .i64 (e:Int)) da ?_;simp only [zA,zB,zS];refine zT 14 (some 5) (.assign (.tmp 17)) (.int .i64 (lf:Int)) da ?_;simp only [zA,zB,zS];refine zE (by kernel_rfl) ?_;(try go_frame);have cI:=Sl.mk da;have Rd:Below W.heap.size W w3:=bi.ah.trans (((aM.trans (bk.ah.mono aM.size)).trans (bv.ah.mono (jd aM.size bk.ah.size))).mono bi.ah.size);have M3:=MD w3 Rd;have k3:w3.cell? ⟨b1,3,none⟩=some (.int .i64 (c.bh:Int)):=bP.aB cI.ah 3 _ rfl;have k15:w3.cell? ⟨b1,15,none⟩=some (.slice fa fn fc):=bP.aB cI.ah 15 _ rfl;have nl:=Sl.mk Rd;clear al cJ da bk bv aM o4 RA MD Rd;by_cases he:e=0
 ·have q:((e:Int) != 0)=false:=by simp;omega
  have hw:IntKind.i64.wrap ((lf:Int)+(tx:Int))=(N:Int):=by
   rw [lZ,← HN.ah,if_pos he];omega
  clear he;go_wp2_with fail
  refine M3.mono ?_;rintro x w4 ⟨L,rfl,br⟩;clear M3;have FD:=Fh L ((run (c.bh:Int) M0 F).1.bj:Int) (run (c.bh:Int) M0 F).1.aL (tx:Int) w4;go_wp2;go_ret;exact ⟨rfl,⟨nl.ah.trans (br.ah.mono nl.ah.size)⟩⟩
 ·have q:((e:Int) != 0)=true:=by simp;omega
  have hw:IntKind.i64.wrap (tx:Int)=(N:Int):=by
   rw [lZ,← HN.ah,if_neg he];omega
  clear he;go_wp2_with fail
  refine M3.mono ?_;rintro x w4 ⟨L,rfl,br⟩;clear M3;have FD:=Fh L ((run (c.bh:Int) M0 F).1.bj:Int) (run (c.bh:Int) M0 F).1.aL (tx:Int) w4;go_wp2;go_ret;exact ⟨rfl,⟨nl.ah.trans (br.ah.mono nl.ah.size)⟩⟩
end
open aj (kV)
section
variable {L:List Fr}
theorem xI (d:List Nat):∀ (L:List Fr) (i:Nat),(∀ j,j<i→(L.getD j dn).op≠10)→i<L.length→(L.getD i dn).op=10→kV d L=L.set i {L.getD i dn with data:=d}
 | [],i,_,h,_=>absurd h (Fz _)
 | f :: L,0,_,_,h=>by
   have h:f.op=10:=h;unfold aj.kV;rw [if_pos h];rfl
 | f :: L,i+1,h1,h2,h3=>by
   have h0:f.op≠10:=h1 0 (Nat.succ_pos _);unfold aj.kV;rw [if_neg h0,xI d L i (fun j hj=>h1 (j+1) (Nat.succ_lt_succ hj)) (Nat.lt_of_succ_lt_succ h2) h3];rfl
theorem UA {i:Nat} (hi:i<L.length) (h:(L.getD i dn).op=10):L.any (fun f=>decide (f.op=10))=true:=by
 rw [List.any_eq_true];refine ⟨L.getD i dn,?_,iG h⟩;rw [iw,lD hi];exact Hg _
theorem GL (h:∀ j,j<L.length→(L.getD j dn).op≠10):L.any (fun f=>decide (f.op=10))=false:=by
 rw [List.any_eq_false];intro f hf e;obtain ⟨i,hi,rfl⟩:=List.mem_iff_getElem.1 hf;refine h i hi ?_;rw [iw,lD hi];exact QE e
theorem Qr {K:Kf} {c:Cf} {l:Lg} {inp:ByteArray} {fa:Option Addr} {fn fc:Nat} {ca:Option Addr} {cn cc:Nat} {ra:Option Addr} {rn rc:Nat} {W:World} (h:DH W c l ca cn cc ra rn rc) (s:ByteArray) (hs:s.size≤125) (hn:l.aQ.length≤1000) {P:Nat→Prop} (hP:∀ j,W.heap.size≤j→P j) (hp:PB P ca cn∧PB P ra rn):Calls prog 76 #[.agg (zM K c l inp fa fn fc ca cn cc ra rn rc),.string s] W fun e w'=>∃ aq ar aD aw az aE,e=.returned (.agg (zM K c (aj.lV c l (bytes s)) inp fa fn fc aq ar aD aw az aE))∧Sl (aS w' (.slice aq ar aD) (aj.lV c l (bytes s)).aQ∧aS w' (.slice aw az aE) (aj.lV c l (bytes s)).rest)∧Sl (Below W.heap.size W w')∧Sl (PB P aq ar∧PB P aw az):=by
 have HP:=Sl.mk hP;have oT:=Sl.mk hp;clear hP hp;obtain ⟨eC,bN⟩:=zX (aj.lV c l (bytes s));rw [bN];have js:=Sl.mk bN;clear bN;obtain ⟨w1,bA,dc,ey⟩:=zY W (zM K c l inp fa fn fc ca cn cc ra rn rc) 36;obtain ⟨w2,cE,fY,jN⟩:=zY w1 zD 36;have eI:w1.heap.size=W.heap.size+1:=by rw [← bA,aP]
 have cA:MX W w2 W.heap.size w1.heap.size (zM K c l inp fa fn fc ca cn cc ra rn rc) zD:=⟨ay ey fY,jN,dc.trans (fY.mono dc.size),aY _,dc.size,by omega⟩;obtain ⟨b1,cM⟩:=zX W.heap.size;obtain ⟨b2,cG⟩:=zX w1.heap.size;rw [cM,cG] at cA;have cA:=Sl.mk cA;have dz:w2.heap.size=b2+1:=by rw [← cE,aP,cG]
 have kl:Sl (W.heap.size=b1∧b2=b1+1∧w2.heap.size=b2+1):=⟨cM,by omega,dz⟩;clear ey jN dc fY eI dz;have dk:Sl (aS w2 (.slice ca cn cc) l.aQ∧aS w2 (.slice ra rn rc) l.rest):=⟨h.C.below cA.ah.L,h.S.below cA.ah.L⟩;have HH:=Sl.mk h;have ze:=Sl.mk hn;have vA:=Sl.mk hs;have ul:Sl (cn=l.aQ.length):=⟨h.C.cap.1⟩;have nm:Sl (∀ f∈l.aQ,vw f):=⟨fun f hf=>by
  have h1:=h.I.aQ f hf;exact Dj h1.key h1.fO (by have:=h1.len;omega) (by rcases h1.op with e | e | e<;>omega)⟩
 obtain ⟨sn,pi⟩:=zX l.am;have Mq:w2.cell? ⟨b1,20,none⟩=some (.bool l.am):=bP.aB cA.ah.X 20 _ rfl;rw [pi] at Mq;have Bw:=Sl.mk pi;clear h pi hn hs;go_enter func76,ntmps76;go_upto_region 1 with fail
 (try rw [bA]);(try rw [cE]);(try rw [cM]);(try rw [cG]);clear bA cE cM cG;cases sn with
 | true =>
   obtain rfl:eC=l:=by rw [← js.ah];unfold aj.lV;rw [if_pos Bw.ah]
   go_wp2_with (first
    | (refine uY rfl 36 (.tmp 2) rfl b1 rfl 36 _ (0,0) _ cA.ah.X underlying36 rfl (aX rfl) ?_)
    | (refine fG rfl 36 (.tmp 4) (.tmp 11) rfl b2 (zM K c eC inp fa fn fc ca cn cc ra rn rc) rfl rfl 36 zD cA.ah.R (aX rfl) rfl (dV ..) ?_))
   have et:=cA.ah.ah (zM K c eC inp fa fn fc ca cn cc ra rn rc);(try simp only [Exit.inBlock,Exit.then]);refine gX (sJ rfl _ _ b2 _ rfl et.R rfl) rfl ?_;exact ⟨ca,cn,cc,ra,rn,rc,rfl,⟨iO cA.ah dk.ah.1,iO cA.ah dk.ah.2⟩,⟨et.L⟩,oT⟩
 | false =>
   have HNT:Sl (¬ l.am=true):=⟨by rw [Bw.ah];decide⟩;go_wp2;clear Mq;go_loopw [5,6,7,8] (fun u5 u6 u7 u8 wr=>∃ i:Nat,u5=.int .i64 (i:Int)∧i≤cn∧Sl (∀ j,j<i→(l.aQ.getD j dn).op≠10)∧Sl (MX W wr b1 b2 (zM K c l inp fa fn fc ca cn cc ra rn rc) zD)) (fun u5 _ _ _ _=>cn-(intOf u5).toNat)
   case atStart=>exact ⟨0,rfl,ku _,⟨fun j hj=>absurd hj (Fz _)⟩,cA⟩
   case round =>
    obtain ⟨i,rfl,hi,X2,ly⟩:=hrel;clear cA dk;have Ct:=bP.aB ly.ah.X 18 _ rfl;by_cases eV:i<cn
    ·have bz:((i:Int)<(cn:Int))=True:=eq_true (by omega)
     have ab5:(i:Int)<(cn:Int):=by omega
     obtain ⟨sb,so,rfl⟩:=HH.ah.C.cap.2 (by omega);obtain ⟨aN,C0,fm,ka,kb,kc,kd,ds,nL,eh,-,-⟩:=iL.MR nm.ah i (by rw [← ul.ah];exact eV);obtain ⟨-,a1,-,-,-,-,-,-⟩:=(HH.ah.C.below ly.ah.L).XZ i (by rw [← ul.ah];exact eV) eh;have A4:(l.aQ.getD i dn).op=C0:=by rw [nL]
     clear eh nL;by_cases gD:C0=10
     ·have agc:(C0==10)=true:=by simp [gD]
      obtain ⟨RL,hRL⟩:=zX (kV (bytes s) l.aQ);have us:=xI (bytes s) l.aQ i X2.ah (by rw [← ul.ah];exact eV) (by rw [A4];exact gD);rw [hRL] at us;obtain rfl:eC=aj.move c {l with aQ:=RL}:=by
       rw [← js.ah];unfold aj.lV;rw [if_neg HNT.ah,if_pos (UA (by rw [← ul.ah];exact eV) (by rw [A4];exact gD)),hRL]
      have tU:Sl (RL=l.aQ.set i {l.aQ.getD i dn with data:=bytes s}):=⟨us⟩;obtain ⟨w5,dq⟩:=zX (wr.alloc (.cells #[] 61));have B5:Below wr.heap.size wr w5:=by rw [← dq];exact (dW _ _).alloc (aY _) _
      have CC:Sl (gZ w5 wr.heap.size (.slice (some ⟨wr.heap.size,0,none⟩) 0 0) (RL.take 0)∧wr.heap.size≤w5.heap.size):=⟨by rw [← dq];exact Fb wr _ (aY _),B5.size⟩;have eN:=Sl.mk (ly.ah.below B5);have ch:Sl (b1<wr.heap.size∧b2<wr.heap.size∧W.heap.size≤wr.heap.size):=⟨(zl ly.ah.X),(zl ly.ah.R),ly.ah.L.size⟩;obtain ⟨B,hB⟩:=zX wr.heap.size;rw [hB] at CC ch;have ut:Sl (kV (bytes s) l.aQ=RL):=⟨hRL⟩;clear us hRL gD A4 ly B5;go_upto_region 8 with fail
      (try rw [dq]);(try rw [hB]);clear dq hB a1 Ct;go_wp2;go_loopw [6,7,8] (fun u6 u7 u8 wq=>∃ (k:Nat) (va:Option Addr) (vn vc:Nat),u6=.slice va vn vc∧u7=.int .i64 (k:Int)∧k≤cn∧Sl (gZ wq B (.slice va vn vc) (RL.take k)∧B≤wq.heap.size)∧Sl (MX W wq b1 b2 (zM K c l inp fa fn fc (some ⟨sb,so,none⟩) cn cc ra rn rc) zD)) (fun _ u7 _ _=>cn-(intOf u7).toNat)
      case atStart=>exact ⟨0,_,_,_,rfl,rfl,ku _,CC,eN⟩
      case round =>
       obtain ⟨k,va,vn,vc,rfl,rfl,hk,Fl,C3⟩:=hrel;clear CC eN;have Ct:=bP.aB C3.ah.X 18 _ rfl;by_cases gf:k<cn
       ·have hlk:((k:Int)<(cn:Int))=True:=eq_true (by omega)
        have alg:(k:Int)<(cn:Int):=by omega
        obtain ⟨aN,C0,fm,ka,kb,kc,kd,ds,nL,eh,-,-⟩:=iL.MR nm.ah k (by rw [← ul.ah];exact gf);obtain ⟨a0,a1,a2,a3,a4,a5,a6,a7⟩:=(HH.ah.C.below C3.ah.L).XZ k (by rw [← ul.ah];exact gf) eh;obtain ⟨w6,iB,B6,X6⟩:=zY wr (zV aN C0 fm ka kb kc kd ds) 61;have fi:=Sl.mk (C3.ah.below B6);have jj:=Sl.mk (Fl.ah.1.below B6);have gb:Sl (B≤wr.heap.size∧wr.heap.size<w6.heap.size):=⟨Fl.ah.2,(zl X6)⟩;have HQ6:Sl (b1≠wr.heap.size∧b2≠wr.heap.size∧W.heap.size≤wr.heap.size):=⟨fun e=>by have:=(zl C3.ah.X);omega,fun e=>by have:=(zl C3.ah.R);omega,C3.ah.L.size⟩;have HNO:Sl (∀ g,(Value.slice va vn vc).ownBlock=some g→g≠wr.heap.size):=⟨fun g e e2=>by
         rcases Fl.ah.1.2 with ⟨e3,_⟩ | ⟨g',fd,alh,e3,_,e4,_⟩
         ·rw [e3] at e;cases e
         ·rw [e3] at e
          have e:g'=g:=by simpa [Value.ownBlock] using e
          have:=(zl e4);omega⟩
        obtain ⟨q,hq⟩:=zX wr.heap.size;rw [hq] at X6 gb HQ6 HNO;have pn:=Sl.mk X6;clear B6 X6 C3 Fl eh;go_upto_region 12 with fail
        (try rw [iB]);(try rw [hq]);clear iB hq a0 a1 a2 a3 a4 a5 a6 a7 Ct;by_cases hki:k=i
        ·have hqi:((k:Int)==(i:Int))=true:=by simp;omega
         subst hki;have eg:RL.getD k dn=⟨aN,C0,fm,[ka,kb,kc,kd],bytes s⟩:=by
          rw [tU.ah,nL,iw,List.getElem?_set_self (by rw [← ul.ah];exact gf)];rfl
         have g7:w6.frozen? ⟨q,7,none⟩=false:=kT _ _ _ _ _ pn.ah;have s7:=bP.aB pn.ah 7 _ rfl;have hx7:=lF w6 q 7 _ _ (.string s) pn.ah;have J2:=aH w6 q 7 (.string s);obtain ⟨w7,gk⟩:=zX (w6.setCell ⟨q,7,none⟩ (.string s));rw [gk] at hx7 J2;have kh:Sl (w7.heap[q]? = some (.cells (zV aN C0 fm ka kb kc kd s) 61 (0,0))):=⟨hx7⟩;have ej:=Sl.mk (fi.ah.XK J2 HQ6.ah.1 HQ6.ah.2.1 HQ6.ah.2.2);have pg:Sl (gZ w7 B (.slice va vn vc) (RL.take k)):=⟨iL.kJ jj.ah (bM.grown (S:=fun j=>some q=some j) J2 (fun j e=>e)) (fun j e e2=>by injection e2 with e2;exact HNO.ah j e e2.symm)⟩;have bS:Sl (w6.heap.size≤w7.heap.size):=⟨J2.size⟩;clear hx7 J2;go_upto_region 14 with fail
         (try rw [gk]);clear gk s7 g7 pn fi jj;obtain ⟨l0,l1,l2,l3,l4,l5,l6,l7⟩:=gK.bG kh.ah;obtain ⟨w8,ff,B8,X8⟩:=zY w7 (zV aN C0 fm ka kb kc kd s) 61;have sk:=pg.ah.below B8;have pl:aS w8 (.slice (some ⟨w7.heap.size,0,none⟩) 1 1) [RL.getD k dn]:=mP X8 (by rw [eg];unfold cv;rw [bT];rfl);have ma:=Sl.mk (ej.ah.below B8);have Tg:B≤w8.heap.size:=by have:=gb.ah;have:=bS.ah;have:=B8.size;omega
         have bt:(RL.take k).length+1≤1000000:=by rw [kQ];have:=ul.ah;have:=ze.ah;omega
         have IA:k<RL.length:=by rw [tU.ah,QM,← ul.ah];exact gf
         have dC:k≤1001:=by have:=ul.ah;have:=ze.ah;omega
         clear B8 X8 nL;go_wp2_with (at_builtin;refine nK rfl (.tmp 44) (.tmp 46) rfl rfl B (.slice va vn vc) (.slice (some ⟨w7.heap.size,0,none⟩) 1 1) (RL.take k) [RL.getD k dn] rfl (by first | exact sk | (rw [ff];exact sk)) rfl (by first | exact pl | (rw [ff];exact pl)) bt (by first | exact Tg | (rw [ff];exact Tg)) ?_)
         intro v9 w9 Kj vE;(try rw [ff] at vE);have HM9:=Sl.mk (ma.ah.grown vE.ah (fun g e=>by
          have:=sk.ge e;have:=ch.ah;omega))
         obtain ⟨va9,vc9,rfl⟩:=Kj.ah.slice;have Th:Sl (gZ w9 B (.slice va9 (RL.take (k+1)).length vc9) (RL.take (k+1))∧B≤w9.heap.size):=⟨by first | exact Kj.ah | (rw [iL.AO RL k IA];exact Kj.ah),by have:=vE.ah.size;omega⟩;clear sk pl ma vE ff bt IA Tg Kj l0 l1 l2 l3 l4 l5 l6 l7;go_wp2;exact ⟨⟨k+1,_,_,_,rfl,by go_num,by omega,Th,HM9⟩,by simp [intOf];omega⟩
        ·have hqi:((k:Int)==(i:Int))=false:=by simp;omega
         have eg:RL.getD k dn=⟨aN,C0,fm,[ka,kb,kc,kd],bytes ds⟩:=by
          rw [tU.ah,iw,List.getElem?_set_ne (fun e=>hki e.symm),← iw,nL]
         have bS:Sl (w6.heap.size≤w6.heap.size):=⟨aY _⟩;go_upto_region 14 with fail
         obtain ⟨l0,l1,l2,l3,l4,l5,l6,l7⟩:=gK.bG pn.ah;obtain ⟨w8,ff,B8,X8⟩:=zY w6 (zV aN C0 fm ka kb kc kd ds) 61;have sk:=jj.ah.below B8;have pl:aS w8 (.slice (some ⟨w6.heap.size,0,none⟩) 1 1) [RL.getD k dn]:=mP X8 (by rw [eg];unfold cv;rw [bT];rfl);have ma:=Sl.mk (fi.ah.below B8);have Tg:B≤w8.heap.size:=by have:=gb.ah;have:=bS.ah;have:=B8.size;omega
         have bt:(RL.take k).length+1≤1000000:=by rw [kQ];have:=ul.ah;have:=ze.ah;omega
         have IA:k<RL.length:=by rw [tU.ah,QM,← ul.ah];exact gf
         have dC:k≤1001:=by have:=ul.ah;have:=ze.ah;omega
         clear B8 X8 nL;go_wp2_with (at_builtin;refine nK rfl (.tmp 44) (.tmp 46) rfl rfl B (.slice va vn vc) (.slice (some ⟨w6.heap.size,0,none⟩) 1 1) (RL.take k) [RL.getD k dn] rfl (by first | exact sk | (rw [ff];exact sk)) rfl (by first | exact pl | (rw [ff];exact pl)) bt (by first | exact Tg | (rw [ff];exact Tg)) ?_)
         intro v9 w9 Kj vE;(try rw [ff] at vE);have HM9:=Sl.mk (ma.ah.grown vE.ah (fun g e=>by
          have:=sk.ge e;have:=ch.ah;omega))
         obtain ⟨va9,vc9,rfl⟩:=Kj.ah.slice;have Th:Sl (gZ w9 B (.slice va9 (RL.take (k+1)).length vc9) (RL.take (k+1))∧B≤w9.heap.size):=⟨by first | exact Kj.ah | (rw [iL.AO RL k IA];exact Kj.ah),by have:=vE.ah.size;omega⟩;clear sk pl ma vE ff bt IA Tg Kj l0 l1 l2 l3 l4 l5 l6 l7;go_wp2;exact ⟨⟨k+1,_,_,_,rfl,by go_num,by omega,Th,HM9⟩,by simp [intOf];omega⟩
       ·obtain rfl:k=cn:=by omega
        have hlk:((k:Int)<(k:Int))=False:=dR (by omega);have wv:RL.take k=RL:=nC (by rw [tU.ah,QM,ul.ah];exact aY _);have dk:aS wr (.slice va vn vc) RL:=by have:=Fl.ah.1.jr;rwa [wv] at this
        have f18:=C3.ah.fF 18;have ej:=Sl.mk (C3.ah.set 18 (.slice va vn vc) rfl);obtain ⟨w7,gk⟩:=zX (wr.setCell ⟨b1,18,none⟩ (.slice va vn vc));rw [gk] at ej;have HD7:DH w7 c {l with aQ:=RL} va vn vc ra rn rc:=⟨by rw [← gk];exact pF C3.ah dk,HH.ah.S.below ej.ah.L,⟨HH.ah.I.bytes,HH.ah.I.bE,fun f hf=>by
         have hf:f∈kV (bytes s) l.aQ:=by rw [ut.ah];exact hf
         rcases aj.rZ hf with ⟨g,g1,g2,g3⟩ | hf
         ·have h1:=HH.ah.I.aQ g g1
          rw [g3];exact ⟨h1.aN,h1.op,h1.af,h1.key,by show (bytes s).length≤125;rw [au];exact vA.ah,aJ s⟩
         ·exact HH.ah.I.aQ f hf,HH.ah.I.rest,HH.ah.I.aK⟩,HH.ah.T,HH.ah.D,HH.ah.ok,by show RL.length≤1001;rw [tU.ah,QM];have:=ze.ah;omega⟩
        have MV:=qw (K:=K) (inp:=inp) (fa:=fa) (fn:=fn) (fc:=fc) HD7 ⟨Bc Fl.ah.1 (fun j hj=>HP.ah j (by have:=ch.ah;omega)),oT.ah.2⟩;clear wv dk HD7 Fl;go_upto_region 16 with fail
        (try rw [gk]);clear gk Ct f18 C3;go_wp2_with (refine uY rfl 36 (.tmp 2) rfl b1 rfl 36 _ (0,0) _ ej.ah.X underlying36 rfl (aX rfl) ?_)
        refine MV.mono ?_;rintro e wm ⟨aq,ar,aD,aw,az,aE,rfl,gM,ki,cN⟩;clear MV;have ei:=Sl.mk (ej.ah.below ki.ah);go_wp2_with (refine fG rfl 36 (.tmp 4) (.tmp 51) rfl b2 (zM K c (aj.move c {l with aQ:=RL}) inp fa fn fc aq ar aD aw az aE) rfl rfl 36 zD ei.ah.R (aX rfl) rfl (dV ..) ?_)
        have et:=ei.ah.ah (zM K c (aj.move c {l with aQ:=RL}) inp fa fn fc aq ar aD aw az aE);(try simp only [Exit.inBlock,Exit.then]);refine gX (sJ rfl _ _ b2 _ rfl et.R rfl) rfl ?_;exact ⟨aq,ar,aD,aw,az,aE,rfl,⟨iO ei.ah gM.ah.1,iO ei.ah gM.ah.2⟩,⟨et.L⟩,cN⟩
     ·have agc:(C0==10)=false:=by simp [gD]
      have agi:Sl (∀ j,j<i+1→(l.aQ.getD j dn).op≠10):=⟨fun j hj=>by
       rcases Nat.lt_succ_iff_lt_or_eq.1 hj with e | e
       ·exact X2.ah j e
       ·rw [e,A4];exact gD⟩
      have hi1:i≤1001:=by have:=ul.ah;have:=ze.ah;omega
      clear A4 gD;go_wp2;exact ⟨⟨i+1,by go_num,by omega,agi,ly⟩,by simp [intOf];omega⟩
    ·obtain rfl:i=cn:=by omega
     have bz:((i:Int)<(i:Int))=False:=dR (by omega);obtain rfl:eC=aj.control c l 10 (bytes s):=by
      rw [← js.ah];unfold aj.lV;rw [if_neg HNT.ah,if_neg (by rw [GL (fun j hj=>X2.ah j (by rw [ul.ah];exact hj))];decide)]
     have CT:=qU (K:=K) (inp:=inp) (fa:=fa) (fn:=fn) (fc:=fc) (HH.ah.below ly.ah.L) 10 s (.inr (.inr rfl)) vA.ah ze.ah (PU HP.ah ly.ah.L) oT.ah;go_upto_region 17 with fail
     clear Ct;go_wp2_with (refine uY rfl 36 (.tmp 2) rfl b1 rfl 36 _ (0,0) _ ly.ah.X underlying36 rfl (aX rfl) ?_)
     refine CT.mono ?_;rintro e wm ⟨aq,ar,aD,aw,az,aE,rfl,gM,ki,cN⟩;clear CT;have ei:=Sl.mk (ly.ah.below ki.ah);go_wp2_with (refine fG rfl 36 (.tmp 4) (.tmp 54) rfl b2 (zM K c (aj.control c l 10 (bytes s)) inp fa fn fc aq ar aD aw az aE) rfl rfl 36 zD ei.ah.R (aX rfl) rfl (dV ..) ?_)
     have et:=ei.ah.ah (zM K c (aj.control c l 10 (bytes s)) inp fa fn fc aq ar aD aw az aE);(try simp only [Exit.inBlock,Exit.then]);refine gX (sJ rfl _ _ b2 _ rfl et.R rfl) rfl ?_;exact ⟨aq,ar,aD,aw,az,aE,rfl,⟨iO ei.ah gM.ah.1,iO ei.ah gM.ah.2⟩,⟨et.L⟩,cN⟩
end
open aj (kN)
section
variable {c:Cf} {l:Lg} {k cn cc rn fc:Nat} {ra fa:Option Addr} {W:World} {K:Kf} {inp:ByteArray} {P:Nat→Prop}
structure DF (W:World) (c:Cf) (l:Lg) (k:Nat) (ca:Option Addr) (cn cc:Nat) (ra:Option Addr) (rn rc:Nat):Prop where
 C:aS W (.slice ca cn cc) l.aQ
 S:aS W (.slice ra rn rc) l.rest
 F:kN c l k
 D:l.bu<4294967296
 ok:iI c
 hk:k≤900
theorem DF.dh {ca:Option Addr} {rc:Nat} (h:DF W c l k ca cn cc ra rn rc):DH W c l ca cn cc ra rn rc:=⟨h.C,h.S,h.F.ok.eB,h.F.tail,h.D,h.ok,by have:=aj.NF h.F;have:=h.hk;omega⟩
theorem DF.n {ca:Option Addr} {rc:Nat} (h:DF W c l k ca cn cc ra rn rc):l.aQ.length≤1000:=by have:=aj.NF h.F;have:=h.hk;omega
theorem DF.below {ca:Option Addr} {rc:Nat} {W':World} (h:DF W c l k ca cn cc ra rn rc) (b:Below W.heap.size W W'):DF W' c l k ca cn cc ra rn rc:=⟨h.C.below b,h.S.below b,h.F,h.D,h.ok,h.hk⟩
theorem DF.abR {ca:Option Addr} {rc:Nat} {m:Lg} (h:DF W c l k ca cn cc ra rn rc) (e:m.cj=l.cj∧m.aK=l.aK∧m.tail=l.tail∧m.bE=l.bE∧m.aQ=l.aQ∧m.rest=l.rest∧m.bX=l.bX∧m.gy=l.gy∧m.am=l.am) (d:m.bu=l.bu):DF W c m k ca cn cc ra rn rc :=
 ⟨by rw [e.2.2.2.2.1];exact h.C,by rw [e.2.2.2.2.2.1];exact h.S,aj.sD h.F (aj.zJ h.F.ok e) ⟨e.2.2.1,e.2.2.2.2.1,e.2.2.2.2.2.1,e.2.2.2.2.2.2.2.2⟩,by rw [d];exact h.D,h.ok,h.hk⟩
theorem DF.mono {ca:Option Addr} {rc:Nat} {j:Nat} (h:DF W c l k ca cn cc ra rn rc) (hj:k≤j) (h2:j≤900):DF W c l j ca cn cc ra rn rc:=⟨h.C,h.S,h.F.mono hj,h.D,h.ok,h2⟩
theorem WG {fn:Nat} {ca:Option Addr} {rc:Nat} (h:DF W c l k ca cn cc ra rn rc) (s:ByteArray) (hs:s.size≤125) (hP:∀ j,W.heap.size≤j→P j) (hp:PB P ca cn∧PB P ra rn):Calls prog 76 #[.agg (zM K c l inp fa fn fc ca cn cc ra rn rc),.string s] W fun ee w'=>∃ aq ar aD aw az aE,ee=.returned (.agg (zM K c (aj.lV c l (bytes s)) inp fa fn fc aq ar aD aw az aE))∧Sl (DF w' c (aj.lV c l (bytes s)) k aq ar aD aw az aE)∧Sl (Below W.heap.size W w')∧Sl (PB P aq ar∧PB P aw az):=by
 refine (Qr (K:=K) (inp:=inp) (fa:=fa) (fn:=fn) (fc:=fc) h.dh s hs h.n hP hp).mono ?_;rintro ee w' ⟨aq,ar,aD,aw,az,aE,rfl,H1,H2,H3⟩;exact ⟨aq,ar,aD,aw,az,aE,rfl,⟨H1.ah.1,H1.ah.2,aj.I4 h.ok.f2 h.F _ (by rw [au];exact hs) (aJ s),aj.Qw c h.D _,h.ok,h.hk⟩,H2,H3⟩
theorem NG {fn:Nat} {ca:Option Addr} {rc:Nat} (h:DF W c l k ca cn cc ra rn rc) (e:Nat) (hP:∀ j,W.heap.size≤j→P j) (hp:PB P ca cn∧PB P ra rn):Calls prog 75 #[.agg (zM K c l inp fa fn fc ca cn cc ra rn rc),.int .i64 (e:Int)] W fun ee w'=>∃ aq ar aD aw az aE,ee=.returned (.agg (zM K c (aj.fail c l e) inp fa fn fc aq ar aD aw az aE))∧Sl (DF w' c (aj.fail c l e) k aq ar aD aw az aE)∧Sl (Below W.heap.size W w')∧Sl (PB P aq ar∧PB P aw az):=by
 refine (Ql (K:=K) (inp:=inp) (fa:=fa) (fn:=fn) (fc:=fc) h.dh e h.n hP hp).mono ?_;rintro ee w' ⟨aq,ar,aD,aw,az,aE,rfl,H1,H2,H3⟩;exact ⟨aq,ar,aD,aw,az,aE,rfl,⟨H1.ah.1,H1.ah.2,aj.UB h.ok.f2 h.F e,aj.Qx c h.D e,h.ok,h.hk⟩,H2,H3⟩
theorem JB {fn:Nat} {ca:Option Addr} {rc:Nat} (h:DF W c l k ca cn cc ra rn rc) (n:Int) (s:ByteArray) (hs:s.size≤100000) (hP:∀ j,W.heap.size≤j→P j) (hp:PB P ca cn∧PB P ra rn):Calls prog 46 #[.agg (zM K c l inp fa fn fc ca cn cc ra rn rc),.int .i64 n,.string s] W fun ee w'=>∃ aq ar aD aw az aE,ee=.returned (.tuple #[.agg (zM K c ((aj.bU c l n (bytes s)).1) inp fa fn fc aq ar aD aw az aE),.bool (aj.bU c l n (bytes s)).2])∧Sl (DF w' c (aj.bU c l n (bytes s)).1 k aq ar aD aw az aE)∧Sl (Below W.heap.size W w')∧Sl (PB P aq ar∧PB P aw az):=by
 refine (Dp (K:=K) (inp:=inp) (fa:=fa) (fn:=fn) (fc:=fc) h.dh n s hs h.n hP hp).mono ?_;rintro ee w' ⟨aq,ar,aD,aw,az,aE,rfl,H1,H2,H3⟩;exact ⟨aq,ar,aD,aw,az,aE,rfl,⟨H1.ah.1,H1.ah.2,aj.qg h.ok.f2 h.F n _ (aJ s),aj.Dt c h.D n _,h.ok,h.hk⟩,H2,H3⟩
theorem WI {fn:Nat} {ca:Option Addr} {rc:Nat} (h:DF W c l k ca cn cc ra rn rc) (s:ByteArray) (hP:∀ j,W.heap.size≤j→P j) (hp:PB P ca cn∧PB P ra rn) (tW:k+1≤900):Calls prog 45 #[.agg (zM K c l inp fa fn fc ca cn cc ra rn rc),.string s] W fun ee w'=>∃ aq ar aD aw az aE,ee=.returned (.tuple #[.agg (zM K c ((aj.jW c l (bytes s)).1) inp fa fn fc aq ar aD aw az aE),.bool (aj.jW c l (bytes s)).2])∧Sl (DF w' c (aj.jW c l (bytes s)).1 (k+1) aq ar aD aw az aE)∧Sl (Below W.heap.size W w')∧Sl (PB P aq ar∧PB P aw az):=by
 refine (Qj (K:=K) (inp:=inp) (fa:=fa) (fn:=fn) (fc:=fc) h.dh s h.n hP hp).mono ?_;rintro ee w' ⟨aq,ar,aD,aw,az,aE,rfl,H1,H2,H3⟩;exact ⟨aq,ar,aD,aw,az,aE,rfl,⟨H1.ah.1,H1.ah.2,aj.IZ h.ok.f2 h.F _ (aJ s),aj.Qs c h.D _,h.ok,tW⟩,H2,H3⟩
theorem WJ {fn:Nat} {ca:Option Addr} {rc:Nat} (h:DF W c l k ca cn cc ra rn rc) (op qq:Int) (s:ByteArray) (hP:∀ j,W.heap.size≤j→P j) (hp:PB P ca cn∧PB P ra rn):Calls prog 44 #[.agg (zM K c l inp fa fn fc ca cn cc ra rn rc),.agg #[.int .i64 op,.int .i64 qq,.string s]] W fun ee w'=>∃ aq ar aD aw az aE,ee=.returned (.tuple #[.agg (zM K c ((aj.send c l op (bytes s)).1) inp fa fn fc aq ar aD aw az aE),.bool (aj.send c l op (bytes s)).2])∧Sl (DF w' c (aj.send c l op (bytes s)).1 k aq ar aD aw az aE)∧Sl (Below W.heap.size W w')∧Sl (PB P aq ar∧PB P aw az):=by
 refine (Qm (K:=K) (inp:=inp) (fa:=fa) (fn:=fn) (fc:=fc) h.dh op qq s hP hp).mono ?_;rintro ee w' ⟨aq,ar,aD,aw,az,aE,rfl,H1,H2,H3⟩;exact ⟨aq,ar,aD,aw,az,aE,rfl,⟨H1.ah.1,H1.ah.2,aj.IY h.ok.f2 h.ok.f1 h.F op _ (aJ s),aj.Qu c h.D op _,h.ok,h.hk⟩,H2,H3⟩
theorem WL {fn:Nat} {ca:Option Addr} {rc:Nat} (h:DF W c l k ca cn cc ra rn rc) (n:Int) (hP:∀ j,W.heap.size≤j→P j) (hp:PB P ca cn∧PB P ra rn):Calls prog 47 #[.agg (zM K c l inp fa fn fc ca cn cc ra rn rc),.int .i64 n] W fun ee w'=>∃ aq ar aD aw az aE,ee=.returned (.tuple #[.agg (zM K c ((aj.jD c l n).1) inp fa fn fc aq ar aD aw az aE),.string (aF (aj.jD c l n).2)])∧Sl (DF w' c (aj.jD c l n).1 k aq ar aD aw az aE)∧Sl (Below W.heap.size W w')∧Sl (PB P aq ar∧PB P aw az):=by
 refine (Qk (K:=K) (inp:=inp) (fa:=fa) (fn:=fn) (fc:=fc) h.dh n hP hp).mono ?_;rintro ee w' ⟨aq,ar,aD,aw,az,aE,rfl,H1,H2,H3⟩;exact ⟨aq,ar,aD,aw,az,aE,rfl,⟨H1.ah.1,H1.ah.2,aj.IX h.ok.f2 h.F n,aj.Qv c h.D n,h.ok,h.hk⟩,H2,H3⟩
end
section
variable {W W':World} {S S':Nat→Prop} {c:Cf} {l:Lg} {k:Nat}
theorem yu (g:eH W W' S S') {a:Option Addr} {n cap:Nat} {fs:List Fr} (h:aS W (.slice a n cap) fs) (hp:PB (fun j=>¬ S j) a n):aS W' (.slice a n cap) fs∧PB (fun j=>¬ S' j) a n:=by
 obtain ⟨a',fd,sb,so,e,h1,h2,h3⟩:=h;injection e with e1 e2 e3
 subst e1 e2 e3;have hb:0<fs.length→¬ S sb∧sb<W.heap.size:=fun h0=>by
  have h4:W.cell? ⟨sb,so+0*8+0,none⟩=some (.bool (fs.getD 0 dn).aN):=h3 0 h0 0 (by decide);exact ⟨hp h0 _ (h2 h0),zk h4⟩
 refine ⟨⟨a,cap,sb,so,rfl,h1,h2,fun i hi j hj=>?_⟩,fun h0 x hx=>?_⟩
 ·rw [← h3 i hi j hj]
  obtain ⟨b1,b2⟩:=hb (by omega);exact DV (w:=W) (g.kept.block sb b2 b1)
 ·rw [h2 h0] at hx
  injection hx with hx
  subst hx;obtain ⟨b1,b2⟩:=hb h0;intro e;rcases g.dy sb e with e | e
  ·exact b1 e
  ·omega
theorem DF.ou {ca:Option Addr} {cn cc:Nat} {ra:Option Addr} {rn rc:Nat} (h:DF W c l k ca cn cc ra rn rc) (g:eH W W' S S') (hp:PB (fun j=>¬ S j) ca cn∧PB (fun j=>¬ S j) ra rn):DF W' c l k ca cn cc ra rn rc∧PB (fun j=>¬ S' j) ca cn∧PB (fun j=>¬ S' j) ra rn:=by
 obtain ⟨a1,a2⟩:=yu g h.C hp.1;obtain ⟨b1,b2⟩:=yu g h.S hp.2;exact ⟨⟨a1,b1,h.F,h.D,h.ok,h.hk⟩,a2,b2⟩
theorem iT.fH {w0:World} {L:Nat} (h:iT w0 W L S c l k):∀ j,W.heap.size≤j→¬ S j:=fun j hj e=>by
 have:=(h.lu e).2;omega
end
theorem UC (K:Kf) (c:Cf) (d:Nat) (W:World):Calls prog 15 #[.agg (zK K c),.bool c.af,.int .u32 (d:Int)] W fun e w'=>e=.returned (.agg (zL K c (d:Int) {data:=#[]} none 0 0 {data:=#[]} {data:=#[]} none 0 0 none 0 0 false false 0))∧Sl (Below W.heap.size W w'):=by
 obtain ⟨w1,bA,dc,ey⟩:=zY W (zK K c) 25;obtain ⟨w2,cE,fY,jN⟩:=zY w1 zD 36;have hc:=ay ey fY;have HR:=Sl.mk jN;have HB:=Sl.mk (dc.trans (fY.mono dc.size));have hg:W.heap.size≤w1.heap.size:=dc.size;have k0:=bP.aB hc 0 _ rfl;have k1:=bP.aB hc 1 _ rfl;have k2:=bP.aB hc 2 _ rfl;have k3:=bP.aB hc 3 _ rfl;have k4:=bP.aB hc 4 _ rfl;have k5:=bP.aB hc 5 _ rfl;have k6:=bP.aB hc 6 _ rfl;have k7:=bP.aB hc 7 _ rfl;have k8:=bP.aB hc 8 _ rfl;have k9:=bP.aB hc 9 _ rfl;have uc:=bP.aB hc 10 _ rfl;have ud:=bP.aB hc 11 _ rfl;obtain ⟨b2,cG⟩:=zX w1.heap.size;rw [cG] at HR hg;clear hc ey jN dc fY;go_enter func15,ntmps15;go_upto_region 1 with fail
 (try rw [bA]);(try rw [cE]);(try rw [cG]);clear bA cE cG;go_wp2_with (refine fG rfl 36 (.tmp 6) (.tmp 10) rfl b2 (zL K c (d:Int) {data:=#[]} none 0 0 {data:=#[]} {data:=#[]} none 0 0 none 0 0 false false 0) rfl rfl 36 zD HR.ah (aX rfl) rfl (by simp [Value.oneCell']) ?_)
 refine gX (sJ rfl _ _ b2 _ rfl (gY _ _ _ _ _ _ HR.ah) rfl) rfl ?_;exact ⟨rfl,⟨below_setRow HB.ah hg _⟩⟩
open aj (fP uJ DR)
open aA (Ev Ms)
open KU
section
variable {W W' W0 wr V V':World} {a fa ra xa ya aq aw aa La:Option Addr} {fs A F:List Fr} {P Q:Nat→Prop} {b1 dr k fc cn cc rn xn xc yn yc base b ar aD az aE na q Lc er tx:Nat} {rg tl ip:ByteArray} {am ov:Bool} {ag:Int} {K:Kf} {c:Cf} {l:Lg} {rx cs oB:Array Value} {v v2 ev:Value} {es e2:List Ev} {o:Oper} {x y:Operand}
theorem Qy {r:Option Nat} {n cap:Nat} (h:aS W (.slice a n cap) fs) (hg:W.grownBy W' r) (hp:PB (fun j=>r≠some j) a n):aS W' (.slice a n cap) fs:=by
 obtain ⟨a',fd,sb,so,e,h1,h2,h3⟩:=h;injection e with e1 e2 e3
 subst e1 e2 e3;refine ⟨a,cap,sb,so,rfl,h1,h2,fun i hi j hj=>?_⟩;have h0:0<fs.length:=by omega
 have h4:W.cell? ⟨sb,so+0*8+0,none⟩=some (.bool (fs.getD 0 dn).aN):=h3 0 h0 0 (by decide);rw [← h3 i hi j hj];exact DV (w:=W) ((bM.grown (S:=fun j=>r=some j) hg (fun j e=>e)).block sb (zk h4) (hp h0 _ (h2 h0)))
theorem PB.lt {n cap:Nat} (h:aS W (.slice a n cap) fs):PB (fun j=>j<W.heap.size) a n:=by
 obtain ⟨a',fd,sb,so,e,h1,h2,h3⟩:=h;injection e with e1 e2 e3
 subst e1 e2 e3;intro h0 x hx;rw [h2 h0] at hx;injection hx with hx
 subst hx;have h4:W.cell? ⟨sb,so+0*8+0,Option.none⟩=some (.bool (fs.getD 0 dn).aN):=h3 0 h0 0 (by decide);exact zk h4
theorem PB.imp {n:Nat} (h:PB P a n) (hi:∀ j,P j→Q j):PB Q a n:=fun h0 x hx=>hi _ (h h0 x hx)
theorem PB.Hz {n:Nat} (h:PB P a n) (g:PB Q a n):PB (fun j=>P j∧Q j) a n:=fun h0 x hx=>⟨h h0 x hx,g h0 x hx⟩
theorem LD {b2 ix:Nat} {u:Value} {zs:Array Value} {dA:Bool} {fn:Nat} {ca:Option Addr} {rc:Nat} (M:MX W0 W b1 b2 (zL K c (dr:Int) ip fa fn fc rg tl xa xn xc ya yn yc am dA ag) zs) (h:DF W c l k ca cn cc ra rn rc):DF (W.setCell ⟨b1,ix,none⟩ u) c l k ca cn cc ra rn rc :=
 ⟨pF M h.C,pF M h.S,h.F,h.D,h.ok,h.hk⟩
theorem XO {b2:Nat} {zs:Array Value} {dA:Bool} {fn:Nat} {ca:Option Addr} {rc:Nat} (M:MX W0 W b1 b2 (zL K c (dr:Int) ip fa fn fc rg tl xa xn xc ya yn yc am dA ag) zs) (h:DF W c l k ca cn cc ra rn rc):DF (W.setRow b1 rx) c l k ca cn cc ra rn rc :=
 ⟨zf M h.C,zf M h.S,h.F,h.D,h.ok,h.hk⟩
theorem XP {b2:Nat} {ca:Option Addr} {rc:Nat} (M:MX W0 W b1 b2 cs zD) (h:DF W c l k ca cn cc ra rn rc):DF (W.setRow b2 rx) c l k ca cn cc ra rn rc :=
 ⟨iO M h.C,iO M h.S,h.F,h.D,h.ok,h.hk⟩
theorem mG {ty:TypeId} (h:ig W base v es) (hb:W.heap[b]? = some (.cells cs ty (0,0))) (ht:ty≠52) (hg:W.grownBy W' (some b)):ig W' base v es :=
 h.kept hg (fun k e e2=>by
  injection e with e
  subst e;obtain ⟨_,rx,h3⟩:=h.heap e2;rw [hb] at h3;injection h3 with h3
  injection h3 with _ h3 _
  exact ht h3)
structure yw (W wr:World) (b1 b2:Nat) (K:Kf) (c:Cf) (k:Nat) (ip:ByteArray) (A:List Fr) (aa:Option Addr) (na ac:Nat) (P:Nat→Prop) (F:List Fr) (l:Lg) (es:List Ev) (ev:Value) (fa:Option Addr) (fn fc:Nat) (ca:Option Addr) (cn cc:Nat) (ra:Option Addr) (rn rc:Nat):Prop where
 M:MX W wr b1 b2 (zM K c l ip fa fn fc ca cn cc ra rn rc) zD
 D:DF wr c l k ca cn cc ra rn rc
 E:ig wr W.heap.size ev es
 F:aS wr (.slice fa fn fc) F
 V:aS wr (.slice aa na ac) A
 pc:PB (fun j=>P j∧ev.ownBlock≠some j) ca cn∧PB (fun j=>P j∧ev.ownBlock≠some j) ra rn
 pf:PB (fun j=>P j∧ev.ownBlock≠some j) fa fn
 pa:PB (fun j=>P j∧ev.ownBlock≠some j) aa na
section
variable {W wr w':World} {b1 b2:Nat} {K:Kf} {c:Cf} {l m:Lg} {k:Nat} {ip:ByteArray} {fa:Option Addr} {fn fc:Nat} {ca:Option Addr} {cn cc:Nat} {ra:Option Addr} {rn rc:Nat} {A F:List Fr} {aa:Option Addr} {na ac:Nat} {P:Nat→Prop} {es:List Ev} {ev:Value}
theorem yw.below (h:yw W wr b1 b2 K c k ip A aa na ac P F l es ev fa fn fc ca cn cc ra rn rc) (b:Below wr.heap.size wr w'):yw W w' b1 b2 K c k ip A aa na ac P F l es ev fa fn fc ca cn cc ra rn rc :=
 ⟨h.M.below b,h.D.below b,h.E.below b,h.F.below b,h.V.below b,h.pc,h.pf,h.pa⟩
theorem yw.Ua (h:yw W wr b1 b2 K c k ip A aa na ac P F l es ev fa fn fc ca cn cc ra rn rc) (j:Nat) (hj:j≤na):yw W (wr.setCell ⟨b1,15,none⟩ (.slice aa j ac)) b1 b2 K c k ip A aa na ac P (A.take j) l es ev aa j ac ca cn cc ra rn rc :=
 ⟨h.M.set 15 _ rfl,LD h.M h.D,mG h.E h.M.X (by decide) (aH _ _ _ _),pF h.M (iL.aS.to h.V hj),pF h.M h.V,h.pc,fun h0 x hx=>h.pa (by omega) x hx,h.pa⟩
theorem yw.put (h:yw W wr b1 b2 K c k ip A aa na ac P F l es ev fa fn fc ca cn cc ra rn rc) (hD:DF wr c m k aq ar aD aw az aE) (hp:PB (fun j=>P j∧ev.ownBlock≠some j) aq ar∧PB (fun j=>P j∧ev.ownBlock≠some j) aw az):yw W (wr.setRow b1 (zM K c m ip fa fn fc aq ar aD aw az aE)) b1 b2 K c k ip A aa na ac P F m es ev fa fn fc aq ar aD aw az aE :=
 ⟨h.M.Xa _,XO h.M hD,mG h.E h.M.X (by decide) (bZ _ _ _),zf h.M h.F,zf h.M h.V,hp,h.pf,h.pa⟩
theorem yw.dA (h:yw W wr b1 b2 K c k ip A aa na ac P F l es ev fa fn fc ca cn cc ra rn rc):yw W (wr.setCell ⟨b1,21,none⟩ (.bool true)) b1 b2 K c k ip A aa na ac P F {l with dA:=true} es ev fa fn fc ca cn cc ra rn rc :=
 ⟨h.M.set 21 _ rfl,(LD h.M h.D).abR ⟨rfl,rfl,rfl,rfl,rfl,rfl,rfl,rfl,rfl⟩ rfl,mG h.E h.M.X (by decide) (aH _ _ _ _),pF h.M h.F,pF h.M h.V,h.pc,h.pf,h.pa⟩
theorem Fj (h:ig W base v es) (hb:W.heap[b]? = some (.cells cs 36 (0,0))):v.ownBlock≠some b:=fun e=>by
 obtain ⟨_,rx,h3⟩:=h.heap e;rw [hb] at h3;injection h3 with h3
 injection h3 with _ h3 _
 exact absurd h3 (by decide)
theorem yw.Td (h:yw W wr b1 b2 K c k ip A aa na ac P F l es ev fa fn fc ca cn cc ra rn rc) (ho:ig w' W.heap.size v2 e2) (hg:wr.grownBy w' ev.ownBlock) (hv:v2.ownBlock=ev.ownBlock∨v2.ownBlock=some wr.heap.size):yw W w' b1 b2 K c k ip A aa na ac P F l e2 v2 fa fn fc ca cn cc ra rn rc:=by
 have hq:∀ {a:Option Addr} {n cap:Nat} {fs:List Fr},aS wr (.slice a n cap) fs→PB (fun j=>P j∧ev.ownBlock≠some j) a n→PB (fun j=>P j∧v2.ownBlock≠some j) a n:=fun hf hp h0 x hx=>⟨(hp h0 x hx).1,by
  rcases hv with e | e
  ·rw [e];exact (hp h0 x hx).2
  ·rw [e];intro e3;injection e3 with e3;have:=PB.lt hf h0 x hx;omega⟩
 have hk:∀ {a:Option Addr} {n cap:Nat} {fs:List Fr},aS wr (.slice a n cap) fs→PB (fun j=>P j∧ev.ownBlock≠some j) a n→aS w' (.slice a n cap) fs:=fun hf hp=>Qy hf hg (hp.imp fun j e=>e.2)
 refine ⟨h.M.grown hg (fun j e=>⟨fun e2=>Fj h.E h.M.X (by rw [e,e2]),fun e2=>Fj h.E h.M.R (by rw [e,e2]),(h.E.heap e).1⟩),⟨hk h.D.C h.pc.1,hk h.D.S h.pc.2,h.D.F,h.D.D,h.D.ok,h.D.hk⟩,ho,hk h.F h.pf,hk h.V h.pa,⟨hq h.D.C h.pc.1,hq h.D.S h.pc.2⟩,hq h.F h.pf,hq h.V h.pa⟩
end
structure FdO (W w':World) (c:Cf) (m:Lg) (k:Nat) (P:Nat→Prop) (ip:ByteArray) (F:List Fr) (fa:Option Addr) (fn fc:Nat) (ca:Option Addr) (cn cc:Nat) (ra:Option Addr) (rn rc:Nat) (ev:Value) (es:List Ev):Prop where
 D:DF w' c m k ca cn cc ra rn rc
 B:Below W.heap.size W w'
 p:PB P ca cn∧PB P ra rn
 pf:PB P fa fn
 T:aS w' (.slice fa fn fc) F
 R:DR c m (bytes ip) F
 t:∃ j,F=(fP c (bytes ip)).1.take j
 E:ig w' W.heap.size ev es
theorem yw.ah {b2:Nat} {m:Lg} {fn:Nat} {ca:Option Addr} {rc:Nat} {ac:Nat} (h:yw W wr b1 b2 K c k ip A aa na ac P F l es ev fa fn fc ca cn cc ra rn rc) (hD:DF wr c m k aq ar aD aw az aE) (hp:PB P aq ar∧PB P aw az) (hR:DR c m (bytes ip) F) (ht:∃ j,F=(fP c (bytes ip)).1.take j) (hE:ig wr W.heap.size v2 e2):FdO W (wr.setRow b2 cs) c m k P ip F fa fn fc aq ar aD aw az aE v2 e2 :=
 ⟨XP h.M hD,(h.M.ah cs).L,hp,h.pf.imp fun _ e=>e.1,iO h.M h.F,hR,ht,mG hE h.M.R (by decide) (bZ _ _ _)⟩
theorem UD (hc:iI c) {G:List Nat} (hs:∀ y∈G,y<256):(∀ f∈(fP c G).1,vw f)∧(∀ f∈(fP c G).1,f.data.length≤100000)∧2*(fP c G).1.length≤G.length:=by
 obtain ⟨h1,_,h3⟩:=aV.AA c.af (bQ c:Int) _ G (aY _) hs;have hb:(bQ c:Int)≤65536:=by have:=hc.m2;unfold aj.bQ;omega
 refine ⟨fun f hf=>?_,fun f hf=>?_,h3⟩
 ·obtain ⟨g1,g2,g3,g4,g5⟩:=h1 f hf
  refine ⟨g2,g3,g4,by unfold maxLen;omega,?_⟩;rcases (aC.eF g1).1 with e | e<;>omega
 ·have:=(h1 f hf).2.2.2.2
  omega
theorem yw.dJ {b2:Nat} {fn:Nat} {ca:Option Addr} {rc:Nat} {ac:Nat} (h:yw W wr b1 b2 K c k ip A aa na ac P F l es ev fa fn fc ca cn cc ra rn rc) (i2:ByteArray) (b:List Nat):yw W (wr.setCell ⟨b1,14,none⟩ (.string i2)) b1 b2 K c k i2 A aa na ac P F (aj.dJ c l b) es ev fa fn fc ca cn cc ra rn rc :=
 ⟨h.M.set 14 _ rfl,(LD h.M h.D).abR ⟨rfl,rfl,rfl,rfl,rfl,rfl,rfl,rfl,rfl⟩ rfl,mG h.E h.M.X (by decide) (aH _ _ _ _),pF h.M h.F,pF h.M h.V,h.pc,h.pf,h.pa⟩
theorem yw.all {b2:Nat} {fn:Nat} {ca:Option Addr} {rc:Nat} {B:List Fr} {aa':Option Addr} {ac na' ac':Nat} (h:yw W wr b1 b2 K c k ip A aa na ac P F l es ev fa fn fc ca cn cc ra rn rc) (ho:gZ wr base (.slice aa' na' ac') B) (hP:∀ j,base≤j→P j) (he:∀ g,ev.ownBlock=some g→g<base):yw W wr b1 b2 K c k ip B aa' na' ac' P F l es ev fa fn fc ca cn cc ra rn rc :=
 ⟨h.M,h.D,h.E,h.F,ho.jr,h.pc,h.pf,Bc ho (fun j hj=>⟨hP j hj,fun e=>by have:=he j e;omega⟩)⟩
theorem NH {ev:Operand→Value} {n cap:Nat} (j:Nat) (ho:o.op=.slice 34 x none (some y) none) (hx:ev x=.slice a n cap) (hy:ev y=.int .i64 (j:Int)) (h:j≤cap) :
 (execOp ev o).run prog W=.ok (.value (.slice a j cap)) W:=by
 have h2:(Instr.slice 34 (.slice a n cap) none (some (.int .i64 (j:Int))) none).run prog W=.ok (.slice a j cap) W:=iL.EG W a n cap j h;unfold execOp;simp only [ho,hx,hy,Option.map_none,Dy,rE];refine (lG (fun r=>Result.andThen r _) h2).trans ?_;rfl
structure UU (V:World) (q:Nat) (La:Option Addr) (n Lc er:Nat) (ov:Bool) (tx:Nat) (es:List Ev):Prop where
 X:V.heap[q]? = some (.cells #[.slice La n Lc,.int .i64 (er:Int),.bool ov,.int .i64 (tx:Int)] 129 (0,0))
 E:ig V 0 (.slice La n Lc) es
theorem UU.below {n:Nat} (h:UU V q La n Lc er ov tx es) (b:Below V.heap.size V V'):UU V' q La n Lc er ov tx es:=⟨ay h.X b,h.E.below b⟩
theorem UU.kind {n:Nat} (h:UU V q La n Lc er ov tx es) (hb:V.heap[b]? = some (.cells cs 36 (0,0))) (hg:V.grownBy V' (some b)):UU V' q La n Lc er ov tx es:=by
 refine ⟨?_,mG h.E hb (by decide) hg⟩;rw [(bM.grown (S:=fun j=>some b=some j) hg (fun j e=>e)).block q (zl h.X) (fun e=>by
  injection e with e
  subst e;have h1:=h.X;rw [hb] at h1;injection h1 with h1
  injection h1 with _ h1 _
  exact absurd h1 (by decide))]
 exact h.X
theorem G8 {B:Nat} {Wr:World} {n:Nat} (hV:Below B Wr V) (hq:B≤q) (hX:V.heap[q]? = some (.cells oB 129 (0,0))) (hE:ig V base (.slice La n Lc) es) :
 Below B Wr (V.setRow q #[.slice La n Lc,.int .i64 (er:Int),.bool ov,.int .i64 (tx:Int)])∧UU (V.setRow q #[.slice La n Lc,.int .i64 (er:Int),.bool ov,.int .i64 (tx:Int)]) q La n Lc er ov tx es :=
 ⟨below_setRow hV hq _,gY _ _ _ _ _ _ hX,mG (jS.wS hE (ku _)) hX (by decide) (bZ _ _ _)⟩
theorem Be (a b:Int) (La:Option Addr) (n Lc:Nat) (ov:Bool):(#[.slice La n Lc,.int .i64 a,.bool ov,.int .i64 b]:Array Value).all (·.oneCell')=true:=by simp [Value.oneCell']
theorem uz {ev:Operand→Value} {g:Nat} {cells:Array Value} (ho:o.op=.store 129 x y) (hx:ev x=.pointer (some ⟨g,0,none⟩)) (hy:ev y=.agg cells) (hg:W.heap[g]? = some (.cells oB 129 (0,0))) (hs:oB.size=cells.size) (h2:cells.size=4) (h1:cells.all (·.oneCell')=true) :
 (execOp ev o).run prog W=.ok .skip (W.setRow g cells):=by
 unfold execOp;simp only [ho,hx,hy,Instr.storeAt,Instr.sureAddr,rE,Sem.run_pure,Result.andThen_ok,run_storeVar_row W g 129 129 oB cells hg (show (prog.info? 129).map (·.size)=some cells.size by rw [h2];kernel_rfl) hs h1]
end
open aj (jO jZ dJ fail iM)
section
variable {W:World}
theorem WM {ev:Operand→Value} {o:Oper} {x:Operand} {g:Nat} {cs:Array Value} (ho:o.op=.load 52 x) (hx:ev x=.pointer (some ⟨g,0,none⟩)) (h:W.heap[g]? = some (.cells cs 52 (0,0))) (hs:cs.size=3) :
 (execOp ev o).run prog W=.ok (.value (.agg cs)) W:=by
 unfold execOp;simp only [ho,hx,Instr.loadAt,Instr.sureAddr,rE,Sem.run_pure,Result.andThen_ok,UR W g 52 52 _ (0,0) _ h underlying52 rfl (lU hs)]
theorem Qz {K:Kf} {c:Cf} {l:Lg} {k:Nat} {inp:ByteArray} {fa:Option Addr} {fn fc:Nat} {ca:Option Addr} {cn cc:Nat} {ra:Option Addr} {rn rc:Nat} {F:List Fr} (h:DF W c l k ca cn cc ra rn rc) (hF:aS W (.slice fa fn fc) F) (hR:DR c l (bytes inp) F) (hq:∃ j,F=(fP c (bytes inp)).1.take j) (yz:l.dA=false→l.ag=0→jO c l) (s:ByteArray) (hs:inp.size+s.size≤100000) {P:Nat→Prop} (hP:∀ j,W.heap.size≤j→P j) (hp:PB P ca cn∧PB P ra rn) (hpf:PB P fa fn) :
 Calls prog 43 #[.agg (zM K c l inp fa fn fc ca cn cc ra rn rc),.string s] W fun ee w'=>∃ ip ft fg fu aq ar aD aw az aE F' ev,ee=.returned (.tuple #[.agg (zM K c ((iM c l (bytes s)).1) ip ft fg fu aq ar aD aw az aE),ev])∧Sl (FdO W w' c (iM c l (bytes s)).1 k P ip F' ft fg fu aq ar aD aw az aE ev (iM c l (bytes s)).2)∧Sl (ip.size≤inp.size+s.size):=by
 obtain ⟨eC,bN⟩:=zX (iM c l (bytes s));rw [bN];have js:=Sl.mk bN;clear bN;have HP:=Sl.mk hP;have oT:=Sl.mk hp;have HRQ:Sl (DR c l (bytes inp) F∧∃ j,F=(fP c (bytes inp)).1.take j):=⟨hR,hq⟩;obtain ⟨w1,bA,dc,ey⟩:=zY W (zM K c l inp fa fn fc ca cn cc ra rn rc) 36;obtain ⟨w2,cE,fY,jN⟩:=zY w1 zD 36;have eI:w1.heap.size=W.heap.size+1:=by rw [← bA,aP]
 have cA:MX W w2 W.heap.size w1.heap.size (zM K c l inp fa fn fc ca cn cc ra rn rc) zD:=⟨ay ey fY,jN,dc.trans (fY.mono dc.size),aY _,dc.size,by omega⟩;obtain ⟨b1,cM⟩:=zX W.heap.size;obtain ⟨b2,cG⟩:=zX w1.heap.size;rw [cM,cG] at cA;have cA:=Sl.mk cA;have dz:w2.heap.size=b2+1:=by rw [← cE,aP,cG]
 have kl:Sl (W.heap.size=b1∧b2=b1+1∧w2.heap.size=b2+1):=⟨cM,by omega,dz⟩;clear ey jN dc fY eI dz;obtain ⟨w3,cH⟩:=zX (w2.alloc (.cells #[] 52));have B3:Below w2.heap.size w2 w3:=by rw [← cH];exact (dW _ _).alloc (aY _) _
 have O3:ig w3 W.heap.size (.slice (some ⟨w2.heap.size,0,none⟩) 0 0) []:=by rw [← cH];exact PV w2 _ (by have:=kl.ah;omega)
 have Ex:w3.heap.size=w2.heap.size+1:=by rw [← cH,aP]
 obtain ⟨be,Kb⟩:=zX w2.heap.size;rw [Kb] at O3 Ex;have sY:Sl (W.heap.size≤be∧be<w3.heap.size):=⟨by have:=kl.ah;omega⟩;have eO:=Sl.mk (cA.ah.below B3);have pbe:∀ {a:Option Addr} {n cap:Nat} {fs:List Fr},aS W (.slice a n cap) fs→PB P a n→PB (fun j=>P j∧(Value.slice (some ⟨be,0,none⟩) 0 0).ownBlock≠some j) a n:=fun hf hpp=>(hpp.Hz (PB.lt hf)).imp (fun j e=>⟨e.1,fun e2=>by
  have e2:some be=some j:=e2;injection e2 with e2;have:=e.2;have:=sY.ah;omega⟩)
 have HW0:Sl (yw W w3 b1 b2 K c k inp [] none 0 0 P F l [] (.slice (some ⟨be,0,none⟩) 0 0) fa fn fc ca cn cc ra rn rc):=⟨⟨eO.ah,h.below eO.ah.L,O3,hF.below eO.ah.L,⟨none,0,0,0,rfl,aY _,fun e=>absurd e (JK _),fun i hi=>absurd hi (Fz _)⟩,⟨pbe h.C hp.1,pbe h.S hp.2⟩,pbe hF hpf,PB.none _ _⟩⟩;obtain ⟨gt,sg⟩:=zX l.dA;obtain ⟨wz,fq⟩:∃ z:Int,(l.ag:Int)=z:=⟨_,rfl⟩;have R0:w3.cell? ⟨b1,21,none⟩=some (.bool l.dA):=bP.aB eO.ah.X 21 _ rfl;have Yg:w3.cell? ⟨b1,22,none⟩=some (.int .i64 (l.ag:Int)):=bP.aB eO.ah.X 22 _ rfl;rw [sg] at R0;rw [fq] at Yg;have My:F.length=fn:=hF.cap.1.symm;have Mt:=Sl.mk h.ok;clear B3 O3 Ex pbe cA hp hpf hq;by_cases hx:l.dA=true∨l.ag≠0
 ·obtain rfl:eC=(l,[]):=by rw [← js.ah];exact aj.qc (bytes s) hx
  have DQ:gt=true∨(gt=false∧(wz != 0)=true):=by
   cases gt with
   | true=>exact .inl rfl
   | false=>exact .inr ⟨rfl,by
     rcases hx with e | e
     ·rw [sg] at e;cases e
     ·have:wz≠0:=by omega
      simpa using this⟩
  clear h hF hR yz hP hx sg fq hs My;go_enter func43,ntmps43;go_upto_region 1 with fail
  (try rw [bA]);(try rw [cE]);(try rw [cM]);(try rw [cG]);clear bA cE cM cG;go_upto_region 2 with fail
  (try rw [cH]);(try rw [Kb]);clear cH Kb;rcases DQ with rfl | ⟨rfl,q⟩;all_goals
   go_wp2_with (first
    | (refine uY rfl 36 (.tmp 2) rfl b1 rfl 36 _ (0,0) _ eO.ah.X underlying36 rfl (aX rfl) ?_)
    | (refine fG rfl 36 (.tmp 4) (.tmp 22) rfl b2 (zM K c l inp fa fn fc ca cn cc ra rn rc) rfl rfl 36 zD eO.ah.R (aX rfl) rfl (dV ..) ?_))
   have et:=eO.ah.ah (zM K c l inp fa fn fc ca cn cc ra rn rc);(try simp only [Exit.inBlock,Exit.then]);refine gX (iE rfl _ _ b2 _ rfl et.R rfl) rfl ?_;exact ⟨inp,fa,fn,fc,ca,cn,cc,ra,rn,rc,F,_,rfl,⟨HW0.ah.ah HW0.ah.D oT.ah HRQ.ah.1 HRQ.ah.2 HW0.ah.E⟩,⟨Nat.le_add_right _ _⟩⟩
 ·have De:l.dA=false:=by cases e:l.dA with
   | false=>rfl
   | true=>exact absurd (.inl e) hx
  have Cn:l.ag=0:=DI fun e=>hx (.inr e)
  have hr:=yz De Cn;obtain ⟨ip,hip⟩:=zX (inp++s);have zp:bytes ip=bytes inp++bytes s:=by rw [← hip,iK]
  have agm:ip.size=inp.size+s.size:=by rw [← au ip,zp,jB,au,au]
  obtain ⟨gs,AC⟩:=zX ((fP c (l.bO++bytes s)).1);obtain ⟨e,he⟩:=zX ((fP c (l.bO++bytes s)).2.1);obtain ⟨lf,IR⟩:=zX ((fP c (l.bO++bytes s)).2.2);have hm:=hR.dY hr (aJ s);obtain ⟨R,Wm⟩:=zX (jZ c l.ms (dJ c l (bytes s)) [] gs);have lz:=uJ.start (gs:=gs) hR hr (dJ c l (bytes s));have hfd:=hR.iM hr (aJ s);rw [AC,Wm,he,js.ah] at hfd;obtain ⟨A,hA⟩:=zX (F++gs);rw [hA,Wm,My] at lz;have dx:fP c (bytes ip)=(A,e,lf):=by rw [zp,hm,AC,hA,← he,← IR]
  have lj:Sl (∀ F',(run (c.bh:Int) M0 F').1=(run (c.bh:Int) M0 A).1→(eC.1.dA=false→eC.1.ag=0→F'=A)→DR c eC.1 (bytes ip) F'):=⟨fun F' h1 h2=>by
   have:=hR.fed hr (aJ s) (F':=F') (by rw [← zp,dx];exact h1) (by rw [js.ah,← zp,dx];exact h2);rwa [js.ah,← zp] at this⟩
  have oR:Sl (eC=((if R.2.2=true then R.1 else if e≠0 then fail c R.1 e else R.1),R.2.1)):=⟨hfd⟩;obtain ⟨ep,pS,sy⟩:=UD h.ok (aJ ip);rw [dx,au] at sy;rw [dx] at ep pS;obtain ⟨na,hna⟩:=zX A.length;have ab9:∀ f∈A,∀ y∈f.data,y<256:=fun f hf=>(ep f hf).ds
  have nm:Sl ((∀ f∈A,vw f)∧(∀ f∈A,f.data.length≤100000)∧A.length=na∧(∀ f∈A,∀ y∈f.data,y<256)):=⟨ep,pS,hna,ab9⟩;have hfa:fn≤na∧A.take fn=F:=by
   rw [← hna,← hA,jB,← My];exact ⟨Nat.le_add_right _ _,List.take_left' rfl⟩
  have pH:Sl (na≤50000):=⟨by have sy:2*A.length≤ip.size:=sy;omega⟩;have gE:Sl ((fP c (bytes ip)).1=A):=⟨by rw [dx]⟩;have acd:Sl (aV.all (bytes ip) c.af (bQ c:Int)=(A,e,lf)):=⟨dx⟩;have sB:Sl (ip.size≤100000):=⟨by omega⟩;have lc:Sl (ip.size≤inp.size+s.size):=⟨by omega⟩;have HBD:Sl ((bQ c:Int)≤9223372036854775807):=⟨by have:=Mt.ah.m2;unfold aj.bQ;omega⟩;have AD:∀ V,(Op.stringOp .add inp s).run prog V=.ok (.string ip) V:=fun V=>by rw [← hip];exact run_string_add_sum _ _ _ (by omega)
  have k14:w3.cell? ⟨b1,14,none⟩=some (.string inp):=bP.aB eO.ah.X 14 _ rfl;have f14:=eO.ah.fF 14;have tO:=HW0.ah.dJ ip (bytes s);obtain ⟨w4,cS⟩:=zX (w3.setCell ⟨b1,14,none⟩ (.string ip));rw [cS] at tO;obtain ⟨m0,WD⟩:=zX (dJ c l (bytes s));rw [WD] at tO lz;have tO:=Sl.mk tO;have gL:=Sl.mk lz;have Tk:Sl (be<w4.heap.size∧W.heap.size≤w4.heap.size):=⟨NQ sY.ah.2 (by rw [← cS];exact (aH _ _ _ _).size),tO.ah.M.L.size⟩;obtain rfl:gt=false:=by rw [← sg];exact De
  have qz:(wz != 0)=false:=by have:wz=0:=by omega
                              simpa using this
  clear h hF hR yz hP hx sg fq hs My De Cn hr hip zp agm AC he IR hm Wm hfd lz hA dx ep pS sy hna ab9 WD HW0 HRQ;go_enter func43,ntmps43;go_upto_region 1 with fail
  (try rw [bA]);(try rw [cE]);(try rw [cM]);(try rw [cG]);clear bA cE cM cG;go_upto_region 2 with fail
  (try rw [cH]);(try rw [Kb]);clear cH Kb;go_upto_region 5 with fail
  (try rw [cS]);clear cS k14 f14 R0 Yg AD eO qz;refine zG (S:=fun V=>V.heap[b1]? = some (.cells (zM K c m0 ip fa fn fc ca cn cc ra rn rc) 36 (0,0))) (by kernel_rfl) (fun Rw aM=>?_);have al:Rw.heap[b1]? = some (.cells (zM K c m0 ip fa fn fc ca cn cc ra rn rc) 36 (0,0)):=(tO.ah.M.below aM).X;refine zT 0 (some 30) (.fieldAddr 36 (.tmp 2) 3) _ al ?_;simp only [zA,zB,zS];refine zT 1 (some 31) (.load 9 (.tmp 30)) (.string ip) al ?_ (hy:=fun o' ho W hS=>by have d1:=bP.aB hS 14 _ rfl;simp only [execOp,ho];go_simp;try rfl);simp only [zA,zB,zS];refine zT 2 (some 32) (.fieldAddr 36 (.tmp 2) 1) _ al ?_;simp only [zA,zB,zS];refine zT 3 (some 33) (.load 4 (.tmp 32)) (.bool c.af) al ?_ (hy:=fun o' ho W hS=>by have d1:=bP.aB hS 12 _ rfl;simp only [execOp,ho];go_simp;try rfl);simp only [zA,zB,zS];refine zT 4 (some 34) (.fieldAddr 36 (.tmp 2) 0) _ al ?_;simp only [zA,zB,zS];refine zT 5 (some 35) (.load 25 (.tmp 34)) (.agg (zK K c)) al ?_ (hy:=fun o' ho W hS=>Jz ho (by rfl) hS);simp only [zA,zB,zS];refine zC 6 (some 36) (.call {callee:=.value (.func 73),args:=#[.tmp 35],argTypes:=#[25]}) 73 #[.agg (zK K c)] ?_;refine (Df K c Rw).mono ?_;rintro e w5 ⟨rfl,ch⟩;have Yp:=aM.trans (ch.ah.mono aM.size);have cJ:w5.heap[b1]? = some (.cells (zM K c m0 ip fa fn fc ca cn cc ra rn rc) 36 (0,0)):=(tO.ah.M.below Yp).X;have RA:=jS.mF ip c.af (bQ c:Int) w5 sB.ah HBD.ah A e lf acd.ah;refine ⟨_,rfl,cJ,?_⟩;simp only [zA,zB,zS];refine zC 7 (some 37) (.call {callee:=.value (.func 26),args:=#[.tmp 31,.tmp 33,.tmp 36],argTypes:=#[9,4,3]}) 26 #[.string ip,.bool c.af,.int .i64 (bQ c:Int)] ?_;refine (RA).mono ?_;rintro e w6 ⟨vf,rfl,o4,gb⟩;have J1:=Yp.trans (gb.ah.mono Yp.size);obtain ⟨aa,ac,rfl⟩:∃ a c,vf=.slice a na c:=by obtain ⟨a,c,e2⟩:=o4.ah.slice;rw [nm.ah.2.2.1] at e2;exact ⟨a,c,e2⟩
  have da:w6.heap[b1]? = some (.cells (zM K c m0 ip fa fn fc ca cn cc ra rn rc) 36 (0,0)):=(tO.ah.M.below J1).X;refine ⟨_,rfl,da,?_⟩;simp only [zA,zB,zS];refine zT 8 (some 29) (.move (.tmp 37)) (.tuple #[.slice aa na ac,.int .i64 (e:Int),.int .i64 (lf:Int)]) da ?_;simp only [zA,zB,zS];refine zT 9 (some 38) (.extract (.tmp 29) 0) (.slice aa na ac) da ?_;simp only [zA,zB,zS];refine zT 10 (some 39) (.extract (.tmp 29) 1) (.int .i64 (e:Int)) da ?_;simp only [zA,zB,zS];refine zT 11 (some 40) (.extract (.tmp 29) 2) (.int .i64 (lf:Int)) da ?_;simp only [zA,zB,zS];refine zT 12 (some 7) (.assign (.tmp 38)) (.slice aa na ac) da ?_;simp only [zA,zB,zS];refine zT 13 (some 8) (.assign (.tmp 39)) (.int .i64 (e:Int)) da ?_;simp only [zA,zB,zS];refine zT 14 (some 9) (.assign (.tmp 40)) (.int .i64 (lf:Int)) da ?_;simp only [zA,zB,zS];refine zE (by kernel_rfl) ?_;(try go_frame);have Yq:Sl (yw W w6 b1 b2 K c k ip A aa na ac P F m0 [] (.slice (some ⟨be,0,none⟩) 0 0) fa fn fc ca cn cc ra rn rc):=⟨(tO.ah.below J1).all o4.ah (fun j hj=>HP.ah j (jd Tk.ah.2 (jd Yp.size hj))) (fun g e2=>by
   have e2:some be=some g:=e2;injection e2 with e2;have:=Tk.ah;have:=Yp.size;omega)⟩
  have HAC:Sl (na≤ac):=⟨by
   obtain ⟨a',c',sb,so,e1,e2,_⟩:=Yq.ah.V;injection e1 with _ e3 e4
   omega⟩
  have k15:w6.cell? ⟨b1,15,none⟩=some (.slice fa fn fc):=bP.aB Yq.ah.M.X 15 _ rfl;have Yq:Sl (yw W w6 b1 b2 K c k ip A aa na ac P (A.take fn) m0 [] (.slice (some ⟨be,0,none⟩) 0 0) fa fn fc ca cn cc ra rn rc):=⟨by rw [hfa.2];exact Yq.ah⟩;have hfa:=hfa.1;clear al cJ da RA ch gb Yp J1 o4 aM tO Tk sY acd sB HBD;go_wp2;go_loopw [6,10,11,12,13] (fun u6 u10 u11 u12 u13 wr=>∃ (i:Nat) (m:Lg) (es:List Ev) (ev:Value) (xa:Option Addr) (xn xc:Nat) (ya:Option Addr) (yn yc:Nat) (za:Option Addr) (zn zc:Nat),ev=u6∧u10=.int .i64 (i:Int)∧i≤na∧Sl (yw W wr b1 b2 K c k ip A aa na ac P (A.take i) m es ev xa xn xc ya yn yc za zn zc)∧Sl (uJ c A i m es R)∧Sl (es.length≤i)) (fun _ u10 _ _ _ _=>na-(intOf u10).toNat)
  case atStart=>exact ⟨fn,m0,[],_,fa,fn,fc,ca,cn,cc,ra,rn,rc,rfl,rfl,hfa,Yq,gL,⟨ku _⟩⟩
  case round =>
   obtain ⟨i,m,es,ev,xa,xn,xc,ya,yn,yc,za,zn,zc,rfl,rfl,hi,HW,HGN,Ml⟩:=hrel;clear Yq gL;by_cases eV:i<na
   ·have bz:((i:Int)<(na:Int))=True:=eq_true (by omega)
    have ab5:(i:Int)<(na:Int):=by omega
    have agr:Sl (i≤ac):=⟨by have:=HAC.ah;omega⟩;have HIC:Sl (i+1≤ac):=⟨by have:=HAC.ah;omega⟩;have hbi:(0:Int)≤(i:Int)+1:=by omega
    have hbj:(i:Int)+1≤(ac:Int):=by have:=HAC.ah;omega
    have hwi:IntKind.i64.wrap ((i:Int)+1)=((i+1:Nat):Int):=by rw [lZ];have:=pH.ah;omega
    obtain ⟨e1,YU⟩:=zX ((run (c.bh:Int) M0 (A.take i)).2);obtain ⟨r1,mu⟩:=zX ((run (c.bh:Int) M0 (A.take i)).1.bj);obtain ⟨o1,ju⟩:=zX ((run (c.bh:Int) M0 (A.take i)).1.aL);obtain ⟨t1,vq⟩:=zX ((run (c.bh:Int) M0 (A.take i)).1.aT.length);obtain ⟨n1,sC⟩:=zX e1.length;have MD1:∀ V,Below wr.heap.size wr V→Calls prog 74 #[.slice aa i ac,.int .i64 (c.bh:Int)] V fun x w'=>∃ La Lc,x=.returned (.agg #[.slice La n1 Lc,.int .i64 (r1:Int),.bool o1,.int .i64 (t1:Int)])∧Sl (ig w' V.heap.size (.slice La n1 Lc) e1)∧Sl (Below V.heap.size V w'):=fun V hV=>by
     have h1:=Mdc.mF (A.take i) (.slice aa i ac) (c.bh:Int) V (iL.aS.to (HW.ah.V.below hV) (by omega)) (fun f hf=>nm.ah.1 f (Hf hf)) (fun f hf=>nm.ah.2.1 f (Hf hf)) (by have:=Mt.ah.m2;omega) (by rw [kQ];have:=nm.ah.2.2.1;have:=pH.ah;omega);rw [YU,mu,ju,vq] at h1;refine h1.mono ?_;rintro x w' ⟨L,h2,h3,h4⟩;obtain ⟨La,Lc,h5⟩:=h3.ah.slice;rw [sC] at h5;subst h5;exact ⟨La,Lc,h2,h3,h4⟩
    have Kk:Sl ((run (c.bh:Int) M0 (A.take i)).2=e1∧(run (c.bh:Int) M0 (A.take i)).1.bj=r1∧(run (c.bh:Int) M0 (A.take i)).1.aL=o1∧e1.length=n1):=⟨YU,mu,ju,sC⟩;clear YU mu ju vq sC;go_upto_region 9 with fail
    (try go_frame);go_cut [11] (fun s11 wx=>∃ (q1:Nat) (La1:Option Addr) (Lc1:Nat),s11=.pointer (some ⟨q1,0,none⟩)∧Sl (yw W wx b1 b2 K c k ip A aa na ac P (A.take i) m es ev xa xn xc ya yn yc za zn zc)∧Sl (UU wx q1 La1 n1 Lc1 r1 o1 t1 e1))
    case first =>
     refine zG (S:=fun V=>V.cell? ⟨b1,3,none⟩=some (.int .i64 (c.bh:Int))) (by kernel_rfl) (fun Rw aM=>?_);have al:Rw.cell? ⟨b1,3,none⟩=some (.int .i64 (c.bh:Int)):=bP.aB (HW.ah.M.below aM).X 3 _ rfl;refine zT 0 (some 50) (.move (.tmp 7)) _ al ?_;simp only [zA,zB,zS];refine zT 1 (some 51) (.move (.tmp 10)) _ al ?_;simp only [zA,zB,zS];refine zT 2 (some 52) (.slice 34 (.tmp 50) none (some (.tmp 51)) none) (.slice aa i ac) al ?_ (hy:=fun o' ho W hS=>NH i ho (by rfl) (by rfl) agr.ah);simp only [zA,zB,zS];refine zT 3 (some 53) (.fieldAddr 36 (.tmp 2) 0) _ al ?_;simp only [zA,zB,zS];refine zT 4 (some 54) (.fieldAddr 25 (.tmp 53) 3) _ al ?_;simp only [zA,zB,zS];refine zT 5 (some 55) (.load 3 (.tmp 54)) _ al ?_ (hy:=fun o' ho W hS=>by have d1:=hS;simp only [execOp,ho];go_simp;try rfl);simp only [zA,zB,zS];obtain ⟨A1,Mm,p9,Er⟩:=zY Rw #[.slice none 0 0,.int .i64 0,.bool false,.int .i64 0] 129;have Kl:Below wr.heap.size wr A1:=aM.trans (p9.mono aM.size);have ga:A1.cell? ⟨b1,3,none⟩=some (.int .i64 (c.bh:Int)):=bP.aB (HW.ah.M.below Kl).X 3 _ rfl;refine gK.qG (di:=some 11) (dj:=some 56) (pT:=.alloc 129) (p8:=.call {callee:=Callee.value (Operand.func 74),args:=#[Operand.tmp 52,Operand.tmp 55],argTypes:=#[34,3]}) (ti:=0) (tj:=129) 7 6 (.pointer (some ⟨Rw.heap.size,0,none⟩)) A1 74 #[.slice aa i ac,.int .i64 (c.bh:Int)] rfl rfl (by kernel_rfl) ?pa ?qa ga ?la ?ra;case pa=>intro o' ho ht;simp only [execOp,ho];go_simp;first | done | (rw [Mm];done) | rfl
     case qa=>intro o' ho ht;simp only [execOp,ho];go_simp;try rfl
     case la =>
      simp only [zA,zB,zS];refine zC 6 (some 56) (.call {callee:=.value (.func 74),args:=#[.tmp 52,.tmp 55],argTypes:=#[34,3]}) 74 #[.slice aa i ac,.int .i64 (c.bh:Int)] ?_;refine (MD1 A1 Kl).mono ?_;rintro e w7 ⟨La,Lc,rfl,Tl,fj⟩;have sd:Below wr.heap.size wr w7:=Kl.trans (fj.ah.mono Kl.size);have mB:w7.cell? ⟨b1,3,none⟩=some (.int .i64 (c.bh:Int)):=bP.aB (HW.ah.M.below sd).X 3 _ rfl;refine ⟨_,rfl,mB,?_⟩;simp only [zA,zB,zS];obtain ⟨HZ,eM⟩:=G8 (er:=r1) (ov:=o1) (tx:=t1) sd aM.size (ay Er fj.ah) Tl.ah;obtain ⟨Z,hZ⟩:=zX (w7.setRow Rw.heap.size #[.slice La n1 Lc,.int .i64 (r1:Int),.bool o1,.int .i64 (t1:Int)]);rw [hZ] at HZ eM;have bS:Z.cell? ⟨b1,3,none⟩=some (.int .i64 (c.bh:Int)):=bP.aB (HW.ah.M.below HZ).X 3 _ rfl;refine zW 8 none (.store 129 (.tmp 11) (.tmp 56)) 0 Z bS ?_ (hy:=fun o' ho ht=>by rw [← hZ];exact uz ho (by rfl) (by rfl) (ay Er fj.ah) rfl rfl (Be ..));simp only [Act.put];refine zE (by kernel_rfl) ?_;(try go_wp2_with fail);go_meet;exact ⟨_,_,_,rfl,⟨HW.ah.below HZ⟩,⟨eM⟩⟩
     case ra =>
      refine (MD1 Rw aM).mono ?_;rintro e w7 ⟨La,Lc,rfl,Tl,fj⟩;have sd:Below wr.heap.size wr w7:=aM.trans (fj.ah.mono aM.size);have mB:w7.cell? ⟨b1,3,none⟩=some (.int .i64 (c.bh:Int)):=bP.aB (HW.ah.M.below sd).X 3 _ rfl;obtain ⟨A2,Rv,m7,ua⟩:=zY w7 #[.slice none 0 0,.int .i64 0,.bool false,.int .i64 0] 129;have HC8:Below wr.heap.size wr A2:=sd.trans (m7.mono sd.size);have vD:A2.cell? ⟨b1,3,none⟩=some (.int .i64 (c.bh:Int)):=bP.aB (HW.ah.M.below HC8).X 3 _ rfl;refine ⟨_,rfl,mB,?_⟩;simp only [zA,zB,zS];refine zR 7 (some 11) (.alloc 129) 0 (.pointer (some ⟨w7.heap.size,0,none⟩)) A2 vD ?_ (hy:=fun o' ho _=>by simp only [execOp,ho];go_simp;first | done | (rw [Rv];done) | rfl);simp only [zA,zB,zS];obtain ⟨HZ,eM⟩:=G8 (er:=r1) (ov:=o1) (tx:=t1) HC8 sd.size ua (Tl.ah.below m7);obtain ⟨Z,hZ⟩:=zX (A2.setRow w7.heap.size #[.slice La n1 Lc,.int .i64 (r1:Int),.bool o1,.int .i64 (t1:Int)]);rw [hZ] at HZ eM;have bS:Z.cell? ⟨b1,3,none⟩=some (.int .i64 (c.bh:Int)):=bP.aB (HW.ah.M.below HZ).X 3 _ rfl;refine zW 8 none (.store 129 (.tmp 11) (.tmp 56)) 0 Z bS ?_ (hy:=fun o' ho ht=>by rw [← hZ];exact uz ho (by rfl) (by rfl) ua rfl rfl (Be ..));simp only [Act.put];refine zE (by kernel_rfl) ?_;(try go_wp2_with fail);go_meet;exact ⟨_,_,_,rfl,⟨HW.ah.below HZ⟩,⟨eM⟩⟩
    case rest =>
     obtain ⟨wx,Yo⟩:∃ V,V=wc:=⟨_,rfl⟩;subst Yo;obtain ⟨q1,La1,Lc1,rfl,ir,bi⟩:=hcut;clear MD1 HW;obtain ⟨e2,Fy⟩:=zX ((run (c.bh:Int) M0 (A.take (i+1))).2);obtain ⟨r2,eA⟩:=zX ((run (c.bh:Int) M0 (A.take (i+1))).1.bj);obtain ⟨o2,ym⟩:=zX ((run (c.bh:Int) M0 (A.take (i+1))).1.aL);obtain ⟨t2,ui⟩:=zX ((run (c.bh:Int) M0 (A.take (i+1))).1.aT.length);obtain ⟨n2,pD⟩:=zX e2.length;have MD2:∀ V,Below wx.heap.size wx V→Calls prog 74 #[.slice aa (i+1) ac,.int .i64 (c.bh:Int)] V fun x w'=>∃ La Lc,x=.returned (.agg #[.slice La n2 Lc,.int .i64 (r2:Int),.bool o2,.int .i64 (t2:Int)])∧Sl (ig w' V.heap.size (.slice La n2 Lc) e2)∧Sl (Below V.heap.size V w'):=fun V hV=>by
      have h1:=Mdc.mF (A.take (i+1)) (.slice aa (i+1) ac) (c.bh:Int) V (iL.aS.to (ir.ah.V.below hV) (by omega)) (fun f hf=>nm.ah.1 f (Hf hf)) (fun f hf=>nm.ah.2.1 f (Hf hf)) (by have:=Mt.ah.m2;omega) (by rw [kQ];have:=nm.ah.2.2.1;have:=pH.ah;omega);rw [Fy,eA,ym,ui] at h1;refine h1.mono ?_;rintro x w' ⟨L,h2,h3,h4⟩;obtain ⟨La,Lc,h5⟩:=h3.ah.slice;rw [pD] at h5;subst h5;exact ⟨La,Lc,h2,h3,h4⟩
     have Fm:Sl ((run (c.bh:Int) M0 (A.take (i+1))).2=e2∧(run (c.bh:Int) M0 (A.take (i+1))).1.bj=r2∧(run (c.bh:Int) M0 (A.take (i+1))).1.aL=o2∧e2.length=n2):=⟨Fy,eA,ym,pD⟩;clear Fy eA ym ui pD;go_upto_region 10 with fail
     (try go_frame);go_cut [12] (fun s12 wy=>∃ (q2:Nat) (La2:Option Addr) (Lc2:Nat),s12=.pointer (some ⟨q2,0,none⟩)∧Sl (yw W wy b1 b2 K c k ip A aa na ac P (A.take i) m es ev xa xn xc ya yn yc za zn zc)∧Sl (UU wy q1 La1 n1 Lc1 r1 o1 t1 e1)∧Sl (UU wy q2 La2 n2 Lc2 r2 o2 t2 e2))
     case first =>
      refine zG (S:=fun V=>V.cell? ⟨b1,3,none⟩=some (.int .i64 (c.bh:Int))) (by kernel_rfl) (fun Rw aM=>?_);have al:Rw.cell? ⟨b1,3,none⟩=some (.int .i64 (c.bh:Int)):=bP.aB (ir.ah.M.below aM).X 3 _ rfl;refine zT 0 (some 57) (.move (.tmp 7)) _ al ?_;simp only [zA,zB,zS];refine zT 1 (some 58) (.move (.tmp 10)) _ al ?_;simp only [zA,zB,zS];refine zT 2 (some 59) (.binOp .add 3 (.tmp 58) (.const (.int .i64 1)) 3) (.int .i64 ((i+1:Nat):Int)) al ?_ (hy:=fun o' ho W hS=>by simp only [execOp,ho];go_simp;first | done | rfl | (rw [hwi]) | (simpa using hwi) | (simp;done));simp only [zA,zB,zS];refine zT 3 (some 60) (.slice 34 (.tmp 57) none (some (.tmp 59)) none) (.slice aa (i+1) ac) al ?_ (hy:=fun o' ho W hS=>NH (i+1) ho (by rfl) (by rfl) HIC.ah);simp only [zA,zB,zS];refine zT 4 (some 61) (.fieldAddr 36 (.tmp 2) 0) _ al ?_;simp only [zA,zB,zS];refine zT 5 (some 62) (.fieldAddr 25 (.tmp 61) 3) _ al ?_;simp only [zA,zB,zS];refine zT 6 (some 63) (.load 3 (.tmp 62)) _ al ?_ (hy:=fun o' ho W hS=>by have d1:=hS;simp only [execOp,ho];go_simp;try rfl);simp only [zA,zB,zS];obtain ⟨A1,Mm,p9,Er⟩:=zY Rw #[.slice none 0 0,.int .i64 0,.bool false,.int .i64 0] 129;have Kl:Below wx.heap.size wx A1:=aM.trans (p9.mono aM.size);have ga:A1.cell? ⟨b1,3,none⟩=some (.int .i64 (c.bh:Int)):=bP.aB (ir.ah.M.below Kl).X 3 _ rfl;refine gK.qG (di:=some 12) (dj:=some 64) (pT:=.alloc 129) (p8:=.call {callee:=Callee.value (Operand.func 74),args:=#[Operand.tmp 60,Operand.tmp 63],argTypes:=#[34,3]}) (ti:=0) (tj:=129) 8 7 (.pointer (some ⟨Rw.heap.size,0,none⟩)) A1 74 #[.slice aa (i+1) ac,.int .i64 (c.bh:Int)] rfl rfl (by kernel_rfl) ?pb ?qb ga ?lb ?rb;case pb=>intro o' ho ht;simp only [execOp,ho];go_simp;first | done | (rw [Mm];done) | rfl
      case qb=>intro o' ho ht;simp only [execOp,ho];go_simp;try rfl
      case lb =>
       simp only [zA,zB,zS];refine zC 7 (some 64) (.call {callee:=.value (.func 74),args:=#[.tmp 60,.tmp 63],argTypes:=#[34,3]}) 74 #[.slice aa (i+1) ac,.int .i64 (c.bh:Int)] ?_;refine (MD2 A1 Kl).mono ?_;rintro e w7 ⟨La,Lc,rfl,Tl,fj⟩;have sd:Below wx.heap.size wx w7:=Kl.trans (fj.ah.mono Kl.size);have mB:w7.cell? ⟨b1,3,none⟩=some (.int .i64 (c.bh:Int)):=bP.aB (ir.ah.M.below sd).X 3 _ rfl;refine ⟨_,rfl,mB,?_⟩;simp only [zA,zB,zS];obtain ⟨HZ,eM⟩:=G8 (er:=r2) (ov:=o2) (tx:=t2) sd aM.size (ay Er fj.ah) Tl.ah;obtain ⟨Z,hZ⟩:=zX (w7.setRow Rw.heap.size #[.slice La n2 Lc,.int .i64 (r2:Int),.bool o2,.int .i64 (t2:Int)]);rw [hZ] at HZ eM;have bS:Z.cell? ⟨b1,3,none⟩=some (.int .i64 (c.bh:Int)):=bP.aB (ir.ah.M.below HZ).X 3 _ rfl;refine zW 9 none (.store 129 (.tmp 12) (.tmp 64)) 0 Z bS ?_ (hy:=fun o' ho ht=>by rw [← hZ];exact uz ho (by rfl) (by rfl) (ay Er fj.ah) rfl rfl (Be ..));simp only [Act.put];refine zE (by kernel_rfl) ?_;(try go_wp2_with fail);go_meet;exact ⟨_,_,_,rfl,⟨ir.ah.below HZ⟩,⟨bi.ah.below HZ⟩,⟨eM⟩⟩
      case rb =>
       refine (MD2 Rw aM).mono ?_;rintro e w7 ⟨La,Lc,rfl,Tl,fj⟩;have sd:Below wx.heap.size wx w7:=aM.trans (fj.ah.mono aM.size);have mB:w7.cell? ⟨b1,3,none⟩=some (.int .i64 (c.bh:Int)):=bP.aB (ir.ah.M.below sd).X 3 _ rfl;obtain ⟨A2,Rv,m7,ua⟩:=zY w7 #[.slice none 0 0,.int .i64 0,.bool false,.int .i64 0] 129;have HC8:Below wx.heap.size wx A2:=sd.trans (m7.mono sd.size);have vD:A2.cell? ⟨b1,3,none⟩=some (.int .i64 (c.bh:Int)):=bP.aB (ir.ah.M.below HC8).X 3 _ rfl;refine ⟨_,rfl,mB,?_⟩;simp only [zA,zB,zS];refine zR 8 (some 12) (.alloc 129) 0 (.pointer (some ⟨w7.heap.size,0,none⟩)) A2 vD ?_ (hy:=fun o' ho _=>by simp only [execOp,ho];go_simp;first | done | (rw [Rv];done) | rfl);simp only [zA,zB,zS];obtain ⟨HZ,eM⟩:=G8 (er:=r2) (ov:=o2) (tx:=t2) HC8 sd.size ua (Tl.ah.below m7);obtain ⟨Z,hZ⟩:=zX (A2.setRow w7.heap.size #[.slice La n2 Lc,.int .i64 (r2:Int),.bool o2,.int .i64 (t2:Int)]);rw [hZ] at HZ eM;have bS:Z.cell? ⟨b1,3,none⟩=some (.int .i64 (c.bh:Int)):=bP.aB (ir.ah.M.below HZ).X 3 _ rfl;refine zW 9 none (.store 129 (.tmp 12) (.tmp 64)) 0 Z bS ?_ (hy:=fun o' ho ht=>by rw [← hZ];exact uz ho (by rfl) (by rfl) ua rfl rfl (Be ..));simp only [Act.put];refine zE (by kernel_rfl) ?_;(try go_wp2_with fail);go_meet;exact ⟨_,_,_,rfl,⟨ir.ah.below HZ⟩,⟨bi.ah.below HZ⟩,⟨eM⟩⟩
     case rest =>
      obtain ⟨wy,hwy⟩:∃ V,V=wc:=⟨_,rfl⟩;subst hwy;obtain ⟨q2,La2,Lc2,rfl,nz,bi,bk⟩:=hcut;clear MD2 ir;have m8:=Sl.mk (nz.ah.Ua (i+1) (by omega));have bi:=Sl.mk (bi.ah.kind nz.ah.M.X (aH wy b1 15 (.slice aa (i+1) ac)));have bk:=Sl.mk (bk.ah.kind nz.ah.M.X (aH wy b1 15 (.slice aa (i+1) ac)));obtain ⟨w11,Tp⟩:=zX (wy.setCell ⟨b1,15,none⟩ (.slice aa (i+1) ac));rw [Tp] at m8 bi bk;have f15:=nz.ah.M.fF 15;have k15:=bP.aB nz.ah.M.X 15 _ rfl;have SL:(Instr.slice 34 (.slice aa na ac) none (some (.int .i64 ((i+1:Nat):Int))) none).run prog wy=.ok (.slice aa (i+1) ac) wy:=iL.EG wy aa na ac (i+1) HIC.ah;have Mz:=HGN.ah.step (by rw [nm.ah.2.2.1];exact eV) nm.ah.2.2.2;rw [Fm.ah.2.1,Fm.ah.2.2.1] at Mz;have Zz:Sl (∀ g,ev.ownBlock=some g→g<w11.heap.size):=⟨fun g e2=>by
       have:=m8.ah.E.heap e2;exact (zl this.2.choose_spec)⟩
      have lL:Sl (n1≤1000000):=⟨by have:=aj.zh (c.bh:Int) (A.take i) M0;rw [Kk.ah.1,Kk.ah.2.2.2,kQ] at this;have:=pH.ah;omega⟩;clear nz;go_upto_region 12 with fail
      (try rw [Tp]);clear Tp f15 k15 SL;have y1:=bP.aB bk.ah.X 1 _ rfl;have y0:=bP.aB bk.ah.X 0 _ rfl;have x0:=bP.aB bi.ah.X 0 _ rfl;rcases Mz with ⟨he,hR⟩ | ⟨he,hl,hg⟩ | ⟨he,x,hx,hp9,bB,tw⟩
      ·have q:((r2:Int) != 0)=true:=by simp;omega
       obtain rfl:eC=((fail c m r2),es):=by rw [oR.ah,hR];rfl
       have Tr:Sl (DR c (fail c m r2) (bytes ip) (A.take (i+1))):=⟨lj.ah _ (aj.xN (.inl (by rw [Fm.ah.2.1];exact he))) (fun _ e1=>absurd ((aj.jm c {m with ag:=r2} _ _).ag.symm.trans e1) he)⟩;have FA:=NG (K:=K) (inp:=ip) (fa:=aa) (fn:=i+1) (fc:=ac) m8.ah.D r2 (P:=P) (fun j hj=>HP.ah j (jd m8.ah.M.L.size hj)) ⟨m8.ah.pc.1.imp fun _ e=>e.1,m8.ah.pc.2.imp fun _ e=>e.1⟩;have tP:=Sl.mk m8.ah.M;clear he hR x0 y0;go_wp2_with (refine uY rfl 36 (.tmp 2) rfl b1 rfl 36 _ (0,0) _ tP.ah.X underlying36 rfl (aX rfl) ?_)
       refine FA.mono ?_;rintro e wm ⟨aq,ar,aD,aw,az,aE,rfl,Fo,ki,cN⟩;clear FA y1;have HWM:=Sl.mk (m8.ah.below ki.ah);have ei:=Sl.mk HWM.ah.M;go_wp2_with (refine fG rfl 36 (.tmp 4) (.tmp 76) rfl b2 (zM K c (fail c m r2) ip aa (i+1) ac aq ar aD aw az aE) rfl rfl 36 zD ei.ah.R (aX rfl) rfl (dV ..) ?_)
       have et:=ei.ah.ah (zM K c (fail c m r2) ip aa (i+1) ac aq ar aD aw az aE);(try simp only [Exit.inBlock,Exit.then]);refine gX (iE rfl _ _ b2 _ rfl et.R rfl) rfl ?_;exact ⟨ip,aa,i+1,ac,aq,ar,aD,aw,az,aE,A.take (i+1),_,rfl,⟨HWM.ah.ah Fo.ah cN.ah Tr.ah ⟨i+1,by rw [gE.ah]⟩ HWM.ah.E⟩,lc⟩
      ·have q:((r2:Int) != 0)=false:=by rw [he];rfl
       have q2:((n2:Int)==(n1:Int))=true:=by
        rw [Fm.ah.1,Kk.ah.1,Fm.ah.2.2.2,Kk.ah.2.2.2] at hl;simp;omega
       have C8:=Sl.mk hg;clear he hl hg;go_wp2;exact ⟨⟨i+1,_,_,_,aa,i+1,ac,ya,yn,yc,za,zn,zc,rfl,by go_num,by omega,m8,C8,⟨Nat.le_succ_of_le Ml.ah⟩⟩,by simp [intOf];omega⟩
      ·skip
       obtain ⟨op,ao,d⟩:=x;obtain rfl:n2=n1+1:=by
        have h1:=Fm.ah.2.2.2;have h2:=Kk.ah.2.2.2;rw [Kk.ah.1] at hx;rw [← Fm.ah.1,hx,jB,h2] at h1;simpa using h1.symm
       have hgx:e2.getD n1 XH=⟨op,ao,d⟩:=by
        rw [← Fm.ah.1,hx,Kk.ah.1,iw,QC (by rw [Kk.ah.2.2.2];exact aY _),Kk.ah.2.2.2,Nat.sub_self];rfl
       obtain ⟨-,An,Bk⟩:=bk.ah.E.rY.cap;obtain ⟨sb,so,rfl⟩:=Bk (by omega);obtain ⟨p0,p1,p2⟩:=bk.ah.E.rY.VW n1 (by rw [Fm.ah.2.2.2];omega) hgx;have q:((r2:Int) != 0)=false:=by rw [he];rfl
       have q2:(((n1+1:Nat):Int)==(n1:Int))=false:=by simp;omega
       have bA:IntKind.i64.wrap (((n1+1:Nat):Int)-1)=(n1:Int):=by rw [lZ];have:=lL.ah;omega
       have cE:wrap64 (n1:Int)=(n1:Int):=by unfold wrap64;have:=lL.ah;omega
       have lw:Sl (n1<n1+1):=⟨by omega⟩;have AK:(n1:Int)<((n1+1:Nat):Int):=by omega
       obtain ⟨w15,acf,acg,ach⟩:=zY w11 #[.int .i64 op,.int .i64 ao,.string (aF d)] 52;have Fi:=Sl.mk ach;have mr:=Sl.mk (m8.ah.below acg);obtain ⟨q3,Mw⟩:=zX w11.heap.size;rw [Mw] at Fi;have yk:Sl (q3<w15.heap.size∧W.heap.size≤q3):=⟨(zl Fi.ah),by rw [← Mw];exact m8.ah.M.L.size⟩;have HQE:Sl (ev.ownBlock≠some q3):=⟨fun e=>by
        have h1:=Zz.ah q3 e;omega⟩
       clear ach acg hgx hx An Bk lw;go_upto_region 16 with fail
       (try rw [acf]);(try rw [Mw]);clear acf Mw p0 p1 p2 y0 y1 x0 bA cE bi bk m8 q q2 AK;obtain ⟨z0,z1,z2⟩:=iq Fi.ah;rcases tw with ⟨h9,hg⟩ | ⟨h8,eJ,hR⟩ | ⟨h9,h8,hg⟩
       ·obtain rfl:op=9:=h9
        have Mo:(aF d).size≤125:=by rw [cZ];exact hp9 rfl
        have C8:=Sl.mk hg;have PG:=WG (K:=K) (inp:=ip) (fa:=aa) (fn:=i+1) (fc:=ac) mr.ah.D (aF d) Mo (P:=fun j=>P j∧ev.ownBlock≠some j) (fun j hj=>⟨HP.ah j (jd mr.ah.M.L.size hj),fun e2=>by
         have:=mr.ah.E.heap e2;have:=(zl this.2.choose_spec);omega⟩) mr.ah.pc
        rw [dm d bB] at PG;have aci:=Sl.mk mr.ah.M;clear hp9 Mo bB hg;go_wp2_with (refine uY rfl 36 (.tmp 2) rfl b1 rfl 36 _ (0,0) _ aci.ah.X underlying36 rfl (aX rfl) ?_)
        refine PG.mono ?_;rintro e w16 ⟨aq,ar,aD,aw,az,aE,rfl,Fo,ki,cN⟩;clear PG z0 z1 z2;have tQ:=Sl.mk (mr.ah.below ki.ah);have Km:=Sl.mk tQ.ah.M;have ik:=Sl.mk (tQ.ah.put Fo.ah cN.ah);clear mr aci Fi yk Fo ki cN;go_wp2_with (refine fG rfl 36 (.tmp 2) (.tmp 104) rfl b1 (zM K c (aj.lV c m d) ip aa (i+1) ac aq ar aD aw az aE) rfl rfl 36 (zM K c m ip aa (i+1) ac ya yn yc za zn zc) Km.ah.X (aX rfl) rfl (dV ..) ?_)
        exact ⟨⟨i+1,_,_,_,aa,i+1,ac,aq,ar,aD,aw,az,aE,rfl,by go_num,by omega,ik,C8,⟨Nat.le_succ_of_le Ml.ah⟩⟩,by simp [intOf];omega⟩
       ·obtain rfl:op=8:=h8
        obtain rfl:eC=((aj.bU c {m with dA:=true} (aG.bI ao) []).1,es++[(⟨8,ao,d⟩:Ev)]):=by rw [oR.ah,hR];rfl
        have Tr:Sl (DR c (aj.bU c {m with dA:=true} (aG.bI ao) []).1 (bytes ip) (A.take (i+1))):=⟨lj.ah _ (aj.xN (.inr (by rw [Fm.ah.2.2.1];exact eJ))) (fun e1 _=>by rw [(aj.jm c {m with dA:=true} _ _).dA] at e1;cases e1)⟩;have f21:=mr.ah.M.fF 21;have R0:=bP.aB mr.ah.M.X 21 _ rfl;have ik:=Sl.mk mr.ah.dA;have Ts:(w15.setCell ⟨b1,21,none⟩ (.bool true)).heap[q3]? = some (.cells #[.int .i64 8,.int .i64 ao,.string (aF d)] 52 (0,0)):=by
         rw [pI _ _ _ _ (show q3≠b1 from fun e=>by
          have h1:=Fi.ah;rw [e,mr.ah.M.X] at h1;injection h1 with h1
          injection h1 with _ h1 _
          exact absurd h1 (by decide))]
         exact Fi.ah
        obtain ⟨w17,wl⟩:=zX (w15.setCell ⟨b1,21,none⟩ (.bool true));rw [wl] at ik Ts;have MA:=Sl.mk Ts;have LT:es.length≤50000:=by have:=Ml.ah;have:=pH.ah;omega
        have CT:∀ V,Below w17.heap.size w17 V→Calls prog 46 #[.agg (zL K c (m.bu:Int) ip aa (i+1) ac (aF m.aK) (aF m.tail) ya yn yc za zn zc m.am true (m.ag:Int)),.int .i64 (aG.bI ao),.string {data:=#[]}] V fun ee w'=>∃ aq ar aD aw az aE,ee=.returned (.tuple #[.agg (zM K c ((aj.bU c {m with dA:=true} (aG.bI ao) []).1) ip aa (i+1) ac aq ar aD aw az aE),.bool (aj.bU c {m with dA:=true} (aG.bI ao) []).2])∧Sl (DF w' c (aj.bU c {m with dA:=true} (aG.bI ao) []).1 k aq ar aD aw az aE)∧Sl (Below V.heap.size V w')∧Sl (PB (fun j=>P j∧ev.ownBlock≠some j) aq ar∧PB (fun j=>P j∧ev.ownBlock≠some j) aw az):=fun V hV=>JB (K:=K) (l:={m with dA:=true}) (inp:=ip) (fa:=aa) (fn:=i+1) (fc:=ac) (ik.ah.D.below hV) (aG.bI ao) {data:=#[]} (by decide) (P:=fun j=>P j∧ev.ownBlock≠some j) (fun j hj=>⟨HP.ah j (jd (ik.ah.M.below hV).L.size hj),fun e2=>by
         have:=ik.ah.E.heap e2;have:=(zl this.2.choose_spec);have:=hV.size;omega⟩) ik.ah.pc
        clear hp9 bB eJ hR Fi Ts yk;go_upto_region 22 with fail
        (try rw [wl]);clear wl f21 R0 z0 z1 z2;refine zH (S:=fun V=>V.heap[b1]? = some (.cells (zL K c (m.bu:Int) ip aa (i+1) ac (aF m.aK) (aF m.tail) ya yn yc za zn zc m.am true (m.ag:Int)) 36 (0,0))∧V.heap[q3]? = some (.cells #[.int .i64 8,.int .i64 ao,.string (aF d)] 52 (0,0))) (D:=fun j=>j==8) (by kernel_rfl) (fun Rw aM=>?_);have Tw:=Sl.mk (ik.ah.below aM);have al:Rw.heap[b1]? = some (.cells (zL K c (m.bu:Int) ip aa (i+1) ac (aF m.aK) (aF m.tail) ya yn yc za zn zc m.am true (m.ag:Int)) 36 (0,0))∧Rw.heap[q3]? = some (.cells #[.int .i64 8,.int .i64 ao,.string (aF d)] 52 (0,0)):=⟨Tw.ah.M.X,ay MA.ah aM⟩;refine zP 1 (some 110) (.fieldAddr 52 (.tmp 13) 1) _ al ?_;simp only [zA,zB,zS];refine zU 0 (some 109) (.load 36 (.tmp 2)) (.agg (zL K c (m.bu:Int) ip aa (i+1) ac (aF m.aK) (aF m.tail) ya yn yc za zn zc m.am true (m.ag:Int))) al ?_ (hy:=fun o' ho W hS=>kP ho (by rfl) hS.1 rfl);simp only [zA,zB,zS];refine zU 2 (some 111) (.load 3 (.tmp 110)) (.int .i64 ao) al ?_ (hy:=fun o' ho W hS=>by have d1:=(iq hS.2).2.1;simp only [execOp,ho];go_simp;try rfl);simp only [zA,zB,zS];refine xZ (d:=some 112) (op:=.call {callee:=Callee.value (Operand.func 77),args:=#[Operand.tmp 111],argTypes:=#[3]}) (g:=none) 3 77 #[.int .i64 ao] rfl (by kernel_rfl) (by kernel_rfl) ?y3 ?_;case y3=>intro o' ho;simp only [execOp,ho];go_simp;try rfl
        refine (Gh.D9 ao Rw).mono ?_;rintro e w18 ⟨rfl,rfl⟩;refine ⟨_,rfl,al,?_⟩;simp only [zA,zB,zS];have CL:=CT Rw aM;refine xZ (d:=some 113) (op:=.call {callee:=Callee.value (Operand.func 46),args:=#[Operand.tmp 109,Operand.tmp 112,Operand.const (Value.string {data:=#[]})],argTypes:=#[36,3,9]}) (g:=none) 4 46 #[.agg (zL K c (m.bu:Int) ip aa (i+1) ac (aF m.aK) (aF m.tail) ya yn yc za zn zc m.am true (m.ag:Int)),.int .i64 (aG.bI ao),.string {data:=#[]}] rfl (by kernel_rfl) (by kernel_rfl) ?y4 ?_;case y4=>intro o' ho;simp only [execOp,ho];go_simp;try rfl
        refine (CL).mono ?_;rintro e w19 ⟨aq,ar,aD,aw,az,aE,rfl,Fo,ki,cN⟩;have Tx:=Sl.mk (Tw.ah.below ki.ah);have cT:w19.heap[b1]? = some (.cells (zL K c (m.bu:Int) ip aa (i+1) ac (aF m.aK) (aF m.tail) ya yn yc za zn zc m.am true (m.ag:Int)) 36 (0,0))∧w19.heap[q3]? = some (.cells #[.int .i64 8,.int .i64 ao,.string (aF d)] 52 (0,0)):=⟨Tx.ah.M.X,ay al.2 ki.ah⟩;refine ⟨_,rfl,cT,?_⟩;simp only [zA,zB,zS];refine zP 5 (some 108) (.move (.tmp 113)) (.tuple #[.agg (zM K c ((aj.bU c {m with dA:=true} (aG.bI ao) []).1) ip aa (i+1) ac aq ar aD aw az aE),.bool (aj.bU c {m with dA:=true} (aG.bI ao) []).2]) cT ?_;simp only [zA,zB,zS];refine zP 6 (some 114) (.extract (.tmp 108) 0) (.agg (zM K c ((aj.bU c {m with dA:=true} (aG.bI ao) []).1) ip aa (i+1) ac aq ar aD aw az aE)) cT ?_;simp only [zA,zB,zS];refine zP 7 (some 115) (.extract (.tmp 108) 1) (.bool (aj.bU c {m with dA:=true} (aG.bI ao) []).2) cT ?_;simp only [zA,zB,zS];have acj:=Sl.mk (Tx.ah.put Fo.ah cN.ah);have Ty:(w19.setRow b1 (zM K c ((aj.bU c {m with dA:=true} (aG.bI ao) []).1) ip aa (i+1) ac aq ar aD aw az aE)).heap[q3]? = some (.cells #[.int .i64 8,.int .i64 ao,.string (aF d)] 52 (0,0)):=by
         rw [qC _ _ _ _ (show q3≠b1 from fun e=>by
          have h1:=cT.2;rw [e,cT.1] at h1;injection h1 with h1
          injection h1 with _ h1 _
          exact absurd h1 (by decide))]
         exact cT.2
        obtain ⟨w20,TH⟩:=zX (w19.setRow b1 (zM K c ((aj.bU c {m with dA:=true} (aG.bI ao) []).1) ip aa (i+1) ac aq ar aD aw az aE));rw [TH] at acj Ty;refine kU (d:=none) (op:=.store 36 (Operand.tmp 2) (Operand.tmp 114)) (g:=none) (t:=0) 8 w20 rfl (by kernel_rfl) (by kernel_rfl) ?y8 (by kernel_rfl) ?_;case y8=>intro o' ho ht;rw [← TH];exact kK ho (by rfl) (by rfl) cT.1 rfl rfl (dV ..)
        simp only [Act.put];refine zF (by kernel_rfl) ?_;(try go_frame);have ack:=Sl.mk Ty;clear TH Ty al cT Tx Tw ik aM MA ki Fo cN CT;go_upto_region 23 with fail
        refine zG (S:=fun V=>V.heap[b1]? = some (.cells (zM K c ((aj.bU c {m with dA:=true} (aG.bI ao) []).1) ip aa (i+1) ac aq ar aD aw az aE) 36 (0,0))∧V.heap[q3]? = some (.cells #[.int .i64 8,.int .i64 ao,.string (aF d)] 52 (0,0))) (by kernel_rfl) (fun Rw aM=>?_);have acm:=Sl.mk (acj.ah.below aM);have al:Rw.heap[b1]? = some (.cells (zM K c ((aj.bU c {m with dA:=true} (aG.bI ao) []).1) ip aa (i+1) ac aq ar aD aw az aE) 36 (0,0))∧Rw.heap[q3]? = some (.cells #[.int .i64 8,.int .i64 ao,.string (aF d)] 52 (0,0)):=⟨acm.ah.M.X,ay ack.ah aM⟩;refine zT 0 (some 116) (.load 36 (.tmp 2)) (.agg (zM K c ((aj.bU c {m with dA:=true} (aG.bI ao) []).1) ip aa (i+1) ac aq ar aD aw az aE)) al ?_ (hy:=fun o' ho W hS=>kP ho (by rfl) hS.1 rfl);simp only [zA,zB,zS];refine zT 1 (some 117) (.move (.tmp 6)) _ al ?_;simp only [zA,zB,zS];refine zT 2 (some 118) (.load 52 (.tmp 13)) (.agg #[.int .i64 8,.int .i64 ao,.string (aF d)]) al ?_ (hy:=fun o' ho W hS=>WM ho (by rfl) hS.2 rfl);simp only [zA,zB,zS];obtain ⟨X,hX,BX,XX⟩:=zY Rw #[.int .i64 8,.int .i64 ao,.string (aF d)] 52;have Kn:=Sl.mk (acm.ah.below BX);have cC:X.heap[b1]? = some (.cells (zM K c ((aj.bU c {m with dA:=true} (aG.bI ao) []).1) ip aa (i+1) ac aq ar aD aw az aE) 36 (0,0))∧X.heap[q3]? = some (.cells #[.int .i64 8,.int .i64 ao,.string (aF d)] 52 (0,0)):=⟨Kn.ah.M.X,ay al.2 BX⟩;obtain ⟨v1,w22,fX,ju,gA,Kp⟩:=AY Kn.ah.E (AZ (e:=(⟨8,ao,d⟩:Ev)) XX rfl) (by simp;omega) Kn.ah.M.L.size;have pp:=Sl.mk (Kn.ah.Td ju gA Kp);have da:w22.heap[b1]? = some (.cells (zM K c ((aj.bU c {m with dA:=true} (aG.bI ao) []).1) ip aa (i+1) ac aq ar aD aw az aE) 36 (0,0))∧w22.heap[q3]? = some (.cells #[.int .i64 8,.int .i64 ao,.string (aF d)] 52 (0,0)):=⟨pp.ah.M.X,by
         rw [(bM.grown (S:=fun j=>ev.ownBlock=some j) gA (fun j e=>e)).block q3 (zl cC.2) (fun e=>by
          exact HQE.ah e)]
         exact cC.2⟩
        refine zR 3 (some 119) (.buildSlice 47 1 #[(0,.tmp 118)]) 47 (.slice (some ⟨Rw.heap.size,0,none⟩) 1 1) X cC ?_ (hy:=fun o' ho _=>by simp only [execOp,ho];go_simp;first | done | (rw [hX];done) | rfl);simp only [zA,zB,zS];refine zR 4 (some 120) (.call {callee:=.builtin .append,args:=#[.tmp 117,.tmp 119],argTypes:=#[47,47]}) 47 v1 w22 da ?_ (hy:=fun o' ho ht=>jS.wR ho ht (by rfl) (by rfl) fX);simp only [zA,zB,zS];obtain ⟨w23,Kx⟩:=zX (w22.setRow b2 (zM K c ((aj.bU c {m with dA:=true} (aG.bI ao) []).1) ip aa (i+1) ac aq ar aD aw az aE));have gr:w23.heap[b1]? = some (.cells (zM K c ((aj.bU c {m with dA:=true} (aG.bI ao) []).1) ip aa (i+1) ac aq ar aD aw az aE) 36 (0,0))∧w23.heap[q3]? = some (.cells #[.int .i64 8,.int .i64 ao,.string (aF d)] 52 (0,0)):=by
         rw [← Kx];exact ⟨(pp.ah.M.ah (zM K c ((aj.bU c {m with dA:=true} (aG.bI ao) []).1) ip aa (i+1) ac aq ar aD aw az aE)).X,by
          rw [qC _ _ _ _ (show q3≠b2 from fun e=>by
           have h1:=da.2;rw [e,pp.ah.M.R] at h1;injection h1 with h1
           injection h1 with _ h1 _
           exact absurd h1 (by decide))]
          exact da.2⟩
        refine zW 5 none (.store 36 (.tmp 4) (.tmp 116)) 0 w23 gr ?_ (hy:=fun o' ho ht=>by rw [← Kx];exact kK ho (by rfl) (by rfl) pp.ah.M.R rfl rfl (dV ..));simp only [Act.put];refine zT 6 (some 5) (.assign (.tmp 120)) _ gr ?_;simp only [zA,zB,zS];refine zE (by kernel_rfl) ?_;(try go_frame);have et:=pp.ah.M.ah (zM K c ((aj.bU c {m with dA:=true} (aG.bI ao) []).1) ip aa (i+1) ac aq ar aD aw az aE);rw [Kx] at et;have HOO:=pp.ah.ah pp.ah.D ⟨pp.ah.pc.1.imp fun _ e=>e.1,pp.ah.pc.2.imp fun _ e=>e.1⟩ Tr.ah ⟨i+1,by rw [gE.ah]⟩ pp.ah.E (cs:=(zM K c ((aj.bU c {m with dA:=true} (aG.bI ao) []).1) ip aa (i+1) ac aq ar aD aw az aE));rw [Kx] at HOO;go_wp2_with fail
        (try simp only [Exit.inBlock,Exit.then]);refine gX (iE rfl _ _ b2 _ rfl et.R rfl) rfl ?_;exact ⟨ip,aa,i+1,ac,aq,ar,aD,aw,az,aE,A.take (i+1),_,rfl,⟨HOO⟩,lc⟩
       ·have q9:(op==9)=false:=by simpa using h9
        have q8:(op==8)=false:=by simpa using h8
        have C8:=Sl.mk hg;obtain ⟨X,hX,BX,XX⟩:=zY w15 #[.int .i64 op,.int .i64 ao,.string (aF d)] 52;have Kn:=Sl.mk (mr.ah.below BX);have LT:es.length≤50000:=by have:=Ml.ah;have:=pH.ah;omega
        obtain ⟨v1,w16,fX,ju,gA,Kp⟩:=AY Kn.ah.E (AZ (e:=(⟨op,ao,d⟩:Ev)) XX rfl) (by simp;omega) Kn.ah.M.L.size;have tQ:=Sl.mk (Kn.ah.Td ju gA Kp);obtain ⟨av,nv,cw,rfl⟩:∃ a n c,v1=.slice a n c:=by obtain ⟨a,c,h⟩:=ju.slice;exact ⟨a,_,c,h⟩
        have ZG:Sl ((es++[(⟨op,ao,d⟩:Ev)]).length≤i+1):=⟨by have:=Ml.ah;simp;omega⟩;clear h9 h8 hg hp9 bB Kn BX XX LT ju gA Kp mr;go_wp2_with (at_builtin;refine fK rfl (.tmp 95) (.tmp 97) 47 47 rfl rfl _ _ (.slice av nv cw) w16 rfl rfl (by first | exact fX | (rw [hX];exact fX)) ?_)
        exact ⟨⟨i+1,_,_,_,aa,i+1,ac,ya,yn,yc,za,zn,zc,rfl,by go_num,by omega,tQ,C8,ZG⟩,by simp [intOf];omega⟩
   ·obtain rfl:i=na:=by omega
    have bz:((i:Int)<(i:Int))=False:=dR (by omega);have hR:=(show uJ c A A.length m es R from by rw [nm.ah.2.2.1];exact HGN.ah).gy;have Mi:Sl (A.take i=A):=⟨nC (by rw [nm.ah.2.2.1];exact aY _)⟩;by_cases he:e=0
    ·have q:((e:Int) != 0)=false:=by rw [he];rfl
     obtain rfl:eC=(m,es):=by rw [oR.ah,hR];simp [he]
     have Tr:Sl (DR c m (bytes ip) (A.take i)):=⟨lj.ah _ (by rw [Mi.ah]) (fun _ _=>Mi.ah)⟩;have tP:=Sl.mk HW.ah.M;have HWE:=HW;clear he hR;go_wp2_with (first
      | (refine uY rfl 36 (.tmp 2) rfl b1 rfl 36 _ (0,0) _ tP.ah.X underlying36 rfl (aX rfl) ?_)
      | (refine fG rfl 36 (.tmp 4) (.tmp 126) rfl b2 (zM K c m ip xa xn xc ya yn yc za zn zc) rfl rfl 36 zD tP.ah.R (aX rfl) rfl (dV ..) ?_))
     have et:=tP.ah.ah (zM K c m ip xa xn xc ya yn yc za zn zc);(try simp only [Exit.inBlock,Exit.then]);refine gX (iE rfl _ _ b2 _ rfl et.R rfl) rfl ?_;exact ⟨ip,xa,xn,xc,ya,yn,yc,za,zn,zc,A.take i,_,rfl,⟨HW.ah.ah HW.ah.D ⟨HW.ah.pc.1.imp fun _ e=>e.1,HW.ah.pc.2.imp fun _ e=>e.1⟩ Tr.ah ⟨i,by rw [gE.ah]⟩ HW.ah.E⟩,lc⟩
    ·have q:((e:Int) != 0)=true:=by simp;omega
     obtain rfl:eC=(fail c m e,es):=by rw [oR.ah,hR];simp [he]
     have Tr:Sl (DR c (fail c m e) (bytes ip) (A.take i)):=⟨lj.ah _ (by rw [Mi.ah]) (fun _ _=>Mi.ah)⟩;have FA:=NG (K:=K) (inp:=ip) (fa:=xa) (fn:=xn) (fc:=xc) HW.ah.D e (P:=fun j=>P j∧ev.ownBlock≠some j) (fun j hj=>⟨HP.ah j (jd HW.ah.M.L.size hj),fun e2=>by
      have:=HW.ah.E.heap e2;have:=(zl this.2.choose_spec);omega⟩) HW.ah.pc
     have tP:=Sl.mk HW.ah.M;clear he hR;go_wp2_with (refine uY rfl 36 (.tmp 2) rfl b1 rfl 36 _ (0,0) _ tP.ah.X underlying36 rfl (aX rfl) ?_)
     refine FA.mono ?_;rintro e' w16 ⟨aq,ar,aD,aw,az,aE,rfl,Fo,ki,cN⟩;clear FA;have tQ:=Sl.mk (HW.ah.below ki.ah);have Km:=Sl.mk tQ.ah.M;have ik:=Sl.mk (tQ.ah.put Fo.ah cN.ah);clear HW tP Fo ki cN;go_upto_region 26 with (refine fG rfl 36 (.tmp 2) (.tmp 125) rfl b1 (zM K c (fail c m e) ip xa xn xc aq ar aD aw az aE) rfl rfl 36 (zM K c m ip xa xn xc ya yn yc za zn zc) Km.ah.X (aX rfl) rfl (dV ..) ?_)
     obtain ⟨w17,wl⟩:=zX (w16.setRow b1 (zM K c (fail c m e) ip xa xn xc aq ar aD aw az aE));rw [wl] at ik;(try rw [wl]);have T0:=Sl.mk ik.ah.M;clear wl Km tQ;go_wp2_with (first
      | (refine uY rfl 36 (.tmp 2) rfl b1 rfl 36 _ (0,0) _ T0.ah.X underlying36 rfl (aX rfl) ?_)
      | (refine fG rfl 36 (.tmp 4) (.tmp 126) rfl b2 (zM K c (fail c m e) ip xa xn xc aq ar aD aw az aE) rfl rfl 36 zD T0.ah.R (aX rfl) rfl (dV ..) ?_))
     have et:=T0.ah.ah (zM K c (fail c m e) ip xa xn xc aq ar aD aw az aE);(try simp only [Exit.inBlock,Exit.then]);refine gX (iE rfl _ _ b2 _ rfl et.R rfl) rfl ?_;exact ⟨ip,xa,xn,xc,aq,ar,aD,aw,az,aE,A.take i,_,rfl,⟨ik.ah.ah ik.ah.D ⟨ik.ah.pc.1.imp fun _ e=>e.1,ik.ah.pc.2.imp fun _ e=>e.1⟩ Tr.ah ⟨i,by rw [gE.ah]⟩ ik.ah.E⟩,lc⟩
end
end Go.Proofs.YtlahonjmfecikaaGreatDoor.jo
